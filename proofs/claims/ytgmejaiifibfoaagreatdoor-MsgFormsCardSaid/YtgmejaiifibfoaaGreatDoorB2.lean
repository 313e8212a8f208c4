/-
  Texts of one layer in one: OpenB, TxsB, CheckB, ProB, ChkB.
-/
import Derived.Test.YtgmejaiifibfoaaGreatDoorB1
import Derived.Test.YtgmejaiifibfoaaGreatDoorT2
import Derived.Test.YtgmejaiifibfoaaGreatDoorLays

/-
  Which certificates may stand where, and which timeouts may be: by the code and by the document.
-/
set_option linter.unusedSimpArgs false
set_option linter.unusedVariables false
set_option maxRecDepth 10000
namespace Go.Proofs.YtgmejaiifibfoaaGreatDoor
open Go.RowKit Go.Maps Go.Lib
open L3 (Blk Reads)
open L11 (Crt zeroC crtL crtC mayV bytesV Stm stmC okW okW_mk okW_not crtInfo crtC_ones endV)

/-! Callees of layer 11 -/
theorem c_check_ok (c : Crt) (w : World) (h : c.wf) (hm : mayV c = true) : Calls Tryz.prog 44 #[.agg (crtC c)] w (gives (.int .i64 0) w) := by
  have := L11.check_any c w h; rw [hm] at this; exact this
theorem c_check_no (c : Crt) (w : World) (h : c.wf) (hm : mayV c = false) : Calls Tryz.prog 44 #[.agg (crtC c)] w (gives (.int .i64 110) w) := by
  have := L11.check_any c w h; rw [hm] at this; exact this
theorem c_end (c : Crt) (b : Bool) (w : World) (hb : endV c = b) : Calls Tryz.prog 74 #[.agg (crtC c)] w (gives (.bool b) w) := by
  have := L11.endorsed_any c w; rw [hb] at this; exact this
theorem c_refcert (c : Crt) (b : Bool) (w : World) (h : c.wf) (hb : mayV c = b) : Calls Tryz.prog 23 #[.agg (crtC c)] w (gives (.bool b) w) := by
  have := L11.refcheck_any c w h; rw [hb] at this; exact this

/-! Numbers -/
theorem within_any (n lo hi : Int) (w : World) : Calls Tryz.prog 77 #[.int .i64 n, .int .i64 lo, .int .i64 hi] w fun e w' => e = .returned (.bool (okW n lo hi)) ∧ w = w' := by
  by_cases h0 : lo ≤ n
  · by_cases h1 : n ≤ hi
    · have hk := okW_mk h0 h1
      go_enter Tryz.func77, Tryz.ntmps77
      go_wp2
      go_ret
      exact ⟨congrArg (fun b => Ending.returned (.bool b)) hk.symm, rfl⟩
    · have hk := okW_not (n := n) (lo := lo) (hi := hi) (by omega)
      go_enter Tryz.func77, Tryz.ntmps77
      go_wp2
      go_ret
      exact ⟨rfl, rfl⟩
  · have hk := okW_not (n := n) (lo := lo) (hi := hi) (by omega)
    go_enter Tryz.func77, Tryz.ntmps77
    go_wp2
    go_ret
    exact ⟨rfl, rfl⟩
theorem within_is (n lo hi : Int) (b : Bool) (w : World) (h : okW n lo hi = b) : Calls Tryz.prog 77 #[.int .i64 n, .int .i64 lo, .int .i64 hi] w fun e w' => e = .returned (.bool b) ∧ w = w' := by
  have := within_any n lo hi w; rw [h] at this; exact this
theorem aview_is (n : Int) (b : Bool) (w : World) (h : okW n 1 1048576 = b) : Calls Tryz.prog 75 #[.int .i64 n] w fun e w' => e = .returned (.bool b) ∧ w = w' := by
  go_enter Tryz.func75, Tryz.ntmps75
  go_wp2_with (go_at_call 77; refine (within_is _ _ _ _ _ h).mono ?_; rintro e w1 ⟨rfl, rfl⟩)
  go_ret
  exact ⟨rfl, rfl⟩
theorem arep_is (n : Int) (b : Bool) (w : World) (h : okW n 0 9 = b) : Calls Tryz.prog 76 #[.int .i64 n] w fun e w' => e = .returned (.bool b) ∧ w = w' := by
  go_enter Tryz.func76, Tryz.ntmps76
  go_wp2_with (go_at_call 77; refine (within_is _ _ _ _ _ h).mono ?_; rintro e w1 ⟨rfl, rfl⟩)
  go_ret
  exact ⟨rfl, rfl⟩

theorem end_two {c : Crt} (hk : c.kind = 2) : endV c = !decide (c.co = 0) := by unfold L11.endV; rw [decide_eq_true hk]; rfl
set_option maxHeartbeats 1000000 in
set_option maxRecDepth 100000 in
theorem known_any (c : Crt) (v : Int) (w : World) (h : c.wf) : Calls Tryz.prog 82 #[.agg (crtC c), .int .i64 v] w (gives (.bool (openV c v)) w) := by
  have hb0 : Below w.heap.size w (w.alloc (.cells (crtC c) 24)) := L11.below_box _ c
  have k0 := L11.box_new w 24 c
  have B0 := Lib.hid (fun w1 => @L11.box_at w w1 24 c)
  rcases (Bool.eq_false_or_eq_true (mayV c)).symm with a | a
  · have hm := fun W => c_check_no c W h a
    have e : openV c v = false := by unfold openV; rw [a]; rfl
    rw [e]
    clear e a h
    go_enter Tryz.func82, Tryz.ntmps82
    go_wp2_with (first
      | (refine wpList_row_at rfl _ _ rfl w.heap.size rfl _ _ _ _ k0 Tryz.underlying24 rfl crtInfo ?_)
      | (go_at_call 44; refine (hm _).mono ?_; unfold gives; rintro e w1 ⟨rfl, hb1⟩))
    go_ret
    exact ⟨rfl, nxt hb0 hb1⟩
  have hm := fun W => c_check_ok c W h a
  have K0 := Lib.hid (fun w1 (hb : Below (w.alloc (.cells (crtC c) 24)).heap.size (w.alloc (.cells (crtC c) 24)) w1) => k0.below hb (by simp))
  by_cases hk : c.kind = 2
  · have hk' : (c.kind == 2) = true := by simpa using hk
    have he := fun W => c_end c _ W (end_two hk)
    have e : openV c v = (!decide (c.co = 0) && decide (c.view < v)) := by unfold openV; rw [a, if_pos hk]; rfl
    rw [e]
    clear e a h hk
    obtain ⟨co, hco⟩ : ∃ b, b = !decide (c.co = 0) := ⟨_, rfl⟩
    rw [← hco] at he ⊢
    have HE := Lib.hid he
    clear he hco
    by_cases hv : c.view < v
    all_goals
      cases co
      all_goals
        go_enter Tryz.func82, Tryz.ntmps82
        go_upto_region 3 with (first
          | (refine wpList_row_at rfl _ _ rfl w.heap.size rfl _ _ _ _ k0 Tryz.underlying24 rfl crtInfo ?_)
          | (go_at_call 44; refine (hm _).mono ?_; unfold gives; rintro e w1 ⟨rfl, hb1⟩; obtain ⟨d0, d1, d2, d3, d4, d5, d6, d7⟩ := B0.out _ hb1; have k1 := K0.out _ hb1))
        go_wp2_with (first
          | (refine wpList_row_at rfl _ _ rfl w.heap.size rfl _ _ _ _ k1 Tryz.underlying24 rfl crtInfo ?_)
          | (go_at_call 74; refine (HE.out _).mono ?_; unfold gives; rintro e w2 ⟨rfl, hb2⟩; obtain ⟨f0, f1, f2, f3, f4, f5, f6, f7⟩ := B0.out _ (nxt hb1 hb2)))
        go_ret
        refine ⟨?_, nxt hb0 (nxt hb1 hb2)⟩
        first | rfl | simp [hv]
  · have hk' : (c.kind == 2) = false := by simpa using hk
    have e : openV c v = decide (c.view ≤ v) := by unfold openV; rw [a, if_neg hk]; rfl
    rw [e]
    clear e a h hk
    by_cases hv : c.view ≤ v
    all_goals
      go_enter Tryz.func82, Tryz.ntmps82
      go_wp2_with (first
        | (refine wpList_row_at rfl _ _ rfl w.heap.size rfl _ _ _ _ k0 Tryz.underlying24 rfl crtInfo ?_)
        | (go_at_call 44; refine (hm _).mono ?_; unfold gives; rintro e w1 ⟨rfl, hb1⟩; obtain ⟨d0, d1, d2, d3, d4, d5, d6, d7⟩ := B0.out _ hb1))
      go_ret
      refine ⟨?_, nxt hb0 hb1⟩
      first | rfl | simp [hv]
theorem known_is (c : Crt) (v : Int) (b : Bool) (w : World) (h : c.wf) (hb : openV c v = b) : Calls Tryz.prog 82 #[.agg (crtC c), .int .i64 v] w (gives (.bool b) w) := by
  have := known_any c v w h; rw [hb] at this; exact this
set_option maxHeartbeats 1000000 in
set_option maxRecDepth 100000 in
theorem refopen_any (c : Crt) (v : Int) (w : World) (h : c.wf) : Calls Tryz.prog 58 #[.agg (crtC c), .int .i64 v] w (gives (.bool (openV c v)) w) := by
  have hb0 : Below w.heap.size w (w.alloc (.cells (crtC c) 24)) := L11.below_box _ c
  have k0 := L11.box_new w 24 c
  have B0 := Lib.hid (fun w1 => @L11.box_at w w1 24 c)
  rcases (Bool.eq_false_or_eq_true (mayV c)).symm with a | a
  · have hm := fun W => c_refcert c _ W h a
    have e : openV c v = false := by unfold openV; rw [a]; rfl
    rw [e]
    clear e a h
    go_enter Tryz.func58, Tryz.ntmps58
    go_wp2_with (first
      | (refine wpList_row_at rfl _ _ rfl w.heap.size rfl _ _ _ _ k0 Tryz.underlying24 rfl crtInfo ?_)
      | (go_at_call 23; refine (hm _).mono ?_; unfold gives; rintro e w1 ⟨rfl, hb1⟩))
    go_ret
    exact ⟨rfl, nxt hb0 hb1⟩
  have hm := fun W => c_refcert c _ W h a
  by_cases hk : c.kind = 2
  · have hk' : (c.kind == 2) = true := by simpa using hk
    have e : openV c v = (!decide (c.co = 0) && decide (c.view < v)) := by unfold openV; rw [a, if_pos hk]; rfl
    rw [e]
    clear e a h hk
    rcases Bool.eq_false_or_eq_true (!decide (c.co = 0)) with b | b
    case' inl => obtain ⟨f1, f2⟩ := L11.nat_no0 b
    case' inr => obtain ⟨f1, f2⟩ := L11.nat_is0 b
    all_goals
      rw [b]
      clear b
      by_cases hv : c.view < v
      all_goals
        go_enter Tryz.func58, Tryz.ntmps58
        go_wp2_with (first
          | (refine wpList_row_at rfl _ _ rfl w.heap.size rfl _ _ _ _ k0 Tryz.underlying24 rfl crtInfo ?_)
          | (go_at_call 23; refine (hm _).mono ?_; unfold gives; rintro e w1 ⟨rfl, hb1⟩; obtain ⟨d0, d1, d2, d3, d4, d5, d6, d7⟩ := B0.out _ hb1))
        go_ret
        refine ⟨?_, nxt hb0 hb1⟩
        first | rfl | simp [hv]
  · have hk' : (c.kind == 2) = false := by simpa using hk
    have e : openV c v = decide (c.view ≤ v) := by unfold openV; rw [a, if_neg hk]; rfl
    rw [e]
    clear e a h hk
    by_cases hv : c.view ≤ v
    all_goals
      go_enter Tryz.func58, Tryz.ntmps58
      go_wp2_with (first
        | (refine wpList_row_at rfl _ _ rfl w.heap.size rfl _ _ _ _ k0 Tryz.underlying24 rfl crtInfo ?_)
        | (go_at_call 23; refine (hm _).mono ?_; unfold gives; rintro e w1 ⟨rfl, hb1⟩; obtain ⟨d0, d1, d2, d3, d4, d5, d6, d7⟩ := B0.out _ hb1))
      go_ret
      refine ⟨?_, nxt hb0 hb1⟩
      first | rfl | simp [hv]
theorem refopen_is (c : Crt) (v : Int) (b : Bool) (w : World) (h : c.wf) (hb : openV c v = b) : Calls Tryz.prog 58 #[.agg (crtC c), .int .i64 v] w (gives (.bool b) w) := by
  have := refopen_any c v w h; rw [hb] at this; exact this
theorem three (a b c : Bool) : a = false ∨ (a = true ∧ b = false) ∨ (a = true ∧ b = true ∧ c = false) ∨ (a = true ∧ b = true ∧ c = true) := by
  cases a <;> cases b <;> cases c <;> simp
theorem tmo_box {w : World} {ty : TypeId} {t : Tmo} : (w.alloc (.cells (tmC t) ty)).cell? ⟨w.heap.size, 0, none⟩ = some (.int .i64 t.signer) ∧ (w.alloc (.cells (tmC t) ty)).cell? ⟨w.heap.size, 1, none⟩ = some (.int .i64 t.view) ∧ (∀ j u, (crtL t.high)[j]? = some u → (w.alloc (.cells (tmC t) ty)).cell? ((⟨w.heap.size, 2, none⟩ : Addr).add j) = some u) :=
  ⟨(tmo_new w ty t).cell 0, (tmo_new w ty t).cell 1, sub_cells (tmo_new w ty t) (high_at t)⟩
set_option maxHeartbeats 1000000 in
set_option maxRecDepth 100000 in
theorem timeout_any (t : Tmo) (w : World) (h : t.wf) : Calls Tryz.prog 45 #[.agg (tmC t)] w (gives (.int .i64 (errI (tmoV t) 121)) w) := by
  have hb0 : Below w.heap.size w (w.alloc (.cells (tmC t) 26)) := below_new _ _
  obtain ⟨c0, c1, c2⟩ := tmo_box (w := w) (ty := 26) (t := t)
  have e : tmoV t = (okW t.signer 0 9 && okW t.view 1 1048576 && openV t.high t.view) := rfl
  rcases three (okW t.signer 0 9) (okW t.view 1 1048576) (openV t.high t.view) with a | ⟨a, b⟩ | ⟨a, b, d⟩ | ⟨a, b, d⟩
  · have E : Hid (tmoV t = false) := Lib.hid (by rw [e, a]; rfl)
    clear e h
    go_enter Tryz.func45, Tryz.ntmps45
    go_wp2_with (go_at_call 76; refine (arep_is _ _ _ a).mono ?_; rintro e w1 ⟨rfl, rfl⟩)
    go_ret
    exact ⟨by rw [E.out]; rfl, hb0⟩
  · have E : Hid (tmoV t = false) := Lib.hid (by rw [e, a, b]; rfl)
    clear e h
    go_enter Tryz.func45, Tryz.ntmps45
    go_wp2_with (first
      | (go_at_call 76; refine (arep_is _ _ _ a).mono ?_; rintro e w1 ⟨rfl, rfl⟩)
      | (go_at_call 75; refine (aview_is _ _ _ b).mono ?_; rintro e w1 ⟨rfl, rfl⟩))
    go_ret
    exact ⟨by rw [E.out]; rfl, hb0⟩
  all_goals
    have e2 : tmoV t = openV t.high t.view := by rw [e, a, b]; rfl
    have E := Lib.hid (e2.trans d)
    clear e2
    have hk := fun W => known_is t.high t.view _ W h.2.2 d
    clear e h
    go_enter Tryz.func45, Tryz.ntmps45
    go_wp2_with (first
      | (go_at_call 76; refine (arep_is _ _ _ a).mono ?_; rintro e w1 ⟨rfl, rfl⟩)
      | (go_at_call 75; refine (aview_is _ _ _ b).mono ?_; rintro e w1 ⟨rfl, rfl⟩)
      | (refine wpList_cells_at rfl _ _ rfl ⟨w.heap.size, 2, none⟩ rfl (crtL t.high) _ c2 Tryz.underlying24 rfl crtInfo ?_)
      | (go_at_call 82; refine (hk _).mono ?_; unfold gives; rintro e w2 ⟨rfl, hb2⟩))
    go_ret
    exact ⟨by rw [E.out]; rfl, nxt hb0 hb2⟩
theorem timeout_is (t : Tmo) (b : Bool) (w : World) (h : t.wf) (hb : tmoV t = b) : Calls Tryz.prog 45 #[.agg (tmC t)] w (gives (.int .i64 (errI b 121)) w) := by
  have := timeout_any t w h; rw [hb] at this; exact this
end Go.Proofs.YtgmejaiifibfoaaGreatDoor

/-
  Are transactions as many as there may be, and all right: by the code (slices.ContainsFunc).
-/
set_option linter.unusedSimpArgs false
set_option linter.unusedVariables false
set_option maxRecDepth 10000
namespace Go.Proofs.YtgmejaiifibfoaaGreatDoor
open Go.RowKit Go.Lib
open L3 (Blk Reads block_of_add add_of_add)

/-! Transactions of at most a million bytes a text -/
abbrev Fit : Type := {t : Txx // t.wf 1000000}
instance : Inhabited Fit := ⟨⟨zeroX, zeroX_wf 1000000⟩⟩
def fitL (x : Fit) : List Value := txL x.1
def fitX : (L : List Txx) → (∀ t ∈ L, t.wf 1000000) → List Fit
  | [], _ => []
  | t :: L, h => ⟨t, h t (List.mem_cons_self ..)⟩ :: fitX L fun x hx => h x (List.mem_cons_of_mem _ hx)
theorem fitX_map : ∀ (L : List Txx) (h : ∀ t ∈ L, t.wf 1000000), (fitX L h).map (·.1) = L
  | [], _ => rfl
  | t :: L, h => by unfold fitX; rw [List.map_cons, fitX_map L]
theorem fitX_len (L : List Txx) (h : ∀ t ∈ L, t.wf 1000000) : (fitX L h).length = L.length := by rw [← List.length_map (f := fun x : Fit => x.1), fitX_map]
theorem fitX_get (L : List Txx) (h : ∀ t ∈ L, t.wf 1000000) (j : Nat) (hj : j < L.length) : ((fitX L h)[j]!).1 = L[j] := by
  have hl : j < (fitX L h).length := by rw [fitX_len]; exact hj
  rw [getElem!_pos _ j hl]
  have := fitX_map L h
  have e : ((fitX L h).map (·.1))[j]'(by rw [List.length_map]; exact hl) = L[j] := by simp only [this]
  rw [← e, List.getElem_map]
theorem fitX_any (L : List Txx) (h : ∀ t ∈ L, t.wf 1000000) (p : Txx → Bool) : ((fitX L h).any fun x => p x.1) = L.any p := by
  have e : (fitX L h).any (p ∘ fun x : Fit => x.1) = L.any p := by rw [← List.any_map, fitX_map]
  exact e
theorem cell_spot {w : World} {a : Addr} {v : Value} (h : w.cell? a = some v) : a.spot = none := by
  obtain ⟨_, _, _, _, h3⟩ := World.shape?_of_cell? h
  exact h3
/-- A list with something in it lies at a plain place. -/
theorem Rd.plain {α : Type} {f : α → List Value} {k : Nat} (hf : ∀ x, ∃ u, (f x)[0]? = some u) {w : World} {A : Option Addr} {L : List α} (h : Rd f k w A L) (h0 : L ≠ []) : ∃ b o, A = some ⟨b, o, none⟩ ∧ b < w.heap.size := by
  have hl : 0 < L.length := List.length_pos_iff.2 h0
  obtain ⟨ad, hA, hb, hc⟩ := h 0 hl
  obtain ⟨u, hu⟩ := hf L[0]
  have h1 := hc 0 u hu
  rw [Nat.zero_mul, L3.add_of_add] at h1
  have hs := cell_spot h1
  obtain ⟨b, o, s⟩ := ad
  have h2 : (⟨b, o, s⟩ : Addr).add (0 + 0) = ⟨b, o, s⟩ := by simp [Addr.add]
  rw [h2] at hs
  cases hs
  exact ⟨b, o, hA, hb⟩
theorem txL_0 (x : Txx) : ∃ u, (txL x)[0]? = some u := ⟨_, rfl⟩
theorem tmL_0 (x : Tmo) : ∃ u, (tmL x)[0]? = some u := ⟨_, rfl⟩
/-- The cells of a list that is read, as the library's contracts ask them. -/
theorem Rd.lib {w : World} {b o : Nat} {L : List Txx} (h : ∀ t ∈ L, t.wf 1000000) (hr : Rd txL 7 w (some ⟨b, o, none⟩) L) : ∀ j, j < (fitX L h).length → ∀ i v, (fitL (fitX L h)[j]!)[i]? = some v → w.cell? ⟨b, o + j * 7 + i, none⟩ = some v := fun j hj i v hi => by
  rw [fitX_len] at hj
  obtain ⟨ad, hA, hb, hc⟩ := hr j hj
  injection hA with hA
  subst hA
  unfold fitL at hi
  rw [fitX_get L h j hj] at hi
  have := hc i v hi
  rw [Addr.add_lit, Addr.add_lit] at this
  exact this
abbrev encF (x : Fit) : Value := .agg (fitL x).toArray
theorem enters_right : ∀ args w, (callFunc 107 args).run Tryz.prog w = .ok (.enter 107 args) w := enters_of Tryz.func107 (by kernel_rfl) rfl
set_option maxHeartbeats 1000000 in
set_option maxRecDepth 100000 in
theorem wrong_any (t : Txx) (w : World) (h : t.wf 1000000) (hT : Tabs w) : Calls Tryz.prog 107 #[.agg (txC t)] w (gives (.bool (!right t)) w) := by
  have hb0 : Below w.heap.size w (w.alloc (.cells (txC t) 32)) := below_box _ t
  have k0 := box_new w 32 t
  have hm := check_any t (w.alloc (.cells (txC t) 32)) h (hT.kept hb0)
  rcases Bool.eq_false_or_eq_true (right t) with a | a
  all_goals
    rw [a] at hm ⊢
    have HM := Lib.hid hm
    clear hm a hT
    go_enter Tryz.func107, Tryz.ntmps107
    go_wp2_with (first
      | (refine wpList_row_at rfl _ _ rfl w.heap.size rfl _ _ _ _ k0 Tryz.underlying32 rfl (by kernel_rfl) ?_)
      | (go_at_call 47; refine HM.out.mono ?_; unfold gives errI; rintro e w1 ⟨rfl, hb1⟩))
    go_ret
    exact ⟨rfl, nxt hb0 hb1⟩
theorem pred_wrong (w : World) (hT : Tabs w) : PredBelow Tryz.prog 107 #[] encF (fun x => !right x.1) w := fun W x hb => by
  refine (wrong_any x.1 W x.2 (hT.kept hb)).mono ?_
  rintro e w' ⟨rfl, hb'⟩
  exact ⟨rfl, nxt hb hb'⟩
set_option maxHeartbeats 1000000 in
set_option maxRecDepth 100000 in
theorem indexf_none (A : Option Addr) (c : Nat) (f : Value) (w : World) : Calls Tryz.prog 124 #[.slice A 0 c, f] w (gives (.int .i64 (-1)) w) := by
  go_enter Tryz.func124, Tryz.ntmps124
  go_wp2
  go_loopw [8] (fun i wr => i = .int .i64 0 ∧ Below w.heap.size w wr) (fun _ _ => 0)
  case atStart => exact ⟨rfl, Below.refl _ _⟩
  case round =>
    obtain ⟨rfl, hbw⟩ := hrel
    go_wp2
    go_ret
    exact ⟨rfl, hbw⟩
set_option maxHeartbeats 1000000 in
set_option maxRecDepth 100000 in
theorem con_none (A : Option Addr) (c : Nat) (f : Value) (w : World) : Calls Tryz.prog 106 #[.slice A 0 c, f] w (gives (.bool false) w) := by
  have hi := fun W => indexf_none A c f W
  go_enter Tryz.func106, Tryz.ntmps106
  go_wp2_with (first
    | (go_at_call 124; (with_reducible refine (hi _).mono ?_); unfold gives; rintro e w1 ⟨rfl, hb1⟩)
    | go_in)
  go_ret
  exact ⟨rfl, hb1⟩
/-- Is one of these wrong? -/
theorem conL_any (A : Option Addr) (c : Nat) (L : List Txx) (w : World) (hl : ∀ t ∈ L, t.wf 1000000) (hT : Tabs w) (hr : Rd txL 7 w A L) (hn : L.length ≤ 1000000) :
    Calls Tryz.prog 106 #[.slice A L.length c, .func (.func 107) #[] #[]] w (gives (.bool (L.any fun x => !right x)) w) := by
  by_cases h0 : L = []
  · subst h0
    exact con_none A c _ w
  · obtain ⟨b, o, rfl, hb⟩ := hr.plain txL_0 h0
    have := AnyQ.slices_ContainsFunc Tryz.conL 7 Tryz.isAgg32 Tryz.sizeOf32 fitL (fun _ => rfl) (fun x => !right x.1) 107 #[] enters_right b o L.length c (fitX L hl) w (pred_wrong w hT) (by rw [fitX_len]; exact Nat.le_refl _) (by omega) hb (Rd.lib hl hr)
    refine Calls.mono (show Calls Tryz.prog 106 #[.slice (some ⟨b, o, none⟩) L.length c, .func (.func 107) #[] #[]] w _ from this) ?_
    rintro e w' ⟨rfl, hb'⟩
    refine ⟨?_, hb'⟩
    have e : (fitX L hl).take L.length = fitX L hl := List.take_of_length_le (by rw [fitX_len]; exact Nat.le_refl _)
    rw [e]
    have := fitX_any L hl (fun x => !right x)
    rw [← this]
theorem any_wrong (L : List Txx) : (!(L.any fun x => !right x)) = L.all right := by induction L with
  | nil => rfl
  | cons t L ih => rw [List.any_cons, List.all_cons, ← ih]; cases right t <;> simp
set_option maxHeartbeats 1000000 in
set_option maxRecDepth 100000 in
theorem right_any (A : Option Addr) (c : Nat) (L : List Txx) (w : World) (hl : ∀ t ∈ L, t.wf 1000000) (hT : Tabs w) (hr : Rd txL 7 w A L) (hn : L.length ≤ 1000000) :
    Calls Tryz.prog 78 #[.slice A L.length c] w (gives (.bool (rightL L)) w) := by
  have hc := conL_any A c L w hl hT hr hn
  have e : rightL L = (decide (L.length ≤ 8) && !(L.any fun x => !right x)) := by unfold rightL; rw [any_wrong]
  rw [e]
  obtain ⟨b, hb⟩ : ∃ b, b = L.any fun x => !right x := ⟨_, rfl⟩
  rw [← hb] at hc ⊢
  obtain ⟨n, hN⟩ : ∃ n, n = L.length := ⟨_, rfl⟩
  rw [← hN] at hc hn ⊢
  clear e hb hN hr hl hT
  by_cases h8 : n ≤ 8
  · have h8' : decide ((n : Int) ≤ 8) = true := by simp; omega
    have h9 : decide (n ≤ 8) = true := by simpa using h8
    cases b
    all_goals
      go_enter Tryz.func78, Tryz.ntmps78
      go_wp2_with (first
        | (go_at_call 106; refine hc.mono ?_; unfold gives; rintro e w1 ⟨rfl, hb1⟩))
      go_ret
      refine ⟨?_, hb1⟩
      first | rfl | simp [h8]
  · have h9 : decide (n ≤ 8) = false := by simpa using h8
    clear hc
    go_enter Tryz.func78, Tryz.ntmps78
    go_wp2
    go_ret
    refine ⟨?_, Below.refl _ _⟩
    first | rfl | simp [h8]
theorem right_is (A : Option Addr) (c : Nat) (L : List Txx) (b : Bool) (w : World) (hl : ∀ t ∈ L, t.wf 1000000) (hT : Tabs w) (hr : Rd txL 7 w A L) (hn : L.length ≤ 1000000) (hb : rightL L = b) :
    Calls Tryz.prog 78 #[.slice A L.length c] w (gives (.bool b) w) := by have := right_any A c L w hl hT hr hn; rw [hb] at this; exact this
end Go.Proofs.YtgmejaiifibfoaaGreatDoor

/-
  Which blocks may be, by the code: their parent, their proof, all of it.
-/
set_option linter.unusedSimpArgs false
set_option linter.unusedVariables false
set_option maxRecDepth 10000
namespace Go.Proofs.YtgmejaiifibfoaaGreatDoor
open Go.RowKit Go.Maps Go.Lib
open L3 (Blk Reads)
open L11 (Crt zeroC crtL crtC mayV okW crtInfo crtC_ones endV)

theorem deq {x y : Int} {b : Bool} (h : decide (x = y) = b) : (x == y) = b := by rw [← h]; rfl
theorem dne {x y : Int} {b : Bool} (h : decide (x = y) = b) : (x != y) = !b := by rw [← h]; rfl
/-- A block's box and its parent's. -/
structure FolAt (w : World) (b : Blo) (P T : Value) (W : World) : Prop where
  bb : Blk W w.heap.size 30 (bloC b P T)
  bp : Blk W (w.heap.size + 1) 24 (crtC b.par)
  bw : Below w.heap.size w W
theorem FolAt.below {w W W' : World} {b : Blo} {P T : Value} (h : FolAt w b P T W) (hb : Below W.heap.size W W') : FolAt w b P T W' := ⟨h.bb.below hb h.bb.lt, h.bp.below hb h.bp.lt, nxt h.bw hb⟩
theorem FolAt.cells {w W : World} {b : Blo} {P T : Value} (h : FolAt w b P T W) : W.cell? ⟨w.heap.size, 0, none⟩ = some (.int .i64 b.view) ∧ W.cell? ⟨w.heap.size, 2, none⟩ = some (.int .i64 b.height) ∧ W.cell? ⟨w.heap.size, 3, none⟩ = some (.int .i64 b.author) ∧
    W.cell? ⟨w.heap.size + 1, 0, none⟩ = some (.int .i64 b.par.kind) ∧ W.cell? ⟨w.heap.size + 1, 2, none⟩ = some (.int .i64 b.par.view) ∧ W.cell? ⟨w.heap.size + 1, 4, none⟩ = some (.int .i64 b.par.height) ∧ W.cell? ⟨w.heap.size + 1, 5, none⟩ = some (.int .i64 b.par.author) :=
  ⟨h.bb.cell 0, h.bb.cell 2, h.bb.cell 3, h.bp.cell 0, h.bp.cell 2, h.bp.cell 4, h.bp.cell 5⟩
theorem fol_mk (w : World) (b : Blo) (P T : Value) : FolAt w b P T ((w.alloc (.cells (bloC b P T) 30)).alloc (.cells (crtC b.par) 24)) := by
  have hb : Below w.heap.size w (w.alloc (.cells (bloC b P T) 30)) := below_new _ _
  refine ⟨(blo_new w _ b P T).alloc _, ?_, hb.alloc hb.size _⟩
  have := L11.box_new (w.alloc (.cells (bloC b P T) 30)) 24 b.par
  simpa using this
theorem par_cells (w : World) (b : Blo) (P T : Value) : ∀ j u, (crtL b.par)[j]? = some u → (w.alloc (.cells (bloC b P T) 30)).cell? ((⟨w.heap.size, 4, none⟩ : Addr).add j) = some u := sub_cells (blo_new w _ b P T) (par_at b P T)
theorem six (a b c d e f : Bool) : a = false ∨ (a = true ∧ b = false) ∨ (a = true ∧ b = true ∧ c = false) ∨ (a = true ∧ b = true ∧ c = true ∧ d = false) ∨ (a = true ∧ b = true ∧ c = true ∧ d = true ∧ e = false) ∨ (a = true ∧ b = true ∧ c = true ∧ d = true ∧ e = true ∧ f = false) ∨ (a = true ∧ b = true ∧ c = true ∧ d = true ∧ e = true ∧ f = true) := by
  cases a <;> cases b <;> cases c <;> cases d <;> cases e <;> cases f <;> simp
set_option maxHeartbeats 4000000 in
set_option maxRecDepth 100000 in
theorem follows_any (b : Blo) (P T : Value) (w : World) (h : b.par.wf) (hh : 0 ≤ b.height ∧ b.height ≤ 3) : Calls Tryz.prog 79 #[.agg (bloC b P T)] w (gives (.bool (followsV b)) w) := by
  have F0 := Lib.hid (fol_mk w b P T)
  have hp := par_cells w b P T
  by_cases h1 : b.height ≤ 1
  · have e : followsV b = openV b.par b.view := by unfold followsV; rw [if_pos h1]
    rw [e]
    have hk := fun W => known_any b.par b.view W h
    have HK := Lib.hid hk
    clear e hk h hh
    go_enter Tryz.func79, Tryz.ntmps79
    go_upto_region 2 with (first
      | (refine wpList_cells_at rfl _ _ rfl ⟨w.heap.size, 4, none⟩ rfl (crtL b.par) _ hp Tryz.underlying24 rfl crtInfo ?_)
      | (refine wpList_store_last rfl _ _ _ rfl _ (w.heap.size + 1) (by simp) (crtC b.par) rfl rfl _ _ crtInfo rfl (crtC_ones _) ?_))
    refine name_world (fun w1 hw1 => ?_)
    have hA : FolAt w b P T w1 := by rw [hw1]; exact F0.out
    clear hw1 F0 hp
    obtain ⟨c0, c1, c2, c3, c4, c5, c6⟩ := hA.cells
    go_wp2_with (first
      | (refine wpList_row_at rfl _ _ rfl (w.heap.size + 1) rfl _ _ _ _ hA.bp Tryz.underlying24 rfl crtInfo ?_)
      | (go_at_call 82; refine (HK.out _).mono ?_; unfold gives; rintro e w2 ⟨rfl, hb2⟩))
    go_ret
    exact ⟨rfl, nxt hA.bw hb2⟩
  · have e : followsV b = (mayV b.par && decide (b.par.kind = 2) && decide (b.par.co = 0) && decide (b.par.view = b.view) && decide (b.par.author = b.author) && decide (b.par.height = b.height - 1)) := by unfold followsV; rw [if_neg h1]
    have hw64 : wrap64 (b.height - 1) = b.height - 1 := by unfold wrap64; omega
    have hc0 := fun W hm => c_check_no b.par W h hm
    have hc1 := fun W hm => c_check_ok b.par W h hm
    have hce := fun W hk => c_end b.par _ W (end_two hk)
    have HC := Lib.hid (And.intro hc0 (And.intro hc1 hce))
    clear hc0 hc1 hce h hh
    rcases six (mayV b.par) (decide (b.par.kind = 2)) (decide (b.par.co = 0)) (decide (b.par.view = b.view)) (decide (b.par.author = b.author)) (decide (b.par.height = b.height - 1)) with a1 | ⟨a1, a2⟩ | ⟨a1, a2, a3⟩ | ⟨a1, a2, a3, a4⟩ | ⟨a1, a2, a3, a4, a5⟩ | ⟨a1, a2, a3, a4, a5, a6⟩ | ⟨a1, a2, a3, a4, a5, a6⟩
    · have E : Hid (followsV b = false) := Lib.hid (by rw [e, a1]; rfl)
      have HM := Lib.hid (fun W => HC.out.1 W a1)
      clear e HC a1
      go_enter Tryz.func79, Tryz.ntmps79
      go_upto_region 2 with (first
        | (refine wpList_cells_at rfl _ _ rfl ⟨w.heap.size, 4, none⟩ rfl (crtL b.par) _ hp Tryz.underlying24 rfl crtInfo ?_)
        | (refine wpList_store_last rfl _ _ _ rfl _ (w.heap.size + 1) (by simp) (crtC b.par) rfl rfl _ _ crtInfo rfl (crtC_ones _) ?_))
      refine name_world (fun w1 hw1 => ?_)
      have hA : FolAt w b P T w1 := by rw [hw1]; exact F0.out
      clear hw1 F0 hp
      obtain ⟨c0, c1, c2, c3, c4, c5, c6⟩ := hA.cells
      go_wp2_with (first
        | (refine wpList_row_at rfl _ _ rfl (w.heap.size + 1) rfl _ _ _ _ hA.bp Tryz.underlying24 rfl crtInfo ?_)
        | (go_at_call 44; refine (HM.out _).mono ?_; unfold gives; rintro e w2 ⟨rfl, hb2⟩))
      go_ret
      exact ⟨by rw [E.out]; rfl, nxt hA.bw hb2⟩
    · have E : Hid (followsV b = false) := Lib.hid (by rw [e, a1, a2]; rfl)
      have q2 := deq a2
      have HM := Lib.hid (fun W => HC.out.2.1 W a1)
      clear e HC a1 a2
      go_enter Tryz.func79, Tryz.ntmps79
      go_upto_region 2 with (first
        | (refine wpList_cells_at rfl _ _ rfl ⟨w.heap.size, 4, none⟩ rfl (crtL b.par) _ hp Tryz.underlying24 rfl crtInfo ?_)
        | (refine wpList_store_last rfl _ _ _ rfl _ (w.heap.size + 1) (by simp) (crtC b.par) rfl rfl _ _ crtInfo rfl (crtC_ones _) ?_))
      refine name_world (fun w1 hw1 => ?_)
      have hA : FolAt w b P T w1 := by rw [hw1]; exact F0.out
      clear hw1 F0 hp
      obtain ⟨c0, c1, c2, c3, c4, c5, c6⟩ := hA.cells
      go_wp2_with (first
        | (refine wpList_row_at rfl _ _ rfl (w.heap.size + 1) rfl _ _ _ _ hA.bp Tryz.underlying24 rfl crtInfo ?_)
        | (go_at_call 44; refine (HM.out _).mono ?_; unfold gives; rintro e w2 ⟨rfl, hb2⟩; obtain ⟨d0, d1, d2, d3, d4, d5, d6⟩ := (hA.below hb2).cells))
      go_ret
      exact ⟨by rw [E.out]; rfl, nxt hA.bw hb2⟩
    all_goals
      have e2 : followsV b = (decide (b.par.co = 0) && decide (b.par.view = b.view) && decide (b.par.author = b.author) && decide (b.par.height = b.height - 1)) := by rw [e, a1, a2]; rfl
      have HM := Lib.hid (fun W => HC.out.2.1 W a1)
      have he := fun W => HC.out.2.2 W (of_decide_eq_true a2)
      have q2 := deq a2
      rw [a3] at he e2
      (try rw [a4] at e2)
      (try rw [a5] at e2)
      (try rw [a6] at e2)
      have HE := Lib.hid he
      have E := Lib.hid e2
      (try have q4 := deq a4)
      (try have q5 := deq a5)
      (try have q6 := deq a6)
      clear e HC a1 a2 e2 he
      go_enter Tryz.func79, Tryz.ntmps79
      go_upto_region 2 with (first
        | (refine wpList_cells_at rfl _ _ rfl ⟨w.heap.size, 4, none⟩ rfl (crtL b.par) _ hp Tryz.underlying24 rfl crtInfo ?_)
        | (refine wpList_store_last rfl _ _ _ rfl _ (w.heap.size + 1) (by simp) (crtC b.par) rfl rfl _ _ crtInfo rfl (crtC_ones _) ?_))
      refine name_world (fun w1 hw1 => ?_)
      have hA : FolAt w b P T w1 := by rw [hw1]; exact F0.out
      clear hw1 F0 hp
      obtain ⟨c0, c1, c2, c3, c4, c5, c6⟩ := hA.cells
      go_wp2_with (first
        | (go_at_call 44; refine (HM.out _).mono ?_; unfold gives; rintro e w2 ⟨rfl, hb2⟩; have hB := hA.below hb2; obtain ⟨d0, d1, d2, d3, d4, d5, d6⟩ := hB.cells)
        | (go_at_call 74; refine (HE.out _).mono ?_; unfold gives; rintro e w3 ⟨rfl, hb3⟩; have hD := hB.below hb3; obtain ⟨f0, f1, f2, f3, f4, f5, f6⟩ := hD.cells)
        | (refine wpList_row_at rfl _ _ rfl (w.heap.size + 1) rfl _ _ _ _ hB.bp Tryz.underlying24 rfl crtInfo ?_)
        | (refine wpList_row_at rfl _ _ rfl (w.heap.size + 1) rfl _ _ _ _ hA.bp Tryz.underlying24 rfl crtInfo ?_))
      go_ret
      refine ⟨?_, nxt (nxt hA.bw hb2) hb3⟩
      rw [E.out]
      first | rfl | simp [*]
theorem follows_is (b : Blo) (P T : Value) (r : Bool) (w : World) (h : b.par.wf) (hh : 0 ≤ b.height ∧ b.height ≤ 3) (hr : followsV b = r) : Calls Tryz.prog 79 #[.agg (bloC b P T)] w (gives (.bool r) w) := by
  have := follows_any b P T w h hh; rw [hr] at this; exact this
end Go.Proofs.YtgmejaiifibfoaaGreatDoor

/-
  Are a block's timeouts right: by the code.
-/
set_option linter.unusedSimpArgs false
set_option linter.unusedVariables false
set_option maxRecDepth 10000
namespace Go.Proofs.YtgmejaiifibfoaaGreatDoor
open Go.RowKit Go.Maps Go.Lib
open L3 (Blk Reads)
open L11 (Crt zeroC crtL crtC mayV okW crtInfo crtC_ones endV)

/-- What is held while timeouts are gone through. -/
structure ProAt (w : World) (b : Blo) (A : Option Addr) (P T : Value) (W : World) : Prop where
  bb : Blk W w.heap.size 30 (bloC b P T)
  rd : Rd tmL 10 W A b.proof
  bw : Below w.heap.size w W
theorem ProAt.below {w W W' : World} {b : Blo} {A : Option Addr} {P T : Value} (h : ProAt w b A P T W) (hb : Below W.heap.size W W') : ProAt w b A P T W' := ⟨h.bb.below hb h.bb.lt, h.rd.below hb, nxt h.bw hb⟩
theorem dneT {x y : Int} {b : Bool} (h : decide (x = y) = b) : (x != y) = !b := by rw [← h]; rfl
theorem prev_next (l : List Tmo) (k : Nat) : prevS l (k + 1) = (l[k]!).signer := rfl
theorem tmo_box_at {W : World} {g : Nat} {ty : TypeId} {t : Tmo} (h : Blk W g ty (tmC t)) : W.cell? ⟨g, 0, none⟩ = some (.int .i64 t.signer) ∧ W.cell? ⟨g, 1, none⟩ = some (.int .i64 t.view) := ⟨h.cell 0, h.cell 1⟩
set_option maxHeartbeats 4000000 in
set_option maxRecDepth 100000 in
theorem proven_any (b : Blo) (A : Option Addr) (c : Nat) (T : Value) (w : World) (hw : b.wf) (hr : Rd tmL 10 w A b.proof) : Calls Tryz.prog 80 #[.agg (bloC b (.slice A b.proof.length c) T)] w (gives (.bool (provenV b)) w) := by
  have hA0 : ProAt w b A (.slice A b.proof.length c) T (w.alloc (.cells (bloC b (.slice A b.proof.length c) T) 30)) := ⟨blo_new _ _ _ _ _, hr.below (below_new _ _), below_new _ _⟩
  have hWF := Lib.hid hw.proof
  have hnp := hw.np
  clear hw
  by_cases h1 : b.height = 1
  case neg =>
    have e : provenV b = b.proof.isEmpty := by unfold provenV; rw [if_neg h1]
    have h1' : (b.height != 1) = true := by simpa using h1
    have h1'' : (b.height == 1) = false := by simpa using h1
    rw [e]
    obtain ⟨n, hn⟩ : ∃ n, n = b.proof.length := ⟨_, rfl⟩
    have e2 : b.proof.isEmpty = ((n : Int) == 0) := by
      rw [hn]
      cases b.proof with
      | nil => rfl
      | cons t l => rw [List.isEmpty_cons]; symm; rw [beq_eq_false_iff_ne]; simp; omega
    rw [e2]
    rw [← hn] at hA0 ⊢
    obtain ⟨c0, c1⟩ : (w.alloc (.cells (bloC b (.slice A n c) T) 30)).cell? ⟨w.heap.size, 2, none⟩ = some (.int .i64 b.height) ∧ (w.alloc (.cells (bloC b (.slice A n c) T) 30)).cell? ⟨w.heap.size, 12, none⟩ = some (.slice A n c) := ⟨hA0.bb.cell 2, hA0.bb.cell 12⟩
    have hb := hA0.bw
    clear hA0 hn e e2 hr h1 hnp
    go_enter Tryz.func80, Tryz.ntmps80
    go_wp2
    go_ret
    exact ⟨rfl, hb⟩
  have h1' : (b.height != 1) = false := by simpa using h1
  have h1'' : (b.height == 1) = true := by simpa using h1
  have e : provenV b = (decide (1 ≤ b.proof.length ∧ b.proof.length ≤ 10) && risesV b.view b.proof) := by unfold provenV; rw [if_pos h1]
  obtain ⟨n, hn⟩ : ∃ n, n = b.proof.length := ⟨_, rfl⟩
  rw [← hn] at hA0 ⊢ hnp
  by_cases h2 : 1 ≤ n ∧ n ≤ 10
  case neg =>
    have E : Hid (provenV b = false) := Lib.hid (by rw [e, ← hn, decide_eq_false h2]; rfl)
    have ho : okW (n : Int) 1 10 = false := L11.okW_not (by omega)
    obtain ⟨c0, c1⟩ : (w.alloc (.cells (bloC b (.slice A n c) T) 30)).cell? ⟨w.heap.size, 2, none⟩ = some (.int .i64 b.height) ∧ (w.alloc (.cells (bloC b (.slice A n c) T) 30)).cell? ⟨w.heap.size, 12, none⟩ = some (.slice A n c) := ⟨hA0.bb.cell 2, hA0.bb.cell 12⟩
    have hb := hA0.bw
    clear hA0 hn e hr h1 hnp h2
    go_enter Tryz.func80, Tryz.ntmps80
    go_wp2_with (go_at_call 77; refine (within_is _ _ _ _ _ ho).mono ?_; rintro e w1 ⟨rfl, rfl⟩)
    go_ret
    exact ⟨by rw [E.out]; rfl, hb⟩
  have E : Hid (provenV b = risesV b.view b.proof) := Lib.hid (by rw [e, ← hn, decide_eq_true h2]; rfl)
  have ho : okW (n : Int) 1 10 = true := L11.okW_mk (by omega) (by omega)
  obtain ⟨W0, hW0⟩ : ∃ W0, W0 = w.alloc (.cells (bloC b (.slice A n c) T) 30) := ⟨_, rfl⟩
  have HW0 : (w.alloc (.cells (bloC b (.slice A n c) T) 30)) = W0 := hW0.symm
  rw [HW0] at hA0
  obtain ⟨c0, c1⟩ : W0.cell? ⟨w.heap.size, 2, none⟩ = some (.int .i64 b.height) ∧ W0.cell? ⟨w.heap.size, 12, none⟩ = some (.slice A n c) := ⟨hA0.bb.cell 2, hA0.bb.cell 12⟩
  have HN := Lib.hid hn
  clear hn e hr h1 hW0 h2
  go_enter Tryz.func80, Tryz.ntmps80
  go_upto_region 1 with fail
  clear HW0
  go_wp2_with (go_at_call 77; refine (within_is _ _ _ _ _ ho).mono ?_; rintro e w1 ⟨rfl, rfl⟩)
  go_loopw [3, 21] (fun l i wr => ∃ k : Nat, i = .int .i64 k ∧ l = .int .i64 (prevS b.proof k) ∧ k ≤ n ∧ Hid (∀ j, j < k → riseAt b.view b.proof j = true) ∧ ProAt w b A (.slice A n c) T wr) (fun _ i _ => n - (RowKit.intOf i).toNat)
  case atStart => exact ⟨0, rfl, rfl, Nat.zero_le _, Lib.hid (fun j hj => by omega), hA0⟩
  case round =>
    obtain ⟨k, rfl, rfl, hk, hz, hP⟩ := hrel
    clear c0 c1 hA0
    by_cases hlt : k < n
    · have hkL : k < b.proof.length := by have := HN.out; omega
      obtain ⟨ad, rfl, hadl, hcs⟩ := hP.rd k hkL
      have hx := hWF.out _ (List.getElem_mem hkL)
      have hbang := bang_at hkL
      obtain ⟨x, hxe⟩ : ∃ x, x = b.proof[k] := ⟨_, rfl⟩
      rw [← hxe] at hcs hx hbang
      have hra : riseAt b.view b.proof k = (tmoV x && decide (x.view = b.view) && decide (prevS b.proof k < x.signer)) := by unfold riseAt; rw [hbang]
      obtain ⟨pv, hpv⟩ : ∃ pv, pv = prevS b.proof k := ⟨_, rfl⟩
      rw [← hpv] at hra ⊢
      have hcs1 : ∀ j u, (tmL x)[j]? = some u → wr.cell? ((ad.add (k * 10)).add j) = some u := hcs
      have hnx : prevS b.proof (k + 1) = x.signer := by rw [prev_next, hbang]
      have hPb := hP.below (below_new wr (.cells (tmC x) 26))
      have hyb : Blk (wr.alloc (.cells (tmC x) 26)) wr.heap.size 26 (tmC x) := tmo_new _ _ _
      have HH := Lib.hid (And.intro hbang hnx)
      have HK := Lib.hid hkL
      clear hxe hcs hbang hpv hkL hnx
      have hti := fun W b0 hb0 => timeout_is x b0 W hx hb0
      have HT := Lib.hid hti
      clear hti
      rcases three (tmoV x) (decide (x.view = b.view)) (decide (pv < x.signer)) with a1 | ⟨a1, a2⟩ | ⟨a1, a2, a3⟩ | ⟨a1, a2, a3⟩
      · have E2 : Hid (provenV b = false) := Lib.hid (by rw [E.out, rises_no HK.out (by rw [hra, a1]; rfl)])
        have HT2 := Lib.hid (fun W => HT.out W _ a1)
        clear hra a1 HT
        go_wp2_with (first
          | (refine wpList_cells_at rfl _ _ rfl (ad.add (k * 10)) rfl (tmL x) _ hcs1 Tryz.underlying26 rfl tmInfo ?_)
          | (refine wpList_store_new rfl _ _ _ rfl _ (tmC x) rfl rfl _ _ tmInfo rfl (tmC_ones _) ?_)
          | (refine wpList_row_at rfl _ _ rfl wr.heap.size rfl _ _ _ _ hyb Tryz.underlying26 rfl tmInfo ?_)
          | (go_at_call 45; refine (HT2.out _).mono ?_; unfold gives errI; rintro e w2 ⟨rfl, hb2⟩))
        go_ret
        exact ⟨by rw [E2.out]; rfl, nxt hPb.bw hb2⟩
      · have E2 : Hid (provenV b = false) := Lib.hid (by rw [E.out, rises_no HK.out (by rw [hra, a1, a2]; rfl)])
        have HT2 := Lib.hid (fun W => HT.out W _ a1)
        have q2 := dneT a2
        clear hra a1 a2 HT
        go_wp2_with (first
          | (refine wpList_cells_at rfl _ _ rfl (ad.add (k * 10)) rfl (tmL x) _ hcs1 Tryz.underlying26 rfl tmInfo ?_)
          | (refine wpList_store_new rfl _ _ _ rfl _ (tmC x) rfl rfl _ _ tmInfo rfl (tmC_ones _) ?_)
          | (refine wpList_row_at rfl _ _ rfl wr.heap.size rfl _ _ _ _ hyb Tryz.underlying26 rfl tmInfo ?_)
          | (go_at_call 45; refine (HT2.out _).mono ?_; unfold gives errI; rintro e w2 ⟨rfl, hb2⟩; obtain ⟨d0, d1⟩ := tmo_box_at (hyb.below hb2 hyb.lt); have d2 : w2.cell? ⟨w.heap.size, 0, none⟩ = some (.int .i64 b.view) := (hPb.below hb2).bb.cell 0))
        go_ret
        exact ⟨by rw [E2.out]; rfl, nxt hPb.bw hb2⟩
      · have E2 : Hid (provenV b = false) := Lib.hid (by rw [E.out, rises_no HK.out (by rw [hra, a1, a2, a3]; rfl)])
        have HT2 := Lib.hid (fun W => HT.out W _ a1)
        have q2 := dneT a2
        have q3 : x.signer ≤ pv := by have := of_decide_eq_false a3; omega
        clear hra a1 a2 a3 HT
        go_wp2_with (first
          | (refine wpList_cells_at rfl _ _ rfl (ad.add (k * 10)) rfl (tmL x) _ hcs1 Tryz.underlying26 rfl tmInfo ?_)
          | (refine wpList_store_new rfl _ _ _ rfl _ (tmC x) rfl rfl _ _ tmInfo rfl (tmC_ones _) ?_)
          | (refine wpList_row_at rfl _ _ rfl wr.heap.size rfl _ _ _ _ hyb Tryz.underlying26 rfl tmInfo ?_)
          | (go_at_call 45; refine (HT2.out _).mono ?_; unfold gives errI; rintro e w2 ⟨rfl, hb2⟩; obtain ⟨d0, d1⟩ := tmo_box_at (hyb.below hb2 hyb.lt); have d2 : w2.cell? ⟨w.heap.size, 0, none⟩ = some (.int .i64 b.view) := (hPb.below hb2).bb.cell 0))
        go_ret
        exact ⟨by rw [E2.out]; rfl, nxt hPb.bw hb2⟩
      · have E2 : Hid (riseAt b.view b.proof k = true) := Lib.hid (by rw [hra, a1, a2, a3]; rfl)
        have HT2 := Lib.hid (fun W => HT.out W _ a1)
        have q2 := dneT a2
        have q3 : ¬ x.signer ≤ pv := by have := of_decide_eq_true a3; omega
        clear hra a1 a2 a3 HT
        go_wp2_with (first
          | (refine wpList_cells_at rfl _ _ rfl (ad.add (k * 10)) rfl (tmL x) _ hcs1 Tryz.underlying26 rfl tmInfo ?_)
          | (refine wpList_store_new rfl _ _ _ rfl _ (tmC x) rfl rfl _ _ tmInfo rfl (tmC_ones _) ?_)
          | (refine wpList_row_at rfl _ _ rfl wr.heap.size rfl _ _ _ _ hyb Tryz.underlying26 rfl tmInfo ?_)
          | (go_at_call 45; refine (HT2.out _).mono ?_; unfold gives errI; rintro e w2 ⟨rfl, hb2⟩; obtain ⟨d0, d1⟩ := tmo_box_at (hyb.below hb2 hyb.lt); have d2 : w2.cell? ⟨w.heap.size, 0, none⟩ = some (.int .i64 b.view) := (hPb.below hb2).bb.cell 0))
        go_roundw
        case rel =>
          refine ⟨k + 1, by go_num, by rw [HH.out.2], by omega, Lib.hid (fun j hj => ?_), hPb.below hb2⟩
          rcases Nat.lt_or_ge j k with hjk | hjk
          · exact hz.out j hjk
          · obtain rfl : j = k := by omega
            exact E2.out
        case measure => simp [RowKit.intOf]; omega
    · have hkn : k = n := by omega
      have E2 : Hid (provenV b = true) := Lib.hid (by rw [E.out, rises_all (fun j hj => hz.out j (by have := HN.out; omega))])
      have hb := hP.bw
      clear hP hz
      go_wp2_with fail
      go_ret
      exact ⟨by rw [E2.out]; rfl, hb⟩
theorem proven_is (b : Blo) (A : Option Addr) (c : Nat) (T : Value) (r : Bool) (w : World) (hw : b.wf) (hr : Rd tmL 10 w A b.proof) (hb : provenV b = r) : Calls Tryz.prog 80 #[.agg (bloC b (.slice A b.proof.length c) T)] w (gives (.bool r) w) := by
  have := proven_any b A c T w hw hr; rw [hb] at this; exact this
end Go.Proofs.YtgmejaiifibfoaaGreatDoor

/-
  Which blocks may be, by the code: the error of any.
-/
set_option linter.unusedSimpArgs false
set_option linter.unusedVariables false
set_option maxRecDepth 10000
namespace Go.Proofs.YtgmejaiifibfoaaGreatDoor
open Go.RowKit Go.Maps Go.Lib
open L3 (Blk Reads)
open L11 (Crt zeroC crtL crtC mayV okW crtInfo crtC_ones endV)

/-- What is held while a block is looked at. -/
structure ChkAt (w : World) (b : Blo) (A : Option Addr) (c : Nat) (B : Option Addr) (d : Nat) (W : World) : Prop where
  bb : Blk W w.heap.size 30 (bloC b (.slice A b.proof.length c) (.slice B b.txs.length d))
  rp : Rd tmL 10 W A b.proof
  rt : Rd txL 7 W B b.txs
  tb : Tabs W
  bw : Below w.heap.size w W
section
variable {w W W' : World} {b : Blo} {A : Option Addr} {c : Nat} {B : Option Addr} {d : Nat}
theorem ChkAt.below (h : ChkAt w b A c B d W) (hb : Below W.heap.size W W') : ChkAt w b A c B d W' := ⟨h.bb.below hb h.bb.lt, h.rp.below hb, h.rt.below hb, h.tb.kept hb, nxt h.bw hb⟩
theorem ChkAt.cells (h : ChkAt w b A c B d W) : W.cell? ⟨w.heap.size, 0, none⟩ = some (.int .i64 b.view) ∧ W.cell? ⟨w.heap.size, 1, none⟩ = some (.int .i64 b.round) ∧ W.cell? ⟨w.heap.size, 2, none⟩ = some (.int .i64 b.height) ∧ W.cell? ⟨w.heap.size, 3, none⟩ = some (.int .i64 b.author) ∧
    W.cell? ⟨w.heap.size, 7, none⟩ = some (.int .i64 b.par.round) ∧ W.cell? ⟨w.heap.size, 13, none⟩ = some (.slice B b.txs.length d) :=
  ⟨h.bb.cell 0, h.bb.cell 1, h.bb.cell 2, h.bb.cell 3, h.bb.cell 7, h.bb.cell 13⟩
theorem chk_mk (hp : Rd tmL 10 w A b.proof) (ht : Rd txL 7 w B b.txs) (hT : Tabs w) : ChkAt w b A c B d (w.alloc (.cells (bloC b (.slice A b.proof.length c) (.slice B b.txs.length d)) 30)) :=
  ⟨blo_new _ _ _ _ _, hp.below (below_new _ _), ht.below (below_new _ _), hT.kept (below_new _ _), below_new _ _⟩
end
theorem checkV_head {b : Blo} (h : headV b = false) : checkV b = 120 := by unfold checkV; rw [if_pos h]
theorem checkV_par {b : Blo} (h : headV b = true) (h2 : parentV b = false) : checkV b = 122 := by unfold checkV; rw [if_neg (by rw [h]; simp), if_pos h2]
theorem checkV_pro {b : Blo} (h : headV b = true) (h2 : parentV b = true) (h3 : provenV b = false) : checkV b = 121 := by unfold checkV; rw [if_neg (by rw [h]; simp), if_neg (by rw [h2]; simp), if_pos h3]
theorem checkV_ok {b : Blo} (h : headV b = true) (h2 : parentV b = true) (h3 : provenV b = true) : checkV b = 0 := by unfold checkV; rw [if_neg (by rw [h]; simp), if_neg (by rw [h2]; simp), if_neg (by rw [h3]; simp)]
set_option maxHeartbeats 4000000 in
set_option maxRecDepth 100000 in
theorem chk_any (b : Blo) (A : Option Addr) (c : Nat) (B : Option Addr) (d : Nat) (w : World) (hw : b.wf) (hp : Rd tmL 10 w A b.proof) (ht : Rd txL 7 w B b.txs) (hT : Tabs w) :
    Calls Tryz.prog 43 #[.agg (bloC b (.slice A b.proof.length c) (.slice B b.txs.length d))] w (gives (.int .i64 (checkV b)) w) := by
  have F0 := Lib.hid (chk_mk (c := c) (d := d) hp ht hT)
  have hcr := fun W r (h : Tabs W) (h2 : Rd txL 7 W B b.txs) hr => right_is B d b.txs r W hw.txs h h2 (by have := hw.nt; omega) hr
  have HCR := Lib.hid hcr
  have HW := Lib.hid hw
  have e : headV b = (okW b.view 1 1048576 && okW b.author 0 9 && okW b.height 0 3 && rightL b.txs) := rfl
  clear hcr hw hp ht hT
  go_enter Tryz.func43, Tryz.ntmps43
  go_upto_region 1 with fail
  refine name_world (fun w0 hw0 => ?_)
  have hA : ChkAt w b A c B d w0 := by rw [hw0]; exact F0.out
  clear hw0 F0
  obtain ⟨c0, c1, c2, c3, c4, c5⟩ := hA.cells
  rcases four (okW b.view 1 1048576) (okW b.author 0 9) (okW b.height 0 3) (rightL b.txs) with a1 | ⟨a1, a2⟩ | ⟨a1, a2, a3⟩ | ⟨a1, a2, a3, a4⟩ | ⟨a1, a2, a3, a4⟩
  · have E : Hid (checkV b = 120) := Lib.hid (checkV_head (by rw [e, a1]; rfl))
    clear e HCR
    go_wp2_with (first
      | (go_at_call 75; refine (aview_is _ _ _ a1).mono ?_; rintro e w1 ⟨rfl, rfl⟩))
    go_ret
    exact ⟨by rw [E.out]; rfl, hA.bw⟩
  · have E : Hid (checkV b = 120) := Lib.hid (checkV_head (by rw [e, a1, a2]; rfl))
    clear e HCR
    go_wp2_with (first
      | (go_at_call 75; refine (aview_is _ _ _ a1).mono ?_; rintro e w1 ⟨rfl, rfl⟩)
      | (go_at_call 76; refine (arep_is _ _ _ a2).mono ?_; rintro e w1 ⟨rfl, rfl⟩))
    go_ret
    exact ⟨by rw [E.out]; rfl, hA.bw⟩
  · have E : Hid (checkV b = 120) := Lib.hid (checkV_head (by rw [e, a1, a2, a3]; rfl))
    clear e HCR
    go_wp2_with (first
      | (go_at_call 75; refine (aview_is _ _ _ a1).mono ?_; rintro e w1 ⟨rfl, rfl⟩)
      | (go_at_call 76; refine (arep_is _ _ _ a2).mono ?_; rintro e w1 ⟨rfl, rfl⟩)
      | (go_at_call 77; refine (within_is _ _ _ _ _ a3).mono ?_; rintro e w1 ⟨rfl, rfl⟩))
    go_ret
    exact ⟨by rw [E.out]; rfl, hA.bw⟩
  · have E : Hid (checkV b = 120) := Lib.hid (checkV_head (by rw [e, a1, a2, a3, a4]; rfl))
    have hR := HCR.out w0 _ hA.tb hA.rt a4
    clear e HCR
    go_wp2_with (first
      | (go_at_call 75; refine (aview_is _ _ _ a1).mono ?_; rintro e w1 ⟨rfl, rfl⟩)
      | (go_at_call 76; refine (arep_is _ _ _ a2).mono ?_; rintro e w1 ⟨rfl, rfl⟩)
      | (go_at_call 77; refine (within_is _ _ _ _ _ a3).mono ?_; rintro e w1 ⟨rfl, rfl⟩)
      | (go_at_call 78; refine hR.mono ?_; unfold gives; rintro e w1 ⟨rfl, hb1⟩))
    go_ret
    exact ⟨by rw [E.out]; rfl, nxt hA.bw hb1⟩
  have hR := HCR.out w0 _ hA.tb hA.rt a4
  have hd : Hid (headV b = true) := Lib.hid (by rw [e, a1, a2, a3, a4]; rfl)
  have hh := L11.okW_le a3
  clear e HCR
  go_upto_region 3 with (first
    | (go_at_call 75; refine (aview_is _ _ _ a1).mono ?_; rintro e w1 ⟨rfl, rfl⟩)
    | (go_at_call 76; refine (arep_is _ _ _ a2).mono ?_; rintro e w1 ⟨rfl, rfl⟩)
    | (go_at_call 77; refine (within_is _ _ _ _ _ a3).mono ?_; rintro e w1 ⟨rfl, rfl⟩)
    | (go_at_call 78; refine hR.mono ?_; unfold gives; rintro e w1 ⟨rfl, hb1⟩))
  have hB := hA.below hb1
  clear hA hR a1 a2 a3 a4 c0 c1 c2 c3 c4 c5 hb1
  have hfo := fun W r hr => follows_is b (.slice A b.proof.length c) (.slice B b.txs.length d) r W HW.out.par hh hr
  have HFO := Lib.hid hfo
  have ep : parentV b = (followsV b && decide (b.round = b.par.round + 1) && decide (b.round ≤ 1073741824)) := rfl
  clear hfo hh
  rcases (Bool.eq_false_or_eq_true (followsV b)).symm with g1 | g1
  · have E : Hid (checkV b = 122) := Lib.hid (checkV_par hd.out (by rw [ep, g1]; rfl))
    have hF := HFO.out w1 _ g1
    clear ep HFO g1
    go_wp2_with (first
      | (refine wpList_row_at rfl _ _ rfl w.heap.size rfl _ _ _ _ hB.bb Tryz.underlying30 rfl bloInfo ?_)
      | (go_at_call 79; refine hF.mono ?_; unfold gives; rintro e w2 ⟨rfl, hb2⟩))
    go_ret
    exact ⟨by rw [E.out]; rfl, nxt hB.bw hb2⟩
  have hF := HFO.out w1 _ g1
  have hpr := may_round (follows_may g1)
  have hw64 : wrap64 (b.par.round + 1) = b.par.round + 1 := by unfold wrap64; omega
  clear HFO hpr
  by_cases g2 : b.round = b.par.round + 1
  case neg =>
    have E : Hid (checkV b = 122) := Lib.hid (checkV_par hd.out (by rw [ep, g1, decide_eq_false g2]; rfl))
    have q2 : (b.round != b.par.round + 1) = true := by simpa using g2
    clear ep g1 g2
    go_wp2_with (first
      | (refine wpList_row_at rfl _ _ rfl w.heap.size rfl _ _ _ _ hB.bb Tryz.underlying30 rfl bloInfo ?_)
      | (go_at_call 79; refine hF.mono ?_; unfold gives; rintro e w2 ⟨rfl, hb2⟩; obtain ⟨d0, d1, d2, d3, d4, d5⟩ := (hB.below hb2).cells))
    go_ret
    exact ⟨by rw [E.out]; rfl, nxt hB.bw hb2⟩
  have q2 : (b.round != b.par.round + 1) = false := by simpa using g2
  by_cases g3 : b.round ≤ 1073741824
  case neg =>
    have E : Hid (checkV b = 122) := Lib.hid (checkV_par hd.out (by rw [ep, decide_eq_false g3]; simp))
    have q3 : 1073741824 < b.round := by omega
    clear ep g1 g2 g3
    go_wp2_with (first
      | (refine wpList_row_at rfl _ _ rfl w.heap.size rfl _ _ _ _ hB.bb Tryz.underlying30 rfl bloInfo ?_)
      | (go_at_call 79; refine hF.mono ?_; unfold gives; rintro e w2 ⟨rfl, hb2⟩; obtain ⟨d0, d1, d2, d3, d4, d5⟩ := (hB.below hb2).cells))
    go_ret
    exact ⟨by rw [E.out]; rfl, nxt hB.bw hb2⟩
  have q3 : ¬ 1073741824 < b.round := by omega
  have hpv : Hid (parentV b = true) := Lib.hid (by rw [ep, g1, decide_eq_true g2, decide_eq_true g3]; rfl)
  clear ep g1 g2 g3
  go_upto_region 5 with (first
    | (refine wpList_row_at rfl _ _ rfl w.heap.size rfl _ _ _ _ hB.bb Tryz.underlying30 rfl bloInfo ?_)
    | (go_at_call 79; refine hF.mono ?_; unfold gives; rintro e w2 ⟨rfl, hb2⟩; obtain ⟨d0, d1, d2, d3, d4, d5⟩ := (hB.below hb2).cells))
  have hD := hB.below hb2
  clear hB hF d0 d1 d2 d3 d4 d5 hb2 q2 q3 hw64
  rcases (Bool.eq_false_or_eq_true (provenV b)).symm with g1 | g1
  · have E : Hid (checkV b = 121) := Lib.hid (checkV_pro hd.out hpv.out g1)
    have hF := proven_is b A c (.slice B b.txs.length d) _ w2 HW.out hD.rp g1
    clear g1
    go_wp2_with (first
      | (refine wpList_row_at rfl _ _ rfl w.heap.size rfl _ _ _ _ hD.bb Tryz.underlying30 rfl bloInfo ?_)
      | (go_at_call 80; refine hF.mono ?_; unfold gives; rintro e w3 ⟨rfl, hb3⟩))
    go_ret
    exact ⟨by rw [E.out]; rfl, nxt hD.bw hb3⟩
  · have E : Hid (checkV b = 0) := Lib.hid (checkV_ok hd.out hpv.out g1)
    have hF := proven_is b A c (.slice B b.txs.length d) _ w2 HW.out hD.rp g1
    clear g1
    go_wp2_with (first
      | (refine wpList_row_at rfl _ _ rfl w.heap.size rfl _ _ _ _ hD.bb Tryz.underlying30 rfl bloInfo ?_)
      | (go_at_call 80; refine hF.mono ?_; unfold gives; rintro e w3 ⟨rfl, hb3⟩))
    go_ret
    exact ⟨by rw [E.out]; rfl, nxt hD.bw hb3⟩
/-- The block's error, whatever its lists' slices. -/
theorem checkB_any (b : Blo) (P T : Value) (w : World) (hw : b.wf) (hl : Lies w b P T) (hT : Tabs w) : Calls Tryz.prog 43 #[.agg (bloC b P T)] w (gives (.int .i64 (checkV b)) w) := by
  obtain ⟨A, c, B, d, rfl, rfl, hp, ht⟩ := hl
  exact chk_any b A c B d w hw hp ht hT
theorem checkB_is (b : Blo) (P T : Value) (r : Int) (w : World) (hw : b.wf) (hl : Lies w b P T) (hT : Tabs w) (hr : checkV b = r) : Calls Tryz.prog 43 #[.agg (bloC b P T)] w (gives (.int .i64 r) w) := by
  have := checkB_any b P T w hw hl hT; rw [hr] at this; exact this
end Go.Proofs.YtgmejaiifibfoaaGreatDoor
