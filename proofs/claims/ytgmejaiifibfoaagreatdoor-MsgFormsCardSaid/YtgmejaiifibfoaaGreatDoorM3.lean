/-
  Texts of one layer in one: FitM, SuitM, ProvM.
-/
import Derived.Test.YtgmejaiifibfoaaGreatDoorM2
import Derived.Test.YtgmejaiifibfoaaGreatDoorB3
import Derived.Test.YtgmejaiifibfoaaGreatDoorB2

/-
  The small functions of messages, by the code: numbers, what a number is cut to, the bytes of numbers.
-/
set_option linter.unusedSimpArgs false
set_option linter.unusedVariables false
set_option maxRecDepth 10000
namespace Go.Proofs.YtgmejaiifibfoaaGreatDoor
open Go.RowKit Go.Maps Go.Lib
open L3 (Blk Reads Owned encN encs intCells)
open L11 (Crt zeroC crtL crtC mayV okW okW_mk okW_not crtInfo crtC_ones endV)

theorem withinM_is (n lo hi : Int) (b : Bool) (w : World) (h : okW n lo hi = b) : Calls Tryz.prog 51 #[.int .i64 n, .int .i64 lo, .int .i64 hi] w fun e w' => e = .returned (.bool b) ∧ w = w' := by
  subst h
  by_cases h0 : lo ≤ n
  · by_cases h1 : n ≤ hi
    · have hk := okW_mk h0 h1
      go_enter Tryz.func51, Tryz.ntmps51
      go_wp2
      go_ret
      exact ⟨congrArg (fun b => Ending.returned (.bool b)) hk.symm, rfl⟩
    · have hk := okW_not (n := n) (lo := lo) (hi := hi) (by omega)
      go_enter Tryz.func51, Tryz.ntmps51
      go_wp2
      go_ret
      exact ⟨rfl, rfl⟩
  · have hk := okW_not (n := n) (lo := lo) (hi := hi) (by omega)
    go_enter Tryz.func51, Tryz.ntmps51
    go_wp2
    go_ret
    exact ⟨rfl, rfl⟩
theorem viewM_is (n : Int) (b : Bool) (w : World) (h : okW n 1 1048576 = b) : Calls Tryz.prog 49 #[.int .i64 n] w fun e w' => e = .returned (.bool b) ∧ w = w' := by
  go_enter Tryz.func49, Tryz.ntmps49
  go_wp2_with (go_at_call 51; refine (withinM_is _ _ _ _ _ h).mono ?_; rintro e w1 ⟨rfl, rfl⟩)
  go_ret
  exact ⟨rfl, rfl⟩
theorem repM_is (n : Int) (b : Bool) (w : World) (h : okW n 0 9 = b) : Calls Tryz.prog 48 #[.int .i64 n] w fun e w' => e = .returned (.bool b) ∧ w = w' := by
  go_enter Tryz.func48, Tryz.ntmps48
  go_wp2_with (go_at_call 51; refine (withinM_is _ _ _ _ _ h).mono ?_; rintro e w1 ⟨rfl, rfl⟩)
  go_ret
  exact ⟨rfl, rfl⟩
theorem fitM_any (n : Int) (w : World) : Calls Tryz.prog 38 #[.int .i64 n] w fun e w' => e = .returned (.int .i64 (fitM n)) ∧ w = w' := by
  by_cases h : 2147483647 < n
  · have e : fitM n = -1 := by unfold fitM; rw [if_pos h]
    have h2 : ¬ n ≤ 2147483647 := by omega
    rw [e]
    clear e
    go_enter Tryz.func38, Tryz.ntmps38
    go_wp2
    go_ret
    exact ⟨rfl, rfl⟩
  · have e : fitM n = n := by unfold fitM; rw [if_neg h]
    have h2 : n ≤ 2147483647 := by omega
    rw [e]
    clear e
    go_enter Tryz.func38, Tryz.ntmps38
    go_wp2
    go_ret
    exact ⟨rfl, rfl⟩
theorem sure_any (A : Option Addr) (n c : Nat) (k : Int) (w : World) : Calls Tryz.prog 53 #[.slice A n c, .int .i64 k] w fun e w' => e = .returned (.slice A n c) ∧ w = w' := by
  go_enter Tryz.func53, Tryz.ntmps53
  go_wp2
  go_ret
  exact ⟨rfl, rfl⟩
set_option maxHeartbeats 1000000 in
set_option maxRecDepth 100000 in
theorem numsM_any (A : Option Addr) (n c : Nat) (zs : List Int) (w : World) (h : Reads w w.heap.size 1 A n (intCells zs)) (hl : n ≤ 100) (hok : zs.all L3.okN = true) :
    Calls Tryz.prog 20 #[.slice A n c] w (owns (encs zs) w) := by
  have hn : zs.length = n := by have := h.1; simpa [L3.intCells] using this
  have HOK := Lib.hid hok
  clear hok
  go_enter Tryz.func20, Tryz.ntmps20
  go_wp2
  go_loopw [3, 8] (fun b i wr => ∃ k : Nat, i = .int .i64 k ∧ k ≤ n ∧ Owned w.heap.size b (encs (zs.take k)) w wr) (fun _ i _ => n - (RowKit.intOf i).toNat)
  case atStart => exact ⟨0, rfl, Nat.zero_le _, by simpa [L3.encs] using Owned.nil w _ (Nat.le_refl _)⟩
  case round =>
    obtain ⟨k, rfl, hk, ho⟩ := hrel
    by_cases hlt : k < n
    · obtain ⟨ad, u, rfl, _, hx, hc⟩ := (h.below ho.2.1).at_ hlt
      have hkz : k < zs.length := by omega
      have hz : u = .int .i64 zs[k] := by
        simp only [L3.intCells, List.getElem?_map, List.getElem?_eq_getElem hkz, Option.map_some, Option.some.injEq] at hx
        exact hx.symm
      subst hz
      have hall := List.all_eq_true.1 HOK.out
      have hzk := L3.okN_le (hall _ (List.getElem_mem hkz))
      have hle := numsB_le (zs.take k) (by rw [List.all_eq_true]; exact fun x hx => hall x (List.mem_of_mem_take hx)) (by rw [List.length_take]; omega)
      have hsn := L3.take_snoc_int zs k hkz
      obtain ⟨z, hz⟩ : ∃ z, z = zs[k] := ⟨_, rfl⟩
      rw [← hz] at hc hsn hzk
      obtain ⟨A2, c2, rfl, hr2, hc2⟩ := ho.form
      have hnum := L3.num_ok wr.heap.size A2 (encs (zs.take k)).length c2 (encs (zs.take k)) z.toNat wr hr2 (by omega) (Nat.le_refl _) (by omega)
      rw [Int.toNat_of_nonneg hzk.1] at hnum
      have HS := Lib.hid hsn
      have HN := Lib.hid hnum
      clear hx hall hsn hz hnum hzk hle
      go_wp2_with (first
        | (go_at_call 54; refine HN.out.mono ?_; rintro e w3 ⟨v3, rfl, ho3⟩; obtain ⟨A3, c3, rfl, hr3, hc3⟩ := ho3.form)
        | (go_at_call 53; refine (sure_any _ _ _ _ _).mono ?_; rintro e w4 ⟨rfl, rfl⟩))
      go_round
      case rel =>
        refine ⟨k + 1, by go_num, by omega, ?_⟩
        rw [HS.out, L3.encs_snoc]
        rw [List.length_append] at ho3
        exact owned_rebase ho3 ho.2.1 ho.2.2
      case measure => simp [RowKit.intOf]; omega
    · have hkn : zs.take k = zs := List.take_of_length_le (by omega)
      rw [hkn] at ho
      clear hkn
      go_wp2_with fail
      go_ret
      exact ⟨_, rfl, ho⟩
end Go.Proofs.YtgmejaiifibfoaaGreatDoor

/-
  Which certificates suit a kind of message, which timeouts may be a proof: by the code.
-/
set_option linter.unusedSimpArgs false
set_option linter.unusedVariables false
set_option maxRecDepth 10000
namespace Go.Proofs.YtgmejaiifibfoaaGreatDoor
open Go.RowKit Go.Maps Go.Lib
open L3 (Blk Reads)
open L11 (Crt zeroC crtL crtC mayV okW okW_mk okW_not crtInfo crtC_ones endV wpQuiet_fn)

def suitsV (k : Int) (c : Crt) : Bool :=
  if k = 2 then !decide (c.kind = 0) && decide (L4.cnt c.sg = 1) && decide (c.co = 0)
  else if k = 5 then decide (c.kind = 2) && decide (c.height = 3) && decide (c.co = 0)
  else if k = 10 then decide (c.kind = 1) || endV c
  else false
theorem cer_suits {k : Int} (h : hasC k) (c : Crt) : cerC k c = (suitsV k c && mayV c) := by
  unfold cerC suitsV
  by_cases h2 : k = 2
  · rw [if_pos h2, if_pos h2]; unfold votC
    cases mayV c <;> cases decide (c.kind = 0) <;> cases decide (c.co = 0) <;> cases decide (L4.cnt c.sg = 1) <;> rfl
  rw [if_neg h2, if_neg h2]
  by_cases h5 : k = 5
  · rw [if_pos h5, if_pos h5]; unfold donC
    cases mayV c <;> cases decide (c.kind = 2) <;> cases decide (c.height = 3) <;> cases decide (c.co = 0) <;> rfl
  rw [if_neg h5, if_neg h5]
  have h10 : k = 10 := by unfold hasC at h; omega
  rw [if_pos h10]; unfold higC L11.endV
  cases mayV c <;> cases decide (c.kind = 1) <;> cases decide (c.kind = 2) <;> cases decide (c.co = 0) <;> rfl
theorem nat_dec {n : Nat} {b : Bool} (k : Nat) (h : decide (n = k) = b) : ((n : Int) == (k : Int)) = b := by
  rw [← h, Bool.eq_iff_iff]; simp; omega
theorem int_dec {n k : Int} {b : Bool} (h : decide (n = k) = b) : (n == k) = b ∧ (n != k) = !b := by rw [← h]; exact ⟨rfl, rfl⟩
set_option maxHeartbeats 1000000 in
set_option maxRecDepth 100000 in
theorem suits_any (k : Int) (c : Crt) (w : World) (hc : c.wf) : Calls Tryz.prog 42 #[.int .i64 k, .agg (crtC c)] w (gives (.bool (suitsV k c)) w) := by
  have hb0 : Below w.heap.size w (w.alloc (.cells (crtC c) 24)) := L11.below_box _ c
  have k0 := L11.box_new w 24 c
  have c0 : (w.alloc (.cells (crtC c) 24)).cell? ⟨w.heap.size, 0, none⟩ = some (.int .i64 c.kind) := k0.cell 0
  have c4 : (w.alloc (.cells (crtC c) 24)).cell? ⟨w.heap.size, 4, none⟩ = some (.int .i64 c.height) := k0.cell 4
  have c6 : (w.alloc (.cells (crtC c) 24)).cell? ⟨w.heap.size, 6, none⟩ = some (.int .u32 c.sg) := k0.cell 6
  have c7 : (w.alloc (.cells (crtC c) 24)).cell? ⟨w.heap.size, 7, none⟩ = some (.int .u32 c.co) := k0.cell 7
  have hsg : c.sg < 4294967296 := hc.2.2.2.2.2.2.1
  by_cases h2 : k = 2
  · have e : suitsV k c = (!decide (c.kind = 0) && decide (L4.cnt c.sg = 1) && decide (c.co = 0)) := by unfold suitsV; rw [if_pos h2]
    have hcn := fun W => L4.count_any c.sg W hsg
    obtain ⟨b0, d0⟩ : ∃ b, decide (c.kind = 0) = b := ⟨_, rfl⟩
    obtain ⟨b1, d1⟩ : ∃ b, decide (L4.cnt c.sg = 1) = b := ⟨_, rfl⟩
    obtain ⟨b2, d2⟩ : ∃ b, decide (c.co = 0) = b := ⟨_, rfl⟩
    rw [d0, d1, d2] at e
    obtain ⟨q0, q0'⟩ := int_dec d0
    have q1 : ((L4.cnt c.sg : Int) == 1) = b1 := nat_dec 1 d1
    have q2 : ((c.co : Int) == 0) = b2 := nat_dec 0 d2
    subst h2
    obtain ⟨r, hr⟩ : ∃ r, r = suitsV 2 c := ⟨_, rfl⟩
    rw [← hr] at e ⊢
    have E := Lib.hid e
    clear d0 d1 d2 hr e hc hsg
    cases b0 <;> cases b1 <;> cases b2
    all_goals
      go_enter Tryz.func42, Tryz.ntmps42
      go_wp2_with (go_at_call 73; refine (hcn _).mono ?_; rintro e w1 ⟨rfl, rfl⟩)
      go_ret
      exact ⟨by rw [E.out]; rfl, hb0⟩
  by_cases h5 : k = 5
  · have e : suitsV k c = (decide (c.kind = 2) && decide (c.height = 3) && decide (c.co = 0)) := by unfold suitsV; rw [if_neg h2, if_pos h5]
    obtain ⟨b0, d0⟩ : ∃ b, decide (c.kind = 2) = b := ⟨_, rfl⟩
    obtain ⟨b1, d1⟩ : ∃ b, decide (c.height = 3) = b := ⟨_, rfl⟩
    obtain ⟨b2, d2⟩ : ∃ b, decide (c.co = 0) = b := ⟨_, rfl⟩
    rw [d0, d1, d2] at e
    obtain ⟨q0, q0'⟩ := int_dec d0
    obtain ⟨q1, q1'⟩ := int_dec d1
    have q2 : ((c.co : Int) == 0) = b2 := nat_dec 0 d2
    subst h5
    obtain ⟨r, hr⟩ : ∃ r, r = suitsV 5 c := ⟨_, rfl⟩
    rw [← hr] at e ⊢
    have E := Lib.hid e
    clear d0 d1 d2 hr e hc hsg h2
    cases b0 <;> cases b1 <;> cases b2
    all_goals
      go_enter Tryz.func42, Tryz.ntmps42
      go_wp2
      go_ret
      exact ⟨by rw [E.out]; rfl, hb0⟩
  by_cases h10 : k = 10
  · have e : suitsV k c = (decide (c.kind = 1) || endV c) := by unfold suitsV; rw [if_neg h2, if_neg h5, if_pos h10]
    obtain ⟨b0, d0⟩ : ∃ b, decide (c.kind = 1) = b := ⟨_, rfl⟩
    obtain ⟨b1, d1⟩ : ∃ b, endV c = b := ⟨_, rfl⟩
    have he := fun W => c_end c _ W d1
    rw [d0, d1] at e
    obtain ⟨q0, q0'⟩ := int_dec d0
    subst h10
    obtain ⟨r, hr⟩ : ∃ r, r = suitsV 10 c := ⟨_, rfl⟩
    rw [← hr] at e ⊢
    have E := Lib.hid e
    have HE := Lib.hid he
    clear d0 d1 hr e hc hsg h2 h5 he
    cases b0
    · go_enter Tryz.func42, Tryz.ntmps42
      go_wp2_with (first
        | (refine wpList_row_at rfl _ _ rfl w.heap.size rfl _ _ _ _ k0 Tryz.underlying24 rfl crtInfo ?_)
        | (go_at_call 74; refine (HE.out _).mono ?_; unfold gives; rintro e w1 ⟨rfl, hb1⟩))
      go_ret
      exact ⟨by rw [E.out]; rfl, nxt hb0 hb1⟩
    · go_enter Tryz.func42, Tryz.ntmps42
      go_wp2
      go_ret
      exact ⟨by rw [E.out]; rfl, hb0⟩
  have e : suitsV k c = false := by unfold suitsV; rw [if_neg h2, if_neg h5, if_neg h10]
  have q2 : (k == 2) = false := by simpa using h2
  have q5 : (k == 5) = false := by simpa using h5
  have q10 : (k == 10) = false := by simpa using h10
  rw [e]
  clear e hc hsg h2 h5 h10
  go_enter Tryz.func42, Tryz.ntmps42
  go_wp2
  go_ret
  exact ⟨rfl, hb0⟩
end Go.Proofs.YtgmejaiifibfoaaGreatDoor

/-
  Which timeouts may be a proof: by the code.
-/
set_option linter.unusedSimpArgs false
set_option linter.unusedVariables false
set_option maxRecDepth 10000
namespace Go.Proofs.YtgmejaiifibfoaaGreatDoor
open Go.RowKit Go.Maps Go.Lib
open L3 (Blk Reads)
open L11 (Crt zeroC crtL crtC mayV okW okW_mk okW_not crtInfo crtC_ones endV wpQuiet_fn)

/-- What is held while a proof is gone through. -/
structure PvAt (w : World) (l : List Tmo) (A : Option Addr) (W : World) : Prop where
  rd : Rd tmL 10 W A l
  bw : Below w.heap.size w W
structure PvBx (w : World) (l : List Tmo) (A : Option Addr) (G : Nat) (x : Tmo) (W : World) : Prop where
  rd : Rd tmL 10 W A l
  bx : Blk W G 26 (tmC x)
  bw : Below w.heap.size w W
theorem PvAt.below {w W W' : World} {l : List Tmo} {A : Option Addr} (h : PvAt w l A W) (hb : Below W.heap.size W W') : PvAt w l A W' := ⟨h.rd.below hb, nxt h.bw hb⟩
theorem PvBx.below {w W W' : World} {l : List Tmo} {A : Option Addr} {G : Nat} {x : Tmo} (h : PvBx w l A G x W) (hb : Below W.heap.size W W') : PvBx w l A G x W' := ⟨h.rd.below hb, h.bx.below hb h.bx.lt, nxt h.bw hb⟩
theorem PvBx.drew {w W : World} {l : List Tmo} {A : Option Addr} {G : Nat} {x : Tmo} (h : PvBx w l A G x W) : PvBx w l A G x W.drew := h.below (Below.refl _ W).drew
theorem PvAt.box {w W : World} {l : List Tmo} {A : Option Addr} (h : PvAt w l A W) (x : Tmo) : PvBx w l A W.heap.size x (W.alloc (.cells (tmC x) 26)) := ⟨(h.below (below_new _ _)).rd, tmo_new _ _ _, (h.below (below_new _ _)).bw⟩
set_option maxHeartbeats 4000000 in
set_option maxRecDepth 100000 in
theorem proves_any (A : Option Addr) (c : Nat) (l : List Tmo) (w : World) (hw : ∀ t ∈ l, t.wf) (hn : l.length ≤ 100000) (hr : Rd tmL 10 w A l) : Calls Tryz.prog 46 #[.slice A l.length c] w (gives (.bool (prfV l)) w) := by
  have e : prfV l = (decide (1 ≤ l.length ∧ l.length ≤ 10) && risesV (l[0]!).view l) := rfl
  obtain ⟨n, hN⟩ : ∃ n, n = l.length := ⟨_, rfl⟩
  rw [← hN] at hn ⊢
  by_cases h2 : 1 ≤ n ∧ n ≤ 10
  case neg =>
    have E : Hid (prfV l = false) := Lib.hid (by rw [e, ← hN, decide_eq_false h2]; rfl)
    have ho : okW (n : Int) 1 10 = false := okW_not (by omega)
    clear hN e hr h2 hw
    go_enter Tryz.func46, Tryz.ntmps46
    go_wp2_with (go_at_call 51; refine (withinM_is _ _ _ _ _ ho).mono ?_; rintro e w1 ⟨rfl, rfl⟩)
    go_ret
    exact ⟨by rw [E.out]; rfl, Below.refl _ _⟩
  have E : Hid (prfV l = risesV (l[0]!).view l) := Lib.hid (by rw [e, ← hN, decide_eq_true h2]; rfl)
  have ho : okW (n : Int) 1 10 = true := okW_mk (by omega) (by omega)
  have h0 : 0 < l.length := by omega
  obtain ⟨ad, rfl, _, hc0⟩ := hr 0 h0
  have hA : PvAt w l (some ad) w := ⟨hr, Below.refl _ _⟩
  have HN := Lib.hid hN
  have HW := Lib.hid hw
  have H0 := Lib.hid h0
  obtain ⟨v, hv⟩ : ∃ v, v = (l[0]!).view := ⟨_, rfl⟩
  rw [← hv] at E
  have HV : Hid (∀ y : World, Rd tmL 10 y (some ad) l → y.cell? { block := (ad.add 0).block, off := (ad.add 0).off + 1 } = some (.int .i64 v)) := Lib.hid (fun y hy => by
    obtain ⟨ad2, e2, _, hcs⟩ := hy 0 h0
    injection e2 with e2; subst e2
    have := hcs 1 _ rfl
    rw [hv, bang_at h0]
    simpa [Addr.add] using this)
  clear hv hN e hr h2 hw h0 hc0
  go_enter Tryz.func46, Tryz.ntmps46
  go_wp2_with (go_at_call 51; refine (withinM_is _ _ _ _ _ ho).mono ?_; rintro e w1 ⟨rfl, rfl⟩)
  go_loopw [3, 12] (fun a i wr => ∃ k : Nat, i = .int .i64 k ∧ a = .int .i64 (prevS l k) ∧ k ≤ n ∧ Hid (∀ j, j < k → riseAt v l j = true) ∧ PvAt w l (some ad) wr) (fun _ i _ => n - (RowKit.intOf i).toNat)
  case atStart => exact ⟨0, rfl, rfl, Nat.zero_le _, Lib.hid (fun j hj => by omega), hA⟩
  case round =>
    obtain ⟨k, rfl, rfl, hk, hz, hP⟩ := hrel
    clear hA
    by_cases hlt : k < n
    · have hkL : k < l.length := by have := HN.out; omega
      obtain ⟨ad2, e2, hadl, hcs⟩ := hP.rd k hkL
      injection e2 with e2; subst e2
      have hx := HW.out _ (List.getElem_mem hkL)
      have hbang := bang_at hkL
      obtain ⟨x, hxe⟩ : ∃ x, x = l[k] := ⟨_, rfl⟩
      rw [← hxe] at hcs hx hbang
      have hra : riseAt v l k = (tmoV x && decide (x.view = v) && decide (prevS l k < x.signer)) := by unfold riseAt; rw [hbang]
      obtain ⟨pv, hpv⟩ : ∃ pv, pv = prevS l k := ⟨_, rfl⟩
      rw [← hpv] at hra ⊢
      have hcs1 : ∀ j u, (tmL x)[j]? = some u → wr.cell? ((ad.add (k * 10)).add j) = some u := hcs
      have hnx : prevS l (k + 1) = x.signer := by rw [prev_next, hbang]
      have hPb := hP.box x
      have HH := Lib.hid hnx
      have HK := Lib.hid hkL
      clear hxe hcs hbang hpv hkL hnx hP
      go_upto_region 7 with (first
        | (refine wpList_cells_at rfl _ _ rfl (ad.add (k * 10)) rfl (tmL x) _ hcs1 Tryz.underlying26 rfl tmInfo ?_)
        | (refine wpList_store_new rfl _ _ _ rfl _ (tmC x) rfl rfl _ _ tmInfo rfl (tmC_ones _) ?_))
      obtain ⟨G, hG⟩ : ∃ G, G = wr.heap.size := ⟨_, rfl⟩
      rw [← hG] at hPb
      rw [← hG]
      refine name_world (fun w3 hw3 => ?_)
      rw [← hw3] at hPb
      clear hw3 hG hcs1 hadl
      have hD := hPb.drew
      have ne : Nonempty (WorldIn (PvBx w l (some ad) G x)) := ⟨⟨_, hD⟩⟩
      refine wp_region_S (PvBx w l (some ad) G x) (by kernel_rfl) (by kernel_rfl) hD ?_
      clear hD hPb
      have g0 : ∀ z : WorldIn (PvBx w l (some ad) G x), z.w.cell? ⟨G, 0, none⟩ = some (.int .i64 x.signer) := fun z => z.h.bx.cell 0
      have g1 : ∀ z : WorldIn (PvBx w l (some ad) G x), z.w.cell? ⟨G, 1, none⟩ = some (.int .i64 x.view) := fun z => z.h.bx.cell 1
      have gv : ∀ z : WorldIn (PvBx w l (some ad) G x), z.w.cell? { block := (ad.add 0).block, off := (ad.add 0).off + 1 } = some (.int .i64 v) := fun z => HV.out _ z.h.rd
      have gv2 : ∀ z : WorldIn (PvBx w l (some ad) G x), z.w.cell? { block := ad.block, off := ad.off + 1 } = some (.int .i64 v) := fun z => by have := HV.out _ z.h.rd; simpa [Addr.add] using this
      rcases (Bool.eq_false_or_eq_true (tmoV x)).symm with a1 | a1
      · have E2 : Hid (prfV l = false) := Lib.hid (by rw [E.out, rises_no HK.out (by rw [hra, a1]; rfl)])
        have hT : Hid (∀ W, Calls Tryz.prog 45 #[.agg (tmC x)] W (gives (.int .i64 121) W)) := Lib.hid (fun W => timeout_is x false W hx a1)
        clear hra a1 hx
        iterate 18 (first
          | (refine wpQuiet_row rfl _ _ rfl G rfl _ _ _ _ (fun y => y.h.bx) Tryz.underlying26 rfl tmInfo ?_
             conv => arg 6; simp only [Act.put, List.setIfInBounds_toArray, List.set_cons_zero, List.set_cons_succ])
          | (refine wpQuiet_fn rfl 45 _ _ rfl Tryz.call45 [.agg (tmC x)] rfl (v := .int .i64 121) (fun z => (hT.out z.w).mono fun e w' ⟨he, hb⟩ => ⟨he, z.h.below hb⟩) ?_
             conv => arg 6; simp only [Act.put, List.setIfInBounds_toArray, List.set_cons_zero, List.set_cons_succ])
          | go_big_quiet_step (fail))
        refine wpQuiet_nil ?_
        intro z
        obtain ⟨W, hW⟩ := z
        dsimp only
        clear ne g0 g1 gv gv2
        go_wp2
        go_ret
        exact ⟨by rw [E2.out]; rfl, hW.bw⟩
      have hT : Hid (∀ W, Calls Tryz.prog 45 #[.agg (tmC x)] W (gives (.int .i64 0) W)) := Lib.hid (fun W => timeout_is x true W hx a1)
      rw [a1] at hra
      clear a1 hx
      by_cases h2 : x.view = v
      case neg =>
        have E2 : Hid (prfV l = false) := Lib.hid (by rw [E.out, rises_no HK.out (by rw [hra, decide_eq_false h2]; rfl)])
        have q2 : (x.view != v) = true := by simpa using h2
        clear hra h2
        iterate 18 (first
          | (refine wpQuiet_row rfl _ _ rfl G rfl _ _ _ _ (fun y => y.h.bx) Tryz.underlying26 rfl tmInfo ?_
             conv => arg 6; simp only [Act.put, List.setIfInBounds_toArray, List.set_cons_zero, List.set_cons_succ])
          | (refine wpQuiet_fn rfl 45 _ _ rfl Tryz.call45 [.agg (tmC x)] rfl (v := .int .i64 0) (fun z => (hT.out z.w).mono fun e w' ⟨he, hb⟩ => ⟨he, z.h.below hb⟩) ?_
             conv => arg 6; simp only [Act.put, List.setIfInBounds_toArray, List.set_cons_zero, List.set_cons_succ])
          | go_big_quiet_step (fail))
        refine wpQuiet_nil ?_
        intro z
        obtain ⟨W, hW⟩ := z
        dsimp only
        clear ne g0 g1 gv gv2
        go_wp2
        go_ret
        exact ⟨by rw [E2.out]; rfl, hW.bw⟩
      have q2 : (x.view != v) = false := by simpa using h2
      rw [decide_eq_true h2] at hra
      clear h2
      by_cases h3 : pv < x.signer
      case neg =>
        have E2 : Hid (prfV l = false) := Lib.hid (by rw [E.out, rises_no HK.out (by rw [hra, decide_eq_false h3]; rfl)])
        have q3 : x.signer ≤ pv := by omega
        clear hra h3
        iterate 18 (first
          | (refine wpQuiet_row rfl _ _ rfl G rfl _ _ _ _ (fun y => y.h.bx) Tryz.underlying26 rfl tmInfo ?_
             conv => arg 6; simp only [Act.put, List.setIfInBounds_toArray, List.set_cons_zero, List.set_cons_succ])
          | (refine wpQuiet_fn rfl 45 _ _ rfl Tryz.call45 [.agg (tmC x)] rfl (v := .int .i64 0) (fun z => (hT.out z.w).mono fun e w' ⟨he, hb⟩ => ⟨he, z.h.below hb⟩) ?_
             conv => arg 6; simp only [Act.put, List.setIfInBounds_toArray, List.set_cons_zero, List.set_cons_succ])
          | go_big_quiet_step (fail))
        refine wpQuiet_nil ?_
        intro z
        obtain ⟨W, hW⟩ := z
        dsimp only
        clear ne g0 g1 gv gv2
        go_wp2
        go_ret
        exact ⟨by rw [E2.out]; rfl, hW.bw⟩
      have E2 : Hid (riseAt v l k = true) := Lib.hid (by rw [hra, decide_eq_true h3]; rfl)
      have q3 : ¬ x.signer ≤ pv := by omega
      clear hra h3
      iterate 18 (first
        | (refine wpQuiet_row rfl _ _ rfl G rfl _ _ _ _ (fun y => y.h.bx) Tryz.underlying26 rfl tmInfo ?_
           conv => arg 6; simp only [Act.put, List.setIfInBounds_toArray, List.set_cons_zero, List.set_cons_succ])
        | (refine wpQuiet_fn rfl 45 _ _ rfl Tryz.call45 [.agg (tmC x)] rfl (v := .int .i64 0) (fun z => (hT.out z.w).mono fun e w' ⟨he, hb⟩ => ⟨he, z.h.below hb⟩) ?_
           conv => arg 6; simp only [Act.put, List.setIfInBounds_toArray, List.set_cons_zero, List.set_cons_succ])
        | go_big_quiet_step (fail))
      refine wpQuiet_nil ?_
      intro z
      obtain ⟨W, hW⟩ := z
      dsimp only
      clear ne g0 g1 gv gv2
      have d0 : W.cell? ⟨G, 0, none⟩ = some (.int .i64 x.signer) := hW.bx.cell 0
      go_wp2
      go_roundw
      case rel =>
        refine ⟨k + 1, by go_num, by rw [HH.out], by omega, Lib.hid (fun j hj => ?_), ⟨hW.rd, hW.bw⟩⟩
        rcases Nat.lt_or_ge j k with hjk | hjk
        · exact hz.out j hjk
        · obtain rfl : j = k := by omega
          exact E2.out
      case measure => simp [RowKit.intOf]; omega
    · have hkn : k = n := by omega
      have E2 : Hid (prfV l = true) := Lib.hid (by rw [E.out, rises_all (fun j hj => hz.out j (by have := HN.out; omega))])
      have hb := hP.bw
      clear hP hz
      go_wp2_with fail
      go_ret
      exact ⟨by rw [E2.out]; rfl, hb⟩
end Go.Proofs.YtgmejaiifibfoaaGreatDoor
