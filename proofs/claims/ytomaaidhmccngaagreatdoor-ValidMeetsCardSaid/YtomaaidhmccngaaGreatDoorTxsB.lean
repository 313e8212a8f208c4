/-
  Are transactions as many as there may be, and all right: by the code (slices.ContainsFunc).
-/
import Derived.Test.YtomaaidhmccngaaGreatDoorB1
import Derived.Test.YtomaaidhmccngaaGreatDoorCheckT
import Derived.Test.YtomaaidhmccngaaGreatDoorLays
set_option linter.unusedSimpArgs false
set_option linter.unusedVariables false
set_option maxRecDepth 10000
namespace Go.Proofs.YtomaaidhmccngaaGreatDoor
open Go.RowKit Go.Lib
open L3 (Blk Reads block_of_add add_of_add)

/-! Transactions of at most a million bytes a text -/
abbrev Fit : Type := {t : Txx // t.wf 1000000}
instance : Inhabited Fit := ⟨⟨zeroX, zeroX_wf 1000000⟩⟩
def fitL (x : Fit) : List Value := txL x.1
def fitX : (L : List Txx) → (∀ t ∈ L, t.wf 1000000) → List Fit
  | [], _ => []
  | t :: L, h => ⟨t, h t (List.mem_cons_self ..)⟩ :: fitX L fun x hx => h x (List.mem_cons_of_mem _ hx)
theorem fitX_map : ∀ (L : List Txx) (h : ∀ t ∈ L, t.wf 1000000), (fitX L h).map (·.1) = L
  | [], _ => rfl
  | t :: L, h => by unfold fitX; rw [List.map_cons, fitX_map L]
theorem fitX_len (L : List Txx) (h : ∀ t ∈ L, t.wf 1000000) : (fitX L h).length = L.length := by rw [← List.length_map (f := fun x : Fit => x.1), fitX_map]
theorem fitX_get (L : List Txx) (h : ∀ t ∈ L, t.wf 1000000) (j : Nat) (hj : j < L.length) : ((fitX L h)[j]!).1 = L[j] := by
  have hl : j < (fitX L h).length := by rw [fitX_len]; exact hj
  rw [getElem!_pos _ j hl]
  have := fitX_map L h
  have e : ((fitX L h).map (·.1))[j]'(by rw [List.length_map]; exact hl) = L[j] := by simp only [this]
  rw [← e, List.getElem_map]
theorem fitX_any (L : List Txx) (h : ∀ t ∈ L, t.wf 1000000) (p : Txx → Bool) : ((fitX L h).any fun x => p x.1) = L.any p := by
  have e : (fitX L h).any (p ∘ fun x : Fit => x.1) = L.any p := by rw [← List.any_map, fitX_map]
  exact e
theorem cell_spot {w : World} {a : Addr} {v : Value} (h : w.cell? a = some v) : a.spot = none := by
  obtain ⟨_, _, _, _, h3⟩ := World.shape?_of_cell? h
  exact h3
/-- A list with something in it lies at a plain place. -/
theorem Rd.plain {α : Type} {f : α → List Value} {k : Nat} (hf : ∀ x, ∃ u, (f x)[0]? = some u) {w : World} {A : Option Addr} {L : List α} (h : Rd f k w A L) (h0 : L ≠ []) : ∃ b o, A = some ⟨b, o, none⟩ ∧ b < w.heap.size := by
  have hl : 0 < L.length := List.length_pos_iff.2 h0
  obtain ⟨ad, hA, hb, hc⟩ := h 0 hl
  obtain ⟨u, hu⟩ := hf L[0]
  have h1 := hc 0 u hu
  rw [Nat.zero_mul, L3.add_of_add] at h1
  have hs := cell_spot h1
  obtain ⟨b, o, s⟩ := ad
  have h2 : (⟨b, o, s⟩ : Addr).add (0 + 0) = ⟨b, o, s⟩ := by simp [Addr.add]
  rw [h2] at hs
  cases hs
  exact ⟨b, o, hA, hb⟩
theorem txL_0 (x : Txx) : ∃ u, (txL x)[0]? = some u := ⟨_, rfl⟩
theorem tmL_0 (x : Tmo) : ∃ u, (tmL x)[0]? = some u := ⟨_, rfl⟩
/-- The cells of a list that is read, as the library's contracts ask them. -/
theorem Rd.lib {w : World} {b o : Nat} {L : List Txx} (h : ∀ t ∈ L, t.wf 1000000) (hr : Rd txL 7 w (some ⟨b, o, none⟩) L) : ∀ j, j < (fitX L h).length → ∀ i v, (fitL (fitX L h)[j]!)[i]? = some v → w.cell? ⟨b, o + j * 7 + i, none⟩ = some v := fun j hj i v hi => by
  rw [fitX_len] at hj
  obtain ⟨ad, hA, hb, hc⟩ := hr j hj
  injection hA with hA
  subst hA
  unfold fitL at hi
  rw [fitX_get L h j hj] at hi
  have := hc i v hi
  rw [Addr.add_lit, Addr.add_lit] at this
  exact this
abbrev encF (x : Fit) : Value := .agg (fitL x).toArray
theorem enters_right : ∀ args w, (callFunc 194 args).run Tryz.prog w = .ok (.enter 194 args) w := enters_of Tryz.func194 (by kernel_rfl) rfl
set_option maxHeartbeats 1000000 in
set_option maxRecDepth 100000 in
theorem wrong_any (t : Txx) (w : World) (h : t.wf 1000000) (hT : Tabs w) : Calls Tryz.prog 194 #[.agg (txC t)] w (gives (.bool (!right t)) w) := by
  have hb0 : Below w.heap.size w (w.alloc (.cells (txC t) 133)) := below_box _ t
  have k0 := box_new w 133 t
  have hm := check_any t (w.alloc (.cells (txC t) 133)) h (hT.kept hb0)
  rcases Bool.eq_false_or_eq_true (right t) with a | a
  all_goals
    rw [a] at hm ⊢
    have HM := Lib.hid hm
    clear hm a hT
    go_enter Tryz.func194, Tryz.ntmps194
    go_wp2_with (first
      | (refine wpList_row_at rfl _ _ rfl w.heap.size rfl _ _ _ _ k0 Tryz.underlying133 rfl (by kernel_rfl) ?_)
      | (go_at_call 176; refine HM.out.mono ?_; unfold gives errI; rintro e w1 ⟨rfl, hb1⟩))
    go_ret
    exact ⟨rfl, nxt hb0 hb1⟩
theorem pred_wrong (w : World) (hT : Tabs w) : PredBelow Tryz.prog 194 #[] encF (fun x => !right x.1) w := fun W x hb => by
  refine (wrong_any x.1 W x.2 (hT.kept hb)).mono ?_
  rintro e w' ⟨rfl, hb'⟩
  exact ⟨rfl, nxt hb hb'⟩
set_option maxHeartbeats 1000000 in
set_option maxRecDepth 100000 in
theorem indexf_none (A : Option Addr) (c : Nat) (f : Value) (w : World) : Calls Tryz.prog 207 #[.slice A 0 c, f] w (gives (.int .i64 (-1)) w) := by
  go_enter Tryz.func207, Tryz.ntmps207
  go_wp2
  go_loopw [8] (fun i wr => i = .int .i64 0 ∧ Below w.heap.size w wr) (fun _ _ => 0)
  case atStart => exact ⟨rfl, Below.refl _ _⟩
  case round =>
    obtain ⟨rfl, hbw⟩ := hrel
    go_wp2
    go_ret
    exact ⟨rfl, hbw⟩
set_option maxHeartbeats 1000000 in
set_option maxRecDepth 100000 in
theorem con_none (A : Option Addr) (c : Nat) (f : Value) (w : World) : Calls Tryz.prog 193 #[.slice A 0 c, f] w (gives (.bool false) w) := by
  have hi := fun W => indexf_none A c f W
  go_enter Tryz.func193, Tryz.ntmps193
  go_wp2_with (first
    | (go_at_call 207; (with_reducible refine (hi _).mono ?_); unfold gives; rintro e w1 ⟨rfl, hb1⟩)
    | go_in)
  go_ret
  exact ⟨rfl, hb1⟩
/-- Is one of these wrong? -/
theorem conL_any (A : Option Addr) (c : Nat) (L : List Txx) (w : World) (hl : ∀ t ∈ L, t.wf 1000000) (hT : Tabs w) (hr : Rd txL 7 w A L) (hn : L.length ≤ 1000000) :
    Calls Tryz.prog 193 #[.slice A L.length c, .func (.func 194) #[] #[]] w (gives (.bool (L.any fun x => !right x)) w) := by
  by_cases h0 : L = []
  · subst h0
    exact con_none A c _ w
  · obtain ⟨b, o, rfl, hb⟩ := hr.plain txL_0 h0
    have := AnyQ.slices_ContainsFunc Tryz.conL 7 Tryz.isAgg133 Tryz.sizeOf133 fitL (fun _ => rfl) (fun x => !right x.1) 194 #[] enters_right b o L.length c (fitX L hl) w (pred_wrong w hT) (by rw [fitX_len]; exact Nat.le_refl _) (by omega) hb (Rd.lib hl hr)
    refine Calls.mono (show Calls Tryz.prog 193 #[.slice (some ⟨b, o, none⟩) L.length c, .func (.func 194) #[] #[]] w _ from this) ?_
    rintro e w' ⟨rfl, hb'⟩
    refine ⟨?_, hb'⟩
    have e : (fitX L hl).take L.length = fitX L hl := List.take_of_length_le (by rw [fitX_len]; exact Nat.le_refl _)
    rw [e]
    have := fitX_any L hl (fun x => !right x)
    rw [← this]
theorem any_wrong (L : List Txx) : (!(L.any fun x => !right x)) = L.all right := by induction L with
  | nil => rfl
  | cons t L ih => rw [List.any_cons, List.all_cons, ← ih]; cases right t <;> simp
set_option maxHeartbeats 1000000 in
set_option maxRecDepth 100000 in
theorem right_any (A : Option Addr) (c : Nat) (L : List Txx) (w : World) (hl : ∀ t ∈ L, t.wf 1000000) (hT : Tabs w) (hr : Rd txL 7 w A L) (hn : L.length ≤ 1000000) :
    Calls Tryz.prog 170 #[.slice A L.length c] w (gives (.bool (rightL L)) w) := by
  have hc := conL_any A c L w hl hT hr hn
  have e : rightL L = (decide (L.length ≤ 8) && !(L.any fun x => !right x)) := by unfold rightL; rw [any_wrong]
  rw [e]
  obtain ⟨b, hb⟩ : ∃ b, b = L.any fun x => !right x := ⟨_, rfl⟩
  rw [← hb] at hc ⊢
  obtain ⟨n, hN⟩ : ∃ n, n = L.length := ⟨_, rfl⟩
  rw [← hN] at hc hn ⊢
  clear e hb hN hr hl hT
  by_cases h8 : n ≤ 8
  · have h8' : decide ((n : Int) ≤ 8) = true := by simp; omega
    have h9 : decide (n ≤ 8) = true := by simpa using h8
    cases b
    all_goals
      go_enter Tryz.func170, Tryz.ntmps170
      go_wp2_with (first
        | (go_at_call 193; refine hc.mono ?_; unfold gives; rintro e w1 ⟨rfl, hb1⟩))
      go_ret
      refine ⟨?_, hb1⟩
      first | rfl | simp [h8]
  · have h9 : decide (n ≤ 8) = false := by simpa using h8
    clear hc
    go_enter Tryz.func170, Tryz.ntmps170
    go_wp2
    go_ret
    refine ⟨?_, Below.refl _ _⟩
    first | rfl | simp [h8]
theorem right_is (A : Option Addr) (c : Nat) (L : List Txx) (b : Bool) (w : World) (hl : ∀ t ∈ L, t.wf 1000000) (hT : Tabs w) (hr : Rd txL 7 w A L) (hn : L.length ≤ 1000000) (hb : rightL L = b) :
    Calls Tryz.prog 170 #[.slice A L.length c] w (gives (.bool b) w) := by have := right_any A c L w hl hT hr hn; rw [hb] at this; exact this
end Go.Proofs.YtomaaidhmccngaaGreatDoor
