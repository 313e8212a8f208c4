/-
  A stroke, by a method value; what one stroke does, if there is one.
-/
import Derived.Test.YthhjdielananeaaTap2
set_option linter.unusedSimpArgs false
set_option linter.unusedVariables false
set_option maxRecDepth 10000
namespace Go.Proofs.Ythhjdielananeaa
open Go.RowKit Go.Lib
open L3 (Blk Reads block_of_add add_of_add)
open L6 (Turn moreB fresh From In)

theorem burn_none {t : Tp} (h : t.fuse = none) (n : Nat) : t.burn n = t := by unfold Tp.burn; rw [h]
theorem burn_zero {t : Tp} (h : t.fuse = some 0) : t.burn 1 = { t with fuse := some 0, on := false } := by unfold Tp.burn; rw [h]; rfl
theorem burn_succ {t : Tp} {k : Nat} (h : t.fuse = some (k + 1)) : t.burn 1 = { t with fuse := some k } := by
  unfold Tp.burn; rw [h]
  simp
theorem burn_ok {t : Tp} (h : t.ok ∧ t.fit) (n : Nat) : (t.burn n).ok ∧ (t.burn n).fit := by
  obtain ⟨e1, e2, e3, e4⟩ := burn_same t n
  refine ⟨⟨by rw [e1, e2]; exact h.1.f1, by rw [e1, e2, e3]; exact h.1.f2, by rw [e3, e4]; exact h.1.room⟩, by rw [e4]; exact h.2.room, by rw [e1, e3]; exact h.2.stop, ?_⟩
  intro k hk
  unfold Tp.burn at hk
  split at hk
  · next h0 => rw [h0] at hk; cases hk
  · next k0 h0 =>
    have := h.2.fuse k0 h0
    split at hk
    · injection hk with hk; omega
    · injection hk with hk; omega
set_option maxHeartbeats 1000000 in
set_option maxRecDepth 100000 in
theorem stroke_yes {w : World} {S : Nat → Prop} {g : Nat} {t : Tp} (h : Tpe w S g t) (ho : t.on = true) (hc : t.can 1 ≠ 0) : Calls Try.prog 60 #[.pointer (some ⟨g, 0, none⟩)] w (TpPost (.bool true) S g (t.burn 1) w) := by
  have HH := Lib.hid h
  obtain ⟨A, c, hb, hr, hf, hg, hk⟩ := h
  have c4 : w.cell? ⟨g, 4, none⟩ = some (.bool true) := by rw [← ho]; exact hb.cell 4
  have c5 : w.cell? ⟨g, 5, none⟩ = some (.int .i64 (leftV t)) := hb.cell 5
  cases hfu : t.fuse with
  | none =>
    have e5 : leftV t = -1 := by unfold leftV; rw [hfu]
    rw [e5] at c5
    rw [burn_none hfu]
    clear hb hr hf hk e5 hc ho hfu
    go_enter Try.func60, Try.ntmps60
    go_wp2
    go_ret
    exact TpPost.same HH.out rfl (Below.refl _ _)
  | some k =>
    cases k with
    | zero => exact absurd (by unfold Tp.can; rw [hfu]; rfl) hc
    | succ k =>
      have e5 : leftV t = ((k + 1 : Nat) : Int) := by unfold leftV; rw [hfu]
      have hfi := hf.2.fuse _ hfu
      have hbo := burn_ok hf 1
      rw [e5] at c5
      rw [burn_succ hfu] at hbo ⊢
      have HT := Lib.hid (Tpe.cells (t' := { t with fuse := some k }) (w' := w.setCell ⟨g, 5, none⟩ (.int .i64 k)) (by
        have := hb.set_ 5 (.int .i64 k)
        have e : (tpC t (.slice A t.held.length c)).setIfInBounds 5 (.int .i64 k) = tpC { t with fuse := some k } (.slice A t.held.length c) := by
          unfold tpC leftV
          simp
        rw [e] at this
        exact this) ((L6.Turn.refl (fun k => k = g) w).setCell (p := ⟨g, 5, none⟩) (.inl rfl) _) hb hr hbo hg hk rfl)
      have f5 := hb.frozen 5
      obtain ⟨z, hz'⟩ : ∃ z : Int, z = (((k + 1 : Nat) : Int)) := ⟨_, rfl⟩
      have hzk : (k : Int) = z - 1 := by omega
      have hp : 0 < z := by omega
      have hz : ¬ z = 0 := by omega
      have hk1 : z ≤ 9223372036854775807 := by omega
      rw [← hz'] at c5
      rw [hzk] at HT
      clear hb hr hf hk e5 hc ho hfu hbo hz' hzk HH hfi
      go_enter Try.func60, Try.ntmps60
      go_wp2
      go_ret
      exact ⟨rfl, HT.out⟩
set_option maxHeartbeats 1000000 in
set_option maxRecDepth 100000 in
theorem stroke_no {w : World} {S : Nat → Prop} {g : Nat} {t : Tp} (h : Tpe w S g t) (ho : t.on = true) (hc : t.can 1 = 0) : Calls Try.prog 60 #[.pointer (some ⟨g, 0, none⟩)] w (TpPost (.bool false) S g (t.burn 1) w) := by
  obtain ⟨A, c, hb, hr, hf, hg, hk⟩ := h
  have hfu : t.fuse = some 0 := by
    unfold Tp.can at hc
    cases hfu : t.fuse with
    | none => rw [hfu] at hc; simp at hc
    | some k => rw [hfu] at hc; simp at hc; rw [hc]
  have c4 : w.cell? ⟨g, 4, none⟩ = some (.bool true) := by rw [← ho]; exact hb.cell 4
  have c5 : w.cell? ⟨g, 5, none⟩ = some (.int .i64 0) := by
    have : leftV t = 0 := by unfold leftV; rw [hfu]; rfl
    rw [← this]; exact hb.cell 5
  have hbo := burn_ok hf 1
  rw [burn_zero hfu] at hbo ⊢
  have HT := Lib.hid (Tpe.cells (t' := { t with fuse := some 0, on := false }) (w' := w.setCell ⟨g, 4, none⟩ (.bool false)) (by
    have := hb.set_ 4 (.bool false)
    have e : (tpC t (.slice A t.held.length c)).setIfInBounds 4 (.bool false) = tpC { t with fuse := some 0, on := false } (.slice A t.held.length c) := by
      unfold tpC leftV
      rw [hfu]
      simp
    rw [e] at this
    exact this) ((L6.Turn.refl (fun k => k = g) w).setCell (p := ⟨g, 4, none⟩) (.inl rfl) _) hb hr hbo hg hk rfl)
  have f4 := hb.frozen 4
  clear hb hr hf hk hc ho hfu hbo
  go_enter Try.func60, Try.ntmps60
  go_wp2
  go_ret
  exact ⟨rfl, HT.out⟩

/-! What one stroke does -/
theorem enters_stroke : ∀ args w, (callFunc 60 args).run Try.prog w = .ok (.enter 60 args) w := enters_of Try.func60 (by kernel_rfl) rfl
set_option maxHeartbeats 1000000 in
set_option maxRecDepth 100000 in
theorem strike_yes {w : World} {S : Nat → Prop} {g : Nat} {t : Tp} (h : Tpe w S g t) (ho : t.on = true) (hc : t.can 1 ≠ 0) (f : Nat) (lb : Array Value) (eg : ∀ args w, (callFunc f args).run Try.prog w = .ok (.enter f args) w) (Q : World → Prop)
    (hd : ∀ w', Tpe w' (moreB S w w') g (t.burn 1) → Turn S w w' → Calls Try.prog f lb w' (fun e w'' => e = .returned (.tuple #[]) ∧ Q w'')) :
    Calls Try.prog 59 #[.func (.func 60) #[.pointer (some ⟨g, 0, none⟩)] #[], .func (.func f) #[] lb] w fun e w' => e = .returned (.int .i64 0) ∧ Q w' := by
  have HS := Lib.hid (stroke_yes h ho hc)
  have HD := Lib.hid hd
  have es := enters_stroke
  clear h ho hc hd
  go_enter Try.func59, Try.ntmps59
  go_wp2_with (first
    | (go_at_fn f; refine (HD.out _ hT1 hU1).mono ?_; rintro e w2 ⟨rfl, hQ⟩)
    | (go_at_call 60; refine HS.out.mono ?_; unfold TpPost; rintro e w1 ⟨rfl, hT1, hU1⟩)
    | go_in)
  go_ret
  exact ⟨rfl, hQ⟩
set_option maxHeartbeats 1000000 in
set_option maxRecDepth 100000 in
theorem strike_no {w : World} {S : Nat → Prop} {g : Nat} {t : Tp} (h : Tpe w S g t) (ho : t.on = true) (hc : t.can 1 = 0) (v : Value) :
    Calls Try.prog 59 #[.func (.func 60) #[.pointer (some ⟨g, 0, none⟩)] #[], v] w (TpPost (.int .i64 170) S g (t.burn 1) w) := by
  have HS := Lib.hid (stroke_no h ho hc)
  have es := enters_stroke
  clear h ho hc
  go_enter Try.func59, Try.ntmps59
  go_wp2_with (first
    | (go_at_call 60; refine HS.out.mono ?_; unfold TpPost; rintro e w1 ⟨rfl, hT1, hU1⟩)
    | go_in)
  go_ret
  exact ⟨rfl, hT1, hU1⟩
end Go.Proofs.Ythhjdielananeaa
