/-
  A tape's places, its power, its fuse; bytes taken back.
-/
import Derived.Test.YthhjdielananeaaTap
import Derived.BigRegion
import Derived.OwnWalk
set_option linter.unusedSimpArgs false
set_option linter.unusedVariables false
set_option maxRecDepth 10000
namespace Go.Proofs.Ythhjdielananeaa
open Go.RowKit Go.Lib
open L3 (Blk Reads block_of_add add_of_add)
open L6 (Turn moreB fresh From In)

theorem drew_add (w : World) (n m : Nat) : (w.drewN n).drewN m = w.drewN (n + m) := by simp [World.drewN, Nat.add_assoc]
set_option maxHeartbeats 1000000 in
set_option maxRecDepth 100000 in
theorem end_q {w : World} {S : Nat → Prop} {g : Nat} {t : Tp} (h : Tpe w S g t) : Calls Try.prog 43 #[.pointer (some ⟨g, 0, none⟩)] w fun e w' => e = .returned (.int .i64 (t.stop : Nat)) ∧ ∃ m, w' = w.drewN m := by
  obtain ⟨A, c, hb, _, hf, _⟩ := h
  have c1 : w.cell? ⟨g, 1, none⟩ = some (.int .i64 t.first) := hb.cell 1
  have c3 : w.cell? ⟨g, 3, none⟩ = some (.slice A t.held.length c) := hb.cell 3
  have hs := hf.2.stop
  have HE := Lib.hid (show ((t.stop : Nat) : Int) = (t.first : Int) + (t.held.length : Int) by unfold Tp.stop; push_cast; rfl)
  obtain ⟨f, hf'⟩ : ∃ f, f = t.first := ⟨_, rfl⟩
  obtain ⟨n, hn⟩ : ∃ n, n = t.held.length := ⟨_, rfl⟩
  obtain ⟨s, hs'⟩ : ∃ s, s = t.stop := ⟨_, rfl⟩
  rw [← hf'] at c1 hs HE
  rw [← hn] at c3 hs HE
  rw [← hs'] at HE ⊢
  clear hb hf hf' hn hs'
  go_enter Try.func43, Try.ntmps43
  go_upto_region 1 with fail
  go_quiet (fail)
  go_wp2
  go_ret
  exact ⟨by rw [HE.out]; rfl, _, rfl⟩
theorem end_left {w : World} {S : Nat → Prop} {g : Nat} {t : Tp} (h : Tpe w S g t) (n : Nat) : Calls Try.prog 43 #[.pointer (some ⟨g, 0, none⟩)] (w.drewN n) fun e w'' => e = .returned (.int .i64 (t.stop : Nat)) ∧ ∃ m, w'' = w.drewN m :=
  (end_q (h.below (L6.below_drewN (Below.refl _ _) n))).mono fun e w' ⟨he, m, hm⟩ => ⟨he, n + m, by rw [hm, drew_add]⟩
set_option maxHeartbeats 1000000 in
set_option maxRecDepth 100000 in
theorem places_any {w : World} {S : Nat → Prop} {g : Nat} {t : Tp} (h : Tpe w S g t) : Calls Try.prog 62 #[.pointer (some ⟨g, 0, none⟩)] w (gives (.tuple #[.int .i64 t.first, .int .i64 t.fast, .int .i64 (t.stop : Nat)]) w) := by
  have HE := Lib.hid (fun n => end_left h n)
  obtain ⟨A, c, hb, _, hf, _⟩ := h
  have c1 : w.cell? ⟨g, 1, none⟩ = some (.int .i64 t.first) := hb.cell 1
  have c2 : w.cell? ⟨g, 2, none⟩ = some (.int .i64 t.fast) := hb.cell 2
  clear hb hf
  go_enter Try.func62, Try.ntmps62
  go_upto_region 3 with fail
  go_quiet ((go_at_call 43; exact HE.out _))
  go_wp2
  go_ret3
  exact ⟨rfl, L6.below_drewN (Below.refl _ _) _⟩
set_option maxHeartbeats 1000000 in
set_option maxRecDepth 100000 in
theorem fuse_any {w : World} {S : Nat → Prop} {g : Nat} {t : Tp} (h : Tpe w S g t) (n : Int) (hn : inI n) : Calls Try.prog 23 #[.pointer (some ⟨g, 0, none⟩), .int .i64 n] w (TpPost (.int .i64 (fuseE n)) S g (fuseT t n) w) := by
  by_cases h0 : n < 0
  · have e1 : fuseE n = 1 := if_pos h0
    have e2 : fuseT t n = t := if_pos h0
    rw [e1, e2]
    have HH := Lib.hid h
    clear h e1 e2
    go_enter Try.func23, Try.ntmps23
    go_wp2
    go_ret
    exact TpPost.same HH.out rfl (Below.refl _ _)
  · have e1 : fuseE n = 0 := if_neg h0
    have e2 : fuseT t n = { t with fuse := some n.toNat } := if_neg h0
    rw [e1, e2]
    obtain ⟨A, c, hb, hr, hf, hg, hk⟩ := h
    have HT := Lib.hid (Tpe.cells (t' := { t with fuse := some n.toNat }) (w' := w.setCell ⟨g, 5, none⟩ (.int .i64 n)) (by
      have := hb.set_ 5 (.int .i64 n)
      have e : (tpC t (.slice A t.held.length c)).setIfInBounds 5 (.int .i64 n) = tpC { t with fuse := some n.toNat } (.slice A t.held.length c) := by
        unfold tpC leftV
        simp
        omega
      rw [e] at this
      exact this) ((L6.Turn.refl (fun k => k = g) w).setCell (p := ⟨g, 5, none⟩) (.inl rfl) _) hb hr ⟨⟨hf.1.f1, hf.1.f2, hf.1.room⟩, hf.2.room, hf.2.stop, fun k hk => by injection hk with hk; have := hn.2; omega⟩ hg hk rfl)
    have c5 : w.cell? ⟨g, 5, none⟩ = some (.int .i64 (leftV t)) := hb.cell 5
    have f5 := hb.frozen 5
    clear hb hr hf hk e1 e2
    go_enter Try.func23, Try.ntmps23
    go_wp2
    go_ret
    exact ⟨rfl, HT.out⟩
end Go.Proofs.Ythhjdielananeaa
