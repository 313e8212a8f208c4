/-
  What the laws on messages use: what may be fits; what Parse tells, opened.
-/
import Derived.Test.YtgmejaiifibfoaaDoorAliveM
import Derived.Test.YtgmejaiifibfoaaDoorGreatM
set_option linter.unusedSimpArgs false
set_option linter.unusedVariables false
set_option maxRecDepth 10000
namespace Go.Proofs.YtgmejaiifibfoaaDoor
open Go.RowKit Go.Maps Go.Lib
open L3 (Blk Reads)
open L11 (Crt zeroC mayV)

theorem crt_wf {c : Crt} (hc : mayV c = true) : c.wf := by
  by_cases h0 : c.kind = 0
  · rw [L11.may_zero hc h0]; exact L11.zeroC_wf
  · by_cases h1 : c.kind = 1
    · obtain ⟨a0, a1, a2, a3⟩ := L11.may_one hc h1
      obtain ⟨s1, s2, s3, s4, s5⟩ := L11.sg_facts a0
      exact ⟨by unfold L11.inI; omega, by unfold L11.inI; omega, by unfold L11.inI; omega, by unfold L11.inI; omega, by unfold L11.inI; omega, by unfold L11.inI; omega, by unfold L11.inU; omega, by unfold L11.inU; omega⟩
    · obtain ⟨a, a0, a1, a2, a3⟩ := L11.may_two hc h0 h1
      obtain ⟨s1, s2, s3, s4, s5⟩ := L11.sg_facts a0
      exact ⟨by unfold L11.inI; omega, by unfold L11.inI; omega, by unfold L11.inI; omega, by unfold L11.inI; omega, by unfold L11.inI; omega, by unfold L11.inI; omega, by unfold L11.inU; omega, by unfold L11.inU; omega⟩
theorem tmoM_wf {t : Tmo} (h : tmoV t = true) : t.wf := by
  obtain ⟨t1, t2, t3, t4⟩ := tmo_facts h
  exact ⟨by unfold inI; omega, by unfold inI; omega, crt_wf t4⟩
theorem mayP_wf {k : Int} {p : Pt} (h : mayP k p = true) : PtWf p := by
  cases p
  case blk b => exact checkV_wf (of_decide_eq_true h)
  case crt c => exact crt_wf (cer_may h)
  case tmo t => exact tmoM_wf h
  case prf l =>
    have h0 := prf_facts h
    exact ⟨fun t ht => tmoM_wf (h0.2.2 t ht).1, by omega⟩
  case inv s n =>
    unfold mayP at h
    simp only [Bool.and_eq_true] at h
    have h1 := okW_in h.1
    have h2 := okW_in h.2
    exact ⟨by unfold inI; omega, by unfold inI; omega⟩
  case ele n s =>
    unfold mayP at h
    simp only [Bool.and_eq_true, decide_eq_true_eq] at h
    have h1 := okW_in h.1
    exact ⟨by unfold inI; omega, by unfold L11.inU; omega⟩
  case wan s n =>
    unfold mayP at h
    simp only [Bool.and_eq_true] at h
    have h1 := okW_in h.1
    have h2 := okW_in h.2
    exact ⟨by unfold inI; omega, by unfold inI; omega⟩
  case txx t => exact (right_wf h).le (by omega)
  case non => trivial
theorem mayM_wf {m : Mes} (h : mayM m = true) : m.wf := by
  have h1 := may_facts h
  have hk := ok_kind h1.1
  rw [ok_mayP] at h1
  have h2 := made_wf (k := m.kind) (by unfold inI; omega) (mayP_wf h1.1)
  rw [← only_made, ← h1.2] at h2
  exact h2
/-- What Parse tells of bytes, opened. -/
theorem parse_twoM (l : List UInt8) (z : Mes × Int) (w : World) (hT : Tabs w) (hl : l.length ≤ 9223372036854775807) (hz : z = parseM l) : Calls Tryd.prog 8 #[.string (str l)] w fun e w' => ∃ A a c B b d C f g, e = .returned (.tuple #[.agg (mesC z.1 (.slice A a c) (.slice B b d) (.slice C f g)), .int .i64 z.2]) ∧ LiesM w' z.1 (.slice A a c) (.slice B b d) (.slice C f g) ∧ Below w.heap.size w w' := by
  refine (parseMs_any l w hl hT).mono ?_
  rintro e w' ⟨P, Q, T, rfl, hL, hb⟩
  rw [← hz] at hL ⊢
  obtain ⟨A, a, c, B, b, d, C, f, g, rfl, rfl, rfl⟩ := hL.form
  exact ⟨A, a, c, B, b, d, C, f, g, rfl, hL, hb⟩
theorem same_selfM (l : List UInt8) : ((str l).toList == (str l).toList) = true := by simp
end Go.Proofs.YtgmejaiifibfoaaDoor
