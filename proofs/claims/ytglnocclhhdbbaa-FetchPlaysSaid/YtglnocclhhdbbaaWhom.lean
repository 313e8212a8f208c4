/-
  Whom; what is asked about a number at a tick.
-/
import Derived.Test.YtglnocclhhdbbaaGot
import Derived.Test.YtglnocclhhdbbaaCutF
set_option linter.unusedSimpArgs false
set_option linter.unusedVariables false
set_option maxRecDepth 10000
namespace Go.Proofs.Ytglnocclhhdbbaa
open Go.RowKit Go.Lib
open L3 (Blk Reads block_of_add add_of_add)
open L6 (Turn moreB fresh From In)
open L4 (isF isF_mk isF_not isF_le isF_gt more)

set_option maxHeartbeats 2000000 in
set_option maxRecDepth 100000 in
theorem whom_any (g : Nat) (s : FS) (v : Value) (t : Int) (w : World) (hb : Blk w g 58 (ftC s v)) (hok : s.ok) (h0 : 0 ≤ t) (h1 : inI t) :
    Calls Try.prog 29 #[.pointer (some ⟨g, 0, none⟩), .int .i64 t] w (gives (.int .i64 (whomV s.f s.me t)) w) := by
  have c0 : w.cell? ⟨g, 0, none⟩ = some (.int .i64 s.f) := hb.cell 0
  have c1 : w.cell? ⟨g, 1, none⟩ = some (.int .i64 s.me) := hb.cell 1
  have ha := fun W => L4.all_any s.f W
  have hm : more 3 s.f = 3 * s.f + 1 := by unfold more; rw [if_pos (isF_mk hok.f1 hok.f2)]
  obtain ⟨q, hq⟩ : ∃ q : Int, q = 3 * s.f := ⟨_, rfl⟩
  rw [hm, ← hq] at ha
  have q3 : 3 ≤ q := by have := hok.f1; omega
  have q9 : q ≤ 9 := by have := hok.f2; omega
  have m0 := hok.m1
  have m1 : s.me ≤ q := by have := hok.m2; omega
  have e1 : t.tmod q = t % q := Int.tmod_eq_emod_of_nonneg h0
  have r0 := Int.emod_nonneg t (show q ≠ 0 by omega)
  have r1 := Int.emod_lt_of_pos t (show 0 < q by omega)
  obtain ⟨r, hr⟩ : ∃ r, r = t % q := ⟨_, rfl⟩
  rw [← hr] at e1 r0 r1
  have e2 : (s.me + 1 + r).tmod (q + 1) = (s.me + 1 + r) % (q + 1) := Int.tmod_eq_emod_of_nonneg (by omega)
  have HV : Hid (whomV s.f s.me t = (s.me + 1 + r) % (q + 1)) := Lib.hid (by unfold whomV; rw [← hq, ← hr])
  have eq1 : q + 1 - 1 = q := by omega
  have nq : (q == 0) = false := beq_eq_false_iff_ne.2 (by omega)
  have nq1 : (q + 1 == 0) = false := beq_eq_false_iff_ne.2 (by omega)
  have nq2 : ¬ q = 0 := by omega
  have nq3 : ¬ q + 1 = 0 := by omega
  clear hm hq hr hb
  go_enter Try.func29, Try.ntmps29
  go_upto_region 2 with (first
    | (go_at_call 17; refine (ha _).mono ?_; rintro e w1 ⟨rfl, rfl⟩)
    | go_in)
  go_quiet (fail)
  go_wp2
  go_ret
  exact ⟨by rw [HV.out, ← e2]; rfl, L6.below_drewN (Below.refl _ _) _⟩
set_option maxHeartbeats 2000000 in
set_option maxRecDepth 100000 in
theorem tickF_any (B g : Nat) (tries : Int) (x : Wnt) (W : World) (hB : W.cell? ⟨B, 0, none⟩ = some (.pointer (some ⟨g, 0, none⟩))) (hg : W.cell? ⟨g, 3, none⟩ = some (.int .i64 tries)) :
    Calls Try.prog 28 #[.agg (wnC x), .pointer (some ⟨B, 0, none⟩)] W (gives (.bool (decide (x.t = tries))) W) := by
  have hb0 := below_new W (.cells (wnC x) 63)
  have c1 : (W.alloc (.cells (wnC x) 63)).cell? ⟨W.heap.size, 1, none⟩ = some (.int .i64 x.t) := (wbox_new W _ x).cell 1
  have lB : B < W.heap.size := World.block_lt_of_cell? _ _ hB
  have lg : g < W.heap.size := World.block_lt_of_cell? _ _ hg
  have d0 := (hb0.cell (p := ⟨B, 0, none⟩) lB).trans hB
  have d1 := (hb0.cell (p := ⟨g, 3, none⟩) lg).trans hg
  have hbx : (x.t == tries) = decide (x.t = tries) := by rw [Bool.eq_iff_iff]; simp
  obtain ⟨b, hbb⟩ : ∃ b, b = decide (x.t = tries) := ⟨_, rfl⟩
  rw [← hbb] at hbx ⊢
  clear hB hg hbb lB lg
  go_enter Try.func28, Try.ntmps28
  go_upto_region 1 with fail
  go_quiet (fail)
  go_wp2
  go_ret
  exact ⟨by first | rfl | rw [hbx], L6.below_drewN hb0 _⟩
end Go.Proofs.Ytglnocclhhdbbaa
