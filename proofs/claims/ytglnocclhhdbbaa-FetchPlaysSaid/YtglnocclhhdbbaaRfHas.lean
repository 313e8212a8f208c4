/-
  The document's table: made; whether a number is wanted; whom.
-/
import Derived.Test.YtglnocclhhdbbaaRfV
set_option linter.unusedSimpArgs false
set_option linter.unusedVariables false
set_option maxRecDepth 10000
namespace Go.Proofs.Ytglnocclhhdbbaa
open Go.RowKit Go.Lib
open L3 (Blk Reads block_of_add add_of_add)
open L6 (Turn moreB fresh From In)
open L4 (isF isF_mk isF_not isF_le isF_gt more)

def zeroFS : FS := ⟨0, 0, 0, 0, []⟩
theorem rfNew (w : World) (s : FS) (u v : Value) : Blk (w.alloc (.cells (rfV s u v) 30)) w.heap.size 30 (rfV s u v) := Blk.new _ _ _
theorem build_rf0 (w : World) : (Instr.build 30 #[]).run Try.prog w = .ok (.agg (rfV zeroFS (.slice none 0 0) (.slice none 0 0))) w := run_build w _ _ _ (by kernel_rfl)
theorem build_rf (f me most tries : Int) (w : World) : (Instr.build 30 #[(0, .int .i64 f), (1, .int .i64 me), (2, .int .i64 most), (3, .int .i64 tries)]).run Try.prog w = .ok (.agg (rfV ⟨f, me, most, tries, []⟩ (.slice none 0 0) (.slice none 0 0))) w := run_build w _ _ _ (by kernel_rfl)
/-- What its New tells. -/
def RNewPost (s : FS) (k : Int) (w : World) (e : Ending) (w' : World) : Prop := gives (.tuple #[.agg (rfV s (.slice none 0 0) (.slice none 0 0)), .int .i64 k]) w e w'
set_option maxHeartbeats 2000000 in
set_option maxRecDepth 100000 in
theorem rnew_arg (f me most tries : Int) (w : World) (hf : inI f) (h : isF f = false ∨ most < 1 ∨ 16 < most ∨ tries < 1) : Calls Try.prog 8 #[.int .i64 f, .int .i64 me, .int .i64 most, .int .i64 tries] w (RNewPost zeroFS 1 w) := by
  have ha := fun W => L4.refall_any f W hf.1 hf.2
  have k0 : Blk (w.alloc (.cells (rfV zeroFS (.slice none 0 0) (.slice none 0 0)) 30)) w.heap.size 30 (rfV zeroFS (.slice none 0 0) (.slice none 0 0)) := rfNew w _ _ _
  have hb0 := below_new w (.cells (rfV zeroFS (.slice none 0 0) (.slice none 0 0)) 30)
  rcases Bool.eq_false_or_eq_true (isF f) with hf | hf
  · have hmm : more 3 f = 3 * f + 1 := by unfold more; rw [if_pos hf]
    have hm0 : (3 * f + 1 == 0) = false := by have := isF_le hf; exact beq_eq_false_iff_ne.2 (by omega)
    rw [hmm] at ha
    rcases (show most < 1 ∨ (¬ most < 1 ∧ 16 < most) ∨ (¬ most < 1 ∧ ¬ 16 < most ∧ tries < 1) by rcases h with h | h; (rw [hf] at h; cases h); omega) with h1 | ⟨h1, h2⟩ | ⟨h1, h2, h3⟩
    all_goals
      clear h hmm
      go_enter Try.func8, Try.ntmps8
      go_wp2_with (first
        | (go_at_call 22; refine (ha _).mono ?_; rintro e w1 ⟨rfl, rfl⟩)
        | (refine wpList_build rfl _ _ rfl #[] rfl (build_rf0 _) ?_)
        | (refine wpList_store_row rfl _ _ _ rfl w.heap.size (rfV zeroFS (.slice none 0 0) (.slice none 0 0)) rfl rfl _ _ k0 rfInfo rfl (rfV_ones _ _ _ _ _ _ _) ?_)
        | go_in)
      (try simp only [Exit.inBlock, Exit.then])
      refine bodyPost_ret (results_row2 rfl _ _ w.heap.size rfl _ rfl _ (rfV zeroFS (.slice none 0 0) (.slice none 0 0)) _ _ (blk_setRow k0) Try.underlying30 rfl rfInfo) rfl ?_
      exact ⟨rfl, below_setRow hb0 (Nat.le_refl _)⟩
  · have hmm : more 3 f = 0 := by unfold more; rw [if_neg (by rw [hf]; decide)]
    rw [hmm] at ha
    clear h
    go_enter Try.func8, Try.ntmps8
    go_wp2_with (first
      | (go_at_call 22; refine (ha _).mono ?_; rintro e w1 ⟨rfl, rfl⟩)
      | (refine wpList_build rfl _ _ rfl #[] rfl (build_rf0 _) ?_)
      | (refine wpList_store_row rfl _ _ _ rfl w.heap.size (rfV zeroFS (.slice none 0 0) (.slice none 0 0)) rfl rfl _ _ k0 rfInfo rfl (rfV_ones _ _ _ _ _ _ _) ?_)
      | go_in)
    (try simp only [Exit.inBlock, Exit.then])
    refine bodyPost_ret (results_row2 rfl _ _ w.heap.size rfl _ rfl _ (rfV zeroFS (.slice none 0 0) (.slice none 0 0)) _ _ (blk_setRow k0) Try.underlying30 rfl rfInfo) rfl ?_
    exact ⟨rfl, below_setRow hb0 (Nat.le_refl _)⟩
set_option maxHeartbeats 2000000 in
set_option maxRecDepth 100000 in
theorem rnew_more (f me most tries : Int) (w : World) (hI : inI f) (hf : isF f = true) (h1 : 1 ≤ most) (h2 : most ≤ 16) (h3 : 1 ≤ tries) : Calls Try.prog 8 #[.int .i64 f, .int .i64 me, .int .i64 most, .int .i64 tries] w
    (if me < 0 ∨ 3 * f + 1 ≤ me then RNewPost zeroFS 40 w else RNewPost ⟨f, me, most, tries, []⟩ 0 w) := by
  have ha := fun W => L4.refall_any f W hI.1 hI.2
  have k0 : Blk (w.alloc (.cells (rfV zeroFS (.slice none 0 0) (.slice none 0 0)) 30)) w.heap.size 30 (rfV zeroFS (.slice none 0 0) (.slice none 0 0)) := rfNew w _ _ _
  have hb0 := below_new w (.cells (rfV zeroFS (.slice none 0 0) (.slice none 0 0)) 30)
  have hmm : more 3 f = 3 * f + 1 := by unfold more; rw [if_pos hf]
  have hm0 : (3 * f + 1 == 0) = false := by have := isF_le hf; exact beq_eq_false_iff_ne.2 (by omega)
  rw [hmm] at ha
  have g1 : ¬ most < 1 := by omega
  have g2 : ¬ 16 < most := by omega
  have g3 : ¬ tries < 1 := by omega
  clear hmm h1 h2 h3 hI hf
  rcases (show me < 0 ∨ (¬ me < 0 ∧ 3 * f + 1 ≤ me) ∨ (¬ me < 0 ∧ ¬ 3 * f + 1 ≤ me) by omega) with h1 | ⟨h1, h2⟩ | ⟨h1, h2⟩
  · rw [if_pos (.inl h1)]
    go_enter Try.func8, Try.ntmps8
    go_wp2_with (first
      | (go_at_call 22; refine (ha _).mono ?_; rintro e w1 ⟨rfl, rfl⟩)
      | (refine wpList_build rfl _ _ rfl #[] rfl (build_rf0 _) ?_)
      | (refine wpList_store_row rfl _ _ _ rfl w.heap.size (rfV zeroFS (.slice none 0 0) (.slice none 0 0)) rfl rfl _ _ k0 rfInfo rfl (rfV_ones _ _ _ _ _ _ _) ?_)
      | go_in)
    (try simp only [Exit.inBlock, Exit.then])
    refine bodyPost_ret (results_row2 rfl _ _ w.heap.size rfl _ rfl _ (rfV zeroFS (.slice none 0 0) (.slice none 0 0)) _ _ (blk_setRow k0) Try.underlying30 rfl rfInfo) rfl ?_
    exact ⟨rfl, below_setRow hb0 (Nat.le_refl _)⟩
  · rw [if_pos (.inr h2)]
    go_enter Try.func8, Try.ntmps8
    go_wp2_with (first
      | (go_at_call 22; refine (ha _).mono ?_; rintro e w1 ⟨rfl, rfl⟩)
      | (refine wpList_build rfl _ _ rfl #[] rfl (build_rf0 _) ?_)
      | (refine wpList_store_row rfl _ _ _ rfl w.heap.size (rfV zeroFS (.slice none 0 0) (.slice none 0 0)) rfl rfl _ _ k0 rfInfo rfl (rfV_ones _ _ _ _ _ _ _) ?_)
      | go_in)
    (try simp only [Exit.inBlock, Exit.then])
    refine bodyPost_ret (results_row2 rfl _ _ w.heap.size rfl _ rfl _ (rfV zeroFS (.slice none 0 0) (.slice none 0 0)) _ _ (blk_setRow k0) Try.underlying30 rfl rfInfo) rfl ?_
    exact ⟨rfl, below_setRow hb0 (Nat.le_refl _)⟩
  · rw [if_neg (by omega)]
    go_enter Try.func8, Try.ntmps8
    go_wp2_with (first
      | (go_at_call 22; refine (ha _).mono ?_; rintro e w1 ⟨rfl, rfl⟩)
      | (refine wpList_build rfl _ _ rfl #[(0, .int .i64 f), (1, .int .i64 me), (2, .int .i64 most), (3, .int .i64 tries)] rfl (build_rf _ _ _ _ _) ?_)
      | (refine wpList_store_row rfl _ _ _ rfl w.heap.size (rfV ⟨f, me, most, tries, []⟩ (.slice none 0 0) (.slice none 0 0)) rfl rfl _ _ k0 rfInfo rfl (rfV_ones _ _ _ _ _ _ _) ?_)
      | go_in)
    (try simp only [Exit.inBlock, Exit.then])
    refine bodyPost_ret (results_row2 rfl _ _ w.heap.size rfl _ rfl _ (rfV ⟨f, me, most, tries, []⟩ (.slice none 0 0) (.slice none 0 0)) _ _ (blk_setRow k0) Try.underlying30 rfl rfInfo) rfl ?_
    exact ⟨rfl, below_setRow hb0 (Nat.le_refl _)⟩

/-! Is it wanted? -/
theorem wanted_nums {L : List Wnt} {n : Int} : wanted L n ↔ n ∈ numsOf L := by
  unfold wanted numsOf
  rw [List.mem_map]
set_option maxHeartbeats 4000000 in
set_option maxRecDepth 100000 in
theorem rhas_any (s : FS) (A : Option Addr) (c : Nat) (v : Value) (l : List Int) (n : Int) (w : World) (hr : RdI w A l) (hl : l.length ≤ 1000) :
    Calls Try.prog 25 #[.agg (rfV s (.slice A l.length c) v), .int .i64 n] w (gives (.bool (decide (n ∈ l))) w) := by
  have HR := Lib.hid hr
  obtain ⟨z, hz⟩ : ∃ z, z = l.length := ⟨_, rfl⟩
  obtain ⟨q, hq⟩ : ∃ q, q = decide (n ∈ l) := ⟨_, rfl⟩
  rw [← hz, ← hq]
  rw [← hz] at hl
  have HZ := Lib.hid hz
  have HQ := Lib.hid hq
  have k0 := rfNew w s (.slice A z c) v
  have hb0 := below_new w (.cells (rfV s (.slice A z c) v) 30)
  obtain ⟨W0, hW0⟩ : ∃ W0, W0 = w.alloc (.cells (rfV s (.slice A z c) v) 30) := ⟨_, rfl⟩
  rw [← hW0] at k0 hb0
  have hE := hW0.symm
  clear hr hz hq hW0
  go_enter Try.func25, Try.ntmps25
  go_upto_region 1 with fail
  clear hE
  go_wp2
  go_loopw [5] (fun i wr => ∃ k : Nat, i = .int .i64 k ∧ k ≤ z ∧ Hid (∀ j (hj : j < l.length), j < k → l[j] ≠ n) ∧ Below W0.heap.size W0 wr) (fun i _ => z - (RowKit.intOf i).toNat)
  case atStart => exact ⟨0, rfl, Nat.zero_le _, Lib.hid (fun j _ hj => absurd hj (by omega)), Below.refl _ _⟩
  case round =>
    obtain ⟨k, rfl, hk, hno, hbw⟩ := hrel
    have hbw2 := nxt hb0 hbw
    have kt := k0.below hbw k0.lt
    have ct : wr.cell? ⟨w.heap.size, 4, none⟩ = some (.slice A z c) := kt.cell 4
    by_cases hlt : k < z
    · have hkL : k < l.length := by rw [← HZ.out]; exact hlt
      obtain ⟨ad, rfl, hadl, c0⟩ := RdI.cell (HR.out.below hbw2) hkL
      obtain ⟨y, hy⟩ : ∃ y, y = l[k] := ⟨_, rfl⟩
      rw [← hy] at c0
      by_cases he : y = n
      · have HE : Hid (q = true) := Lib.hid (by rw [HQ.out]; exact decide_eq_true (by rw [← he, hy]; exact List.getElem_mem hkL))
        have hq : (y == n) = true := by simpa using he
        clear hy hkL he kt
        go_wp2
        go_ret
        exact ⟨by rw [HE.out]; rfl, hbw2⟩
      · have hq : (y == n) = false := by simpa using he
        have HE : Hid (∀ j (hj : j < l.length), j < k + 1 → l[j] ≠ n) := Lib.hid (fun j hj hjk => by
          by_cases c : j < k
          · exact hno.out j hj c
          · obtain rfl : j = k := by omega
            rw [← hy]; exact he)
        clear hy hkL he kt
        go_wp2
        go_roundw
        case rel => exact ⟨k + 1, by go_num, by omega, HE, hbw⟩
        case measure => simp [RowKit.intOf]; omega
    · obtain rfl : k = z := by omega
      have HE : Hid (q = false) := Lib.hid (by
        rw [HQ.out]
        refine decide_eq_false fun hm => ?_
        obtain ⟨j, hj, e⟩ := List.getElem_of_mem hm
        exact hno.out j hj (by rw [HZ.out]; exact hj) e)
      go_wp2
      go_ret
      exact ⟨by rw [HE.out]; rfl, hbw2⟩
set_option maxHeartbeats 2000000 in
set_option maxRecDepth 100000 in
theorem rwhom_any (s : FS) (u v : Value) (t : Int) (w : World) (hok : s.ok) (h0 : 0 ≤ t) (h1 : inI t) :
    Calls Try.prog 30 #[.agg (rfV s u v), .int .i64 t] w (gives (.int .i64 (whomV s.f s.me t)) w) := by
  have k0 := rfNew w s u v
  have hb0 := below_new w (.cells (rfV s u v) 30)
  obtain ⟨W0, hW0⟩ : ∃ W0, W0 = w.alloc (.cells (rfV s u v) 30) := ⟨_, rfl⟩
  rw [← hW0] at k0 hb0
  have hE := hW0.symm
  have c0 : W0.cell? ⟨w.heap.size, 0, none⟩ = some (.int .i64 s.f) := k0.cell 0
  have c1 : W0.cell? ⟨w.heap.size, 1, none⟩ = some (.int .i64 s.me) := k0.cell 1
  have hm : more 3 s.f = 3 * s.f + 1 := by unfold more; rw [if_pos (isF_mk hok.f1 hok.f2)]
  have ha := fun W => L4.refall_any s.f W (by have := hok.f1; omega) (by have := hok.f2; omega)
  obtain ⟨q, hq⟩ : ∃ q : Int, q = 3 * s.f := ⟨_, rfl⟩
  rw [hm, ← hq] at ha
  have q3 : 3 ≤ q := by have := hok.f1; omega
  have q9 : q ≤ 9 := by have := hok.f2; omega
  have m0 := hok.m1
  have m1 : s.me ≤ q := by have := hok.m2; omega
  have e1 : t.tmod q = t % q := Int.tmod_eq_emod_of_nonneg h0
  have r0 := Int.emod_nonneg t (show q ≠ 0 by omega)
  have r1 := Int.emod_lt_of_pos t (show 0 < q by omega)
  obtain ⟨r, hr⟩ : ∃ r, r = t % q := ⟨_, rfl⟩
  rw [← hr] at e1 r0 r1
  have e2 : (s.me + 1 + r).tmod (q + 1) = (s.me + 1 + r) % (q + 1) := Int.tmod_eq_emod_of_nonneg (by omega)
  have HV : Hid (whomV s.f s.me t = (s.me + 1 + r) % (q + 1)) := Lib.hid (by unfold whomV; rw [← hq, ← hr])
  have eq1 : q + 1 - 1 = q := by omega
  have nq2 : ¬ q = 0 := by omega
  have nq3 : ¬ q + 1 = 0 := by omega
  clear hm hq hr hW0 k0
  go_enter Try.func30, Try.ntmps30
  go_upto_region 1 with fail
  clear hE
  go_upto_region 2 with (first
    | (go_at_call 22; refine (ha _).mono ?_; rintro e w1 ⟨rfl, rfl⟩)
    | go_in)
  go_quiet (fail)
  go_wp2
  go_ret
  exact ⟨by rw [HV.out, ← e2]; rfl, L6.below_drewN hb0 _⟩
end Go.Proofs.Ytglnocclhhdbbaa
