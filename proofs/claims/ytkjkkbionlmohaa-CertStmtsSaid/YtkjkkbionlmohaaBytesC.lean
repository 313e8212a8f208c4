/-
  A certificate's bytes, by the code.
-/
import Derived.Test.YtkjkkbionlmohaaCheckC
set_option linter.unusedSimpArgs false
set_option linter.unusedVariables false
namespace Go.Proofs.Ytkjkkbionlmohaa
open Go.RowKit Go.Lib
open L3 (Reads encN encs intCells)

/-- Its numbers in their order. -/
def numsV (c : Crt) : List Int := if c.kind = 0 then [0] else if c.kind = 1 then [1, c.block, c.view, c.round, c.sg] else [2, c.block, c.view, c.round, c.sg, c.height, c.author, c.co]
def bytesV (c : Crt) : List UInt8 := encs (numsV c)
theorem sg_facts {c : Crt} (h : sgV c = true) : (1 ≤ c.block ∧ c.block ≤ 2147483647) ∧ (1 ≤ c.view ∧ c.view ≤ 1048576) ∧ (1 ≤ c.round ∧ c.round ≤ 1073741824) ∧ c.sg ≠ 0 ∧ c.sg < 1024 := by
  unfold sgV at h
  simp only [Bool.and_eq_true] at h
  obtain ⟨⟨⟨⟨a, b⟩, d⟩, f⟩, g⟩ := h
  exact ⟨okW_le a, okW_le b, okW_le d, by simpa using f, of_decide_eq_true g⟩
theorem may_zero {c : Crt} (h : mayV c = true) (hk : c.kind = 0) : c = zeroC := by
  unfold mayV at h
  rw [if_pos hk] at h
  exact of_decide_eq_true h
theorem may_one {c : Crt} (h : mayV c = true) (hk : c.kind = 1) : sgV c = true ∧ c.height = 0 ∧ c.author = 0 ∧ c.co = 0 := by
  unfold mayV at h
  rw [if_neg (by omega), if_pos hk] at h
  simp only [Bool.and_eq_true, decide_eq_true_eq] at h
  exact ⟨h.1.1.1, h.1.1.2, h.1.2, h.2⟩
theorem may_two {c : Crt} (h : mayV c = true) (h0 : c.kind ≠ 0) (h1 : c.kind ≠ 1) : c.kind = 2 ∧ sgV c = true ∧ (1 ≤ c.height ∧ c.height ≤ 3) ∧ (0 ≤ c.author ∧ c.author ≤ 9) ∧ c.co < 1024 := by
  unfold mayV at h
  rw [if_neg h0, if_neg h1] at h
  by_cases h2 : c.kind = 2
  · rw [if_pos h2] at h
    simp only [Bool.and_eq_true] at h
    exact ⟨h2, h.1.1.1, okW_le h.1.1.2, okW_le h.1.2, of_decide_eq_true h.2⟩
  · rw [if_neg h2] at h; cases h
theorem may_nums {c : Crt} (h : mayV c = true) : (numsV c).all L3.okN = true := by
  by_cases h0 : c.kind = 0
  · unfold numsV; rw [if_pos h0]; rfl
  by_cases h1 : c.kind = 1
  · obtain ⟨hs, _⟩ := may_one h h1
    obtain ⟨a, b, d, _, f⟩ := sg_facts hs
    unfold numsV; rw [if_neg h0, if_pos h1]
    simp only [List.all_cons, List.all_nil, Bool.and_true, Bool.and_eq_true]
    exact ⟨rfl, L3.okN_mk (by omega) (by omega), L3.okN_mk (by omega) (by omega), L3.okN_mk (by omega) (by omega), L3.okN_mk (by omega) (by omega)⟩
  · obtain ⟨_, hs, p, q, r⟩ := may_two h h0 h1
    obtain ⟨a, b, d, _, f⟩ := sg_facts hs
    unfold numsV; rw [if_neg h0, if_neg h1]
    simp only [List.all_cons, List.all_nil, Bool.and_true, Bool.and_eq_true]
    exact ⟨rfl, L3.okN_mk (by omega) (by omega), L3.okN_mk (by omega) (by omega), L3.okN_mk (by omega) (by omega), L3.okN_mk (by omega) (by omega), L3.okN_mk (by omega) (by omega), L3.okN_mk (by omega) (by omega), L3.okN_mk (by omega) (by omega)⟩
theorem nums_len (c : Crt) : (numsV c).length ≤ 8 := by unfold numsV; split <;> (try split) <;> simp
theorem bytes_len {c : Crt} (h : mayV c = true) : (bytesV c).length ≤ 72 := by
  have := L3.encs_le _ (may_nums h)
  have := nums_len c
  unfold bytesV
  omega
theorem wrap_u {n : Nat} (h : inU n) : wrap64 (n : Int) = n := by unfold inU at h; unfold wrap64; omega
/-- Bytes that a call made, and no error. -/
def made (l : List UInt8) (w : World) (e : Ending) (w' : World) : Prop :=
  ∃ A c, e = .returned (.tuple #[.slice A l.length c, .int .i64 0]) ∧ Reads w' w'.heap.size 1 A l.length (byteCells l) ∧ l.length ≤ c ∧ Below w.heap.size w w'
theorem made_of {l : List UInt8} {w : World} {e : Ending} {w' : World} (h : L3.wrote l w e w') : made l w e w' := by
  obtain ⟨v, rfl, ho⟩ := h
  obtain ⟨A, c, rfl, hr, hc⟩ := ho.form
  exact ⟨A, c, rfl, hr, hc, ho.2.1⟩
theorem c_nums (zs : List Int) (n : Nat) (A : Option Addr) (k : Nat) (w : World) (hn : zs.length = n) (h : Reads w w.heap.size 1 A n (intCells zs)) (hl : n ≤ 100) (hok : zs.all L3.okN = true) : Calls Try.prog 20 #[.slice A n k] w (made (encs zs) w) := by
  refine (L3.nums_any A n k zs w h (by omega)).mono ?_
  intro e w' h
  rcases h with ⟨_, h⟩ | ⟨h, _⟩
  · exact made_of h
  · rw [hok] at h; cases h
theorem own_below {w w' : World} {base size n : Nat} {e : TypeId} {v : Value} {xs : List Value} (h : w.ownsRow base e size v n xs) (hb : Below w.heap.size w w') : w'.ownsRow base e size v n xs := by
  refine ⟨h.1, ?_⟩
  rcases h.2 with h0 | ⟨g, cap, cur, rfl, hb', hh, h1, h2, h3⟩
  · exact .inl h0
  · exact .inr ⟨g, cap, cur, rfl, hb', (hb.block g (Array.getElem?_eq_some_iff.1 hh).1).trans hh, h1, h2, h3⟩
theorem own_form {w : World} {base : Nat} {e : TypeId} {v : Value} {n : Nat} {xs : List Value} (h : w.ownsRow base e 1 v n xs) : ∃ A c, v = .slice A n c := by
  rcases h.2 with ⟨rfl, h0⟩ | ⟨g, cap, cur, rfl, _⟩
  · exact ⟨none, 0, by rw [h0]⟩
  · exact ⟨_, _, rfl⟩
/-- A row of numbers that was just laid. -/
theorem row_new (w : World) (cs : Array Value) (n : Nat) (hn : n ≤ 100) (hs : cs.size = n) : (w.alloc (.cells cs 2)).ownsRow w.heap.size 2 1 (.slice (some ⟨w.heap.size, 0, none⟩) n n) n cs.toList :=
  World.ownsRow_lit w cs n (Nat.le_refl _) (by unfold maxLen; omega) (by omega)
theorem row_reads (w : World) (cs : Array Value) (n : Nat) (hn : n ≤ 100) (hs : cs.size = n) : Reads (w.alloc (.cells cs 2)) (w.alloc (.cells cs 2)).heap.size 1 (some ⟨w.heap.size, 0, none⟩) n cs.toList :=
  L3.Reads.of_own (row_new w cs n hn hs)
theorem i64Info : (Try.prog.info? 2).map (fun i => (i.zero, i.size, i.bytes)) = some (some (.int .i64 0), 1, 8) := by kernel_rfl
theorem below_grown {W w w' : World} {B base n : Nat} {e : TypeId} {v : Value} {xs : List Value} (hb : Below B W w) (h : w.ownsRow base e 1 v n xs) (hg : w.grownBy w' v.ownBlock) (hB : B ≤ base) (hs : B ≤ w.heap.size) : Below B W w' :=
  hb.grown hg hs (fun k hk => by have := (h.lt k hk).1; omega)
set_option maxHeartbeats 1000000 in
set_option maxRecDepth 100000 in
theorem bytes_no (c : Crt) (w : World) (h : c.wf) (hr : mayV c = false) : Calls Try.prog 7 #[.agg (crtC c)] w (gives (.tuple #[.slice none 0 0, .int .i64 110]) w) := by
  have hb0 : Below w.heap.size w (w.alloc (.cells (crtC c) 24)) := below_box _ c
  have k0 := box_new w 24 c
  have hc := check_any c (w.alloc (.cells (crtC c) 24)) h
  rw [hr] at hc
  have HC := Lib.hid hc
  clear hc h hr
  go_enter Try.func7, Try.ntmps7
  go_wp2_with (first
    | (refine wpList_row_at rfl _ _ rfl w.heap.size rfl _ _ _ _ k0 Try.underlying24 rfl crtInfo ?_)
    | (go_at_call 13; refine HC.out.mono ?_; unfold gives errI; rintro e w1 ⟨rfl, hb1⟩))
  go_ret2
  exact ⟨rfl, nxt hb0 hb1⟩
set_option maxHeartbeats 4000000 in
set_option maxRecDepth 100000 in
theorem bytes_ok (c : Crt) (w : World) (h : c.wf) (hr : mayV c = true) : Calls Try.prog 7 #[.agg (crtC c)] w (made (bytesV c) w) := by
  obtain ⟨i0, hi, hz0, hz1, hz2⟩ := info_parts i64Info
  have hall := may_nums hr
  have hb0 : Below w.heap.size w (w.alloc (.cells (crtC c) 24)) := below_box _ c
  have k0 := box_new w 24 c
  have K0 := Lib.hid (fun w1 (hb : Below (w.alloc (.cells (crtC c) 24)).heap.size (w.alloc (.cells (crtC c) 24)) w1) => k0.below hb (by simp))
  have hc := check_any c (w.alloc (.cells (crtC c) 24)) h
  rw [hr] at hc
  have HC := Lib.hid hc
  have hw6 := wrap_u h.2.2.2.2.2.2.1
  have hw7 := wrap_u h.2.2.2.2.2.2.2
  clear hc h
  by_cases h0 : c.kind = 0
  · obtain rfl := may_zero hr h0
    have e : bytesV zeroC = encs [0] := rfl
    rw [e]
    clear hr h0 hall e hw6 hw7
    go_enter Try.func7, Try.ntmps7
    go_upto_region 4 with (first
      | (refine wpList_row_at rfl _ _ rfl w.heap.size rfl _ _ _ _ k0 Try.underlying24 rfl crtInfo ?_)
      | (go_at_call 13; refine HC.out.mono ?_; unfold gives errI; rintro e w1 ⟨rfl, hb1⟩; have k1 := K0.out _ hb1; have d0 : w1.cell? ⟨w.heap.size, 0, none⟩ = some (.int .i64 0) := k1.cell 0))
    have hbA := nxt hb0 hb1
    clear hb0 hb1 HC K0 k0
    go_upto_region 5 with fail
    refine name_world (fun w2 hw2 => ?_)
    have r2 : Reads w2 w2.heap.size 1 (some ⟨w1.heap.size, 0, none⟩) 1 (intCells [0]) := by rw [hw2]; exact row_reads w1 #[.int .i64 0] 1 (by omega) rfl
    have hb2 : Below w1.heap.size w1 w2 := by rw [hw2]; exact (Below.refl _ _).alloc (Nat.le_refl _) _
    clear hw2 d0
    have d0 : w2.cell? ⟨w.heap.size, 0, none⟩ = some (.int .i64 0) := (k1.below hb2 k1.lt).cell 0
    go_wp2_with (first
      | (go_at_call 20; refine (c_nums [0] 1 _ _ _ rfl r2 (by omega) rfl).mono ?_; unfold made; rintro e w3 ⟨A2, c2, rfl, r3, q3, hb3⟩))
    go_ret2
    exact ⟨A2, c2, rfl, r3, q3, nxt hbA (nxt hb2 hb3)⟩
  by_cases h1 : c.kind = 1
  · have e : bytesV c = encs [1, c.block, c.view, c.round, c.sg] := by unfold bytesV numsV; rw [if_neg h0, if_pos h1]
    rw [e]
    have hN : Hid ([1, c.block, c.view, c.round, (c.sg : Int)].all L3.okN = true) := Lib.hid (by unfold numsV at hall; rw [if_neg h0, if_pos h1] at hall; exact hall)
    have B0 : Hid (∀ w1, L3.Blk w1 w.heap.size 24 (crtC c) → w1.cell? ⟨w.heap.size, 0, none⟩ = some (.int .i64 1)) := Lib.hid (fun w1 k => by rw [← h1]; exact k.cell 0)
    clear hr h0 h1 hall e hw7
    go_enter Try.func7, Try.ntmps7
    go_upto_region 4 with (first
      | (refine wpList_row_at rfl _ _ rfl w.heap.size rfl _ _ _ _ k0 Try.underlying24 rfl crtInfo ?_)
      | (go_at_call 13; refine HC.out.mono ?_; unfold gives errI; rintro e w1 ⟨rfl, hb1⟩; have k1 := K0.out _ hb1; have d0 := B0.out _ k1))
    have hbA := nxt hb0 hb1
    clear hb0 hb1 HC K0 k0
    go_upto_region 5 with fail
    refine name_world (fun w2 hw2 => ?_)
    have own2 : w2.ownsRow w1.heap.size 2 1 (.slice (some ⟨w1.heap.size, 0, none⟩) 1 1) 1 [.int .i64 1] := by rw [hw2]; exact row_new w1 #[.int .i64 1] 1 (by omega) rfl
    have hb2 : Below w1.heap.size w1 w2 := by rw [hw2]; exact (Below.refl _ _).alloc (Nat.le_refl _) _
    clear hw2 d0
    have k2 := k1.below hb2 k1.lt
    obtain ⟨-, d1, d2, d3, d4, d5, d6, d7⟩ := box_of k2
    have d0 := B0.out _ k2
    have hr2 := row_reads w2 #[.int .i64 c.block, .int .i64 c.view, .int .i64 c.round, .int .i64 c.sg] 4 (by omega) rfl
    have own3 := own_below own2 ((Below.refl _ _).alloc (Nat.le_refl _) (.cells #[.int .i64 c.block, .int .i64 c.view, .int .i64 c.round, .int .i64 c.sg] 2))
    have hs2 := hb2.size
    go_upto_region 7 with (first
      | (at_builtin; refine L3.wpList_append_any _ rfl _ _ _ rfl w1.heap.size 2 i0 (.int .i64 0) 1 8 Try.underlying45 hi hz0 hz1 hz2 rfl (by decide) (.slice (some ⟨w1.heap.size, 0, none⟩) 1 1) 1 [.int .i64 1] rfl own3 _ (some ⟨w2.heap.size, 0, none⟩) 4 4 [.int .i64 c.block, .int .i64 c.view, .int .i64 c.round, .int .i64 c.sg] rfl hr2 (by intro u hu; simp at hu; rcases hu with rfl | rfl | rfl | rfl <;> rfl) (by unfold maxLen; omega) (by omega) (by simp; omega) ?_; intro v4 w4 ho4 hg4 _))
    have hb4 : Below w1.heap.size w1 w4 := below_grown (hb2.alloc hb2.size _) own3 hg4 (Nat.le_refl _) (by simp; omega)
    obtain ⟨A4, c4, rfl⟩ := own_form ho4
    have r4 : Reads w4 w4.heap.size 1 A4 5 (intCells [1, c.block, c.view, c.round, c.sg]) := L3.Reads.of_own ho4
    have e0 := B0.out _ (k1.below hb4 k1.lt)
    clear hg4 ho4 own3 hr2 own2 hs2 d0 d1 d2 d3 d4 d5 d6 d7 k2 hi hz0 hz1 hz2
    go_wp2_with (first
      | (go_at_call 20; refine (c_nums _ 5 _ _ _ rfl r4 (by omega) hN.out).mono ?_; unfold made; rintro e w5 ⟨A2, c2, rfl, r2, q2, hb5⟩))
    go_ret2
    exact ⟨A2, c2, rfl, r2, q2, nxt hbA (nxt hb4 hb5)⟩
  have hk2 := (may_two hr h0 h1).1
  have e : bytesV c = encs [2, c.block, c.view, c.round, c.sg, c.height, c.author, c.co] := by unfold bytesV numsV; rw [if_neg h0, if_neg h1]
  rw [e]
  have hN : Hid ([2, c.block, c.view, c.round, (c.sg : Int), c.height, c.author, (c.co : Int)].all L3.okN = true) := Lib.hid (by unfold numsV at hall; rw [if_neg h0, if_neg h1] at hall; exact hall)
  have B0 : Hid (∀ w1, L3.Blk w1 w.heap.size 24 (crtC c) → w1.cell? ⟨w.heap.size, 0, none⟩ = some (.int .i64 2)) := Lib.hid (fun w1 k => by rw [← hk2]; exact k.cell 0)
  clear hr h0 h1 hk2 hall e
  go_enter Try.func7, Try.ntmps7
  go_upto_region 4 with (first
    | (refine wpList_row_at rfl _ _ rfl w.heap.size rfl _ _ _ _ k0 Try.underlying24 rfl crtInfo ?_)
    | (go_at_call 13; refine HC.out.mono ?_; unfold gives errI; rintro e w1 ⟨rfl, hb1⟩; have k1 := K0.out _ hb1; have d0 := B0.out _ k1))
  have hbA := nxt hb0 hb1
  clear hb0 hb1 HC K0 k0
  go_upto_region 5 with fail
  refine name_world (fun w2 hw2 => ?_)
  have own2 : w2.ownsRow w1.heap.size 2 1 (.slice (some ⟨w1.heap.size, 0, none⟩) 1 1) 1 [.int .i64 2] := by rw [hw2]; exact row_new w1 #[.int .i64 2] 1 (by omega) rfl
  have hb2 : Below w1.heap.size w1 w2 := by rw [hw2]; exact (Below.refl _ _).alloc (Nat.le_refl _) _
  clear hw2 d0
  have k2 := k1.below hb2 k1.lt
  obtain ⟨-, d1, d2, d3, d4, d5, d6, d7⟩ := box_of k2
  have d0 := B0.out _ k2
  have hr2 := row_reads w2 #[.int .i64 c.block, .int .i64 c.view, .int .i64 c.round, .int .i64 c.sg] 4 (by omega) rfl
  have own3 := own_below own2 ((Below.refl _ _).alloc (Nat.le_refl _) (.cells #[.int .i64 c.block, .int .i64 c.view, .int .i64 c.round, .int .i64 c.sg] 2))
  have hs2 := hb2.size
  go_upto_region 7 with (first
    | (at_builtin; refine L3.wpList_append_any _ rfl _ _ _ rfl w1.heap.size 2 i0 (.int .i64 0) 1 8 Try.underlying45 hi hz0 hz1 hz2 rfl (by decide) (.slice (some ⟨w1.heap.size, 0, none⟩) 1 1) 1 [.int .i64 2] rfl own3 _ (some ⟨w2.heap.size, 0, none⟩) 4 4 [.int .i64 c.block, .int .i64 c.view, .int .i64 c.round, .int .i64 c.sg] rfl hr2 (by intro u hu; simp at hu; rcases hu with rfl | rfl | rfl | rfl <;> rfl) (by unfold maxLen; omega) (by omega) (by simp; omega) ?_; intro v4 w4 ho4 hg4 _))
  have hb4 : Below w1.heap.size w1 w4 := below_grown (hb2.alloc hb2.size _) own3 hg4 (Nat.le_refl _) (by simp; omega)
  obtain ⟨A4, c4, rfl⟩ := own_form ho4
  have k4 := k1.below hb4 k1.lt
  clear d0 d1 d2 d3 d4 d5 d6 d7 hr2 own3 own2 hs2 k2 hg4
  obtain ⟨-, d1, d2, d3, d4, d5, d6, d7⟩ := box_of k4
  have d0 := B0.out _ k4
  have hs4 := hb4.size
  have hr5 := row_reads w4 #[.int .i64 c.height, .int .i64 c.author, .int .i64 c.co] 3 (by omega) rfl
  have own5 := own_below ho4 ((Below.refl _ _).alloc (Nat.le_refl _) (.cells #[.int .i64 c.height, .int .i64 c.author, .int .i64 c.co] 2))
  go_upto_region 9 with (first
    | (at_builtin; refine L3.wpList_append_any _ rfl _ _ _ rfl w1.heap.size 2 i0 (.int .i64 0) 1 8 Try.underlying45 hi hz0 hz1 hz2 rfl (by decide) (.slice A4 5 c4) 5 ([.int .i64 2] ++ [.int .i64 c.block, .int .i64 c.view, .int .i64 c.round, .int .i64 c.sg]) rfl own5 _ (some ⟨w4.heap.size, 0, none⟩) 3 3 [.int .i64 c.height, .int .i64 c.author, .int .i64 c.co] rfl hr5 (by intro u hu; simp at hu; rcases hu with rfl | rfl | rfl <;> rfl) (by unfold maxLen; omega) (by omega) (by simp; omega) ?_; intro v6 w6 ho6 hg6 _))
  have hb6 : Below w1.heap.size w1 w6 := below_grown (hb4.alloc hb4.size _) own5 hg6 (Nat.le_refl _) (by simp; omega)
  obtain ⟨A6, c6, rfl⟩ := own_form ho6
  have r6 : Reads w6 w6.heap.size 1 A6 8 (intCells [2, c.block, c.view, c.round, c.sg, c.height, c.author, c.co]) := L3.Reads.of_own ho6
  clear hg6 ho6 own5 hr5 ho4 hs4 d0 d1 d2 d3 d4 d5 d6 d7 k4 hi hz0 hz1 hz2
  go_wp2_with (first
    | (go_at_call 20; refine (c_nums _ 8 _ _ _ rfl r6 (by omega) hN.out).mono ?_; unfold made; rintro e w7 ⟨A2, c2, rfl, r2, q2, hb7⟩))
  go_ret2
  exact ⟨A2, c2, rfl, r2, q2, nxt hbA (nxt hb6 hb7)⟩
end Go.Proofs.Ytkjkkbionlmohaa
