/-
  Everybody else is asked: the statement's walk.
-/
import Derived.Test.YtglnocclhhdbbaaAlive
set_option linter.unusedSimpArgs false
set_option linter.unusedVariables false
set_option maxRecDepth 10000
namespace Go.Proofs.Ytglnocclhhdbbaa
open Go.RowKit Go.Lib
open L3 (Blk Reads)
open L6 (Turn moreB fresh From In)
open L4 (isF isF_mk isF_not isF_le isF_gt more)

theorem pop_cnt : ∀ (k n : Nat), n < 2 ^ k → L4.cnt n = popN k n
  | 0, n, h => by
    have : n = 0 := by simpa using h
    subst this
    exact L4.cnt_zero
  | k + 1, n, h => by
    rw [L4.cnt_half, pop_cnt k (n / 2) (by rw [Nat.pow_succ] at h; omega)]
    rfl
theorem cnt_asked {f me i : Nat} (h1 : 1 ≤ f) (h2 : f ≤ 3) (h3 : me < 3 * f + 1) (h4 : i < 40) (h5 : 3 * f ≤ i + 1) : L4.cnt (setN f me (i + 1)) = 3 * f := by
  rw [pop_cnt 32 _ (by have := setN_lt f me h2 (i + 1); omega)]
  exact all_asked h1 h2 h3 h4 h5
/-- A round of the law. -/
structure AlAt (w : World) (g : Nat) (f me q n : Int) (k : Nat) (S : Nat → Prop) (wx : World) : Prop where
  ft : Ft wx S g (oneS f me 4 q n k)
  inn : In wx S
  frm : From w.heap.size S
  bw : Below w.heap.size w wx
theorem AlAt.below {w wx wy : World} {g : Nat} {f me q n : Int} {k : Nat} {S : Nat → Prop} (h : AlAt w g f me q n k S wx) (hb : Below wx.heap.size wx wy) : AlAt w g f me q n k S wy :=
  ⟨h.ft.below hb, h.inn.le hb.size, h.frm, nxt h.bw hb⟩
theorem AlAt.next {w wx wy : World} {g : Nat} {f me q n : Int} {k : Nat} {S : Nat → Prop} (h : AlAt w g f me q n k S wx) (hF : Ft wy (moreB S wx wy) g (oneS f me 4 q n ((k : Int) + 1))) (hT : Turn S wx wy) : AlAt w g f me q n (k + 1) (moreB S wx wy) wy :=
  ⟨by push_cast; exact hF, h.inn.more hT.size, h.frm.more h.bw.size, L6.nxtT h.bw hT h.frm⟩
/-- What a round's question reads. -/
structure AlH (w : World) (g : Nat) (f me q n : Int) (k : Nat) (S : Nat → Prop) (b : Nat) (t j : Int) (wx : World) : Prop where
  c0 : wx.cell? ⟨b, 0, none⟩ = some (.int .i64 n)
  c1 : wx.cell? ⟨b, 1, none⟩ = some (.int .i64 t)
  c2 : wx.cell? ⟨b, 2, none⟩ = some (.int .i64 j)
  a : AlAt w g f me q n k S wx
theorem own_none {w : World} {base : Nat} {v : Value} (h : OwnI w base v []) : ∃ A c, v = .slice A 0 c := by
  rcases h.2 with ⟨rfl, _⟩ | ⟨b, cap, cur, rfl, hb, _⟩
  · exact ⟨_, _, rfl⟩
  · exact ⟨_, _, rfl⟩
set_option maxHeartbeats 4000000 in
set_option maxRecDepth 100000 in
theorem all_walk (f me n tr : Int) (w : World) (hf : inI f) (hme : inI me) (hn : inI n) (htr : 0 ≤ tr ∧ tr ≤ 255) :
    Calls Try.prog 4 #[.int .i64 f, .int .i64 me, .int .i64 n, .int .u8 tr] w fun e w' => e = .returned (.bool true) ∧ Below w.heap.size w w' := by
  have HAL := Lib.hid (alive_any w)
  obtain ⟨r, hr⟩ : ∃ r, r = tr % 40 := ⟨_, rfl⟩
  have r0 : 0 ≤ r := by rw [hr]; exact Int.emod_nonneg _ (by decide)
  have r1 : r < 40 := by rw [hr]; exact Int.emod_lt_of_pos _ (by decide)
  have e1 : tr.tmod 40 = r := by rw [hr]; exact Int.tmod_eq_emod_of_nonneg htr.1
  obtain ⟨t0, t1⟩ := htr
  obtain ⟨q, hq⟩ : ∃ q : Nat, (q : Int) = 1 + r := ⟨(1 + r).toNat, by omega⟩
  have hq' := hq.symm
  have q1 : 1 ≤ q := by omega
  have q40 : q ≤ 40 := by omega
  clear hr hq
  by_cases hbad : isF f = false ∨ me < 0 ∨ 3 * f + 1 ≤ me
  · obtain ⟨k, hk0, HN⟩ : ∃ k : Int, (k != 0) = true ∧ Hid (∀ W, Calls Try.prog 7 #[.int .i64 f, .int .i64 me, .int .i64 4, .int .i64 q] W (gives (.tuple #[.pointer none, .int .i64 k]) W)) := by
      rcases Bool.eq_false_or_eq_true (isF f) with h | h
      · exact ⟨40, by decide, Lib.hid fun W => new_signer f me 4 q W h (by decide) (by decide) (by omega) (by rcases hbad with h2 | h2; (rw [h] at h2; cases h2); exact h2)⟩
      · exact ⟨1, by decide, Lib.hid fun W => new_arg f me 4 q W (.inl h)⟩
    clear hbad
    go_enter Try.func4, Try.ntmps4
    go_wp2_with (first
      | (go_at_call 6; refine HAL.out.mono ?_; unfold gives; rintro e w1 ⟨rfl, hb1⟩)
      | (go_at_call 7; refine (HN.out _).mono ?_; unfold gives; rintro e w2 ⟨rfl, hb2⟩)
      | go_in)
    go_ret
    exact ⟨rfl, nxt hb1 hb2⟩
  · have hfT : isF f = true := by
      rcases Bool.eq_false_or_eq_true (isF f) with h | h
      · exact h
      · exact absurd (.inl h) hbad
    have hm0 : 0 ≤ me := by omega
    have hm1 : me < 3 * f + 1 := by omega
    have HN := Lib.hid (fun W => new_ok f me 4 q W hfT (by decide) (by decide) (by omega) hm0 hm1 ⟨by omega, by omega⟩)
    by_cases hn1 : n < 1
    · have ew : wantE ⟨f, me, 4, q, []⟩ n = 1 := if_pos hn1
      clear hbad
      go_enter Try.func4, Try.ntmps4
      go_wp2_with (first
        | (go_at_call 6; refine HAL.out.mono ?_; unfold gives; rintro e w1 ⟨rfl, hb1⟩)
        | (go_at_call 7; refine (HN.out _).mono ?_; rintro e w2 ⟨rfl, hF2, hb2⟩
           have HWa := want_any hF2 n hn
           rw [ew] at HWa
           have hbz := nxt hb1 hb2)
        | (go_at_call 9; refine HWa.mono ?_; rintro e w3 ⟨rfl, hF3, hT3⟩)
        | go_in)
      go_ret
      exact ⟨rfl, L6.nxtT hbz hT3 (fun k hk => by have := (L6.From.fresh w1 w2) k hk; have := hb1.size; omega)⟩
    · obtain ⟨ew, el⟩ := one_want (f := f) (me := me) (most := 4) (tries := q) (n := n) (by omega) (by decide)
      obtain ⟨F, rfl⟩ := Int.eq_ofNat_of_zero_le (show 0 ≤ f by have := (isF_le hfT).1; omega)
      obtain ⟨M, rfl⟩ := Int.eq_ofNat_of_zero_le hm0
      obtain ⟨f1, f3⟩ := isF_le hfT
      have hmm : more 3 (F : Int) = ((3 * F + 1 : Nat) : Int) := by unfold more; rw [if_pos hfT]; push_cast; rfl
      have HAll := fun W => L4.all_any (F : Int) W
      rw [hmm] at HAll
      clear hbad hmm
      go_enter Try.func4, Try.ntmps4
      go_upto_region 5 with (first
        | (go_at_call 6; refine HAL.out.mono ?_; unfold gives; rintro e w1 ⟨rfl, hb1⟩)
        | (go_at_call 7; refine (HN.out _).mono ?_; rintro e w2 ⟨rfl, hF2, hb2⟩)
        | go_in)
      have HWa := want_any hF2 n hn
      rw [ew] at HWa
      have e : ({ (⟨(F : Int), (M : Int), 4, q, []⟩ : FS) with L := wantL ⟨(F : Int), (M : Int), 4, q, []⟩ n } : FS) = oneS F M 4 q n ((0 : Nat) : Int) := by rw [el]; rfl
      rw [e] at HWa
      have hi2 : In w2 (fresh w1 w2) := L6.In.fresh _ _
      have hf2 : From w.heap.size (fresh w1 w2) := fun k hk => by have := (L6.From.fresh w1 w2) k hk; have := hb1.size; omega
      have hbz := nxt hb1 hb2
      have HWb := Lib.hid HWa
      obtain ⟨g, hg⟩ : ∃ g, g = w1.heap.size := ⟨_, rfl⟩
      rw [← hg] at HWb ⊢
      clear HWa e ew el hF2 hb1 hb2 hg HN HAL
      go_upto_region 9 with (first
        | (go_at_call 9; refine HWb.out.mono ?_; rintro e w3 ⟨rfl, hF3, hT3⟩)
        | go_in)
      have hA0 := Lib.hid (show AlAt w g F M q n 0 (moreB (fresh w1 w2) w2 w3) w3 from ⟨hF3, hi2.more hT3.size, hf2.more (w := w2) (w' := w3) hbz.size, L6.nxtT hbz hT3 hf2⟩)
      clear hF3 hT3 hi2 hf2 hbz HWb
      go_loopw [12, 13] (fun st i wr => ∃ (k : Nat) (S : Nat → Prop), i = .int .i64 k ∧ st = .int .u32 (setN F M k : Nat) ∧ k ≤ q ∧ AlAt w g F M q n k S wr) (fun _ i _ => q - (RowKit.intOf i).toNat)
      case atStart => exact ⟨0, _, rfl, rfl, Nat.zero_le _, hA0.out⟩
      case round =>
        obtain ⟨k, S, rfl, rfl, hk, hA⟩ := hrel
        by_cases hlt : k < q
        · have hF3 : F ≤ 3 := by omega
          have hwv := whomN_is F M k
          have hwr := whomV_range (k := k) f1 f3 hm0 hm1 (by omega)
          rw [hwv] at hwr
          have HT0 := oneTick_any hA.ft hA.inn (by omega)
          unfold OneTick at HT0
          rw [hwv] at HT0
          have HT := Lib.hid HT0
          have HA := Lib.hid hA
          have hsl := setN_lt F M hF3 k
          have hsl2 := setN_lt F M hF3 (k + 1)
          have HP := Lib.hid (fun W => L4.put_any (setN F M k) (whomN F M k) W (by omega) (by omega))
          have HC := Lib.hid (fun W => L4.count_any (setN F M (k + 1)) W (by omega))
          have hca : 3 * F ≤ k + 1 → L4.cnt (setN F M (k + 1)) = 3 * F := fun h => cnt_asked (by omega) hF3 (by omega) (by omega) h
          have hse : setN F M k ||| 2 ^ whomN F M k = setN F M (k + 1) := rfl
          rw [hse] at HP
          obtain ⟨t, ht⟩ : ∃ t, t = whomN F M k := ⟨_, rfl⟩
          obtain ⟨s0, hs0⟩ : ∃ s0, s0 = setN F M k := ⟨_, rfl⟩
          obtain ⟨s1, hs1⟩ : ∃ s1, s1 = setN F M (k + 1) := ⟨_, rfl⟩
          rw [← ht] at HT HP hwr
          rw [← hs0] at HP ⊢
          rw [← hs1] at HP HC hca
          have HS1 := Lib.hid hs1
          obtain ⟨w0, w1', w2'⟩ := hwr
          have n1 : (n != n) = false := by simp
          have n2 : ((k : Int) != (k : Int)) = false := by simp
          have n3 : ((t : Int) == (M : Int)) = false := beq_eq_false_iff_ne.2 w2'
          clear HT0 hA hse ht hs0 hs1 hsl hsl2 hwv
          go_upto_region 12 with (first
            | (go_at_call 13; refine HT.out.mono ?_; rintro e w4 ⟨b, c, rfl, d0, d1, d2, hF4, hT4, hi4⟩)
            | go_in)
          have hN4 := Lib.hid (HA.out.next hF4 hT4)
          generalize hMM : moreB S wr w4 = S4 at hF4 hi4 hN4
          clear hMM hF4 hT4 hi4 HA HT
          (try simp only [Act.put])
          have hS4 : AlH w g F M q n (k + 1) S4 b t k w4.drew := ⟨d0, d1, d2, hN4.out.below (Below.refl _ _).drew⟩
          refine wp_region_S (AlH w g F M q n (k + 1) S4 b t k) (by kernel_rfl) (by kernel_rfl) hS4 ?_
          have ne : Nonempty (WorldIn (AlH w g F M q n (k + 1) S4 b t k)) := ⟨⟨_, hS4⟩⟩
          have p0 : ∀ y : WorldIn (AlH w g F M q n (k + 1) S4 b t k), y.w.cell? ⟨b, 0, none⟩ = some (.int .i64 n) := fun y => y.h.c0
          have p1 : ∀ y : WorldIn (AlH w g F M q n (k + 1) S4 b t k), y.w.cell? ⟨b, 1, none⟩ = some (.int .i64 (t : Int)) := fun y => y.h.c1
          have p2 : ∀ y : WorldIn (AlH w g F M q n (k + 1) S4 b t k), y.w.cell? ⟨b, 2, none⟩ = some (.int .i64 (k : Int)) := fun y => y.h.c2
          clear hS4 hN4 d0 d1 d2
          have m4 : ¬ (t : Int) < 0 := by omega
          have m5 : ¬ ((3 * F + 1 : Nat) : Int) ≤ (t : Int) := by push_cast; omega
          repeat (first
            | (refine wpQuiet_fn rfl 17 _ _ rfl Try.call17 [.int .i64 (F : Int)] rfl (v := .int .i64 ((3 * F + 1 : Nat) : Int)) (fun y => (HAll y.w).mono fun e w' ⟨he, hw⟩ => ⟨he, hw ▸ y.h⟩) ?_
               conv => arg 6; simp only [Act.put, List.setIfInBounds_toArray, List.set_cons_zero, List.set_cons_succ])
            | go_big_quiet_step (fail))
          refine wpQuiet_nil ?_
          intro zz
          obtain ⟨W, hW⟩ := zz
          dsimp only
          have c1 : W.cell? ⟨b, 1, none⟩ = some (.int .i64 (t : Int)) := hW.c1
          have HW := Lib.hid hW.a
          clear hW p0 p1 p2 ne
          have e3 : ((3 * F + 1 : Nat) : Int) - 1 = ((3 * F : Nat) : Int) := by push_cast; omega
          by_cases h3 : 3 * F ≤ k + 1
          · have hcc := hca h3
            rw [hcc] at HC
            have g1 : ((3 * F : Nat) : Int) ≤ (k : Int) + 1 := by push_cast; omega
            have g2 : (((3 * F : Nat) : Int) != ((3 * F : Nat) : Int)) = false := by simp
            go_wp2_with (first
              | (go_at_call 18; refine (HP.out _).mono ?_; rintro e w8 ⟨rfl, rfl⟩)
              | (go_at_call 17; refine (HAll _).mono ?_; rintro e w8 ⟨rfl, rfl⟩)
              | (go_at_call 19; refine (HC.out _).mono ?_; rintro e w8 ⟨rfl, rfl⟩)
              | go_in)
            go_roundw
            case rel => exact ⟨k + 1, S4, by go_num, by rw [HS1.out], by omega, HW.out⟩
            case measure => simp [RowKit.intOf]; omega
          · have g1 : ¬ ((3 * F : Nat) : Int) ≤ (k : Int) + 1 := by push_cast; omega
            go_wp2_with (first
              | (go_at_call 18; refine (HP.out _).mono ?_; rintro e w8 ⟨rfl, rfl⟩)
              | (go_at_call 17; refine (HAll _).mono ?_; rintro e w8 ⟨rfl, rfl⟩)
              | go_in)
            go_roundw
            case rel => exact ⟨k + 1, S4, by go_num, by rw [HS1.out], by omega, HW.out⟩
            case measure => simp [RowKit.intOf]; omega
        · obtain rfl : k = q := by omega
          have HT := Lib.hid (noTick_any hA.ft hA.inn (one_last (f := (F : Int)) (me := (M : Int)) (most := 4) (n := n) (Int.le_refl (k : Int))).1 (one_last (f := (F : Int)) (me := (M : Int)) (most := 4) (n := n) (Int.le_refl (k : Int))).2)
          have HA := Lib.hid hA
          clear hA
          go_wp2_with (first
            | (go_at_call 13; refine HT.out.mono ?_; unfold NoTick; rintro e w6 ⟨A6, c6, rfl, hF6, hT6⟩
               have hb6 := L6.nxtT HA.out.bw hT6 HA.out.frm
               have HW := Lib.hid (wants_any hF6))
            | (go_at_call 16; refine HW.out.mono ?_; unfold WantsPost; rintro e w7 ⟨v7, rfl, ho7, hb7⟩
               obtain ⟨A7, c7, rfl⟩ := own_none ho7)
            | go_in)
          go_ret
          exact ⟨rfl, nxt hb6 hb7⟩
end Go.Proofs.Ytglnocclhhdbbaa
