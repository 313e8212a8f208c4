/-
  One of the document's calls over a tape.
-/
import Derived.Test.YtdojbnjaomlngaaDoA
set_option linter.unusedSimpArgs false
set_option linter.unusedVariables false
set_option maxRecDepth 10000
namespace Go.Proofs.Ytdojbnjaomlngaa
open Go.RowKit Go.Lib
open L3 (Blk Reads block_of_add add_of_add)
open L6 (Turn moreB fresh From In)

theorem Tpe.grow {w w1 : World} {S : Nat → Prop} {g : Nat} {t : Tp} (h : Tpe w S g t) (hS : In w S) (hb : Below w.heap.size w w1) : Tpe w1 S g t ∧ In w1 S := ⟨h.below hb, hS.le hb.size⟩
theorem doT_0 (t : Tp) (n : Int) (s : List UInt8) : doE t ⟨0, n, s⟩ = writeE t s ∧ doT t ⟨0, n, s⟩ = writeT t s := ⟨rfl, rfl⟩
theorem doT_1 (t : Tp) (n : Int) (s : List UInt8) : doE t ⟨1, n, s⟩ = strokeE t ∧ doT t ⟨1, n, s⟩ = holdT t := ⟨rfl, rfl⟩
theorem doT_2 (t : Tp) (n : Int) (s : List UInt8) : doE t ⟨2, n, s⟩ = shedE t n ∧ doT t ⟨2, n, s⟩ = shedT t n := ⟨rfl, rfl⟩
theorem doT_3 (t : Tp) (n : Int) (s : List UInt8) : doE t ⟨3, n, s⟩ = backE t n ∧ doT t ⟨3, n, s⟩ = backT t n := ⟨rfl, rfl⟩
theorem doT_4 (t : Tp) (n : Int) (s : List UInt8) : doE t ⟨4, n, s⟩ = fuseE n ∧ doT t ⟨4, n, s⟩ = fuseT t n := ⟨rfl, rfl⟩
theorem doT_5 (t : Tp) (n : Int) (s : List UInt8) : doE t ⟨5, n, s⟩ = 0 ∧ doT t ⟨5, n, s⟩ = crashT t n := ⟨rfl, rfl⟩
theorem doT_x (t : Tp) {k : Int} (n : Int) (s : List UInt8) (k0 : (k == 0) = false) (k1 : (k == 1) = false) (k2 : (k == 2) = false) (k3 : (k == 3) = false) (k4 : (k == 4) = false) (k5 : (k == 5) = false) : doE t ⟨k, n, s⟩ = (if t.on = false then 170 else 0) ∧ doT t ⟨k, n, s⟩ = t := by
  have g0 : ¬ k = 0 := by simpa using k0
  have g1 : ¬ k = 1 := by simpa using k1
  have g2 : ¬ k = 2 := by simpa using k2
  have g3 : ¬ k = 3 := by simpa using k3
  have g4 : ¬ k = 4 := by simpa using k4
  have g5 : ¬ k = 5 := by simpa using k5
  unfold doE doT
  dsimp only
  exact ⟨by rw [if_neg g0, if_neg g1, if_neg g2, if_neg g3, if_neg g4, if_neg g5], by rw [if_neg g0, if_neg g1, if_neg g2, if_neg g3, if_neg g4, if_neg g5]⟩
set_option maxHeartbeats 4000000 in
set_option maxRecDepth 100000 in
theorem do_any {w : World} {S : Nat → Prop} {g : Nat} {t : Tp} (h : Tpe w S g t) (hS : In w S) (x : Actx) (hx : x.fit) (hl : x.s.length ≤ 3000) (hs : t.first + t.held.length + x.s.length ≤ 1000000000) :
    Calls Try.prog 9 #[.pointer (some ⟨g, 0, none⟩), .agg (acC x)] w (TpPost (.int .i64 (doE t x)) S g (doT t x) w) := by
  obtain ⟨hb1, c0, c1, c2⟩ := box_any w x
  obtain ⟨k, n, s⟩ := x
  dsimp only at c0 c1 c2
  unfold acC at *
  dsimp only at *
  obtain ⟨w1, hw1⟩ : ∃ w1, w.alloc (.cells #[.int .i64 k, .int .i64 n, .string (str s)] 31) = w1 := ⟨_, rfl⟩
  rw [hw1] at hb1 c0 c1 c2
  obtain ⟨c, w2, hcv, hrd, hb2⟩ := str_bytes w1 s
  have hb3 := nxt hb1 hb2
  obtain ⟨h1, hS1⟩ := h.grow hS hb1
  obtain ⟨h2, hS2⟩ := h.grow hS hb3
  have hn := hx.n
  dsimp only at hn
  rcases kinds k with rfl | rfl | rfl | rfl | rfl | rfl | ⟨k0, k1, k2, k3, k4, k5⟩
  · obtain ⟨e1, e2⟩ := doT_0 t n s
    have HW := Lib.hid (write_any h2 hS2 (some ⟨w1.heap.size, 0, none⟩) c s (fun ad e hk => by injection e with e; subst e; have := hS1 _ hk; dsimp only at this; omega) hrd (by omega) hs)
    rw [e1, e2]
    clear h h1 h2 hS hS1 hS2 hx hl hs hrd e1 e2
    go_enter Try.func9, Try.ntmps9
    go_wp2_with (first
      | (go_at_call 15; refine HW.out.mono ?_; rintro e w3 hp; obtain ⟨rfl, hT3, hU3⟩ := hp)
      | go_in)
    go_ret
    exact TpPost.back hb3 ⟨rfl, hT3, hU3⟩
  · obtain ⟨e1, e2⟩ := doT_1 t n s
    have HW := Lib.hid (hold_any h1 hS1)
    rw [e1, e2]
    clear h h1 h2 hS hS1 hS2 hx hl hs hrd e1 e2 hcv
    go_enter Try.func9, Try.ntmps9
    go_wp2_with (first
      | (go_at_call 16; refine HW.out.mono ?_; rintro e w3 hp; obtain ⟨rfl, hT3, hU3⟩ := hp)
      | go_in)
    go_ret
    exact TpPost.back hb1 ⟨rfl, hT3, hU3⟩
  · obtain ⟨e1, e2⟩ := doT_2 t n s
    have HW := Lib.hid (shed_any h1 hS1 n)
    rw [e1, e2]
    clear h h1 h2 hS hS1 hS2 hx hl hs hrd e1 e2 hcv
    go_enter Try.func9, Try.ntmps9
    go_wp2_with (first
      | (go_at_call 17; refine HW.out.mono ?_; rintro e w3 hp; obtain ⟨rfl, hT3, hU3⟩ := hp)
      | go_in)
    go_ret
    exact TpPost.back hb1 ⟨rfl, hT3, hU3⟩
  · obtain ⟨e1, e2⟩ := doT_3 t n s
    have HW := Lib.hid (back_any h1 hS1 n)
    rw [e1, e2]
    clear h h1 h2 hS hS1 hS2 hx hl hs hrd e1 e2 hcv
    go_enter Try.func9, Try.ntmps9
    go_wp2_with (first
      | (go_at_call 18; refine HW.out.mono ?_; rintro e w3 hp; obtain ⟨rfl, hT3, hU3⟩ := hp)
      | go_in)
    go_ret
    exact TpPost.back hb1 ⟨rfl, hT3, hU3⟩
  · obtain ⟨e1, e2⟩ := doT_4 t n s
    have HW := Lib.hid (fuse_any h1 n hn)
    rw [e1, e2]
    clear h h1 h2 hS hS1 hS2 hx hl hs hrd e1 e2 hcv
    go_enter Try.func9, Try.ntmps9
    go_wp2_with (first
      | (go_at_call 14; refine HW.out.mono ?_; rintro e w3 hp; obtain ⟨rfl, hT3, hU3⟩ := hp)
      | go_in)
    go_ret
    exact TpPost.back hb1 ⟨rfl, hT3, hU3⟩
  · obtain ⟨e1, e2⟩ := doT_5 t n s
    have HW := Lib.hid (crash_any h1 n hn)
    rw [e1, e2]
    clear h h1 h2 hS hS1 hS2 hx hl hs hrd e1 e2 hcv
    go_enter Try.func9, Try.ntmps9
    go_wp2_with (first
      | (go_at_call 11; refine HW.out.mono ?_; rintro e w3 hp; obtain ⟨rfl, hT3, hU3⟩ := hp)
      | go_in)
    go_ret
    exact TpPost.back hb1 ⟨rfl, hT3, hU3⟩
  · obtain ⟨e1, e2⟩ := doT_x t n s k0 k1 k2 k3 k4 k5
    rw [e1, e2]
    have HH := Lib.hid h
    rcases Bool.eq_false_or_eq_true t.on with ho | ho
    · have HW := Lib.hid (read_on h1 ho)
      rw [if_neg (by rw [ho]; decide)]
      clear h h1 h2 hS hS1 hS2 hx hl hs hrd e1 e2 hcv
      go_enter Try.func9, Try.ntmps9
      go_wp2_with (first
        | (go_at_call 12; refine HW.out.mono ?_; rintro e w3 ⟨A3, c3, rfl, hT3⟩; have hb4 := hT3.bw)
        | go_in)
      go_ret
      exact TpPost.same HH.out rfl (nxt hb1 hb4)
    · have HW := Lib.hid (read_off h1 ho)
      rw [if_pos ho]
      clear h h1 h2 hS hS1 hS2 hx hl hs hrd e1 e2 hcv
      go_enter Try.func9, Try.ntmps9
      go_wp2_with (first
        | (go_at_call 12; refine HW.out.mono ?_; unfold gives; rintro e w3 ⟨rfl, hb4⟩)
        | go_in)
      go_ret
      exact TpPost.same HH.out rfl (nxt hb1 hb4)
end Go.Proofs.Ytdojbnjaomlngaa
