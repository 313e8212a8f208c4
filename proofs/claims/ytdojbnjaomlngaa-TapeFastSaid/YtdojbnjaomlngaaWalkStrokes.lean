/-
  Where the fuse ends a write: the statement's walk.
-/
import Derived.Test.YtdojbnjaomlngaaAlive
set_option linter.unusedSimpArgs false
set_option linter.unusedVariables false
set_option maxRecDepth 10000
namespace Go.Proofs.Ytdojbnjaomlngaa
open Go.RowKit Go.Lib
open L3 (Blk Reads)
open L6 (Turn moreB fresh From In)

/-- A tape of the call's own. -/
structure TAt (w : World) (g : Nat) (S : Nat → Prop) (t : Tp) (W : World) : Prop where
  tp : Tpe W S g t
  inn : In W S
  frm : From w.heap.size S
  bw : Below w.heap.size w W
theorem TAt.post {w W W' : World} {g : Nat} {S : Nat → Prop} {t t' : Tp} (h : TAt w g S t W) (hT : Tpe W' (moreB S W W') g t') (hU : Turn S W W') : TAt w g (moreB S W W') t' W' :=
  ⟨hT, h.inn.more hU.size, h.frm.more h.bw.size, L6.nxtT h.bw hU h.frm⟩
theorem TAt.below {w W W' : World} {g : Nat} {S : Nat → Prop} {t : Tp} (h : TAt w g S t W) (hb : Below W.heap.size W W') : TAt w g S t W' :=
  ⟨h.tp.below hb, h.inn.le hb.size, h.frm, nxt h.bw hb⟩
theorem TAt.new {w W W' : World} {g : Nat} {t : Tp} (hb : Below w.heap.size w W) (hT : Tpe W' (fresh W W') g t) (hb2 : Below W.heap.size W W') : TAt w g (fresh W W') t W' :=
  ⟨hT, L6.In.fresh _ _, fun k hk => by have := hk.1; have := hb.size; omega, nxt hb hb2⟩
/-- A write of a text's bytes. -/
theorem TAt.write {w W : World} {g : Nat} {S : Nat → Prop} {t : Tp} (h : TAt w g S t W) (l : List UInt8) (hl : l.length ≤ 3000) (hs : t.first + t.held.length + l.length ≤ 1000000000) : ∃ c W1, (convert 9 33 (.string (str l))).run Try.prog W = .ok (.slice (some ⟨W.heap.size, 0, none⟩) l.length c) W1 ∧ TAt w g S t W1 ∧ Calls Try.prog 15 #[.pointer (some ⟨g, 0, none⟩), .slice (some ⟨W.heap.size, 0, none⟩) l.length c] W1 (TpPost (.int .i64 (writeE t l)) S g (writeT t l) W1) := by
  obtain ⟨c, W1, hcv, hrd, hb⟩ := str_bytes W l
  have h1 := h.below hb
  refine ⟨c, W1, hcv, h1, write_any h1.tp h1.inn _ c l (fun ad e hk => ?_) hrd (by omega) hs⟩
  injection e with e
  subst e
  have := h.inn _ hk
  dsimp only at this
  omega
set_option maxHeartbeats 4000000 in
set_option maxRecDepth 100000 in
theorem strokes_walk (s : ByteArray) (k : Int) (m : ByteArray) (w : World) (hk : inI k) : Calls Try.prog 4 #[.string s, .int .i64 k, .string m] w fun e w' => e = .returned (.bool true) ∧ Below w.heap.size w w' := by
  have HA := Lib.hid (fun W => alive_any W)
  by_cases h1 : 3000 < s.size
  · have g1 : 3000 < (s.size : Int) := by omega
    go_enter Try.func4, Try.ntmps4
    go_wp2_with (first
      | (go_at_call 6; refine (HA.out _).mono ?_; unfold gives; rintro e w1 ⟨rfl, hb1⟩)
      | go_in)
    go_ret
    exact ⟨rfl, hb1⟩
  by_cases h2 : 3000 < m.size
  · have g1 : ¬ 3000 < (s.size : Int) := by omega
    have g2 : 3000 < (m.size : Int) := by omega
    go_enter Try.func4, Try.ntmps4
    go_wp2_with (first
      | (go_at_call 6; refine (HA.out _).mono ?_; unfold gives; rintro e w1 ⟨rfl, hb1⟩)
      | go_in)
    go_ret
    exact ⟨rfl, hb1⟩
  by_cases h3 : k < 0
  · have g1 : ¬ 3000 < (s.size : Int) := by omega
    have g2 : ¬ 3000 < (m.size : Int) := by omega
    go_enter Try.func4, Try.ntmps4
    go_wp2_with (first
      | (go_at_call 6; refine (HA.out _).mono ?_; unfold gives; rintro e w1 ⟨rfl, hb1⟩)
      | go_in)
    go_ret
    exact ⟨rfl, hb1⟩
  obtain ⟨a, rfl⟩ : ∃ a, s = str a := ⟨s.data.toList, (str_of s).symm⟩
  obtain ⟨b, rfl⟩ : ∃ b, m = str b := ⟨m.data.toList, (str_of m).symm⟩
  rw [str_size] at h1 h2
  obtain ⟨K, rfl⟩ := Int.eq_ofNat_of_zero_le (show 0 ≤ k by omega)
  have hN := fun W => new_any 1048576 W (by decide)
  have HN := Lib.hid hN
  obtain ⟨q1, q2, q3, q4⟩ := write_fused (room := 1048576) (k := K) (b := a) (by omega)
  have e0 : fuseE (K : Int) = 0 := if_neg h3
  have hst : (fuseT (newTp 1048576) (K : Int)).first + (fuseT (newTp 1048576) (K : Int)).held.length + a.length ≤ 1000000000 := by
    have : fuseT (newTp 1048576) (K : Int) = ⟨0, 0, [], 1048576, some K, true⟩ := by unfold fuseT newTp; rw [if_neg h3]; rfl
    rw [this]
    show 0 + 0 + a.length ≤ _
    omega
  have HST := Lib.hid hst
  obtain ⟨t1, ht1⟩ : ∃ t1, t1 = fuseT (newTp 1048576) (K : Int) := ⟨_, rfl⟩
  have HF := Lib.hid (fun W S g (h : Tpe W S g (newTp 1048576)) => fuse_any h (K : Int) hk)
  rw [e0, ← ht1] at HF
  rw [← ht1] at q1 q2 q3 q4 HST
  have g1 : ¬ 3000 < ((str a).size : Int) := by rw [str_size]; omega
  have g2 : ¬ 3000 < ((str b).size : Int) := by rw [str_size]; omega
  obtain ⟨n, hn⟩ : ∃ n, n = a.length := ⟨_, rfl⟩
  have es : (str a).size = n := by rw [str_size, hn]
  have HQ := Lib.hid (And.intro q1 (And.intro q2 (And.intro q3 q4)))
  have HB := Lib.hid (And.intro h1 h2)
  clear hst ht1 q1 q2 q3 q4 e0 hN
  go_enter Try.func4, Try.ntmps4
  go_upto_region 8 with (first
    | (go_at_call 6; refine (HA.out _).mono ?_; unfold gives; rintro e w1 ⟨rfl, hb1⟩)
    | (go_at_call 7; refine (HN.out _).mono ?_; rintro e w2 ⟨rfl, hT2, hb2⟩
       have hF2 := HF.out _ _ _ hT2
       have hA2 := TAt.new hb1 hT2 hb2)
    | (go_at_call 14; refine hF2.mono ?_; rintro e w3 hp; obtain ⟨rfl, hT3, hU3⟩ := hp
       have hA3 := hA2.post hT3 hU3)
    | go_in)
  obtain ⟨c4, W4, hcv4, hA4, hW4⟩ := hA3.write a (by have := HB.out.1; omega) HST.out
  obtain ⟨q1, q2, q3, q4⟩ := HQ.out
  obtain ⟨g, hg⟩ : ∃ g, g = w1.heap.size := ⟨_, rfl⟩
  obtain ⟨S4, hS4⟩ : ∃ S4, S4 = moreB (fresh w1 w2) w2 w3 := ⟨_, rfl⟩
  rw [← hg, ← hS4] at hA4 hW4
  rw [← hg]
  obtain ⟨t2, ht2⟩ : ∃ t2, t2 = writeT t1 a := ⟨_, rfl⟩
  rw [← ht2] at hW4 q2 q3 q4
  have HA4 := Lib.hid hA4
  clear hg hS4 hA3 hA2 hF2 hT2 hT3 hU3 hb1 hb2 hA4 HQ HA HN HF ht2
  by_cases hnK : a.length ≤ K
  · rw [if_pos hnK] at q1
    rw [q1] at hW4
    have es2 : min a.length K = a.length := Nat.min_eq_left hnK
    rw [es2] at q2
    have eo : t2.on = true := by rw [q3]; exact decide_eq_true hnK
    have HW4 := Lib.hid hW4
    have HE := Lib.hid (And.intro q2 eo)
    clear q1 q2 q3 q4 es2 eo hW4 hn es
    have hle : (a.length : Int) ≤ (K : Int) := by omega
    go_wp2_with (first
      | (go_at_call 15; refine HW4.out.mono ?_; rintro e w5 hp; obtain ⟨rfl, hT5, hU5⟩ := hp
         have hA5 := HA4.out.post hT5 hU5
         have hP5 := places_any hA5.tp
         rw [HE.out.1] at hP5)
      | (go_at_call 13; refine hP5.mono ?_; unfold gives; rintro e w6 ⟨rfl, hb6⟩
         have hA6 := hA5.below hb6
         have hO6 := on_any hA6.tp
         rw [HE.out.2] at hO6)
      | (go_at_call 10; refine hO6.mono ?_; unfold gives; rintro e w7 ⟨rfl, hb7⟩)
      | go_in)
    go_ret
    exact ⟨rfl, (hA6.below hb7).bw⟩
  · rw [if_neg hnK] at q1
    rw [q1] at hW4
    have es2 : min a.length K = K := by omega
    rw [es2] at q2
    have eo : t2.on = false := by rw [q3]; exact decide_eq_false hnK
    have HW4 := Lib.hid hW4
    have HE := Lib.hid (And.intro q2 (And.intro eo q4))
    have e6 : writeE t2 b = 170 ∧ writeT t2 b = t2 := ⟨by unfold writeE; rw [if_pos eo], by unfold writeT; rw [if_pos eo]⟩
    have e7 : strokeE t2 = 170 ∧ holdT t2 = t2 := ⟨by unfold strokeE; rw [if_pos eo], by unfold holdT strokeT; rw [if_pos eo]⟩
    have H67 := Lib.hid (And.intro e6 e7)
    clear q1 q2 q3 q4 es2 eo hW4 hn es e6 e7
    have hle : ¬ (a.length : Int) ≤ (K : Int) := by omega
    have hfi : t2.first + t2.held.length + b.length ≤ 1000000000 := by
      have h9 : t2.first + t2.held.length = K := HE.out.1
      have := HB.out
      omega
    have HFI := Lib.hid hfi
    clear hfi
    go_upto_region 12 with (first
      | (go_at_call 15; refine HW4.out.mono ?_; rintro e w5 hp; obtain ⟨rfl, hT5, hU5⟩ := hp
         have hA5 := HA4.out.post hT5 hU5
         have hP5 := places_any hA5.tp
         rw [HE.out.1, HE.out.2.2] at hP5)
      | (go_at_call 13; refine hP5.mono ?_; unfold gives; rintro e w6 ⟨rfl, hb6⟩
         have hA6 := hA5.below hb6)
      | go_in)
    obtain ⟨c7, W7, hcv7, hA7, hW7⟩ := hA6.write b (by have := HB.out.2; omega) HFI.out
    rw [H67.out.1.1, H67.out.1.2] at hW7
    have HA7 := Lib.hid hA7
    have HW7 := Lib.hid hW7
    clear hA6 hA5 hT5 hU5 hP5 hb6 hcv4 hA7 hW7
    go_wp2_with (first
      | (go_at_call 15; refine HW7.out.mono ?_; rintro e w8 hp; obtain ⟨rfl, hT8, hU8⟩ := hp
         have hA8 := HA7.out.post hT8 hU8
         have hH8 := hold_any hA8.tp hA8.inn
         rw [H67.out.2.1, H67.out.2.2] at hH8)
      | (go_at_call 16; refine hH8.mono ?_; rintro e w9 hp; obtain ⟨rfl, hT9, hU9⟩ := hp
         have hA9 := hA8.post hT9 hU9
         have hP9 := places_any hA9.tp
         rw [HE.out.1, HE.out.2.2] at hP9)
      | (go_at_call 13; refine hP9.mono ?_; unfold gives; rintro e w10 ⟨rfl, hb10⟩
         have hA10 := hA9.below hb10
         have hO10 := on_any hA10.tp
         rw [HE.out.2.1] at hO10)
      | (go_at_call 10; refine hO10.mono ?_; unfold gives; rintro e w11 ⟨rfl, hb11⟩)
      | go_in)
    go_ret
    exact ⟨rfl, (hA10.below hb11).bw⟩
end Go.Proofs.Ytdojbnjaomlngaa
