/-
  A transaction's words, by the code.
-/
import Derived.Test.YtfoabgjcndgflaaDoorBytesT
import Derived.Deep.RegionHeld3
import Derived.Deep.DeepCutAuto
import Derived.Deep.QuietTactic
import Derived.BigQuiet
set_option linter.unusedSimpArgs false
set_option linter.unusedVariables false
namespace Go.Proofs.YtfoabgjcndgflaaDoor
open Go.RowKit Go.Lib

theorem dgs_len {n : Int} (h : posN n = true) : (dgs n).length ≤ 20 := by
  have := posN_in h
  unfold dgs
  rw [decDigits_length]
  exact nDigits_le20 _ (by omega)
set_option maxHeartbeats 1000000 in
set_option maxRecDepth 100000 in
theorem print_no (t : Txx) (w : World) (h : t.wf 1000000) (hT : Tabs w) (hr : right t = false) : Calls Tryd.prog 9 #[.agg (txC t)] w (gives (.tuple #[.string ⟨#[]⟩, .int .i64 80]) w) := by
  have hb0 : Below w.heap.size w (w.alloc (.cells (txC t) 23)) := below_box _ t
  have k0 := box_new w 23 t
  have hc := check_any t _ h (hT.kept hb0)
  rw [hr] at hc
  have HC := Lib.hid hc
  clear hc h hT
  go_enter Tryd.func9, Tryd.ntmps9
  go_wp2_with (first
    | (refine wpList_row_at rfl _ _ rfl w.heap.size rfl _ _ _ _ k0 Tryd.underlying23 rfl (by kernel_rfl) ?_)
    | (go_at_call 10; refine HC.out.mono ?_; unfold gives errI; rintro e w1 ⟨rfl, hb1⟩))
  go_ret2
  exact ⟨rfl, nxt hb0 hb1⟩
set_option maxHeartbeats 4000000 in
set_option maxRecDepth 100000 in
theorem print_ok (t : Txx) (w : World) (hT : Tabs w) (hr : right t = true) : Calls Tryd.prog 9 #[.agg (txC t)] w (gives (.tuple #[.string (str (wordsT t)), .int .i64 0]) w) := by
  have hwf := right_wf hr
  have hb0 : Below w.heap.size w (w.alloc (.cells (txC t) 23)) := below_box _ t
  have HT := Lib.hid (fun w' (hb : Below w.heap.size w w') => hT.kept hb)
  have k0 := box_new w 23 t
  have B0 := Lib.hid (fun w1 => @box_at w w1 23 t)
  have hc := check_any t _ (hwf.le (by omega)) (hT.kept hb0)
  rw [hr] at hc
  obtain ⟨_, w1, w2, w3, w4, _, _⟩ := hwf
  by_cases hk : t.kind = 1
  · obtain ⟨p1, p2, p3, p4, p5, p6⟩ := right_move hr hk
    obtain ⟨n, hn⟩ : ∃ y, y = dgs t.nonce := ⟨_, rfl⟩
    have ln : n.length ≤ 20 := by rw [hn]; exact dgs_len p1
    have mn : (str n).size ≤ 20 := by rw [str_size]; exact ln
    obtain ⟨f, hf⟩ : ∃ y, y = t.frm := ⟨_, rfl⟩
    have lf : f.length ≤ 128 := by rw [hf]; exact w1
    have mf : (str f).size ≤ 128 := by rw [str_size]; exact lf
    obtain ⟨m, hm⟩ : ∃ y, y = dgs t.amount := ⟨_, rfl⟩
    have lm : m.length ≤ 20 := by rw [hm]; exact dgs_len p4
    have mm : (str m).size ≤ 20 := by rw [str_size]; exact lm
    obtain ⟨q, hq⟩ : ∃ y, y = t.to := ⟨_, rfl⟩
    have lq : q.length ≤ 128 := by rw [hq]; exact w2
    have mq : (str q).size ≤ 128 := by rw [str_size]; exact lq
    obtain ⟨z1, hz1⟩ : ∃ y, y = ([109, 111, 118, 101, 32] : List UInt8) ++ n := ⟨_, rfl⟩
    have lz1 : z1.length ≤ 25 := by rw [hz1]; exact len_app _ _ 5 20 (by decide) (ln)
    have mz1 : (str z1).size ≤ 25 := by rw [str_size]; exact lz1
    have s1 : ({ data := #[109, 111, 118, 101, 32] } : ByteArray) ++ str n = str z1 := by rw [hz1]; exact str_app ([109, 111, 118, 101, 32] : List UInt8) n
    have a1 : ¬ 9223372036854775807 < 5 + (str n).size := by omega
    obtain ⟨z2, hz2⟩ : ∃ y, y = z1 ++ ([58, 32] : List UInt8) := ⟨_, rfl⟩
    have lz2 : z2.length ≤ 27 := by rw [hz2]; exact len_app _ _ 25 2 (lz1) (by decide)
    have mz2 : (str z2).size ≤ 27 := by rw [str_size]; exact lz2
    have s2 : str z1 ++ ({ data := #[58, 32] } : ByteArray) = str z2 := by rw [hz2]; exact str_app z1 ([58, 32] : List UInt8)
    have a2 : ¬ 9223372036854775807 < (str z1).size + 2 := by omega
    obtain ⟨z3, hz3⟩ : ∃ y, y = z2 ++ f := ⟨_, rfl⟩
    have lz3 : z3.length ≤ 155 := by rw [hz3]; exact len_app _ _ 27 128 (lz2) (lf)
    have mz3 : (str z3).size ≤ 155 := by rw [str_size]; exact lz3
    have s3 : str z2 ++ str f = str z3 := by rw [hz3]; exact str_app z2 f
    have a3 : ¬ 9223372036854775807 < (str z2).size + (str f).size := by omega
    obtain ⟨z4, hz4⟩ : ∃ y, y = z3 ++ ([32, 103, 105, 118, 101, 115, 32] : List UInt8) := ⟨_, rfl⟩
    have lz4 : z4.length ≤ 162 := by rw [hz4]; exact len_app _ _ 155 7 (lz3) (by decide)
    have mz4 : (str z4).size ≤ 162 := by rw [str_size]; exact lz4
    have s4 : str z3 ++ ({ data := #[32, 103, 105, 118, 101, 115, 32] } : ByteArray) = str z4 := by rw [hz4]; exact str_app z3 ([32, 103, 105, 118, 101, 115, 32] : List UInt8)
    have a4 : ¬ 9223372036854775807 < (str z3).size + 7 := by omega
    obtain ⟨z5, hz5⟩ : ∃ y, y = z4 ++ m := ⟨_, rfl⟩
    have lz5 : z5.length ≤ 182 := by rw [hz5]; exact len_app _ _ 162 20 (lz4) (lm)
    have mz5 : (str z5).size ≤ 182 := by rw [str_size]; exact lz5
    have s5 : str z4 ++ str m = str z5 := by rw [hz5]; exact str_app z4 m
    have a5 : ¬ 9223372036854775807 < (str z4).size + (str m).size := by omega
    obtain ⟨z6, hz6⟩ : ∃ y, y = z5 ++ ([32, 116, 111, 32] : List UInt8) := ⟨_, rfl⟩
    have lz6 : z6.length ≤ 186 := by rw [hz6]; exact len_app _ _ 182 4 (lz5) (by decide)
    have mz6 : (str z6).size ≤ 186 := by rw [str_size]; exact lz6
    have s6 : str z5 ++ ({ data := #[32, 116, 111, 32] } : ByteArray) = str z6 := by rw [hz6]; exact str_app z5 ([32, 116, 111, 32] : List UInt8)
    have a6 : ¬ 9223372036854775807 < (str z5).size + 4 := by omega
    obtain ⟨z7, hz7⟩ : ∃ y, y = z6 ++ q := ⟨_, rfl⟩
    have lz7 : z7.length ≤ 314 := by rw [hz7]; exact len_app _ _ 186 128 (lz6) (lq)
    have mz7 : (str z7).size ≤ 314 := by rw [str_size]; exact lz7
    have s7 : str z6 ++ str q = str z7 := by rw [hz7]; exact str_app z6 q
    have a7 : ¬ 9223372036854775807 < (str z6).size + (str q).size := by omega
    have e : wordsT t = z7 := by rw [hz7, hz6, hz5, hz4, hz3, hz2, hz1, hn, hf, hm, hq]; unfold wordsT wMove wGives wTo; simp only [if_pos hk]; simp
    rw [e]
    have hN := fun wx hx => c_print t.nonce wx p1 hx
    rw [← hn] at hN
    have hM := fun wx hx => c_print t.amount wx p4 hx
    rw [← hm] at hM
    have B1 : Hid (∀ w1, Below (w.alloc (.cells (txC t) 23)).heap.size (w.alloc (.cells (txC t) 23)) w1 → Box w1 w.heap.size 1 f q t.key t.val t.amount t.nonce) := Lib.hid fun w1 h => by have := B0.out w1 h; rw [hk, ← hf, ← hq] at this; exact this
    have HH := Lib.hid (And.intro hc (And.intro hN hM))
    clear hc hN hM e hr hT B0 p1 p2 p3 p4 p5 p6 w1 w2 w3 w4 hn ln hf lf hm lm hq lq hz1 lz1 hz2 lz2 hz3 lz3 hz4 lz4 hz5 lz5 hz6 lz6 hz7 lz7 hk
    go_enter Tryd.func9, Tryd.ntmps9
    go_upto_region 8 with (first
      | (refine wpList_row_at rfl _ _ rfl w.heap.size rfl _ _ _ _ k0 Tryd.underlying23 rfl (by kernel_rfl) ?_)
      | (go_at_call 10; refine HH.out.1.mono ?_; unfold gives errI; rintro e w1 ⟨rfl, hb1⟩; obtain ⟨d0, d1, d2, d3, d4, d5, d6⟩ := B1.out _ hb1)
      | (go_at_call 22; refine (HH.out.2.1 _ (HT.out _ (nxt hb0 hb1))).mono ?_; unfold gives; rintro e w2 ⟨rfl, hb2⟩; replace hb2 := nxtB hb1 hb2 hb1.size; obtain ⟨g0, g1, g2, g3, g4, g5, g6⟩ := B1.out _ hb2))
    replace hb2 := nxt hb0 hb2
    clear d0 d1 d2 d3 d4 d5 d6
    go_region_held3 (fun wx => Below w.heap.size w wx ∧ wx.cell? ⟨w.heap.size, 0, none⟩ = some (.int .i64 1) ∧ wx.cell? ⟨w.heap.size, 1, none⟩ = some (.string (str f)) ∧ wx.cell? ⟨w.heap.size, 2, none⟩ = some (.string (str q)) ∧ wx.cell? ⟨w.heap.size, 3, none⟩ = some (.string (str t.key)) ∧ wx.cell? ⟨w.heap.size, 4, none⟩ = some (.string (str t.val)) ∧ wx.cell? ⟨w.heap.size, 5, none⟩ = some (.int .i64 t.amount) ∧ wx.cell? ⟨w.heap.size, 6, none⟩ = some (.int .i64 t.nonce)) (first | exact ⟨by assumption, by assumption, by assumption, by assumption, by assumption, by assumption, by assumption, by assumption⟩ | exact keep7_drew ⟨by assumption, by assumption, by assumption, by assumption, by assumption, by assumption, by assumption, by assumption⟩ | exact ⟨Below.refl _ _, by assumption, by assumption, by assumption, by assumption, by assumption, by assumption, by assumption⟩ | assumption | exact keep7 (by assumption) (by assumption) | exact keep7_drew (by assumption) | exact keep7_drew ⟨Below.refl _ _, by assumption, by assumption, by assumption, by assumption, by assumption, by assumption, by assumption⟩) (first | (go_at_call 22; (with_reducible refine (HH.out.2.2 _ (HT.out _ (keep7_below (by assumption)))).mono ?_); unfold gives; rintro e w3 ⟨rfl, hb3⟩))
    have hS : (fun wx => Below w.heap.size w wx ∧ wx.cell? ⟨w.heap.size, 0, none⟩ = some (.int .i64 1) ∧ wx.cell? ⟨w.heap.size, 1, none⟩ = some (.string (str f)) ∧ wx.cell? ⟨w.heap.size, 2, none⟩ = some (.string (str q)) ∧ wx.cell? ⟨w.heap.size, 3, none⟩ = some (.string (str t.key)) ∧ wx.cell? ⟨w.heap.size, 4, none⟩ = some (.string (str t.val)) ∧ wx.cell? ⟨w.heap.size, 5, none⟩ = some (.int .i64 t.amount) ∧ wx.cell? ⟨w.heap.size, 6, none⟩ = some (.int .i64 t.nonce)) w3 := by assumption
    have hb3' := hS.1
    go_wp2
    go_ret2
    exact ⟨rfl, hb3'⟩
  · obtain ⟨p1, p2, p3, p4, p5, p6, hk2⟩ := right_put hr hk
    obtain ⟨n, hn⟩ : ∃ y, y = dgs t.nonce := ⟨_, rfl⟩
    have ln : n.length ≤ 20 := by rw [hn]; exact dgs_len p1
    have mn : (str n).size ≤ 20 := by rw [str_size]; exact ln
    obtain ⟨f, hf⟩ : ∃ y, y = t.frm := ⟨_, rfl⟩
    have lf : f.length ≤ 128 := by rw [hf]; exact w1
    have mf : (str f).size ≤ 128 := by rw [str_size]; exact lf
    obtain ⟨m, hm⟩ : ∃ y, y = t.key := ⟨_, rfl⟩
    have lm : m.length ≤ 128 := by rw [hm]; exact w3
    have mm : (str m).size ≤ 128 := by rw [str_size]; exact lm
    obtain ⟨q, hq⟩ : ∃ y, y = t.val := ⟨_, rfl⟩
    have lq : q.length ≤ 128 := by rw [hq]; exact w4
    have mq : (str q).size ≤ 128 := by rw [str_size]; exact lq
    obtain ⟨z1, hz1⟩ : ∃ y, y = ([112, 117, 116, 32] : List UInt8) ++ n := ⟨_, rfl⟩
    have lz1 : z1.length ≤ 24 := by rw [hz1]; exact len_app _ _ 4 20 (by decide) (ln)
    have mz1 : (str z1).size ≤ 24 := by rw [str_size]; exact lz1
    have s1 : ({ data := #[112, 117, 116, 32] } : ByteArray) ++ str n = str z1 := by rw [hz1]; exact str_app ([112, 117, 116, 32] : List UInt8) n
    have a1 : ¬ 9223372036854775807 < 4 + (str n).size := by omega
    obtain ⟨z2, hz2⟩ : ∃ y, y = z1 ++ ([58, 32] : List UInt8) := ⟨_, rfl⟩
    have lz2 : z2.length ≤ 26 := by rw [hz2]; exact len_app _ _ 24 2 (lz1) (by decide)
    have mz2 : (str z2).size ≤ 26 := by rw [str_size]; exact lz2
    have s2 : str z1 ++ ({ data := #[58, 32] } : ByteArray) = str z2 := by rw [hz2]; exact str_app z1 ([58, 32] : List UInt8)
    have a2 : ¬ 9223372036854775807 < (str z1).size + 2 := by omega
    obtain ⟨z3, hz3⟩ : ∃ y, y = z2 ++ f := ⟨_, rfl⟩
    have lz3 : z3.length ≤ 154 := by rw [hz3]; exact len_app _ _ 26 128 (lz2) (lf)
    have mz3 : (str z3).size ≤ 154 := by rw [str_size]; exact lz3
    have s3 : str z2 ++ str f = str z3 := by rw [hz3]; exact str_app z2 f
    have a3 : ¬ 9223372036854775807 < (str z2).size + (str f).size := by omega
    obtain ⟨z4, hz4⟩ : ∃ y, y = z3 ++ ([32, 115, 101, 116, 115, 32] : List UInt8) := ⟨_, rfl⟩
    have lz4 : z4.length ≤ 160 := by rw [hz4]; exact len_app _ _ 154 6 (lz3) (by decide)
    have mz4 : (str z4).size ≤ 160 := by rw [str_size]; exact lz4
    have s4 : str z3 ++ ({ data := #[32, 115, 101, 116, 115, 32] } : ByteArray) = str z4 := by rw [hz4]; exact str_app z3 ([32, 115, 101, 116, 115, 32] : List UInt8)
    have a4 : ¬ 9223372036854775807 < (str z3).size + 6 := by omega
    obtain ⟨z5, hz5⟩ : ∃ y, y = z4 ++ m := ⟨_, rfl⟩
    have lz5 : z5.length ≤ 288 := by rw [hz5]; exact len_app _ _ 160 128 (lz4) (lm)
    have mz5 : (str z5).size ≤ 288 := by rw [str_size]; exact lz5
    have s5 : str z4 ++ str m = str z5 := by rw [hz5]; exact str_app z4 m
    have a5 : ¬ 9223372036854775807 < (str z4).size + (str m).size := by omega
    obtain ⟨z6, hz6⟩ : ∃ y, y = z5 ++ ([32, 116, 111, 32] : List UInt8) := ⟨_, rfl⟩
    have lz6 : z6.length ≤ 292 := by rw [hz6]; exact len_app _ _ 288 4 (lz5) (by decide)
    have mz6 : (str z6).size ≤ 292 := by rw [str_size]; exact lz6
    have s6 : str z5 ++ ({ data := #[32, 116, 111, 32] } : ByteArray) = str z6 := by rw [hz6]; exact str_app z5 ([32, 116, 111, 32] : List UInt8)
    have a6 : ¬ 9223372036854775807 < (str z5).size + 4 := by omega
    obtain ⟨z7, hz7⟩ : ∃ y, y = z6 ++ q := ⟨_, rfl⟩
    have lz7 : z7.length ≤ 420 := by rw [hz7]; exact len_app _ _ 292 128 (lz6) (lq)
    have mz7 : (str z7).size ≤ 420 := by rw [str_size]; exact lz7
    have s7 : str z6 ++ str q = str z7 := by rw [hz7]; exact str_app z6 q
    have a7 : ¬ 9223372036854775807 < (str z6).size + (str q).size := by omega
    have e : wordsT t = z7 := by rw [hz7, hz6, hz5, hz4, hz3, hz2, hz1, hn, hf, hm, hq]; unfold wordsT wPut wSets wTo; simp only [if_neg hk]; simp
    rw [e]
    have hN := fun wx hx => c_print t.nonce wx p1 hx
    rw [← hn] at hN
    have B1 : Hid (∀ w1, Below (w.alloc (.cells (txC t) 23)).heap.size (w.alloc (.cells (txC t) 23)) w1 → Box w1 w.heap.size 2 f t.to m q t.amount t.nonce) := Lib.hid fun w1 h => by have := B0.out w1 h; rw [hk2, ← hf, ← hm, ← hq] at this; exact this
    have HH := Lib.hid (And.intro hc hN)
    clear hc hN e hr hT B0 p1 p2 p3 p4 p5 p6 w1 w2 w3 w4 hn ln hf lf hm lm hq lq hz1 lz1 hz2 lz2 hz3 lz3 hz4 lz4 hz5 lz5 hz6 lz6 hz7 lz7 hk hk2
    go_enter Tryd.func9, Tryd.ntmps9
    go_wp2_with (first
      | (refine wpList_row_at rfl _ _ rfl w.heap.size rfl _ _ _ _ k0 Tryd.underlying23 rfl (by kernel_rfl) ?_)
      | (go_at_call 10; refine HH.out.1.mono ?_; unfold gives errI; rintro e w1 ⟨rfl, hb1⟩; obtain ⟨d0, d1, d2, d3, d4, d5, d6⟩ := B1.out _ hb1)
      | (go_at_call 22; refine (HH.out.2 _ (HT.out _ (nxt hb0 hb1))).mono ?_; unfold gives; rintro e w2 ⟨rfl, hb2⟩; replace hb2 := nxtB hb1 hb2 hb1.size; obtain ⟨g0, g1, g2, g3, g4, g5, g6⟩ := B1.out _ hb2))
    go_ret2
    exact ⟨rfl, nxt hb0 hb2⟩
end Go.Proofs.YtfoabgjcndgflaaDoor
