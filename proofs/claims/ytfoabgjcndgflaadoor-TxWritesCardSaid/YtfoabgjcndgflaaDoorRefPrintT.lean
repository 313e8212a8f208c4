/-
  A transaction's words, by the document's answer.
-/
import Derived.Test.YtfoabgjcndgflaaDoorPrintT
set_option linter.unusedSimpArgs false
set_option linter.unusedVariables false
namespace Go.Proofs.YtfoabgjcndgflaaDoor
open Go.RowKit Go.Lib

set_option maxHeartbeats 4000000 in
set_option maxRecDepth 100000 in
theorem refprint_any (t : Txx) (w : World) (hr : right t = true) : Calls Tryd.prog 13 #[.agg (txC t)] w (gives (.string (str (wordsT t))) w) := by
  have hwf := right_wf hr
  have hb0 : Below w.heap.size w (w.alloc (.cells (txC t) 23)) := below_box _ t
  obtain ⟨_, w1, w2, w3, w4, _, _⟩ := hwf
  by_cases hk : t.kind = 1
  · obtain ⟨p1, p2, p3, p4, p5, p6⟩ := right_move hr hk
    obtain ⟨n, hn⟩ : ∃ y, y = dgs t.nonce := ⟨_, rfl⟩
    have ln : n.length ≤ 20 := by rw [hn]; exact dgs_len p1
    have mn : (str n).size ≤ 20 := by rw [str_size]; exact ln
    obtain ⟨f, hf⟩ : ∃ y, y = t.frm := ⟨_, rfl⟩
    have lf : f.length ≤ 128 := by rw [hf]; exact w1
    have mf : (str f).size ≤ 128 := by rw [str_size]; exact lf
    obtain ⟨m, hm⟩ : ∃ y, y = dgs t.amount := ⟨_, rfl⟩
    have lm : m.length ≤ 20 := by rw [hm]; exact dgs_len p4
    have mm : (str m).size ≤ 20 := by rw [str_size]; exact lm
    obtain ⟨q, hq⟩ : ∃ y, y = t.to := ⟨_, rfl⟩
    have lq : q.length ≤ 128 := by rw [hq]; exact w2
    have mq : (str q).size ≤ 128 := by rw [str_size]; exact lq
    obtain ⟨z1, hz1⟩ : ∃ y, y = n ++ ([58, 32] : List UInt8) := ⟨_, rfl⟩
    have lz1 : z1.length ≤ 22 := by rw [hz1]; exact len_app _ _ 20 2 (ln) (by decide)
    have mz1 : (str z1).size ≤ 22 := by rw [str_size]; exact lz1
    have s1 : str n ++ ({ data := #[58, 32] } : ByteArray) = str z1 := by rw [hz1]; exact str_app n ([58, 32] : List UInt8)
    have a1 : ¬ 9223372036854775807 < (str n).size + 2 := by omega
    obtain ⟨z2, hz2⟩ : ∃ y, y = z1 ++ f := ⟨_, rfl⟩
    have lz2 : z2.length ≤ 150 := by rw [hz2]; exact len_app _ _ 22 128 (lz1) (lf)
    have mz2 : (str z2).size ≤ 150 := by rw [str_size]; exact lz2
    have s2 : str z1 ++ str f = str z2 := by rw [hz2]; exact str_app z1 f
    have a2 : ¬ 9223372036854775807 < (str z1).size + (str f).size := by omega
    obtain ⟨z3, hz3⟩ : ∃ y, y = ([109, 111, 118, 101, 32] : List UInt8) ++ z2 := ⟨_, rfl⟩
    have lz3 : z3.length ≤ 155 := by rw [hz3]; exact len_app _ _ 5 150 (by decide) (lz2)
    have mz3 : (str z3).size ≤ 155 := by rw [str_size]; exact lz3
    have s3 : ({ data := #[109, 111, 118, 101, 32] } : ByteArray) ++ str z2 = str z3 := by rw [hz3]; exact str_app ([109, 111, 118, 101, 32] : List UInt8) z2
    have a3 : ¬ 9223372036854775807 < 5 + (str z2).size := by omega
    obtain ⟨z4, hz4⟩ : ∃ y, y = z3 ++ ([32, 103, 105, 118, 101, 115, 32] : List UInt8) := ⟨_, rfl⟩
    have lz4 : z4.length ≤ 162 := by rw [hz4]; exact len_app _ _ 155 7 (lz3) (by decide)
    have mz4 : (str z4).size ≤ 162 := by rw [str_size]; exact lz4
    have s4 : str z3 ++ ({ data := #[32, 103, 105, 118, 101, 115, 32] } : ByteArray) = str z4 := by rw [hz4]; exact str_app z3 ([32, 103, 105, 118, 101, 115, 32] : List UInt8)
    have a4 : ¬ 9223372036854775807 < (str z3).size + 7 := by omega
    obtain ⟨z5, hz5⟩ : ∃ y, y = z4 ++ m := ⟨_, rfl⟩
    have lz5 : z5.length ≤ 182 := by rw [hz5]; exact len_app _ _ 162 20 (lz4) (lm)
    have mz5 : (str z5).size ≤ 182 := by rw [str_size]; exact lz5
    have s5 : str z4 ++ str m = str z5 := by rw [hz5]; exact str_app z4 m
    have a5 : ¬ 9223372036854775807 < (str z4).size + (str m).size := by omega
    obtain ⟨z6, hz6⟩ : ∃ y, y = z5 ++ ([32, 116, 111, 32] : List UInt8) := ⟨_, rfl⟩
    have lz6 : z6.length ≤ 186 := by rw [hz6]; exact len_app _ _ 182 4 (lz5) (by decide)
    have mz6 : (str z6).size ≤ 186 := by rw [str_size]; exact lz6
    have s6 : str z5 ++ ({ data := #[32, 116, 111, 32] } : ByteArray) = str z6 := by rw [hz6]; exact str_app z5 ([32, 116, 111, 32] : List UInt8)
    have a6 : ¬ 9223372036854775807 < (str z5).size + 4 := by omega
    obtain ⟨z7, hz7⟩ : ∃ y, y = z6 ++ q := ⟨_, rfl⟩
    have lz7 : z7.length ≤ 314 := by rw [hz7]; exact len_app _ _ 186 128 (lz6) (lq)
    have mz7 : (str z7).size ≤ 314 := by rw [str_size]; exact lz7
    have s7 : str z6 ++ str q = str z7 := by rw [hz7]; exact str_app z6 q
    have a7 : ¬ 9223372036854775807 < (str z6).size + (str q).size := by omega
    have e : wordsT t = z7 := by rw [hz7, hz6, hz5, hz4, hz3, hz2, hz1, hn, hf, hm, hq]; unfold wordsT wMove wGives wTo; simp only [if_pos hk]; simp
    rw [e]
    have hN := fun wx => c_refprint t.nonce wx p1
    rw [← hn] at hN
    have hM := fun wx => c_refprint t.amount wx p4
    rw [← hm] at hM
    have b0 : Box (w.alloc (.cells (txC t) 23)) w.heap.size 1 f q t.key t.val t.amount t.nonce := by have := box_of (box_new w 23 t); rw [hk, ← hf, ← hq] at this; exact this
    have HH := Lib.hid (And.intro hN hM)
    clear hN hM e hr p1 p2 p3 p4 p5 p6 w1 w2 w3 w4 hn ln hf lf hm lm hq lq hz1 lz1 hz2 lz2 hz3 lz3 hz4 lz4 hz5 lz5 hz6 lz6 hz7 lz7 hk
    obtain ⟨c0, c1, c2, c3, c4, c5, c6⟩ := b0
    go_enter Tryd.func13, Tryd.ntmps13
    go_upto_region 1 with fail
    go_region_held3 (fun wx => Below w.heap.size w wx ∧ wx.cell? ⟨w.heap.size, 0, none⟩ = some (.int .i64 1) ∧ wx.cell? ⟨w.heap.size, 1, none⟩ = some (.string (str f)) ∧ wx.cell? ⟨w.heap.size, 2, none⟩ = some (.string (str q)) ∧ wx.cell? ⟨w.heap.size, 3, none⟩ = some (.string (str t.key)) ∧ wx.cell? ⟨w.heap.size, 4, none⟩ = some (.string (str t.val)) ∧ wx.cell? ⟨w.heap.size, 5, none⟩ = some (.int .i64 t.amount) ∧ wx.cell? ⟨w.heap.size, 6, none⟩ = some (.int .i64 t.nonce)) (first | exact ⟨by assumption, by assumption, by assumption, by assumption, by assumption, by assumption, by assumption, by assumption⟩ | exact keep7_drew ⟨by assumption, by assumption, by assumption, by assumption, by assumption, by assumption, by assumption, by assumption⟩ | exact ⟨Below.refl _ _, by assumption, by assumption, by assumption, by assumption, by assumption, by assumption, by assumption⟩ | assumption | exact keep7 (by assumption) (by assumption) | exact keep7_drew (by assumption) | exact keep7_drew ⟨Below.refl _ _, by assumption, by assumption, by assumption, by assumption, by assumption, by assumption, by assumption⟩) (first | (go_at_call 31; (with_reducible refine (HH.out.1 _).mono ?_); unfold gives; rintro e w1 ⟨rfl, hb1⟩))
    have hS : (fun wx => Below w.heap.size w wx ∧ wx.cell? ⟨w.heap.size, 0, none⟩ = some (.int .i64 1) ∧ wx.cell? ⟨w.heap.size, 1, none⟩ = some (.string (str f)) ∧ wx.cell? ⟨w.heap.size, 2, none⟩ = some (.string (str q)) ∧ wx.cell? ⟨w.heap.size, 3, none⟩ = some (.string (str t.key)) ∧ wx.cell? ⟨w.heap.size, 4, none⟩ = some (.string (str t.val)) ∧ wx.cell? ⟨w.heap.size, 5, none⟩ = some (.int .i64 t.amount) ∧ wx.cell? ⟨w.heap.size, 6, none⟩ = some (.int .i64 t.nonce)) w1 := by assumption
    obtain ⟨hb, d0, d1, d2, d3, d4, d5, d6⟩ := hS
    clear c0 c1 c2 c3 c4 c5 c6
    go_upto_region 3 with fail
    go_region_held3 (fun wx => Below w.heap.size w wx ∧ wx.cell? ⟨w.heap.size, 0, none⟩ = some (.int .i64 1) ∧ wx.cell? ⟨w.heap.size, 1, none⟩ = some (.string (str f)) ∧ wx.cell? ⟨w.heap.size, 2, none⟩ = some (.string (str q)) ∧ wx.cell? ⟨w.heap.size, 3, none⟩ = some (.string (str t.key)) ∧ wx.cell? ⟨w.heap.size, 4, none⟩ = some (.string (str t.val)) ∧ wx.cell? ⟨w.heap.size, 5, none⟩ = some (.int .i64 t.amount) ∧ wx.cell? ⟨w.heap.size, 6, none⟩ = some (.int .i64 t.nonce)) (first | exact ⟨by assumption, by assumption, by assumption, by assumption, by assumption, by assumption, by assumption, by assumption⟩ | exact keep7_drew ⟨by assumption, by assumption, by assumption, by assumption, by assumption, by assumption, by assumption, by assumption⟩ | exact ⟨Below.refl _ _, by assumption, by assumption, by assumption, by assumption, by assumption, by assumption, by assumption⟩ | assumption | exact keep7 (by assumption) (by assumption) | exact keep7_drew (by assumption) | exact keep7_drew ⟨Below.refl _ _, by assumption, by assumption, by assumption, by assumption, by assumption, by assumption, by assumption⟩) (first | (go_at_call 31; (with_reducible refine (HH.out.2 _).mono ?_); unfold gives; rintro e w2 ⟨rfl, hb2⟩))
    have hS : (fun wx => Below w.heap.size w wx ∧ wx.cell? ⟨w.heap.size, 0, none⟩ = some (.int .i64 1) ∧ wx.cell? ⟨w.heap.size, 1, none⟩ = some (.string (str f)) ∧ wx.cell? ⟨w.heap.size, 2, none⟩ = some (.string (str q)) ∧ wx.cell? ⟨w.heap.size, 3, none⟩ = some (.string (str t.key)) ∧ wx.cell? ⟨w.heap.size, 4, none⟩ = some (.string (str t.val)) ∧ wx.cell? ⟨w.heap.size, 5, none⟩ = some (.int .i64 t.amount) ∧ wx.cell? ⟨w.heap.size, 6, none⟩ = some (.int .i64 t.nonce)) w2 := by assumption
    replace hb := hS.1
    go_wp2
    go_ret
    exact ⟨rfl, hb⟩
  · obtain ⟨p1, p2, p3, p4, p5, p6, hk2⟩ := right_put hr hk
    obtain ⟨n, hn⟩ : ∃ y, y = dgs t.nonce := ⟨_, rfl⟩
    have ln : n.length ≤ 20 := by rw [hn]; exact dgs_len p1
    have mn : (str n).size ≤ 20 := by rw [str_size]; exact ln
    obtain ⟨f, hf⟩ : ∃ y, y = t.frm := ⟨_, rfl⟩
    have lf : f.length ≤ 128 := by rw [hf]; exact w1
    have mf : (str f).size ≤ 128 := by rw [str_size]; exact lf
    obtain ⟨m, hm⟩ : ∃ y, y = t.key := ⟨_, rfl⟩
    have lm : m.length ≤ 128 := by rw [hm]; exact w3
    have mm : (str m).size ≤ 128 := by rw [str_size]; exact lm
    obtain ⟨q, hq⟩ : ∃ y, y = t.val := ⟨_, rfl⟩
    have lq : q.length ≤ 128 := by rw [hq]; exact w4
    have mq : (str q).size ≤ 128 := by rw [str_size]; exact lq
    obtain ⟨z1, hz1⟩ : ∃ y, y = n ++ ([58, 32] : List UInt8) := ⟨_, rfl⟩
    have lz1 : z1.length ≤ 22 := by rw [hz1]; exact len_app _ _ 20 2 (ln) (by decide)
    have mz1 : (str z1).size ≤ 22 := by rw [str_size]; exact lz1
    have s1 : str n ++ ({ data := #[58, 32] } : ByteArray) = str z1 := by rw [hz1]; exact str_app n ([58, 32] : List UInt8)
    have a1 : ¬ 9223372036854775807 < (str n).size + 2 := by omega
    obtain ⟨z2, hz2⟩ : ∃ y, y = z1 ++ f := ⟨_, rfl⟩
    have lz2 : z2.length ≤ 150 := by rw [hz2]; exact len_app _ _ 22 128 (lz1) (lf)
    have mz2 : (str z2).size ≤ 150 := by rw [str_size]; exact lz2
    have s2 : str z1 ++ str f = str z2 := by rw [hz2]; exact str_app z1 f
    have a2 : ¬ 9223372036854775807 < (str z1).size + (str f).size := by omega
    obtain ⟨z3, hz3⟩ : ∃ y, y = ([112, 117, 116, 32] : List UInt8) ++ z2 := ⟨_, rfl⟩
    have lz3 : z3.length ≤ 154 := by rw [hz3]; exact len_app _ _ 4 150 (by decide) (lz2)
    have mz3 : (str z3).size ≤ 154 := by rw [str_size]; exact lz3
    have s3 : ({ data := #[112, 117, 116, 32] } : ByteArray) ++ str z2 = str z3 := by rw [hz3]; exact str_app ([112, 117, 116, 32] : List UInt8) z2
    have a3 : ¬ 9223372036854775807 < 4 + (str z2).size := by omega
    obtain ⟨z4, hz4⟩ : ∃ y, y = z3 ++ ([32, 115, 101, 116, 115, 32] : List UInt8) := ⟨_, rfl⟩
    have lz4 : z4.length ≤ 160 := by rw [hz4]; exact len_app _ _ 154 6 (lz3) (by decide)
    have mz4 : (str z4).size ≤ 160 := by rw [str_size]; exact lz4
    have s4 : str z3 ++ ({ data := #[32, 115, 101, 116, 115, 32] } : ByteArray) = str z4 := by rw [hz4]; exact str_app z3 ([32, 115, 101, 116, 115, 32] : List UInt8)
    have a4 : ¬ 9223372036854775807 < (str z3).size + 6 := by omega
    obtain ⟨z5, hz5⟩ : ∃ y, y = z4 ++ m := ⟨_, rfl⟩
    have lz5 : z5.length ≤ 288 := by rw [hz5]; exact len_app _ _ 160 128 (lz4) (lm)
    have mz5 : (str z5).size ≤ 288 := by rw [str_size]; exact lz5
    have s5 : str z4 ++ str m = str z5 := by rw [hz5]; exact str_app z4 m
    have a5 : ¬ 9223372036854775807 < (str z4).size + (str m).size := by omega
    obtain ⟨z6, hz6⟩ : ∃ y, y = z5 ++ ([32, 116, 111, 32] : List UInt8) := ⟨_, rfl⟩
    have lz6 : z6.length ≤ 292 := by rw [hz6]; exact len_app _ _ 288 4 (lz5) (by decide)
    have mz6 : (str z6).size ≤ 292 := by rw [str_size]; exact lz6
    have s6 : str z5 ++ ({ data := #[32, 116, 111, 32] } : ByteArray) = str z6 := by rw [hz6]; exact str_app z5 ([32, 116, 111, 32] : List UInt8)
    have a6 : ¬ 9223372036854775807 < (str z5).size + 4 := by omega
    obtain ⟨z7, hz7⟩ : ∃ y, y = z6 ++ q := ⟨_, rfl⟩
    have lz7 : z7.length ≤ 420 := by rw [hz7]; exact len_app _ _ 292 128 (lz6) (lq)
    have mz7 : (str z7).size ≤ 420 := by rw [str_size]; exact lz7
    have s7 : str z6 ++ str q = str z7 := by rw [hz7]; exact str_app z6 q
    have a7 : ¬ 9223372036854775807 < (str z6).size + (str q).size := by omega
    have e : wordsT t = z7 := by rw [hz7, hz6, hz5, hz4, hz3, hz2, hz1, hn, hf, hm, hq]; unfold wordsT wPut wSets wTo; simp only [if_neg hk]; simp
    rw [e]
    have hN := fun wx => c_refprint t.nonce wx p1
    rw [← hn] at hN
    have b0 : Box (w.alloc (.cells (txC t) 23)) w.heap.size 2 f t.to m q t.amount t.nonce := by have := box_of (box_new w 23 t); rw [hk2, ← hf, ← hm, ← hq] at this; exact this
    have HH := Lib.hid hN
    clear hN e hr p1 p2 p3 p4 p5 p6 w1 w2 w3 w4 hn ln hf lf hm lm hq lq hz1 lz1 hz2 lz2 hz3 lz3 hz4 lz4 hz5 lz5 hz6 lz6 hz7 lz7 hk hk2
    obtain ⟨c0, c1, c2, c3, c4, c5, c6⟩ := b0
    go_enter Tryd.func13, Tryd.ntmps13
    go_upto_region 1 with fail
    go_region_held3 (fun wx => Below w.heap.size w wx ∧ wx.cell? ⟨w.heap.size, 0, none⟩ = some (.int .i64 2) ∧ wx.cell? ⟨w.heap.size, 1, none⟩ = some (.string (str f)) ∧ wx.cell? ⟨w.heap.size, 2, none⟩ = some (.string (str t.to)) ∧ wx.cell? ⟨w.heap.size, 3, none⟩ = some (.string (str m)) ∧ wx.cell? ⟨w.heap.size, 4, none⟩ = some (.string (str q)) ∧ wx.cell? ⟨w.heap.size, 5, none⟩ = some (.int .i64 t.amount) ∧ wx.cell? ⟨w.heap.size, 6, none⟩ = some (.int .i64 t.nonce)) (first | exact ⟨by assumption, by assumption, by assumption, by assumption, by assumption, by assumption, by assumption, by assumption⟩ | exact keep7_drew ⟨by assumption, by assumption, by assumption, by assumption, by assumption, by assumption, by assumption, by assumption⟩ | exact ⟨Below.refl _ _, by assumption, by assumption, by assumption, by assumption, by assumption, by assumption, by assumption⟩ | assumption | exact keep7 (by assumption) (by assumption) | exact keep7_drew (by assumption) | exact keep7_drew ⟨Below.refl _ _, by assumption, by assumption, by assumption, by assumption, by assumption, by assumption, by assumption⟩) (first | (go_at_call 31; (with_reducible refine (HH.out _).mono ?_); unfold gives; rintro e w1 ⟨rfl, hb1⟩))
    have hS : (fun wx => Below w.heap.size w wx ∧ wx.cell? ⟨w.heap.size, 0, none⟩ = some (.int .i64 2) ∧ wx.cell? ⟨w.heap.size, 1, none⟩ = some (.string (str f)) ∧ wx.cell? ⟨w.heap.size, 2, none⟩ = some (.string (str t.to)) ∧ wx.cell? ⟨w.heap.size, 3, none⟩ = some (.string (str m)) ∧ wx.cell? ⟨w.heap.size, 4, none⟩ = some (.string (str q)) ∧ wx.cell? ⟨w.heap.size, 5, none⟩ = some (.int .i64 t.amount) ∧ wx.cell? ⟨w.heap.size, 6, none⟩ = some (.int .i64 t.nonce)) w1 := by assumption
    obtain ⟨hb, d0, d1, d2, d3, d4, d5, d6⟩ := hS
    clear c0 c1 c2 c3 c4 c5 c6
    go_wp2
    go_ret
    exact ⟨rfl, hb⟩
end Go.Proofs.YtfoabgjcndgflaaDoor
