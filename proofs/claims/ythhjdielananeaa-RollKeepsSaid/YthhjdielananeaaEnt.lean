/-
  The entry of undressed bytes, by the code; lines that are refused.
-/
import Derived.Test.YthhjdielananeaaLin
import Derived.Test.YthhjdielananeaaRd
import Derived.Test.YthhjdielananeaaL3Reader
set_option linter.unusedSimpArgs false
set_option linter.unusedVariables false
set_option maxRecDepth 10000
namespace Go.Proofs.Ythhjdielananeaa
open Go.RowKit Go.Lib
open L3 (Blk Reads block_of_add add_of_add Rdr leaves numS)
open L6 (Turn moreB fresh From In)

theorem numS_rest (l : List UInt8) (e : Int) (h : e = 0 ∨ l = []) : (numS (l, e)).1 = restN l ∧ ((numS (l, e)).2 = 0 ∨ (numS (l, e)).1 = []) := by
  unfold numS restN
  dsimp only
  split
  · next h0 =>
    refine ⟨rfl, h.imp id fun h1 => ?_⟩
    rw [h1]; simp
  · next h0 =>
    unfold L3.failS
    dsimp only
    rcases h with h | h
    · subst h
      rw [if_neg (by simp; exact h0)]
      exact ⟨rfl, .inr rfl⟩
    · subst h
      split
      · exact ⟨rfl, .inr rfl⟩
      · exact ⟨rfl, .inr rfl⟩
def rdN0 (l : List UInt8) : Nat := (L3.rdN 0 0 l).1
theorem build_en2 (a b : Int) (w : World) : (Instr.build 31 #[(0, .int .i64 a), (1, .int .i64 b)]).run Try.prog w = .ok (.agg #[.int .i64 a, .int .i64 b, .string (str [])]) w := run_build w _ _ _ (by kernel_rfl)
theorem build_en0 (w : World) : (Instr.build 31 #[]).run Try.prog w = .ok (.agg (enC ⟨0, 0, []⟩)) w := run_build w _ _ _ (by kernel_rfl)
theorem str_drop (l : List UInt8) (k : Nat) (h : k ≤ l.length) : (str l).extract k (str l).size = str (l.drop k) := by
  apply ByteArray.ext
  rw [ByteArray.data_extract]
  apply Array.toList_inj.1
  rw [Array.toList_extract, str_size]
  show (l.drop k).take (l.length - k) = l.drop k
  rw [List.take_of_length_le (by rw [List.length_drop]; omega)]
set_option maxHeartbeats 4000000 in
set_option maxRecDepth 100000 in
theorem entry_any (m : List UInt8) (w : World) (hl : m.length ≤ 100000000) : Calls Try.prog 38 #[.string (str m)] w (gives (.agg (enC (entV m))) w) := by
  obtain ⟨w0, hw0⟩ : ∃ w0, w.alloc (.cells #[.int .i64 0, .int .i64 0, .string ⟨#[]⟩] 31) = w0 := ⟨_, rfl⟩
  have hb0 : Below w.heap.size w w0 := by rw [← hw0]; exact below_new _ _
  have hk0 : Blk w0 w.heap.size 31 (enC ⟨0, 0, []⟩) := by rw [← hw0]; exact Blk.new _ _ _
  obtain ⟨p, hp⟩ : ∃ p, p = w.heap.size := ⟨_, rfl⟩
  rw [← hp] at hk0
  have HP := Lib.hid hp
  obtain ⟨c1, w1, hcv, hr1, hb1⟩ := str_bytes w0 m
  have HNW := Lib.hid (L3.new_any w1.heap.size (some ⟨w0.heap.size, 0, none⟩) m.length c1 m w1 hr1 hl (Nat.le_refl _))
  obtain ⟨r1, r1'⟩ := numS_rest m 0 (.inl rfl)
  obtain ⟨x1, hx1⟩ : ∃ x1, x1 = numS (m, 0) := ⟨_, rfl⟩
  rw [← hx1] at r1 r1'
  have hx1e : x1 = (restN m, x1.2) := by rw [← r1]
  obtain ⟨r2, r2'⟩ := numS_rest (restN m) x1.2 (by rw [← r1]; exact r1')
  obtain ⟨x2, hx2⟩ : ∃ x2, x2 = numS x1 := ⟨_, rfl⟩
  rw [← hx1e, ← hx2] at r2 r2'
  have HX1 := Lib.hid hx1
  have HX2 := Lib.hid hx2
  have hq := Nat.le_trans (restN_le (restN m)) (restN_le m)
  have hq2 : x2.1.length ≤ m.length := by rw [r2]; exact hq
  have hv : entV m = ⟨((rdN0 m) : Int), ((rdN0 x1.1) : Int), m.drop (m.length - x2.1.length)⟩ := by
    rw [r2, r1]; rfl
  obtain ⟨a, ha⟩ : ∃ a : Int, a = ((rdN0 m) : Int) := ⟨_, rfl⟩
  obtain ⟨b, hb⟩ : ∃ b : Int, b = ((rdN0 x1.1) : Int) := ⟨_, rfl⟩
  rw [← ha, ← hb] at hv
  rw [hv]
  have HA := Lib.hid ha
  have HB := Lib.hid hb
  obtain ⟨s, hs⟩ : ∃ s, s = str m := ⟨_, rfl⟩
  have hsn : s.size = m.length := by rw [hs, str_size]
  have HDR := Lib.hid (show s.extract (m.length - x2.1.length) s.size = str (m.drop (m.length - x2.1.length)) by rw [hs]; exact str_drop m _ (by omega))
  rw [← hs] at hcv ⊢
  obtain ⟨q, hqq⟩ : ∃ q, q = x2.1.length := ⟨_, rfl⟩
  have HQ := Lib.hid hqq
  obtain ⟨n, hn⟩ : ∃ n, n = s.size := ⟨_, rfl⟩
  rw [← hqq] at hq2 HDR ⊢
  rw [← hsn] at hq2 HDR ⊢
  have hn9 : s.size ≤ 100000000 := by omega
  have hr1b : Below w0.heap.size w0 w1 := hb1
  have HB1 := Lib.hid hb1
  have HB0 := Lib.hid hb0
  clear hx1 hx2 r1 r1' hx1e r2 r2' hq hv ha hb hs hsn hqq hn hl hr1b hp hr1 hb0 hb1
  go_enter Try.func38, Try.ntmps38
  go_upto_region 1 with fail
  rw [← HP.out]
  clear hw0
  go_upto_region 2 with (first
    | (go_at_call 54; refine HNW.out.mono ?_; unfold L3.made; rintro e w2 ⟨g, rfl, hg2, hR2, hb2⟩)
    | go_in)
  have HN1 := Lib.hid (L3.rnum_any g (m, 0) w2 hR2)
  have hbw2 : Below w0.heap.size w0 w2 := nxt HB1.out hb2
  have HGW := Lib.hid (show w0.heap.size ≤ g by have := HB1.out.size; omega)
  clear hcv hb2 hR2 hg2 HNW
  obtain ⟨x0, hx0⟩ : ∃ x0 : List UInt8 × Int, x0 = (m, 0) := ⟨_, rfl⟩
  rw [← hx0] at HN1 HX1
  have HX0 := Lib.hid hx0
  clear hx0
  have HN2 := Lib.hid (fun W (h : Rdr W g x1) => L3.rnum_any g x1 W h)
  have HN3 := Lib.hid (fun W (h : Rdr W g x2) => L3.rrest_any g x2 W h)
  go_upto_region 3 with (first
    | (go_at_call 55; refine (HN2.out _ hR3).mono ?_; rintro e w4 ⟨rfl, hl4⟩; rw [← HX2.out] at hl4; rw [show ((L3.rdN 0 0 x1.1).1 : Int) = b from HB.out.symm])
    | (go_at_call 55; refine HN1.out.mono ?_; rintro e w3 ⟨rfl, hl3⟩; rw [← HX1.out] at hl3; have hR3 := hl3.1; rw [show ((L3.rdN 0 0 x0.1).1 : Int) = a by rw [HX0.out]; exact HA.out.symm])
    | (refine wpList_build rfl _ _ rfl #[(0, .int .i64 a), (1, .int .i64 b)] rfl (build_en2 a b _) ?_)
    | (refine wpList_store_new rfl _ _ _ rfl w4 #[.int .i64 a, .int .i64 b, .string (str [])] rfl rfl _ _ enInfo rfl (by kernel_rfl) ?_)
    | go_in)
  have hbw3 : Below w0.heap.size w0 w3 := hbw2.grown hl3.2 hbw2.size (fun k e => by cases e; exact HGW.out)
  have hbw4 : Below w0.heap.size w0 w4 := hbw3.grown hl4.2 hbw3.size (fun k e => by cases e; exact HGW.out)
  have hk4 := hk0.below hbw4 hk0.lt
  have hR4 := hl4.1
  obtain ⟨w5, hw5⟩ : ∃ w5, w4.alloc (.cells #[.int .i64 a, .int .i64 b, .string (str [])] 31) = w5 := ⟨_, rfl⟩
  have hb5 : Below w4.heap.size w4 w5 := by rw [← hw5]; exact below_new _ _
  have hk5 : Blk w5 w4.heap.size 31 #[.int .i64 a, .int .i64 b, .string (str [])] := by rw [← hw5]; exact Blk.new _ _ _
  have hR5 : Rdr w5 g x2 := by
    obtain ⟨A, c, hbk, hrr⟩ := hR4
    exact ⟨A, c, hbk.below hb5 hbk.lt, hrr.1.below (hb5.mono (Nat.le_of_lt hbk.lt)), hrr.2⟩
  have hpne : p ≠ w4.heap.size := fun e => by have := hk4.lt; omega
  have hk45 := hk4.below hb5 hk4.lt
  have hbw5 : Below w0.heap.size w0 w5 := nxt hbw4 hb5
  obtain ⟨P, hP⟩ : ∃ P, P = w4.heap.size := ⟨_, rfl⟩
  have HPL := Lib.hid (show w0.heap.size ≤ P by have := hbw4.size; omega)
  rw [← hP] at hk5 hpne
  have HPP := Lib.hid hP
  rw [hw5, ← hP]
  have f2 := hk5.frozen 2
  have cc2 : w5.cell? ⟨P, 2, none⟩ = some (.string (str [])) := hk5.cell 2
  have hk6 := hk5.set_ 2 (.string (s.extract (s.size - q) s.size))
  have hk46 := hk45.far (p := ⟨P, 2, none⟩) hpne (.string (s.extract (s.size - q) s.size))
  have HBW6 := Lib.hid (hbw5.setCell (p := ⟨P, 2, none⟩) HPL.out (.string (s.extract (s.size - q) s.size)))
  have HQL := Lib.hid (show ((x2.1.length : Nat) : Int) = (q : Nat) by rw [HQ.out])
  clear hP hw5 hbw5 hk45 hb5 hR4 hk4 hbw4 hbw3 hl4 hl3 hR3 hbw2 hk5 hk0
  go_upto_region 4 with (first
    | (go_at_call 56; refine (HN3.out _ hR5).mono ?_; rintro e w6 ⟨rfl, rfl⟩; rw [HQL.out])
    | go_in)
  have hk6' : Blk (w5.setCell ⟨P, 2, none⟩ (.string (s.extract (s.size - q) s.size))) P 31 (enC ⟨a, b, m.drop (s.size - q)⟩) := by
    have := hk6
    rw [HDR.out] at this ⊢
    exact this
  obtain ⟨x, hx⟩ : ∃ x : Ent, x = ⟨a, b, m.drop (s.size - q)⟩ := ⟨_, rfl⟩
  rw [← hx] at hk6' ⊢
  have HXX := Lib.hid hx
  obtain ⟨w6, hw6⟩ : ∃ w6, w5.setCell ⟨P, 2, none⟩ (.string (s.extract (s.size - q) s.size)) = w6 := ⟨_, rfl⟩
  rw [hw6] at hk6' hk46 HBW6 ⊢
  clear hw6 hk6 hx HDR hR5 HQL cc2 f2
  go_wp2_with (first
    | (refine wpList_row_at rfl _ _ rfl P rfl _ _ _ _ hk6' Try.underlying31 rfl enInfo ?_)
    | (refine wpList_store_row rfl _ _ _ rfl p (enC x) rfl rfl _ _ hk46 enInfo rfl (enC_ones _) ?_)
    | go_in)
  (try simp only [Exit.inBlock, Exit.then])
  refine bodyPost_ret (v := .agg (enC x)) (results_row rfl _ _ p rfl _ (enC x) _ _ (blk_setRow hk46) Try.underlying31 rfl enInfo) rfl ?_
  refine ⟨by rw [HXX.out], ?_⟩
  have h6 := nxt HB0.out HBW6.out
  have hp := HP.out
  exact below_setRow h6 (by omega)
/-- What Line tells of what may be none. -/
theorem lineR_ok {x : Ent} (h : mayE x = 0) : lineR x = .tuple #[.string (str (lineE x)), .int .i64 0] := by
  unfold lineR
  rw [if_pos h, h]
set_option maxHeartbeats 4000000 in
set_option maxRecDepth 100000 in
theorem line_any (x : Ent) (w : World) (hf : x.fit) : Calls Try.prog 13 #[.agg (enC x)] w (gives (lineR x) w) := by
  by_cases hm : mayE x = 0
  · rw [lineR_ok hm]; exact line_ok x w hm
  obtain ⟨hn, hk, hb⟩ := hf
  have hb1 := below_new w (.cells (enC x) 31)
  have h0 := Blk.new w 31 (enC x)
  have c0 : (w.alloc (.cells (enC x) 31)).cell? ⟨w.heap.size, 0, none⟩ = some (.int .i64 x.num) := h0.cell 0
  have c1 : (w.alloc (.cells (enC x) 31)).cell? ⟨w.heap.size, 1, none⟩ = some (.int .i64 x.kind) := h0.cell 1
  have c2 : (w.alloc (.cells (enC x) 31)).cell? ⟨w.heap.size, 2, none⟩ = some (.string (str x.b)) := h0.cell 2
  obtain ⟨s, hs⟩ : ∃ s, s = str x.b := ⟨_, rfl⟩
  have hsn : s.size = x.b.length := by rw [hs, str_size]
  have hs9 : s.size ≤ maxLen := by rw [hsn]; exact hb
  unfold maxLen at hs9
  rw [← hs] at c2
  obtain ⟨z, hz⟩ : ∃ z, z = x.num := ⟨_, rfl⟩
  obtain ⟨q, hq⟩ : ∃ q, q = x.kind := ⟨_, rfl⟩
  rw [← hz] at c0
  rw [← hq] at c1
  obtain ⟨w1, hw1⟩ : ∃ w1, w.alloc (.cells (enC x) 31) = w1 := ⟨_, rfl⟩
  rw [hw1] at c0 c1 c2 hb1
  clear h0 hs
  have HB := Lib.hid hb1
  clear hb1
  by_cases g1 : z < 1
  · rw [lineR_no (n := 1) (mayE_arg (by omega)) (by decide)]
    clear hm hn hk hb hsn hz hq hs9
    go_enter Try.func13, Try.ntmps13
    go_wp2
    go_ret2
    exact ⟨rfl, HB.out⟩
  by_cases g2 : 4611686018427387904 < z
  · rw [lineR_no (n := 1) (mayE_arg (by omega)) (by decide)]
    clear hm hn hk hb hsn hz hq hs9
    go_enter Try.func13, Try.ntmps13
    go_wp2
    go_ret2
    exact ⟨rfl, HB.out⟩
  by_cases g3 : q = 1 ∨ q = 2
  · have hlen : 4194304 < x.b.length := by
      rcases Nat.lt_or_ge 4194304 x.b.length with h | h
      · exact h
      · exfalso
        apply hm
        unfold mayE
        rw [if_neg (by omega), if_neg (by omega)]
    rw [lineR_no (n := 2) (by unfold mayE; rw [if_neg (by omega), if_pos hlen]) (by decide)]
    have g4 : 4194304 < (s.size : Int) := by omega
    clear hm hn hk hb hsn hz hq hlen hs9
    rcases g3 with rfl | rfl
    all_goals
      go_enter Try.func13, Try.ntmps13
      go_wp2
      go_ret2
      exact ⟨rfl, HB.out⟩
  · rw [lineR_no (n := 1) (mayE_arg (by omega)) (by decide)]
    have g4 : (q == 1) = false := by rw [beq_eq_false_iff_ne]; omega
    have g5 : (q == 2) = false := by rw [beq_eq_false_iff_ne]; omega
    have g6 : (q != 1) = true := by rw [bne_iff_ne]; omega
    have g7 : (q != 2) = true := by rw [bne_iff_ne]; omega
    clear hm hn hk hb hsn hz hq g3 hs9
    go_enter Try.func13, Try.ntmps13
    go_wp2
    go_ret2
    exact ⟨rfl, HB.out⟩
end Go.Proofs.Ythhjdielananeaa
