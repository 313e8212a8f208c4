/-
  The entry of a line, by the code.
-/
import Derived.Test.YthhjdielananeaaEnt
set_option linter.unusedSimpArgs false
set_option linter.unusedVariables false
set_option maxRecDepth 10000
namespace Go.Proofs.Ythhjdielananeaa
open Go.RowKit Go.Lib
open L3 (Blk Reads block_of_add add_of_add Rdr leaves numS)
open L6 (Turn moreB fresh From In)

theorem trim_is (l : List UInt8) : Lib.trimSuffix l [0] = trimL l := by
  unfold Lib.trimSuffix trimL Lib.hasSuffix
  by_cases h : l.getLast? = some 0
  · obtain ⟨m, hm⟩ := List.getLast?_eq_some_iff.1 h
    rw [if_pos h, if_pos (List.isSuffixOf_iff_suffix.2 ⟨m, hm.symm⟩), hm, List.dropLast_concat]
    simp
  · rw [if_neg h, if_neg]
    intro hs
    obtain ⟨m, hm⟩ := List.isSuffixOf_iff_suffix.1 hs
    exact h (by rw [← hm]; simp)
theorem rd_le (l : List UInt8) : (L3.rdN 0 0 l).1 ≤ 4611686018427387904 := by
  obtain ⟨k, s, e, hp⟩ : ∃ k s e, L3.rdN 0 0 l = (k, s, e) := ⟨_, _, _, rfl⟩
  rw [hp]
  by_cases he : e = 0
  · subst he
    exact (L3.rd_back0 hp).2.2.2
  · have := ((L3.rd_err l 0 0 k s e hp).2 he).1
    show k ≤ _
    omega
theorem entV_fit {m : List UInt8} (h : m.length ≤ maxLen) : (entV m).fit := by
  have h1 := rd_le m
  have h2 := rd_le (restN m)
  refine ⟨⟨?_, ?_⟩, ⟨?_, ?_⟩, Nat.le_trans (ent_ok m) h⟩
  all_goals
    unfold entV
    dsimp only
    omega
theorem strip_le {l m : List UInt8} (h : strip l = some m) : m.length ≤ l.length := by
  have := (dress_len m).1
  rw [dress_strip _ l m (Nat.le_refl _) h] at this
  exact this
theorem trimL_le (l : List UInt8) : (trimL l).length ≤ l.length := by
  unfold trimL
  split
  · rw [List.length_dropLast]; omega
  · exact Nat.le_refl _
/-- What Unline tells. -/
def unR (o : Option Ent) : Value := .tuple #[.agg (enC (o.getD ⟨0, 0, []⟩)), .int .i64 (if o.isSome = true then 0 else 180)]
theorem str_ne {l m : List UInt8} (h : l ≠ m) : ¬ (str l).toList = (str m).toList ∧ ((str l).toList == (str m).toList) = false := by
  have : ∀ k : List UInt8, (str k).toList = k := fun k => by rw [Lib.toList_data]
  rw [this, this]
  exact ⟨h, by rw [beq_eq_false_iff_ne]; exact h⟩
set_option maxHeartbeats 4000000 in
set_option maxRecDepth 100000 in
theorem unline_any (l : List UInt8) (w : World) (hl : l.length ≤ 100000000) : Calls Try.prog 15 #[.string (str l)] w (gives (unR (ulE l)) w) := by
  obtain ⟨w0, hw0⟩ : ∃ w0, w.alloc (.cells #[.int .i64 0, .int .i64 0, .string ⟨#[]⟩] 31) = w0 := ⟨_, rfl⟩
  have hb0 : Below w.heap.size w w0 := by rw [← hw0]; exact below_new _ _
  have hk0 : Blk w0 w.heap.size 31 (enC ⟨0, 0, []⟩) := by rw [← hw0]; exact Blk.new _ _ _
  obtain ⟨p, hp⟩ : ∃ p, p = w.heap.size := ⟨_, rfl⟩
  rw [← hp] at hk0
  have HP := Lib.hid hp
  have HT := Lib.hid (show Calls Try.prog 37 #[.string (str l), .string { data := #[0] }] w0 (fun e w' => e = .returned (.string (str (trimL l))) ∧ w' = w0) by
    have := Try.strings_TrimSuffix (str l) (str [0]) w0 (by rw [str_size]; omega)
    rw [show (str l).data.toList = l from rfl, show (str [0]).data.toList = [0] from rfl, trim_is] at this
    exact this)
  have htl := trimL_le l
  have HS := Lib.hid (strip_any (trimL l) w0 (by omega))
  have HB0 := Lib.hid hb0
  cases ho : ulE l with
  | some y =>
    obtain ⟨hy, hm⟩ := ul_back ho
    have e1 : strip (trimL l) = some (bodyE y) := by rw [← hy, trim_line, strip_dress]
    rw [e1] at HS
    have hbl : (bodyE y).length ≤ 100000000 := by have := strip_le e1; omega
    have HE := Lib.hid (fun W => entry_any (bodyE y) W hbl)
    rw [entV_body hm] at HE
    have HL := Lib.hid (fun W => line_ok y W hm)
    rw [hy] at HL
    have hR : unR (some y) = .tuple #[.agg (enC y), .int .i64 0] := rfl
    rw [hR]
    have hsr : stripR (some (bodyE y)) = .tuple #[.string (str (bodyE y)), .int .i64 0] := rfl
    rw [hsr] at HS
    obtain ⟨s, hs⟩ : ∃ s, s = str l := ⟨_, rfl⟩
    rw [← hs] at HL HT ⊢
    have q1 : (s.toList == s.toList) = true := by simp
    clear ho hy hm e1 hbl hs htl hb0 hp hl
    go_enter Try.func15, Try.ntmps15
    go_upto_region 1 with fail
    rw [← HP.out]
    clear hw0
    go_upto_region 4 with (first
      | (go_at_call 37; refine HT.out.mono ?_; rintro e w1 ⟨rfl, rfl⟩)
      | (go_at_call 11; refine HS.out.mono ?_; unfold gives; rintro e w1 ⟨rfl, hb1⟩)
      | go_in)
    have hk1 := hk0.below hb1 hk0.lt
    go_upto_region 5 with (first
      | (go_at_call 38; refine (HE.out _).mono ?_; unfold gives; rintro e w2 ⟨rfl, hb2⟩)
      | (refine wpList_store_new rfl _ _ _ rfl w2 (enC y) rfl rfl _ _ enInfo rfl (enC_ones _) ?_)
      | go_in)
    have hk2 := hk1.below hb2 hk1.lt
    have hb3 := below_new w2 (.cells (enC y) 31)
    have hk3 := hk2.below hb3 hk2.lt
    have hy3 := Blk.new w2 31 (enC y)
    obtain ⟨w3, hw3⟩ : ∃ w3, w2.alloc (.cells (enC y) 31) = w3 := ⟨_, rfl⟩
    obtain ⟨P, hP⟩ : ∃ P, P = w2.heap.size := ⟨_, rfl⟩
    rw [hw3] at hb3 hk3 hy3 ⊢
    rw [← hP] at hy3 ⊢
    have HB3 := Lib.hid (nxt (nxt hb1 hb2) hb3)
    clear hw3 hP hb3 hk2 hk1 hb1 hb2 hk0
    go_upto_region 6 with (first
      | (refine wpList_row_at rfl _ _ rfl P rfl _ _ _ _ hy3 Try.underlying31 rfl enInfo ?_)
      | (go_at_call 13; refine (HL.out _).mono ?_; unfold gives; rintro e w4 ⟨rfl, hb4⟩)
      | go_in)
    have hk4 := hk3.below hb4 hk3.lt
    have hy4 := hy3.below hb4 hy3.lt
    have HB4 := Lib.hid (nxt HB3.out hb4)
    clear hb4 hy3 hk3
    go_wp2_with (first
      | (refine wpList_row_at rfl _ _ rfl P rfl _ _ _ _ hy4 Try.underlying31 rfl enInfo ?_)
      | (refine wpList_store_row rfl _ _ _ rfl p (enC y) rfl rfl _ _ hk4 enInfo rfl (enC_ones _) ?_)
      | go_in)
    (try simp only [Exit.inBlock, Exit.then])
    refine bodyPost_ret (v := .tuple #[.agg (enC y), .int .i64 0]) (results_row2 rfl _ _ p rfl (.int .i64 0) rfl _ (enC y) _ _ (blk_setRow hk4) Try.underlying31 rfl enInfo) rfl ?_
    exact ⟨rfl, below_setRow (nxt HB0.out HB4.out) (by have := HP.out; omega)⟩
  | none =>
    have hR : unR none = .tuple #[.agg (enC ⟨0, 0, []⟩), .int .i64 180] := rfl
    rw [hR]
    cases hst : strip (trimL l) with
    | none =>
      rw [hst] at HS
      have hsr : stripR none = .tuple #[.string (str []), .int .i64 180] := rfl
      rw [hsr] at HS
      obtain ⟨s, hs⟩ : ∃ s, s = str l := ⟨_, rfl⟩
      rw [← hs] at HT ⊢
      clear ho hst hs htl hb0 hp hl
      go_enter Try.func15, Try.ntmps15
      go_upto_region 1 with fail
      rw [← HP.out]
      clear hw0
      go_upto_region 3 with (first
        | (go_at_call 37; refine HT.out.mono ?_; rintro e w1 ⟨rfl, rfl⟩)
        | (go_at_call 11; refine HS.out.mono ?_; unfold gives; rintro e w1 ⟨rfl, hb1⟩)
        | go_in)
      have hk1 := hk0.below hb1 hk0.lt
      have HB1 := Lib.hid (nxt HB0.out hb1)
      clear hk0 hb1
      go_wp2_with (first
        | (refine wpList_build rfl _ _ rfl #[] rfl (build_en0 _) ?_)
        | (refine wpList_store_row rfl _ _ _ rfl p (enC ⟨0, 0, []⟩) rfl rfl _ _ hk1 enInfo rfl (enC_ones _) ?_)
        | go_in)
      (try simp only [Exit.inBlock, Exit.then])
      refine bodyPost_ret (v := .tuple #[.agg (enC ⟨0, 0, []⟩), .int .i64 180]) (results_row2 rfl _ _ p rfl (.int .i64 180) rfl _ (enC ⟨0, 0, []⟩) _ _ (blk_setRow hk1) Try.underlying31 rfl enInfo) rfl ?_
      exact ⟨rfl, below_setRow HB1.out (by have := HP.out; omega)⟩
    | some m =>
      rw [hst] at HS
      have hsr : stripR (some m) = .tuple #[.string (str m), .int .i64 0] := rfl
      rw [hsr] at HS
      have hml := strip_le hst
      have HE := Lib.hid (fun W => entry_any m W (by omega))
      have hfi := entV_fit (m := m) (by unfold maxLen; omega)
      have HL := Lib.hid (fun W => line_any (entV m) W hfi)
      have hne : mayE (entV m) = 0 → lineE (entV m) ≠ l := fun h1 h2 => by
        rw [← h2, ul_line h1] at ho
        cases ho
      obtain ⟨y, hy⟩ : ∃ y, y = entV m := ⟨_, rfl⟩
      rw [← hy] at HE HL hne
      obtain ⟨n, u, hn, hnu⟩ : ∃ (n : Int) (u : List UInt8), lineR y = .tuple #[.string (str u), .int .i64 n] ∧ (n = 0 → u ≠ l) := ⟨_, _, rfl, fun h => by rw [if_pos h]; exact hne h⟩
      rw [hn] at HL
      have h9 : (n == 0) = false ∨ (n = 0 ∧ u ≠ l) := by
        by_cases h : n = 0
        · exact .inr ⟨h, hnu h⟩
        · exact .inl (by rw [beq_eq_false_iff_ne]; exact h)
      have h10 : ((n == 0) = false ∧ (n != 0) = true) ∨ (n = 0 ∧ u ≠ l) := h9.imp (fun h => ⟨h, by rw [bne, h]; rfl⟩) id
      clear hfi hml hst ho hy hn hnu h9 hne
      rcases h10 with ⟨g1, g2⟩ | ⟨g1, g2⟩
      · obtain ⟨s, hs⟩ : ∃ s, s = str l := ⟨_, rfl⟩
        rw [← hs] at HT ⊢
        clear hs htl hb0 hp hl
        go_enter Try.func15, Try.ntmps15
        go_upto_region 1 with fail
        rw [← HP.out]
        clear hw0
        go_upto_region 4 with (first
          | (go_at_call 37; refine HT.out.mono ?_; rintro e w1 ⟨rfl, rfl⟩)
          | (go_at_call 11; refine HS.out.mono ?_; unfold gives; rintro e w1 ⟨rfl, hb1⟩)
          | go_in)
        have hk1 := hk0.below hb1 hk0.lt
        go_upto_region 5 with (first
          | (go_at_call 38; refine (HE.out _).mono ?_; unfold gives; rintro e w2 ⟨rfl, hb2⟩)
          | (refine wpList_store_new rfl _ _ _ rfl w2 (enC y) rfl rfl _ _ enInfo rfl (enC_ones _) ?_)
          | go_in)
        have hk2 := hk1.below hb2 hk1.lt
        have hb3 := below_new w2 (.cells (enC y) 31)
        have hk3 := hk2.below hb3 hk2.lt
        have hy3 := Blk.new w2 31 (enC y)
        obtain ⟨w3, hw3⟩ : ∃ w3, w2.alloc (.cells (enC y) 31) = w3 := ⟨_, rfl⟩
        obtain ⟨P, hP⟩ : ∃ P, P = w2.heap.size := ⟨_, rfl⟩
        rw [hw3] at hb3 hk3 hy3 ⊢
        rw [← hP] at hy3 ⊢
        have HB3 := Lib.hid (nxt (nxt hb1 hb2) hb3)
        clear hw3 hP hb3 hk2 hk1 hb1 hb2 hk0
        go_upto_region 6 with (first
          | (refine wpList_row_at rfl _ _ rfl P rfl _ _ _ _ hy3 Try.underlying31 rfl enInfo ?_)
          | (go_at_call 13; refine (HL.out _).mono ?_; unfold gives; rintro e w4 ⟨rfl, hb4⟩)
          | go_in)
        have hk4 := hk3.below hb4 hk3.lt
        have HB4 := Lib.hid (nxt HB3.out hb4)
        clear hb4 hy3 hk3
        go_wp2_with (first
          | (refine wpList_build rfl _ _ rfl #[] rfl (build_en0 _) ?_)
          | (refine wpList_store_row rfl _ _ _ rfl p (enC ⟨0, 0, []⟩) rfl rfl _ _ hk4 enInfo rfl (enC_ones _) ?_)
          | go_in)
        (try simp only [Exit.inBlock, Exit.then])
        refine bodyPost_ret (v := .tuple #[.agg (enC ⟨0, 0, []⟩), .int .i64 180]) (results_row2 rfl _ _ p rfl (.int .i64 180) rfl _ (enC ⟨0, 0, []⟩) _ _ (blk_setRow hk4) Try.underlying31 rfl enInfo) rfl ?_
        exact ⟨rfl, below_setRow (nxt HB0.out HB4.out) (by have := HP.out; omega)⟩
      · obtain ⟨g3, g4⟩ := str_ne g2
        subst g1
        obtain ⟨s, hs⟩ : ∃ s, s = str l := ⟨_, rfl⟩
        obtain ⟨v, hv⟩ : ∃ v, v = str u := ⟨_, rfl⟩
        rw [← hs] at HT g3 g4 ⊢
        rw [← hv] at HL g3 g4
        clear hs hv htl hb0 hp hl g2
        go_enter Try.func15, Try.ntmps15
        go_upto_region 1 with fail
        rw [← HP.out]
        clear hw0
        go_upto_region 4 with (first
          | (go_at_call 37; refine HT.out.mono ?_; rintro e w1 ⟨rfl, rfl⟩)
          | (go_at_call 11; refine HS.out.mono ?_; unfold gives; rintro e w1 ⟨rfl, hb1⟩)
          | go_in)
        have hk1 := hk0.below hb1 hk0.lt
        go_upto_region 5 with (first
          | (go_at_call 38; refine (HE.out _).mono ?_; unfold gives; rintro e w2 ⟨rfl, hb2⟩)
          | (refine wpList_store_new rfl _ _ _ rfl w2 (enC y) rfl rfl _ _ enInfo rfl (enC_ones _) ?_)
          | go_in)
        have hk2 := hk1.below hb2 hk1.lt
        have hb3 := below_new w2 (.cells (enC y) 31)
        have hk3 := hk2.below hb3 hk2.lt
        have hy3 := Blk.new w2 31 (enC y)
        obtain ⟨w3, hw3⟩ : ∃ w3, w2.alloc (.cells (enC y) 31) = w3 := ⟨_, rfl⟩
        obtain ⟨P, hP⟩ : ∃ P, P = w2.heap.size := ⟨_, rfl⟩
        rw [hw3] at hb3 hk3 hy3 ⊢
        rw [← hP] at hy3 ⊢
        have HB3 := Lib.hid (nxt (nxt hb1 hb2) hb3)
        clear hw3 hP hb3 hk2 hk1 hb1 hb2 hk0
        go_upto_region 6 with (first
          | (refine wpList_row_at rfl _ _ rfl P rfl _ _ _ _ hy3 Try.underlying31 rfl enInfo ?_)
          | (go_at_call 13; refine (HL.out _).mono ?_; unfold gives; rintro e w4 ⟨rfl, hb4⟩)
          | go_in)
        have hk4 := hk3.below hb4 hk3.lt
        have HB4 := Lib.hid (nxt HB3.out hb4)
        clear hb4 hy3 hk3
        go_wp2_with (first
          | (refine wpList_build rfl _ _ rfl #[] rfl (build_en0 _) ?_)
          | (refine wpList_store_row rfl _ _ _ rfl p (enC ⟨0, 0, []⟩) rfl rfl _ _ hk4 enInfo rfl (enC_ones _) ?_)
          | go_in)
        (try simp only [Exit.inBlock, Exit.then])
        refine bodyPost_ret (v := .tuple #[.agg (enC ⟨0, 0, []⟩), .int .i64 180]) (results_row2 rfl _ _ p rfl (.int .i64 180) rfl _ (enC ⟨0, 0, []⟩) _ _ (blk_setRow hk4) Try.underlying31 rfl enInfo) rfl ?_
        exact ⟨rfl, below_setRow (nxt HB0.out HB4.out) (by have := HP.out; omega)⟩
end Go.Proofs.Ythhjdielananeaa
