/-
  The walk through the law of there and back.
-/
import Derived.Test.YtfoabgjcndgflaaDoorWalkParses
import Derived.Test.YtfoabgjcndgflaaDoorTakeT
import Derived.Test.YtfoabgjcndgflaaDoorGreat
set_option linter.unusedSimpArgs false
set_option linter.unusedVariables false
namespace Go.Proofs.YtfoabgjcndgflaaDoor.lawBackWalk
open Go.RowKit Go.Lib

theorem words_len {t : Txx} (h : right t = true) : (wordsT t).length ≤ 1000 := by
  have hw := right_wf h
  obtain ⟨_, w1, w2, w3, w4, _, _⟩ := hw
  have hn : (dgs t.nonce).length ≤ 20 := by
    by_cases hk : t.kind = 1
    · exact dgs_len (right_move h hk).1
    · exact dgs_len (right_put h hk).1
  unfold wordsT
  by_cases hk : t.kind = 1
  · have ha := dgs_len (right_move h hk).2.2.2.1
    simp only [if_pos hk, wMove, wGives, wTo, List.length_append, List.length_cons, List.length_nil]
    omega
  · simp only [if_neg hk, wPut, wSets, wTo, List.length_append, List.length_cons, List.length_nil]
    omega
theorem bytes_len {t : Txx} (h : right t = true) : (bytesT t).length ≤ 1000 := by
  have hw := right_wf h
  obtain ⟨_, w1, w2, w3, w4, _, _⟩ := hw
  by_cases hk : t.kind = 1
  · obtain ⟨p1, _, _, p4, _, _⟩ := right_move h hk
    have n1 := posN_in p1
    have n4 := posN_in p4
    have a := encN_len (n := 1) ⟨by omega, by omega⟩
    have b := encN_len (n := t.nonce) ⟨by omega, by omega⟩
    have c := encN_len (n := t.amount) ⟨by omega, by omega⟩
    have d := txtB_len w1
    have e := txtB_len w2
    unfold bytesT
    rw [if_pos hk, hk]
    simp only [List.length_append]
    omega
  · obtain ⟨p1, _, _, _, _, _, hk2⟩ := right_put h hk
    have n1 := posN_in p1
    have a := encN_len (n := 2) ⟨by omega, by omega⟩
    have b := encN_len (n := t.nonce) ⟨by omega, by omega⟩
    have d := txtB_len w1
    have e := txtB_len w3
    have f := txtB_len w4
    unfold bytesT
    rw [if_neg hk, hk2]
    simp only [List.length_append]
    omega
theorem below_leaves {w W W' : World} {g : Nat} {p : List UInt8 × Int} (hb : Below w.heap.size w W) (h : L3.leaves g p W W') (hg : w.heap.size ≤ g) : Below w.heap.size w W' := hb.grown h.2 hb.size (fun k hk => by cases hk; exact hg)
theorem len_is (a b : List UInt8) : (a ++ b).length = a.length + b.length := List.length_append
theorem none_slice (w : World) : (Instr.buildSlice 26 0 #[]).run Tryd.prog w = .ok (.slice (some ⟨w.heap.size, 0, none⟩) 0 0) (w.alloc (.cells #[] 5)) := by kernel_rfl
set_option maxHeartbeats 1000000 in
set_option maxRecDepth 100000 in
theorem great_walk (t : Txx) (rest : List UInt8) (A : Option Addr) (c : Nat) (w : World) (hT : Tabs w) (hg : greatB t = true ∨ (greatB t = false ∧ 1000 < rest.length)) : Calls Tryd.prog 5 #[.agg (txC t), .slice A rest.length c] w (gives (.bool true) w) := by
  have hb0 : Below w.heap.size w (w.alloc (.cells (txC t) 23)) := below_box _ t
  have k0 := box_new w 23 t
  have hal := alive_any _ (hT.kept hb0)
  have hgr := fun W => great_any t W
  rcases hg with hg | ⟨hg, hl⟩
  all_goals
    rw [hg] at hgr
    have HH := Lib.hid (And.intro hal hgr)
    clear hT hg hal hgr
    go_enter Tryd.func5, Tryd.ntmps5
    go_wp2_with (first
      | (go_at_call 6; refine HH.out.1.mono ?_; unfold gives; rintro e w1 ⟨rfl, hb1⟩; have k1 := k0.below hb1 k0.lt; replace hb1 := nxt hb0 hb1)
      | (refine wpList_row_at rfl _ _ rfl (w.heap.size) rfl _ _ _ _ k1 Tryd.underlying23 rfl (by kernel_rfl) ?_)
      | (go_at_call 7; refine (HH.out.2 _).mono ?_; unfold gives; rintro e w2 ⟨rfl, hb2⟩; replace hb2 := nxt hb1 hb2))
    go_ret
    exact ⟨rfl, hb2⟩
set_option maxHeartbeats 1000000 in
set_option maxRecDepth 100000 in
theorem wrong_walk (t : Txx) (rest : List UInt8) (A : Option Addr) (c : Nat) (w : World) (hT : Tabs w) (hwf : t.wf 1000) (hg : greatB t = false) (hl : rest.length ≤ 1000) (hr : right t = false) : Calls Tryd.prog 5 #[.agg (txC t), .slice A rest.length c] w (gives (.bool true) w) := by
  have hwf := hwf.le (show 1000 ≤ 1000000 by omega)
  have hb0 : Below w.heap.size w (w.alloc (.cells (txC t) 23)) := below_box _ t
  have k0 := box_new w 23 t
  have hal := alive_any _ (hT.kept hb0)
  have hgr := fun W => great_any t W
  rw [hg] at hgr
  have hby := fun W hW => bytes_no t W hwf hW hr
  have hck := fun W hW => check_any t W hwf hW
  rw [hr] at hck
  have HT := Lib.hid (fun w' (hb : Below w.heap.size w w') => hT.kept hb)
  have HH := Lib.hid (And.intro hal (And.intro hgr (And.intro hby hck)))
  clear hT hg hal hgr hby hck hwf hr
  go_enter Tryd.func5, Tryd.ntmps5
  go_wp2_with (first
    | (go_at_call 6; refine HH.out.1.mono ?_; unfold gives; rintro e w1 ⟨rfl, hb1⟩; have k1 := k0.below hb1 k0.lt; replace hb1 := nxt hb0 hb1)
    | (refine wpList_row_at rfl _ _ rfl (w.heap.size) rfl _ _ _ _ k1 Tryd.underlying23 rfl (by kernel_rfl) ?_)
    | (go_at_call 7; refine (HH.out.2.1 _).mono ?_; unfold gives; rintro e w2 ⟨rfl, hb2⟩; have k2 := k1.below hb2 k1.lt; replace hb2 := nxt hb1 hb2)
    | (refine wpList_row_at rfl _ _ rfl (w.heap.size) rfl _ _ _ _ k2 Tryd.underlying23 rfl (by kernel_rfl) ?_)
    | (go_at_call 8; refine (HH.out.2.2.1 _ (HT.out _ hb2)).mono ?_; unfold gives; rintro e w3 ⟨rfl, hb3⟩; have k3 := k2.below hb3 k2.lt; replace hb3 := nxt hb2 hb3)
    | (refine wpList_row_at rfl _ _ rfl (w.heap.size) rfl _ _ _ _ k3 Tryd.underlying23 rfl (by kernel_rfl) ?_)
    | (go_at_call 10; refine (HH.out.2.2.2 _ (HT.out _ hb3)).mono ?_; unfold gives errI; rintro e w4 ⟨rfl, hb4⟩; replace hb4 := nxt hb3 hb4))
  go_ret
  exact ⟨rfl, hb4⟩
set_option maxHeartbeats 4000000 in
set_option maxRecDepth 100000 in
theorem right_walk (t : Txx) (rest : List UInt8) (A : Option Addr) (c : Nat) (w : World) (hT : Tabs w) (hrd : L3.Reads w w.heap.size 1 A rest.length (byteCells rest)) (hg : greatB t = false) (hl : rest.length ≤ 1000) (hr : right t = true) : Calls Tryd.prog 5 #[.agg (txC t), .slice A rest.length c] w (gives (.bool true) w) := by
  obtain ⟨i0, hi, hz0, hz1, hz2⟩ := info_parts L3.byteInfo
  have hwf := right_wf hr
  have hb0 : Below w.heap.size w (w.alloc (.cells (txC t) 23)) := below_box _ t
  have k0 := box_new w 23 t
  have hal := alive_any _ (hT.kept hb0)
  have hgr := fun W => great_any t W
  rw [hg] at hgr
  have hby := fun W hW => bytes_ok t W hW hr
  have hpr := fun W hW => print_ok t W hW hr
  have hwl := words_len hr
  have hbl := bytes_len hr
  have hpa := fun W hW => parse_any (wordsT t) W (by omega) hW
  rw [parse_words t hr] at hpa
  have htk := fun g W h hW => take_any g (bytesT t ++ rest, 0) W h hW
  rw [take_bytes t rest hr] at htk
  have heq := fun W => eql_same hwf (show 128 ≤ maxLen by unfold maxLen; omega) W
  obtain ⟨bs, hbs⟩ : ∃ b, b = bytesT t := ⟨_, rfl⟩
  obtain ⟨ws, hws⟩ : ∃ b, b = wordsT t := ⟨_, rfl⟩
  obtain ⟨ys, hys⟩ : ∃ b, b = bs ++ rest := ⟨_, rfl⟩
  rw [← hbs] at hby htk hbl
  rw [← hys] at htk
  rw [← hws] at hpr hpa
  have hT0 := Lib.hid hT
  have HT := Lib.hid (fun w' (hb : Below w.heap.size w w') => hT.kept hb)
  have HY := Lib.hid hys
  have HR := Lib.hid hrd
  unfold outP at hpa
  have HH := Lib.hid (And.intro hal (And.intro hgr (And.intro hby (And.intro hpr (And.intro hpa (And.intro htk heq))))))
  clear hT hg hal hgr hby hpr hpa htk heq hwf hr hbs hws hys hwl hrd
  go_enter Tryd.func5, Tryd.ntmps5
  go_upto_region 8 with (first
    | (go_at_call 6; refine HH.out.1.mono ?_; unfold gives; rintro e w1 ⟨rfl, hb1⟩; have k1 := k0.below hb1 k0.lt; replace hb1 := nxt hb0 hb1)
    | (refine wpList_row_at rfl _ _ rfl (w.heap.size) rfl _ _ _ _ k1 Tryd.underlying23 rfl (by kernel_rfl) ?_)
    | (go_at_call 7; refine (HH.out.2.1 _).mono ?_; unfold gives; rintro e w2 ⟨rfl, hb2⟩; have k2 := k1.below hb2 k1.lt; replace hb2 := nxt hb1 hb2)
    | (refine wpList_row_at rfl _ _ rfl (w.heap.size) rfl _ _ _ _ k2 Tryd.underlying23 rfl (by kernel_rfl) ?_)
    | (go_at_call 8; refine (HH.out.2.2.1 _ (HT.out _ hb2)).mono ?_; unfold made; rintro e w3 ⟨A3, c3, rfl, r3, _, hb3⟩; have k3 := k2.below hb3 k2.lt; replace hb3 := nxt hb2 hb3))
  have r0 := (HR.out.below hb3).more hb3.size
  clear hb0 hb1 hb2 k0 k1 k2
  have hs3 := k3.lt
  go_upto_region 9 with (first
    | (at_builtin; refine L3.wpList_append_any _ rfl _ _ _ rfl w3.heap.size 5 i0 (.int .u8 0) 1 1 Tryd.underlying26 hi hz0 hz1 hz2 rfl (by decide) (.slice (some ⟨w3.heap.size, 0, none⟩) 0 0) 0 [] rfl (World.ownsRow_made _ _ 0 (by omega) (by decide) rfl) _ A3 bs.length c3 (byteCells bs) rfl (r3.alloc (Nat.le_refl _) _) (L3.byteCells_one _) (by unfold maxLen; omega) (by omega) (by first | omega | (simp; done) | (simp; omega)) ?_; intro v4 w4 ho4 hg4 _; have hb34 : Below w3.heap.size w3 w4 := ((Below.refl _ w3).alloc (Nat.le_refl _) _).grown hg4 (by simp) (fun k hk => by simp [Value.ownBlock] at hk; omega); simp only [Nat.zero_add, List.nil_append] at ho4; have r04 := (r0.below hb34).more hb34.size; have hs34 := hb34.size)
    | (at_builtin; refine L3.wpList_append_any _ rfl _ _ _ rfl w3.heap.size 5 i0 (.int .u8 0) 1 1 Tryd.underlying26 hi hz0 hz1 hz2 rfl (by decide) v4 bs.length (byteCells bs) rfl ho4 _ A rest.length c (byteCells rest) rfl r04 (L3.byteCells_one _) (by unfold maxLen; omega) (by omega) (by first | omega | (simp; done) | (simp; omega)) ?_; intro v5 w5 ho5 hg5 _; have hb35 : Below w3.heap.size w3 w5 := hb34.grown hg5 hb34.size (fun k hk => (ho4.lt k hk).1); have hN := len_is bs rest; obtain ⟨N, hNe⟩ : ∃ N, N = bs.length + rest.length := ⟨_, rfl⟩; rw [← hNe] at ho5 hN; obtain ⟨A5, c5, rfl⟩ := own_form ho5; have r5 : L3.Reads w5 w5.heap.size 1 A5 N (byteCells ys) := (by have := L3.Reads.of_own ho5; rw [HY.out, byteCells_append]; exact this); have hN2 : N ≤ 2000 := (by omega); clear hNe hN)
    | (go_at_call 16; refine (L3.new_any _ A5 N c5 ys _ r5 (by omega) (Nat.le_refl _)).mono ?_; unfold L3.made; rintro e w6 ⟨g, rfl, hg6, hrd6, hb6⟩))
  have hb36 : Below w3.heap.size w3 w6 := hb35.trans (hb6.mono hb35.size)
  have hbw := nxt hb3 hb36
  have k6 := k3.below hb36 k3.lt
  have hgw : w.heap.size < g := Nat.lt_of_lt_of_le hs3 (Nat.le_trans hb35.size hg6)
  have hgne : some w.heap.size ≠ some g := fun e => by injection e with e; omega
  have htk := HH.out.2.2.2.2.2.1 g w6 hrd6 (fun W hW => tabs_grown hT0.out hbw (Nat.le_of_lt hgw) hW)
  have HTK := Lib.hid htk
  clear htk hb36 hb35 hb34 hb6 hg6 hg5 hg4 ho5 ho4 r5 r04 r0 r3 k3 hb3 hs34 hs3 hrd6 hi hz0 hz1 hz2 hN2
  go_wp2_with (first
    | (go_at_call 17; refine HTK.out.mono ?_; rintro e w7 ⟨rfl, hl7⟩; have hb7 := below_leaves hbw hl7 (Nat.le_of_lt hgw); have k7 := (k6.grown hl7.2 hgne).alloc (.cells (txC t) 23); have u7 := box_new w7 23 t; have rd7 := rdr_alloc hl7.1 (.cells (txC t) 23); replace hb7 := hb7.alloc hb7.size (.cells (txC t) 23))
    | (refine wpList_store_new rfl _ _ _ rfl _ (txC t) rfl rfl _ _ (by kernel_rfl) rfl (txC_ones _) ?_)
    | (refine wpList_row_at rfl _ _ rfl (w.heap.size) rfl _ _ _ _ k7 Tryd.underlying23 rfl (by kernel_rfl) ?_)
    | (go_at_call 9; refine (HH.out.2.2.2.1 _ (HT.out _ hb7)).mono ?_; unfold gives; rintro e w9 ⟨rfl, hb9⟩; have k9 := k7.below hb9 k7.lt; have u9 := u7.below hb9 u7.lt; have rd9 := rdr_below rd7 hb9 rd7.lt; replace hb9 := nxt hb7 hb9)
    | (go_at_call 14; refine (HH.out.2.2.2.2.1 _ (HT.out _ hb9)).mono ?_; unfold gives; rintro e w10 ⟨rfl, hb10⟩; have k10 := (k9.below hb10 k9.lt).alloc (.cells (txC t) 23); have u10 := (u9.below hb10 u9.lt).alloc (.cells (txC t) 23); have v10 := box_new w10 23 t; have rd10 := rdr_alloc (rdr_below rd9 hb10 rd9.lt) (.cells (txC t) 23); replace hb10 := nxt hb9 hb10; replace hb10 := hb10.alloc hb10.size (.cells (txC t) 23))
    | (refine wpList_row_at rfl _ _ rfl (w7.heap.size) rfl _ _ _ _ u10 Tryd.underlying23 rfl (by kernel_rfl) ?_)
    | (refine wpList_row_at rfl _ _ rfl (w.heap.size) rfl _ _ _ _ k10 Tryd.underlying23 rfl (by kernel_rfl) ?_)
    | (refine wpList_row_at rfl _ _ rfl (w10.heap.size) rfl _ _ _ _ v10 Tryd.underlying23 rfl (by kernel_rfl) ?_)
    | (refine wpList_binop rfl _ _ _ _ _ rfl (txC t) (txC t) rfl rfl (by kernel_rfl) (HH.out.2.2.2.2.2.2 _) ?_)
    | (go_at_call 18; refine (L3.rrest_any g (rest, 0) _ rd10).mono ?_; rintro e w11 ⟨rfl, rfl⟩))
  go_ret
  exact ⟨rfl, hb10⟩
theorem walk (t : Txx) (A : Option Addr) (c : Nat) (rest : List UInt8) (w : World) (n : Nat) (hT : Tabs w) (hwf : t.wf n) (hrd : L3.Reads w w.heap.size 1 A rest.length (byteCells rest)) :
    Calls Tryd.prog 5 #[.agg (txC t), .slice A rest.length c] w fun e w' => e = .returned (.bool true) ∧ Below w.heap.size w w' := by
  rcases Bool.eq_false_or_eq_true (greatB t) with hg | hg
  · exact great_walk t rest A c w hT (.inl hg)
  · rcases Nat.lt_or_ge 1000 rest.length with hl | hl
    · exact great_walk t rest A c w hT (.inr ⟨hg, hl⟩)
    · have h := great_wf hwf hg
      rcases Bool.eq_false_or_eq_true (right t) with hr | hr
      · exact right_walk t rest A c w hT hrd hg hl hr
      · exact wrong_walk t rest A c w hT h hg hl hr
end Go.Proofs.YtfoabgjcndgflaaDoor.lawBackWalk
