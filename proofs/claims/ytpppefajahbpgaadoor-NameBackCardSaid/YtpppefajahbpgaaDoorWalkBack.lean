/-
  The walk through the law of P2.4: in pieces that meet again.
-/
import Derived.Test.YtpppefajahbpgaaDoorOrder
import Derived.Test.YtpppefajahbpgaaDoorAlive
import Derived.Deep.DeepCutAuto
set_option linter.unusedSimpArgs false
set_option linter.unusedVariables false
namespace Go.Proofs.YtpppefajahbpgaaDoor.lawBackWalk
open Go.RowKit Go.Lib

theorem strOf_app (l : List UInt8) (m : List UInt8) : strOf l ++ strOf m = strOf (l ++ m) := by
  apply ByteArray.ext
  rw [ByteArray.data_append]
  simp [strOf]
theorem long_any (a b c : ByteArray) (n : Int) (w : World) (h : 2000 < a.size ∨ (a.size ≤ 2000 ∧ 2000 < b.size) ∨ (a.size ≤ 2000 ∧ b.size ≤ 2000 ∧ 2000 < c.size)) :
    Calls Tryd.prog 5 #[.string a, .string b, .string c, .int .i64 n] w fun e w' => e = .returned (.bool true) ∧ Below w.heap.size w w' := by
  rcases h with h | ⟨h1, h⟩ | ⟨h1, h2, h⟩
  all_goals
    go_enter Tryd.func5, Tryd.ntmps5
    go_wp2_with (go_at_call 6; refine (alive_any _).mono ?_; rintro e w1 ⟨rfl, hb1⟩)
    go_ret
    exact ⟨rfl, hb1⟩
set_option maxHeartbeats 4000000 in
set_option maxRecDepth 100000 in
theorem short_any (a b c : ByteArray) (n : Int) (w : World) (ha : a.size ≤ 2000) (hb : b.size ≤ 2000) (hc : c.size ≤ 2000) (n0 : -9223372036854775808 ≤ n) (n1 : n ≤ 9223372036854775807) (ht : Tab w) :
    Calls Tryd.prog 5 #[.string a, .string b, .string c, .int .i64 n] w fun e w' => e = .returned (.bool true) ∧ Below w.heap.size w w' := by
  have HT := Lib.hid ht
  clear ht
  have ha1 : a.size ≤ 1000000 := by omega
  have hb1 : b.size ≤ 1000000 := by omega
  have hc1 : c.size ≤ 1000000 := by omega
  go_enter Tryd.func5, Tryd.ntmps5
  go_upto_region 5 with (go_at_call 6; refine (alive_any _).mono ?_; rintro e w1 ⟨rfl, hbw⟩)
  go_upto_if 36 with (go_at_call 11; refine (fold_any _ _ ha1).mono ?_; unfold foldPost; rintro e w2 ⟨rfl, hb2⟩; replace hbw := nxt hbw hb2 hbw.size; clear hb2)
  go_cut [] (fun wx => Below w.heap.size w wx)
  case first =>
    rcases Bool.eq_false_or_eq_true (foldB a.data.toList) with hf | hf
    case inr =>
      have hE : (errOf (foldB a.data.toList) == 0) = false := by rw [hf]; rfl
      clear hf
      go_wp2
      go_meet
      exact hbw
    case inl =>
      have hE : (errOf (foldB a.data.toList) == 0) = true := by rw [hf]; rfl
      have hfa := fold_again hf
      obtain ⟨h1, h2, h3, h4⟩ := hfa
      have hsl : (foldS a.data.toList).length ≤ 1000000 := by
        rw [← strOf_size]
        by_cases hx : (runes a.data.toList).length ≤ 32
        · have := foldT_len hx
          rw [foldS_yes hf, strOf_size]; omega
        · rw [foldB_long (by omega)] at hf; cases hf
      have hss : (strOf (foldS a.data.toList)).size ≤ 1000000 := by rw [strOf_size]; exact hsl
      have kf : ∀ wr, Calls Tryd.prog 11 #[.string (strOf (foldS a.data.toList))] wr fun e w' => e = .returned (.tuple #[.string (strOf (foldS a.data.toList)), .int .i64 0]) ∧ Below wr.heap.size wr w' := fun wr =>
        (fold_any _ wr hss).mono fun e w' ⟨he, hb⟩ => ⟨by rw [he, strOf_list, h1, h2]; rfl, hb⟩
      have kc : ∀ wr, Calls Tryd.prog 7 #[.string (strOf (foldS a.data.toList))] wr fun e w' => e = .returned (.int .i64 0) ∧ Below wr.heap.size wr w' := fun wr =>
        (check_any _ wr hss).mono fun e w' ⟨he, hb⟩ => ⟨by rw [he, strOf_list, h3]; rfl, hb⟩
      have kn : ∀ wr, Calls Tryd.prog 15 #[.string (strOf (foldS a.data.toList))] wr fun e w' => e = .returned (.int .i64 ((runes a.data.toList).length : Nat)) ∧ Below wr.heap.size wr w' := fun wr =>
        (count_any _ wr hss).mono fun e w' ⟨he, hb⟩ => ⟨by rw [he, strOf_list, h4], hb⟩
      clear h1 h2 h3 h4 hf hsl hss
      go_wp2_with (first
        | (go_at_call 11; (with_reducible refine (kf _).mono ?_); rintro e w2 ⟨rfl, hb2⟩; replace hbw := nxt hbw hb2 hbw.size; clear hb2)
        | (go_at_call 7; (with_reducible refine (kc _).mono ?_); rintro e w2 ⟨rfl, hb2⟩; replace hbw := nxt hbw hb2 hbw.size; clear hb2)
        | (go_at_call 15; (first | (with_reducible refine (kn _).mono ?_) | (with_reducible refine (count_any a _ ha1).mono ?_)); rintro e w2 ⟨rfl, hb2⟩; replace hbw := nxt hbw hb2 hbw.size; clear hb2))
      go_meet
      exact hbw
  case rest =>
  replace hbw := hcut
  clear hcut
  go_upto_region 11 with (go_at_call 16; refine (cut_any _ _ _ ha1 n0 n1).mono ?_; unfold cutPost; rintro e w2 ⟨rfl, hb2⟩; replace hbw := nxt hbw hb2 hbw.size; clear hb2)
  go_cut [97] (fun s97 wx => s97 = .bool false ∧ Below w.heap.size w wx)
  case first =>
    have hpc := parts_count a.data.toList n.toNat
    have hp1 := part_count a.data.toList n.toNat
    have hle := plc_le a.data.toList n.toNat
    have hra := runes_len a.data.toList
    rw [← size_len] at hle hra
    have hxs : (strOf (a.data.toList.take (plc a.data.toList n.toNat))).size ≤ 1000000 := by rw [strOf_size, List.length_take]; omega
    have hys : (strOf (a.data.toList.drop (plc a.data.toList n.toNat))).size ≤ 1000000 := by rw [strOf_size, List.length_drop, ← size_len]; omega
    have hap : strOf (a.data.toList.take (plc a.data.toList n.toNat)) ++ strOf (a.data.toList.drop (plc a.data.toList n.toNat)) = a := by
      rw [strOf_app, List.take_append_drop, strOf_eq]
    obtain ⟨c1, hc1⟩ : ∃ c1 : Nat, (runes (a.data.toList.take (plc a.data.toList n.toNat))).length = c1 := ⟨_, rfl⟩
    obtain ⟨c2, hc2⟩ : ∃ c2 : Nat, (runes (a.data.toList.drop (plc a.data.toList n.toNat))).length = c2 := ⟨_, rfl⟩
    obtain ⟨ca, hca⟩ : ∃ ca : Nat, (runes a.data.toList).length = ca := ⟨_, rfl⟩
    rw [hc1, hc2, hca] at hpc
    rw [hc1, hca] at hp1
    rw [hca] at hra
    have kx : ∀ wr, Calls Tryd.prog 15 #[.string (strOf (a.data.toList.take (plc a.data.toList n.toNat)))] wr fun e w' => e = .returned (.int .i64 c1) ∧ Below wr.heap.size wr w' := fun wr =>
      (count_any _ wr hxs).mono fun e w' ⟨he, hb⟩ => ⟨by rw [he, strOf_list, hc1], hb⟩
    have ky : ∀ wr, Calls Tryd.prog 15 #[.string (strOf (a.data.toList.drop (plc a.data.toList n.toNat)))] wr fun e w' => e = .returned (.int .i64 c2) ∧ Below wr.heap.size wr w' := fun wr =>
      (count_any _ wr hys).mono fun e w' ⟨he, hb⟩ => ⟨by rw [he, strOf_list, hc2], hb⟩
    have ka : ∀ wr, Calls Tryd.prog 15 #[.string a] wr fun e w' => e = .returned (.int .i64 ca) ∧ Below wr.heap.size wr w' := fun wr =>
      (count_any _ wr ha1).mono fun e w' ⟨he, hb⟩ => ⟨by rw [he, hca], hb⟩
    clear hc1 hc2 hca
    have hsum : ¬ (c1 : Int) + c2 < ca := by omega
    have HP1 := Lib.hid hp1
    clear hp1
    rcases (show n < 0 ∨ (0 ≤ n ∧ (ca : Int) < n) ∨ (0 ≤ n ∧ n ≤ (ca : Int)) by omega) with hn | ⟨hn, hn2⟩ | ⟨hn, hn2⟩
    case' inr.inr =>
      have hq : (c1 : Int) = n := by have := HP1.out (by omega); omega
      have hq2 : ((c1 : Int) != n) = false := by rw [hq]; simp
      clear hq
    all_goals
      go_wp2_with (first
        | (go_at_call 15; (first | (with_reducible refine (kx _).mono ?_) | (with_reducible refine (ky _).mono ?_) | (with_reducible refine (ka _).mono ?_)); rintro e w2 ⟨rfl, hb2⟩; replace hbw := nxt hbw hb2 hbw.size; clear hb2))
      go_meet
      exact ⟨congrArg Value.bool (decide_eq_false (by omega)), hbw⟩
  case rest =>
  obtain ⟨rfl, hbw⟩ := hcut
  go_upto_region 13 with fail
  go_cut [124] (fun s124 wx => s124 = .bool false ∧ Below w.heap.size w wx)
  case first =>
    by_cases hab : a = b
    · subst hab
      have hl := less_self a.data.toList
      have HL := Lib.hid hl
      clear hl
      go_wp2_with (go_at_call 13; refine (less_any _ _ _ ha1 ha1 (HT.out.kept hbw)).mono ?_; rw [HL.out]; rintro e w2 ⟨rfl, hb2⟩; replace hbw := nxt hbw hb2 hbw.size; clear hb2)
      go_meet
      exact ⟨rfl, hbw⟩
    · have hl := less_flip (a := a.data.toList) (b := b.data.toList) (fun h => hab (by rw [← strOf_eq a, h, strOf_eq]))
      have hne : ¬ a.toList = b.toList := by rw [toList_data, toList_data]; exact fun h => hab (by rw [← strOf_eq a, h, strOf_eq])
      have hne2 : (a.toList == b.toList) = false := by simpa using hne
      rcases Bool.eq_false_or_eq_true (less b.data.toList a.data.toList) with hx | hx
      all_goals
        rw [hx] at hl
        have HL := Lib.hid hl
        have HX := Lib.hid hx
        clear hl hx
        have kab : ∀ wr, Tab wr → Calls Tryd.prog 13 #[.string a, .string b] wr fun e w' => e = .returned (.bool (less a.data.toList b.data.toList)) ∧ Below wr.heap.size wr w' := fun wr h => less_any a b wr ha1 hb1 h
        have kba : ∀ wr, Tab wr → Calls Tryd.prog 13 #[.string b, .string a] wr fun e w' => e = .returned (.bool (less b.data.toList a.data.toList)) ∧ Below wr.heap.size wr w' := fun wr h => less_any b a wr hb1 ha1 h
        go_wp2_with (go_at_call 13; (first | ((with_reducible refine (kab _ (HT.out.kept hbw)).mono ?_); rw [HL.out]) | ((with_reducible refine (kba _ (HT.out.kept hbw)).mono ?_); rw [HX.out])); rintro e w2 ⟨rfl, hb2⟩; replace hbw := nxt hbw hb2 hbw.size; clear hb2)
        go_meet
        exact ⟨rfl, hbw⟩
  case rest =>
  obtain ⟨rfl, hbw⟩ := hcut
  have kab : ∀ wr, Tab wr → Calls Tryd.prog 13 #[.string a, .string b] wr fun e w' => e = .returned (.bool (less a.data.toList b.data.toList)) ∧ Below wr.heap.size wr w' := fun wr h => less_any a b wr ha1 hb1 h
  have kbc : ∀ wr, Tab wr → Calls Tryd.prog 13 #[.string b, .string c] wr fun e w' => e = .returned (.bool (less b.data.toList c.data.toList)) ∧ Below wr.heap.size wr w' := fun wr h => less_any b c wr hb1 hc1 h
  have kac : ∀ wr, Tab wr → Calls Tryd.prog 13 #[.string a, .string c] wr fun e w' => e = .returned (.bool (less a.data.toList c.data.toList)) ∧ Below wr.heap.size wr w' := fun wr h => less_any a c wr ha1 hc1 h
  rcases Bool.eq_false_or_eq_true (less a.data.toList b.data.toList) with hx | hx
  case inr =>
    have HX := Lib.hid hx
    clear hx
    go_wp2_with (go_at_call 13; (with_reducible refine (kab _ (HT.out.kept hbw)).mono ?_); rw [HX.out]; rintro e w2 ⟨rfl, hb2⟩; replace hbw := nxt hbw hb2 hbw.size; clear hb2)
    go_ret
    exact ⟨rfl, hbw⟩
  case inl =>
  rcases Bool.eq_false_or_eq_true (less b.data.toList c.data.toList) with hy | hy
  case inr =>
    have HX := Lib.hid hx
    have HY := Lib.hid hy
    clear hx hy
    go_wp2_with (go_at_call 13; (first | ((with_reducible refine (kab _ (HT.out.kept hbw)).mono ?_); rw [HX.out]) | ((with_reducible refine (kbc _ (HT.out.kept hbw)).mono ?_); rw [HY.out])); rintro e w2 ⟨rfl, hb2⟩; replace hbw := nxt hbw hb2 hbw.size; clear hb2)
    go_ret
    exact ⟨rfl, hbw⟩
  case inl =>
    have hz := less_trans hx hy
    have HX := Lib.hid hx
    have HY := Lib.hid hy
    have HZ := Lib.hid hz
    clear hx hy hz
    go_wp2_with (go_at_call 13; (first | ((with_reducible refine (kab _ (HT.out.kept hbw)).mono ?_); rw [HX.out]) | ((with_reducible refine (kbc _ (HT.out.kept hbw)).mono ?_); rw [HY.out]) | ((with_reducible refine (kac _ (HT.out.kept hbw)).mono ?_); rw [HZ.out])); rintro e w2 ⟨rfl, hb2⟩; replace hbw := nxt hbw hb2 hbw.size; clear hb2)
    go_ret
    exact ⟨rfl, hbw⟩
theorem walk (a b c : ByteArray) (n : Int) (w : World) (n0 : -9223372036854775808 ≤ n) (n1 : n ≤ 9223372036854775807) (ht : Tab w) :
    Calls Tryd.prog 5 #[.string a, .string b, .string c, .int .i64 n] w fun e w' => e = .returned (.bool true) ∧ Below w.heap.size w w' := by
  by_cases h : a.size ≤ 2000 ∧ b.size ≤ 2000 ∧ c.size ≤ 2000
  · exact short_any a b c n w h.1 h.2.1 h.2.2 n0 n1 ht
  · exact long_any a b c n w (by omega)

end Go.Proofs.YtpppefajahbpgaaDoor.lawBackWalk
