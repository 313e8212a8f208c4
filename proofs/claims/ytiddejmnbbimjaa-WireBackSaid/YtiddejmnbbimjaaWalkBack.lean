/-
  The walk through the law of P3.3: in pieces that meet again.
-/
import Derived.Test.YtiddejmnbbimjaaAlive
import Derived.Deep.DeepCutAuto
import Derived.Deep.QuietTactic
import Derived.BigQuiet
import Derived.IntWalk
set_option linter.unusedSimpArgs false
set_option linter.unusedVariables false
namespace Go.Proofs.Ytiddejmnbbimjaa.lawBackWalk
open Go.RowKit Go.Lib

def numBoth (n : Int) (w : World) (e : Ending) (w' : World) : Prop :=
  ∃ v x, e = .returned (.tuple #[v, .int .i64 x]) ∧ Below w.heap.size w w' ∧ ((∃ m : Nat, n = m ∧ m ≤ 4611686018427387904 ∧ x = 0 ∧ Owned w.heap.size v (encN m) w w') ∨ x = 10)
theorem num_both (n : Int) (w : World) : Calls Try.prog 7 #[.slice none 0 0, .int .i64 n] w (numBoth n w) := by
  rcases Bool.eq_false_or_eq_true (okN n) with h | h
  · have hb := okN_le h
    obtain ⟨m, rfl⟩ := Int.eq_ofNat_of_zero_le hb.1
    refine (num_nil m w (by omega)).mono ?_
    rintro e w' ⟨v, rfl, ho⟩
    exact ⟨v, 0, rfl, ho.2.1, Or.inl ⟨m, rfl, by omega, rfl, ho⟩⟩
  · refine (num_bad _ n w h).mono ?_
    rintro e w' ⟨rfl, hb⟩
    exact ⟨_, 10, rfl, hb, Or.inr rfl⟩

theorem rnum_enc (g m : Nat) (q : List UInt8) (w : World) (hm : m ≤ 4611686018427387904) (h : Rdr w g (encN m ++ q, 0)) :
    Calls Try.prog 13 #[.pointer (some ⟨g, 0, none⟩)] w fun e w' => e = .returned (.int .i64 m) ∧ leaves g (q, 0) w w' := by
  have h1 := rnum_any g _ w h
  have h2 := rd_enc0 m q hm
  have h3 : numS (encN m ++ q, 0) = (q, 0) := by unfold numS; rw [h2]; simp
  simp only [h2, h3] at h1
  exact h1
theorem rtext_enc (g : Nat) (s : ByteArray) (q : List UInt8) (w : World) (hs : s.size ≤ 65536) (h : Rdr w g (encN s.size ++ (s.data.toList ++ q), 0)) :
    Calls Try.prog 14 #[.pointer (some ⟨g, 0, none⟩)] w fun e w' => e = .returned (.string s) ∧ leaves g (q, 0) w w' := by
  have h1 := rtext_any g _ w h
  have h2 := rd_enc0 s.size (s.data.toList ++ q) (by omega)
  have h3 : numS (encN s.size ++ (s.data.toList ++ q), 0) = (s.data.toList ++ q, 0) := by unfold numS; rw [h2]; simp
  have h4 : mostV 65536 (encN s.size ++ (s.data.toList ++ q), 0) = s.size := by unfold mostV; simp only [h2]; rw [if_neg (by omega)]
  have h5 : mostS 65536 (encN s.size ++ (s.data.toList ++ q), 0) = (s.data.toList ++ q, 0) := by unfold mostS; simp only [h2]; rw [if_neg (by omega), h3]
  have hz := size_list s
  have h6 : textV (encN s.size ++ (s.data.toList ++ q), 0) = s.data.toList := by
    unfold textV; rw [h4, h5, if_neg (by simp only [List.length_append]; omega)]
    rw [Int.toNat_natCast, hz]; simp
  have h7 : textS (encN s.size ++ (s.data.toList ++ q), 0) = (q, 0) := by
    unfold textS; rw [h4, h5, if_neg (by simp only [List.length_append]; omega)]
    rw [Int.toNat_natCast, hz]; simp
  rw [h6, h7] at h1
  exact h1
theorem rrest_nothing (g : Nat) (e1 : Int) (w : World) (h : Rdr w g ([], e1)) :
    Calls Try.prog 15 #[.pointer (some ⟨g, 0, none⟩)] w fun e w' => e = .returned (.int .i64 0) ∧ w = w' := rrest_any g _ w h
theorem rdone_nothing (g : Nat) (e1 : Int) (w : World) (h : Rdr w g ([], e1)) :
    Calls Try.prog 16 #[.pointer (some ⟨g, 0, none⟩)] w fun e w' => e = .returned (.int .i64 e1) ∧ w = w' := by
  have h1 := rdone_any g _ w h
  have h2 : doneV ([], e1) = e1 := by
    unfold doneV
    by_cases he : e1 = 0
    · subst he; rfl
    · rw [if_pos he]
  rw [h2] at h1
  exact h1

theorem Rdr.below {w w' : World} {g B : Nat} {p : List UInt8 × Int} (h : Rdr w g p) (hb : Below B w w') (hg : g < B) : Rdr w' g p := by
  obtain ⟨A, c, h1, h2, h3⟩ := h
  exact ⟨A, c, h1.below hb hg, h2.below (hb.mono (by omega)), h3⟩
theorem Rdr.drewN {w : World} {g : Nat} {p : List UInt8 × Int} (h : Rdr w g p) (q : Nat) : Rdr (w.drewN q) g p := h
theorem drewN_below {B : Nat} {a w : World} (h : Below B a w) (q : Nat) : Below B a (w.drewN q) := ⟨h.os, h.tape, h.output, h.size, h.block⟩
theorem quiet_left {P : Program} {f : FuncId} {args : Array Value} {w : World} {n : Nat} {v : Value}
    (h : Calls P f args (w.drewN n) fun e w' => e = .returned v ∧ w.drewN n = w') : Calls P f args (w.drewN n) fun e w'' => e = .returned v ∧ ∃ m, w'' = w.drewN m :=
  h.mono fun _ _ ⟨he, hm⟩ => ⟨he, n, hm.symm⟩
theorem long_any (n : Int) (s b : ByteArray) (w : World) (h : 70000 < s.size ∨ (s.size ≤ 70000 ∧ 2000 < b.size)) :
    Calls Try.prog 4 #[.int .i64 n, .string s, .string b] w fun e w' => e = .returned (.bool true) ∧ Below w.heap.size w w' := by
  rcases h with h | ⟨h1, h⟩
  all_goals
    go_enter Try.func4, Try.ntmps4
    go_wp2_with (go_at_call 6; refine (alive_any _).mono ?_; unfold alivePost; rintro e w1 ⟨rfl, hb1⟩)
    go_ret
    exact ⟨rfl, hb1⟩
set_option maxHeartbeats 4000000 in
set_option maxRecDepth 100000 in
theorem short_any (n : Int) (s b : ByteArray) (w : World) (hs : s.size ≤ 70000) (hb : b.size ≤ 2000) (n0 : -9223372036854775808 ≤ n) (n1 : n ≤ 9223372036854775807) :
    Calls Try.prog 4 #[.int .i64 n, .string s, .string b] w fun e w' => e = .returned (.bool true) ∧ Below w.heap.size w w' := by
  go_enter Try.func4, Try.ntmps4
  go_upto_region 5 with (go_at_call 6; refine (alive_any _).mono ?_; unfold alivePost; rintro e w1 ⟨rfl, hbw⟩)
  go_upto_if 32 with (go_at_call 7; refine (num_both _ _).mono ?_; unfold numBoth; rintro e w2 ⟨v, x, rfl, hb2, hcase⟩; replace hbw := nxt hbw hb2 hbw.size; clear hb2)
  go_cut [] (fun wx => Below w.heap.size w wx)
  case first =>
    rcases hcase with ⟨m, rfl, hm, rfl, ho⟩ | rfl
    case inr =>
      go_wp2
      go_meet
      exact hbw
    case inl =>
      obtain ⟨A1, c1, rfl, hr1, hc1⟩ := ho.form
      have h9 := encN_le9 hm
      have hl9 : (encN m).length ≤ 100000000 := by omega
      clear hc1 h9
      by_cases hs6 : 65536 < s.size
      · go_wp2_with (first
          | (go_at_call 9; refine (text_long _ _ _ hs6).mono ?_; unfold refused; rintro e w3 ⟨rfl, hb3⟩; replace hbw := nxt hbw hb3 hbw.size; clear hb3)
          | (go_at_call 12; refine (new_any 0 _ _ _ [] _ Reads.none_ (by omega) (by omega)).mono ?_; unfold made; rintro e w4 ⟨g, rfl, hg, hrd, hb4⟩; replace hbw := nxt hbw hb4 hbw.size; clear hb4))
        go_meet
        exact hbw
      · have hs6' : s.size ≤ 65536 := by omega
        obtain ⟨y, hy⟩ : ∃ y, y = encN m ++ (encN s.size ++ s.data.toList) := ⟨_, rfl⟩
        have hl3 : y.length ≤ 100000000 := by
          have h1 := encN_le9 hm
          have h2 := encN_le9 (n := s.size) (by omega)
          have h3 := size_list s
          rw [hy]
          simp only [List.length_append]; omega
        have ht := fun wr (h : Reads wr wr.heap.size 1 A1 (encN m).length (byteCells (encN m))) => text_ok _ A1 (encN m).length c1 (encN m) s wr h hl9 (Nat.le_refl _) hs6'
        rw [← hy] at ht
        have HT := Lib.hid ht
        have HY := Lib.hid hy
        clear ht hy
        go_wp2_with (go_at_call 9; (with_reducible refine (HT.out _ hr1).mono ?_))
        unfold wrote
        rintro e w3 ⟨v3, rfl, ho3⟩
        obtain ⟨A3, c3, rfl, hr3, hc3⟩ := ho3.form
        replace hbw := nxt hbw ho3.2.1 hbw.size
        clear hc3 ho3 hr1 hl9 ho HT
        go_wp2_with (go_at_call 12; (with_reducible refine (new_any _ _ _ _ _ _ hr3 hl3 (Nat.le_refl _)).mono ?_))
        unfold made
        rintro e w4 ⟨g, rfl, hg, hrd, hb4⟩
        have hgw : w.heap.size ≤ g := Nat.le_trans hbw.size hg
        replace hbw := nxt hbw hb4 hbw.size
        have kN : ∀ wr, Rdr wr g (y, 0) → Calls Try.prog 13 #[.pointer (some ⟨g, 0, none⟩)] wr fun e w' => e = .returned (.int .i64 m) ∧ leaves g (encN s.size ++ (s.data.toList ++ []), 0) wr w' := by
          intro wr h
          rw [HY.out] at h
          rw [List.append_nil]
          exact rnum_enc g m _ wr hm h
        have kT := fun wr h => rtext_enc g s [] wr hs6' h
        have HNN := Lib.hid kN
        have HTT := Lib.hid kT
        clear kN kT HY hr3 hb4 hg hs6'
        go_wp2_with (go_at_call 13; (with_reducible refine (HNN.out _ hrd).mono ?_); rintro e w5 ⟨rfl, hlv5⟩)
        replace hbw := hbw.trans (hlv5.below hgw hbw.size)
        have hrd5 := hlv5.1
        go_wp2_with (go_at_call 14; (with_reducible refine (HTT.out _ hrd5).mono ?_); rintro e w6 ⟨rfl, hlv6⟩)
        replace hbw := hbw.trans (hlv6.below hgw hbw.size)
        have hrd6 := hlv6.1
        go_wp2_with (go_at_call 15; (with_reducible refine (rrest_nothing g 0 _ hrd6).mono ?_); rintro e w7 ⟨rfl, rfl⟩)
        go_wp2_with (go_at_call 16; (with_reducible refine (rdone_nothing g 0 _ hrd6).mono ?_); rintro e w7 ⟨rfl, rfl⟩)
        go_wp2
        go_meet
        exact hbw
  case rest =>
  replace hbw := hcut
  clear hcut hcase
  obtain ⟨c5, w5, hcv, hr5, hb5, hz5⟩ := str_bytes wc b
  have hB5 : wc.heap.size + 1 ≤ w5.heap.size := by omega
  have hl5 : b.size ≤ 100000000 := by omega
  have hbw5 : Below w.heap.size w w5 := nxt hbw hb5 hbw.size
  clear hz5
  go_wp2_with (go_at_call 12; (with_reducible refine (new_any _ _ _ _ _ _ hr5 hl5 hB5).mono ?_))
  unfold made
  rintro e w6 ⟨g, rfl, hg, hrd, hb6⟩
  have hgw : w.heap.size ≤ g := Nat.le_trans hbw5.size hg
  have hbw6 := nxt hbw5 hb6 hbw5.size
  clear hcv hr5 hB5 hl5 hbw5 hb5 hb6 hg hbw
  obtain ⟨k, sz, e2, hq⟩ : ∃ k sz e2, rdN 0 0 b.data.toList = (k, sz, e2) := ⟨_, _, _, rfl⟩
  have hn := rnum_any g _ _ hrd
  by_cases h2 : e2 = 0
  · subst h2
    have hs3 : numS (b.data.toList, 0) = (b.data.toList.drop sz, 0) := by unfold numS; rw [hq]; simp
    obtain ⟨hen, hs0, hsl, hk⟩ := rd_back0 hq
    simp only [hq, hs3] at hn
    have HN := Lib.hid hn
    have hlen : (b.data.toList.drop sz).length = b.size - sz := by rw [List.length_drop, ← size_list]
    have hsb : sz ≤ b.size := by rw [size_list]; exact hsl
    have hel : (encN k).length = sz := by rw [hen, List.length_take]; omega
    have hex : b.extract 0 sz = strOf (encN k) := by
      rw [hen]; apply ByteArray.ext; apply Array.ext'; simp [strOf, List.extract]
    have HL := Lib.hid hlen
    have HE := Lib.hid hel
    have HX := Lib.hid hex
    clear hn hq hs3 hlen hel hex hen hsl hs0
    go_upto_region 13 with (go_at_call 13; (with_reducible refine HN.out.mono ?_); rintro e w7 ⟨rfl, hlv7⟩)
    have hrd7 := hlv7.1
    have hbw7 := hbw6.trans (hlv7.below hgw hbw6.size)
    have hR := rrest_any g _ _ hrd7
    have hD := rdone_any g _ _ hrd7
    have hre : ((b.data.toList.drop sz).length : Int) = (b.size : Int) - (sz : Int) := by rw [HL.out]; omega
    simp only [hre] at hR
    have HR := Lib.hid hR
    have hlc : (b.data.toList.drop sz).length = b.size - sz := HL.out
    have HN2 := Lib.hid (num_nil k w7 hk)
    have HKR : Hid (∀ c, (convert 22 9 (.slice none 0 c)).run Try.prog w7 = (convert 22 9 (.slice none 0 c)).run Try.prog w7) := fun _ => rfl
    clear hR hre hlv7 HN HKR hrd hbw6
    have hD0 : doneV (b.data.toList.drop sz, 0) = 0 ∨ (doneV (b.data.toList.drop sz, 0) = 32 ∧ ((b.size : Int) - sz == 0) = false) := by
      by_cases h0 : b.size = sz
      · left; unfold doneV; rw [if_neg (by simp), if_neg (by simp only [hlc]; omega)]
      · right; exact ⟨by unfold doneV; rw [if_neg (by simp), if_pos (by simp only [hlc]; omega)], by simp; omega⟩
    clear hlc
    rcases hD0 with hD0 | ⟨hD0, h0'⟩
    all_goals
      rw [hD0] at hD
      have HD := Lib.hid hD
      clear hD hD0
      go_upto_region 16 with (first
        | (go_at_call 16; (with_reducible refine HD.out.mono ?_); rintro e w8 ⟨rfl, rfl⟩)
        | (go_at_call 15; (with_reducible refine HR.out.mono ?_); rintro e w8 ⟨rfl, rfl⟩)
        | (go_at_call 7; (with_reducible refine HN2.out.mono ?_); unfold wrote; rintro e w8 ⟨v8, rfl, ho8⟩; obtain ⟨A8, c8, rfl, hr8, hc8⟩ := ho8.form))
      have hrd8 := Rdr.below hrd7 ho8.2.1 hrd7.lt
      have hbw8 := nxt hbw7 ho8.2.1 hbw7.size
      rw [HE.out] at hr8
      rw [HE.out]
      have hcv8 : ∀ q, (convert 22 9 (.slice A8 sz c8)).run Try.prog (w8.drewN q) = .ok (.string (strOf (encN k))) (w8.drewN q) := fun q => by
        have h1 := conv_reads (c := c8) (k := sz) (hr8.drewN q) (Nat.le_refl _)
        rw [h1]
        have h2 : (encN k).take sz = encN k := List.take_of_length_le (by rw [HE.out]; exact Nat.le_refl _)
        rw [h2]; rfl
      have hre : ((b.data.toList.drop sz).length : Int) = (b.size : Int) - (sz : Int) := by rw [HL.out]; omega
      have HR8 : Hid (∀ q, Calls Try.prog 15 #[.pointer (some ⟨g, 0, none⟩)] (w8.drewN q) fun e w' => e = .returned (.int .i64 ((b.size : Int) - (sz : Int))) ∧ w8.drewN q = w') := by
        intro q
        have h1 := rrest_any g _ _ (Rdr.drewN hrd8 q)
        simp only [hre] at h1
        exact h1
      have hx : b.extract 0 sz = strOf (encN k) := HX.out
      have hle : decide ((sz : Int) ≤ (b.size : Int)) = true := by simp; omega
      have hle2 : decide (sz ≤ b.size) = true := by simp; omega
      have hwr : IntKind.i64.wrap ((b.size : Int) - (sz : Int)) = (b.size : Int) - (sz : Int) := IntWalk.i64_in _ (by omega)
      clear hre hc8 ho8 hr8
      go_quiet ((go_at_call 15; exact quiet_left (HR8.out _)))
      go_wp2_with fail
      go_ret
      exact ⟨rfl, drewN_below hbw8 _⟩
  · have hs3 : numS (b.data.toList, 0) = ([], (e2 : Int)) := by
      unfold numS failS; rw [hq]; simp only
      rw [if_neg h2, if_neg (by simp; exact h2)]
    have hk := ((rd_err _ _ _ _ _ _ hq).2 h2).1
    subst hk
    have h2' : ((e2 : Int) != 0) = true := by simp; omega
    have h2'' : ((e2 : Int) == 0) = false := by simp; omega
    simp only [hq, hs3] at hn
    have HN := Lib.hid hn
    clear hn hq hs3 h2
    go_wp2_with (go_at_call 13; (with_reducible refine HN.out.mono ?_); rintro e w7 ⟨rfl, hlv7⟩)
    have hrd7 := hlv7.1
    have hbw7 := hbw6.trans (hlv7.below hgw hbw6.size)
    go_wp2_with (go_at_call 16; (with_reducible refine (rdone_nothing g _ _ hrd7).mono ?_); rintro e w8 ⟨rfl, rfl⟩)
    go_wp2_with (go_at_call 15; (with_reducible refine (rrest_nothing g _ _ hrd7).mono ?_); rintro e w8 ⟨rfl, rfl⟩)
    go_wp2
    go_ret
    exact ⟨rfl, hbw7⟩
theorem walk (n : Int) (s b : ByteArray) (w : World) (n0 : -9223372036854775808 ≤ n) (n1 : n ≤ 9223372036854775807) :
    Calls Try.prog 4 #[.int .i64 n, .string s, .string b] w fun e w' => e = .returned (.bool true) ∧ Below w.heap.size w w' := by
  by_cases h : s.size ≤ 70000 ∧ b.size ≤ 2000
  · exact short_any n s b w h.1 h.2 n0 n1
  · exact long_any n s b w (by omega)

end Go.Proofs.Ytiddejmnbbimjaa.lawBackWalk
