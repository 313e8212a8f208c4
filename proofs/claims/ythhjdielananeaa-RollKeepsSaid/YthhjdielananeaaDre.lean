/-
  Dressed bytes, and what they are the dressed bytes of, by the code.
-/
import Derived.Test.YthhjdielananeaaBdW
import Derived.Test.YthhjdielananeaaRp
import Derived.Test.YthhjdielananeaaTap
set_option linter.unusedSimpArgs false
set_option linter.unusedVariables false
set_option maxRecDepth 10000
namespace Go.Proofs.Ythhjdielananeaa
open Go.RowKit Go.Lib
open L3 (Blk Reads block_of_add add_of_add)
open L6 (Turn moreB fresh From In)

theorem dress_app : ∀ a b : List UInt8, dress (a ++ b) = dress a ++ dress b
  | [], _ => rfl
  | c :: a, b => by
    have := dress_app a b
    show (if c = 0 then [1, 1] else if c = 1 then [1, 2] else [c]) ++ dress (a ++ b) = ((if c = 0 then [1, 1] else if c = 1 then [1, 2] else [c]) ++ dress a) ++ dress b
    rw [this, List.append_assoc]
theorem dress_snoc (l : List UInt8) (k : Nat) (h : k < l.length) : dress (l.take (k + 1)) = dress (l.take k) ++ (if l[k] = 0 then [1, 1] else if l[k] = 1 then [1, 2] else [l[k]]) := by
  rw [List.take_add_one, List.getElem?_eq_getElem h, dress_app]
  show _ ++ dress [l[k]] = _
  unfold dress
  simp [dress]
theorem str_get (l : List UInt8) (k : Nat) (h : k < (str l).size) (h' : k < l.length) : (str l)[k] = l[k] := rfl
theorem u8_eq {c : UInt8} {n : Nat} (hn : n < 256) (h : c.toNat = n) : c = UInt8.ofNat n := by rw [← h]; simp
/-- A string as a list, named. -/
theorem bd_below {w W : World} {B b : Nat} {l : List UInt8} (h : BdK B b w W) : Below B w W := h.1
set_option maxHeartbeats 4000000 in
set_option maxRecDepth 100000 in
theorem dress_any (l : List UInt8) (w : World) (hl : l.length ≤ 1000000000) : Calls Try.prog 9 #[.string (str l)] w (gives (.string (str (dress l))) w) := by
  have hfr := Bd.fresh w
  have hb0 := below_new w (.cells #[.pointer none, .slice none 0 0] 69)
  obtain ⟨w0, hw0⟩ : ∃ w0, w.alloc (.cells #[.pointer none, .slice none 0 0] 69) = w0 := ⟨_, rfl⟩
  rw [hw0] at hfr hb0
  obtain ⟨B, hB⟩ : ∃ B, B = w.heap.size := ⟨_, rfl⟩
  rw [← hB] at hfr hb0
  have HB := Lib.hid hB
  obtain ⟨s, hs⟩ : ∃ s, s = str l := ⟨_, rfl⟩
  have hn : s.size = l.length := by rw [hs, str_size]
  have hg : ∀ (k : Nat) (h : k < s.size) (h' : k < l.length), s[k] = l[k] := fun k h h' => by subst hs; rfl
  rw [← hs]
  have HS := Lib.hid hs
  have HN := Lib.hid hn
  have HG := Lib.hid hg
  have HF := Lib.hid (And.intro hfr hb0)
  obtain ⟨n, hn'⟩ : ∃ n, n = s.size := ⟨_, rfl⟩
  have HNN := Lib.hid hn'
  have hn9 : s.size ≤ 1000000000 := by omega
  clear hs hn hg hfr hb0 hB hn' hl
  go_enter Try.func9, Try.ntmps9
  go_upto_region 2 with fail
  rw [← HB.out]
  clear hw0
  go_wp2
  go_loopw [8] (fun i wr => ∃ k : Nat, i = .int .i64 k ∧ k ≤ s.size ∧ Bd wr B B (dress (l.take k)) ∧ Below B w wr) (fun i _ => s.size - (RowKit.intOf i).toNat)
  case atStart => exact ⟨0, rfl, Nat.zero_le _, HF.out.1, HF.out.2⟩
  case round =>
    obtain ⟨k, rfl, hk, hbd, hbw⟩ := hrel
    by_cases hlt : k < s.size
    · have hkl : k < l.length := by have := HN.out; omega
      have hdl := (dress_len (l.take k)).2
      have hd9 : (dress (l.take k)).length ≤ 2000000000 := by rw [List.length_take] at hdl; omega
      have hsz : B ≤ wr.heap.size := by have := hbw.size; have := HB.out; omega
      have HD := Lib.hid (dress_snoc l k hkl)
      have hgk := HG.out k hlt hkl
      obtain ⟨D, hD⟩ : ∃ D, D = dress (l.take k) := ⟨_, rfl⟩
      rw [← hD] at hbd hd9 HD
      obtain ⟨c, hc⟩ : ∃ c, c = l[k] := ⟨_, rfl⟩
      rw [← hc] at HD hgk
      have HK := Lib.hid hgk
      have HBW := Lib.hid hbw
      clear hD hdl hkl hc hbw
      by_cases h0 : c = 0
      · have z0 : s[k].toNat = 0 := by rw [hgk, h0]; rfl
        have HX := Lib.hid h0
        clear hgk h0
        go_wp2_with (first
          | (go_at_call 30; refine (byte_any B B (D ++ [1]) 1 _ (by rfl) _ hbd1 (by rw [List.length_append]; simp; omega) (Nat.le_trans hsz hk1.1.size)).mono ?_; rintro e w2 ⟨rfl, hbd2, hk2⟩)
          | (go_at_call 30; refine (byte_any B B D 1 _ (by rfl) _ hbd (by omega) hsz).mono ?_; rintro e w1 ⟨rfl, hbd1, hk1⟩)
          | go_in)
        go_roundw
        case rel =>
          refine ⟨k + 1, by go_num, by omega, ?_, (HBW.out.trans hk1.1).trans hk2.1⟩
          rw [HD.out, if_pos HX.out]
          rw [List.append_assoc] at hbd2
          exact hbd2
        case measure => simp [RowKit.intOf]; omega
      · by_cases h1 : c = 1
        · have z0 : s[k].toNat = 1 := by rw [hgk, h1]; rfl
          have HX := Lib.hid (And.intro h0 h1)
          clear hgk h0 h1
          go_wp2_with (first
            | (go_at_call 30; refine (byte_any B B (D ++ [1]) 2 _ (by rfl) _ hbd1 (by rw [List.length_append]; simp; omega) (Nat.le_trans hsz hk1.1.size)).mono ?_; rintro e w2 ⟨rfl, hbd2, hk2⟩)
            | (go_at_call 30; refine (byte_any B B D 1 _ (by rfl) _ hbd (by omega) hsz).mono ?_; rintro e w1 ⟨rfl, hbd1, hk1⟩)
            | go_in)
          go_roundw
          case rel =>
            refine ⟨k + 1, by go_num, by omega, ?_, (HBW.out.trans hk1.1).trans hk2.1⟩
            rw [HD.out, if_neg HX.out.1, if_pos HX.out.2]
            rw [List.append_assoc] at hbd2
            exact hbd2
          case measure => simp [RowKit.intOf]; omega
        · have z0 : ¬ (s[k].toNat : Int) ≤ 1 := by
            intro hle
            have : c.toNat = 0 ∨ c.toNat = 1 := by rw [← hgk]; omega
            rcases this with h | h
            · exact h0 (u8_eq (by decide) h)
            · exact h1 (u8_eq (by decide) h)
          have HX := Lib.hid (And.intro h0 h1)
          clear hgk h0 h1
          go_wp2_with (first
            | (go_at_call 30; refine (byte_any B B D c _ (by rw [HK.out]) _ hbd (by omega) hsz).mono ?_; rintro e w1 ⟨rfl, hbd1, hk1⟩)
            | go_in)
          go_roundw
          case rel =>
            refine ⟨k + 1, by go_num, by omega, ?_, HBW.out.trans hk1.1⟩
            rw [HD.out, if_neg HX.out.1, if_neg HX.out.2]
            exact hbd1
          case measure => simp [RowKit.intOf]; omega
    · have hke : k = s.size := by omega
      have hsz : B ≤ wr.heap.size := by have := hbw.size; have := HB.out; omega
      have hkl : l.take k = l := List.take_of_length_le (by have := HN.out; omega)
      rw [hkl] at hbd
      have HBW := Lib.hid hbw
      clear hbw hkl
      subst hke
      go_wp2_with (first
        | (go_at_call 31; refine (string_any B B (dress l) _ hbd hsz).mono ?_; rintro e w1 ⟨rfl, hb1⟩)
        | go_in)
      go_ret
      refine ⟨rfl, ?_⟩
      rw [← HB.out]
      exact HBW.out.trans hb1
end Go.Proofs.Ythhjdielananeaa
