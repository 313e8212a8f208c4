/-
  Both parts of a text, by the document's answer.
-/
import Derived.Test.YtpppefajahbpgaaRange
set_option linter.unusedSimpArgs false
set_option linter.unusedVariables false
namespace Go.Proofs.Ytpppefajahbpgaa
open Go.RowKit Go.Lib

theorem refcut_any (s : ByteArray) (n : Int) (w : World) (hs : s.size ≤ 1000000) (hn0 : -9223372036854775808 ≤ n) (hn1 : n ≤ 9223372036854775807) :
    Calls Try.prog 12 #[.string s, .int .i64 n] w fun e w' => e = .returned (.tuple #[.string (strOf (s.data.toList.take (plc s.data.toList n.toNat))), .string (strOf (s.data.toList.drop (plc s.data.toList n.toNat)))]) ∧ ∃ q, w' = w.drewN q := by
  go_enter Try.func12, Try.ntmps12
  go_wp2
  go_loop [6, 7] (fun at' k => ∃ (pos i : Nat), pos ≤ s.size ∧ at' = .int .i64 pos ∧ k = .int .i64 i ∧ i ≤ pos ∧ (pos = 0 ∨ (i : Int) ≤ n) ∧ Hid (pos + plc (s.data.toList.drop pos) (n - i).toNat = plc s.data.toList n.toNat)) (fun at' _ => s.size - (RowKit.intOf at').toNat)
  case atStart => exact ⟨0, 0, Nat.zero_le _, rfl, rfl, Nat.le_refl _, Or.inl rfl, Lib.hid (by simp)⟩
  case round =>
    obtain ⟨pos, i, hp, rfl, rfl, hi, hin, hk⟩ := hrel
    by_cases hc : (i : Int) < n ∧ pos < s.size
    · obtain ⟨hc1, hc2⟩ := hc
      have hne : s.data.toList.drop pos ≠ [] := by
        intro e; have := congrArg List.length e; rw [List.length_drop, ← size_len] at this; simp at this; omega
      have hf := dec_facts _ hne
      rw [List.length_drop, ← size_len] at hf
      obtain ⟨f1, f2, f3, _⟩ := hf
      have hrel' : pos + (dec (s.data.toList.drop pos)).2 + plc (s.data.toList.drop (pos + (dec (s.data.toList.drop pos)).2)) (n - (i + 1 : Nat)).toNat = plc s.data.toList n.toNat := by
        rw [← hk.out, toNat_pred (n - i) (by omega), plc_succ hne, List.drop_drop, show n - ((i + 1 : Nat) : Int) = n - i - 1 by omega]; omega
      have HR := Lib.hid hrel'
      have hx : 0 < (s.extract pos s.size).size := by rw [tail_size]; omega
      have htl := extract_to_end s pos
      have HT := Lib.hid htl
      clear hrel' hne htl hin
      go_wp2_with (go_at_call 18; (with_reducible refine (step_any _ _ hx).mono ?_); unfold stepE; rw [HT.out]; rintro e w' ⟨rfl, rfl⟩)
      go_round
      case rel => exact ⟨pos + (dec (s.data.toList.drop pos)).2, i + 1, by omega, by go_num, by go_num, by omega, Or.inr (by omega), HR⟩
      case measure => simp [RowKit.intOf]; omega
    · have hend : pos = plc s.data.toList n.toNat := by
        have h := hk.out
        by_cases hlt : pos < s.size
        · rw [show (n - i).toNat = 0 by omega, plc_zero] at h; omega
        · rw [List.drop_eq_nil_of_le (by rw [← size_len]; omega), plc_nil] at h; omega
      have HE := Lib.hid hend
      clear hend
      have hcut : n ≤ (i : Int) ∨ ((i : Int) < n ∧ s.size ≤ pos) := by omega
      rcases hcut with h1 | ⟨h1, h2⟩
      all_goals
        go_wp2
        go_quiet (fail)
        go_wp2
        go_ret2
        exact ⟨by rw [← HE.out, ← head_of, ← tail_of]; rfl, _, rfl⟩
end Go.Proofs.Ytpppefajahbpgaa
