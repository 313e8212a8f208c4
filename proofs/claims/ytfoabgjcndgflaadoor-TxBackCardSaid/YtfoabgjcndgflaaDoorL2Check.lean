/-
  Names, by the code and by the document's answer: the same.
-/
import Derived.Test.YtfoabgjcndgflaaDoorL2Range
set_option linter.unusedSimpArgs false
set_option linter.unusedVariables false
namespace Go.Proofs.YtfoabgjcndgflaaDoor.L2
open Go.RowKit Go.Lib

/-- Is a name what is left, behind k letters? -/
def chkF : Nat → List Int → Bool
  | k, [] => decide (k ≠ 0)
  | k, c :: r => !(decide (k = 32) || !ltr c || (decide (k = 0) && !led c)) && chkF (k + 1) r
def chk (l : List UInt8) : Bool := chkF 0 (nums l)
def errOf (b : Bool) : Int := if b then 0 else 20
theorem chkF_bad {k : Nat} {c : Int} {r : List Int} (h : (decide (k = 32) || !ltr c || (decide (k = 0) && !led c)) = true) : chkF k (c :: r) = false := by
  rw [chkF, h]; rfl
theorem chkF_good {k : Nat} {c : Int} {r : List Int} (h : (decide (k = 32) || !ltr c || (decide (k = 0) && !led c)) = false) : chkF k (c :: r) = chkF (k + 1) r := by
  rw [chkF, h]; rfl
theorem ret_err {a b : Bool} (h : a = b) : Ending.returned (.int .i64 (errOf a)) = .returned (.int .i64 (errOf b)) := by rw [h]
theorem drop_ne {s : ByteArray} {pos : Nat} (h : pos < s.size) : s.data.toList.drop pos ≠ [] := by
  intro e; have := congrArg List.length e; rw [List.length_drop, ← size_len] at this; simp at this; omega
theorem drop_nil {s : ByteArray} {pos : Nat} (h : ¬ pos < s.size) : s.data.toList.drop pos = [] := List.drop_eq_nil_of_le (by rw [← size_len]; omega)

set_option maxHeartbeats 1000000 in
set_option maxRecDepth 100000 in
theorem check_any (s : ByteArray) (w : World) (hs : s.size ≤ 1000000) :
    Calls Tryd.prog 23 #[.string s] w fun e w' => e = .returned (.int .i64 (errOf (chk s.data.toList))) ∧ Below w.heap.size w w' := by
  go_enter Tryd.func23, Tryd.ntmps23
  go_wp2
  go_loopw [3] (fun n wr => ∃ pos k : Nat, wr = w.iter s pos ∧ pos ≤ s.size ∧ k ≤ 32 ∧ n = .int .i64 k ∧ Hid (chkF k (nums (s.data.toList.drop pos)) = chk s.data.toList)) (fun _ wr => s.size - wr.iterPos w.heap.size)
  case atStart => exact ⟨0, 0, rfl, Nat.zero_le _, by omega, rfl, Lib.hid rfl⟩
  case round =>
    obtain ⟨pos, k, rfl, hp, hk32, rfl, hk⟩ := hrel
    by_cases hlt : pos < s.size
    · have hne := drop_ne hlt
      have hf := dec_facts _ hne
      have hda := dec_at s pos
      rw [List.length_drop, ← size_len] at hf
      obtain ⟨f1, f2, f3, _⟩ := hf
      have hnx : ∀ ty, (Instr.next (.pointer (some ⟨w.heap.size, 0, none⟩)) true ty).run Tryd.prog (w.iter s pos) = _ := fun ty => (run_next_any w s pos ty hlt).trans (by rw [hda])
      have hcons := nums_cons hne
      rw [List.drop_drop] at hcons
      have hk' := hk.out
      rw [hcons] at hk'
      clear hda hcons hne hk
      by_cases g : (decide (k = 32) || !ltr ((dec (s.data.toList.drop pos)).1 : Int) || (decide (k = 0) && !led ((dec (s.data.toList.drop pos)).1 : Int))) = true
      · rw [chkF_bad g] at hk'
        have HK := Lib.hid hk'
        clear hk'
        have hE : Hid (Ending.returned (.int .i64 20) = .returned (.int .i64 (errOf (chk s.data.toList)))) := Lib.hid (by rw [← HK.out]; rfl)
        clear HK
        cases h1 : ltr ((dec (s.data.toList.drop pos)).1 : Int)
        all_goals
          cases h2 : led ((dec (s.data.toList.drop pos)).1 : Int)
        all_goals
          have H1 := Lib.hid h1
          have H2 := Lib.hid h2
          rw [h1, h2] at g
          clear h1 h2
          by_cases k1 : k = 32
          · subst k1
            clear g
            go_wp2
            go_ret
            exact ⟨hE.out, (Below.refl _ _).alloc (Nat.le_refl _) _⟩
          · have k1' : ((k : Int) == 32) = false := by simp; omega
            by_cases k2 : k = 0
            · subst k2
              first
                | (simp at g; done)
                | (clear g
                   go_wp2_with (first
                     | (go_at_call 44; refine (letter_any _ _).mono ?_; rw [H1.out]; rintro e w' ⟨rfl, rfl⟩)
                     | (go_at_call 45; refine (leads_any _ _).mono ?_; rw [H2.out]; rintro e w' ⟨rfl, rfl⟩))
                   go_ret
                   exact ⟨hE.out, (Below.refl _ _).alloc (Nat.le_refl _) _⟩)
            · have k2' : ((k : Int) == 0) = false := by simp; omega
              first
                | (simp [k1, k2] at g; done)
                | (clear g
                   go_wp2_with (first
                     | (go_at_call 44; refine (letter_any _ _).mono ?_; rw [H1.out]; rintro e w' ⟨rfl, rfl⟩)
                     | (go_at_call 45; refine (leads_any _ _).mono ?_; rw [H2.out]; rintro e w' ⟨rfl, rfl⟩))
                   go_ret
                   exact ⟨hE.out, (Below.refl _ _).alloc (Nat.le_refl _) _⟩)
      · have g' : (decide (k = 32) || !ltr ((dec (s.data.toList.drop pos)).1 : Int) || (decide (k = 0) && !led ((dec (s.data.toList.drop pos)).1 : Int))) = false := by simpa using g
        rw [chkF_good g'] at hk'
        have HK := Lib.hid hk'
        clear hk' g
        simp only [Bool.or_eq_false_iff, decide_eq_false_iff_not, Bool.not_eq_false'] at g'
        obtain ⟨⟨g1, g2⟩, g3⟩ := g'
        have k1' : ((k : Int) == 32) = false := by simp; omega
        have H1 := Lib.hid g2
        clear g2
        by_cases k2 : k = 0
        · subst k2
          have H2 : Hid (led ((dec (s.data.toList.drop pos)).1 : Int) = true) := Lib.hid (by simpa using g3)
          clear g3
          go_wp2_with (first
            | (go_at_call 44; refine (letter_any _ _).mono ?_; rw [H1.out]; rintro e w' ⟨rfl, rfl⟩)
            | (go_at_call 45; refine (leads_any _ _).mono ?_; rw [H2.out]; rintro e w' ⟨rfl, rfl⟩))
          go_roundw
          case rel => exact ⟨pos + (dec (s.data.toList.drop pos)).2, 0 + 1, rfl, by omega, by omega, by go_num, HK⟩
          case measure => simp; omega
        · have k2' : ((k : Int) == 0) = false := by simp; omega
          clear g3
          go_wp2_with (first
            | (go_at_call 44; refine (letter_any _ _).mono ?_; rw [H1.out]; rintro e w' ⟨rfl, rfl⟩))
          go_roundw
          case rel => exact ⟨pos + (dec (s.data.toList.drop pos)).2, k + 1, rfl, by omega, by omega, by go_num, HK⟩
          case measure => simp; omega
    · have hnx : ∀ ty, (Instr.next (.pointer (some ⟨w.heap.size, 0, none⟩)) true ty).run Tryd.prog (w.iter s pos) = _ := fun ty => run_next_end w s pos ty hlt
      have hk' := hk.out
      rw [drop_nil hlt, nums_nil] at hk'
      by_cases k2 : k = 0
      · subst k2
        have HK := Lib.hid hk'
        clear hk' hk
        go_wp2
        go_ret
        exact ⟨by rw [← HK.out]; rfl, (Below.refl _ _).alloc (Nat.le_refl _) _⟩
      · have k2' : ((k : Int) == 0) = false := by simp; omega
        have hk2 : true = chk s.data.toList := by rw [← hk', chkF]; simp [k2]
        have HK := Lib.hid hk2
        clear hk' hk hk2
        go_wp2
        go_ret
        exact ⟨by rw [← HK.out]; rfl, (Below.refl _ _).alloc (Nat.le_refl _) _⟩
end Go.Proofs.YtfoabgjcndgflaaDoor.L2
