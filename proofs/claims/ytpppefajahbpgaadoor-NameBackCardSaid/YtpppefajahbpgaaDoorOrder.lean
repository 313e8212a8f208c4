/-
  That Fold is done once, that parts make the text, and that Less is an order: plainly, over lists; no walk in this text.
-/
import Derived.Test.YtpppefajahbpgaaDoorLess
import Derived.Test.YtpppefajahbpgaaDoorFold
set_option linter.unusedSimpArgs false
set_option linter.unusedVariables false
namespace Go.Proofs.YtpppefajahbpgaaDoor
open Go.RowKit Go.Lib

theorem fold_twice (l : List UInt8) : foldT (foldT l) = foldT l := by
  have h := nums_fold l
  show encAll ((nums (foldT l)).map sml) = foldT l
  rw [h, List.map_map]
  unfold foldT
  congr 1
  refine List.map_congr_left ?_
  intro c _
  exact sml_sml c
theorem foldS_yes {l : List UInt8} (h : foldB l = true) : foldS l = foldT l := by unfold foldS; rw [h]; rfl
theorem fold_again {l : List UInt8} (h : foldB l = true) : foldB (foldS l) = true ∧ foldS (foldS l) = foldS l ∧ chk (foldS l) = true ∧ (runes (foldS l)).length = (runes l).length := by
  rw [foldS_yes h]
  have h2 : foldB (foldT l) = true := by unfold foldB; rw [fold_twice]; exact h
  refine ⟨h2, by rw [foldS_yes h2, fold_twice], h, ?_⟩
  rw [← nums_len, nums_fold, List.length_map, nums_len]

theorem blt_irr : ∀ l : List UInt8, Op.bytesLess l l = false
  | [] => rfl
  | c :: l => by simp only [Op.bytesLess]; rw [blt_irr l]; simp
theorem blt_flip : ∀ a b : List UInt8, a ≠ b → Op.bytesLess a b = !Op.bytesLess b a
  | [], [], h => absurd rfl h
  | [], _ :: _, _ => rfl
  | _ :: _, [], _ => rfl
  | c :: a, d :: b, h => by
    simp only [Op.bytesLess]
    rcases Nat.lt_trichotomy c.toNat d.toNat with g | g | g
    · have e1 : c < d := UInt8.lt_iff_toNat_lt.2 g
      have e2 : ¬ d < c := fun x => by have := UInt8.lt_iff_toNat_lt.1 x; omega
      have e3 : ¬ d = c := fun x => by rw [x] at g; omega
      simp [e1, e2, e3]
    · have e : c = d := UInt8.toNat_inj.1 g
      subst e
      have := blt_flip a b (fun x => h (by rw [x]))
      simp [UInt8.lt_irrefl, this]
    · have e1 : d < c := UInt8.lt_iff_toNat_lt.2 g
      have e2 : ¬ c < d := fun x => by have := UInt8.lt_iff_toNat_lt.1 x; omega
      have e3 : ¬ c = d := fun x => by rw [x] at g; omega
      simp [e1, e2, e3]
theorem blt_trans : ∀ a b c : List UInt8, Op.bytesLess a b = true → Op.bytesLess b c = true → Op.bytesLess a c = true
  | [], [], _, h, _ => by simp [Op.bytesLess] at h
  | [], _ :: _, [], _, h => by simp [Op.bytesLess] at h
  | [], _ :: _, _ :: _, _, _ => rfl
  | _ :: _, [], _, h, _ => by simp [Op.bytesLess] at h
  | _ :: _, _ :: _, [], _, h => by simp [Op.bytesLess] at h
  | x :: a, y :: b, z :: c, h1, h2 => by
    simp only [Op.bytesLess, Bool.or_eq_true, Bool.and_eq_true, decide_eq_true_eq, beq_iff_eq] at h1 h2 ⊢
    rcases h1 with h1 | ⟨rfl, h1⟩
    · rcases h2 with h2 | ⟨rfl, h2⟩
      · left
        have := UInt8.lt_iff_toNat_lt.1 h1
        have := UInt8.lt_iff_toNat_lt.1 h2
        exact UInt8.lt_iff_toNat_lt.2 (by omega)
      · exact Or.inl h1
    · rcases h2 with h2 | ⟨rfl, h2⟩
      · exact Or.inl h2
      · exact Or.inr ⟨rfl, blt_trans a b c h1 h2⟩

theorem lex_self : ∀ x : List Int, lexF x x = none
  | [] => rfl
  | c :: x => by rw [lexF, if_pos rfl]; exact lex_self x
theorem lex_eq : ∀ x y : List Int, lexF x y = none → x = y
  | [], [], _ => rfl
  | [], _ :: _, h => by simp [lexF] at h
  | _ :: _, [], h => by simp [lexF] at h
  | c :: x, d :: y, h => by
    rw [lexF] at h
    by_cases e : c = d
    · rw [if_pos e] at h; rw [e, lex_eq x y h]
    · rw [if_neg e] at h; cases h
theorem lex_flip : ∀ x y : List Int, lexF x y = (lexF y x).map (!·)
  | [], [] => rfl
  | [], _ :: _ => rfl
  | _ :: _, [] => rfl
  | c :: x, d :: y => by
    rw [lexF, lexF]
    by_cases e : c = d
    · rw [if_pos e, if_pos e.symm]; exact lex_flip x y
    · rw [if_neg e, if_neg (fun h => e h.symm)]
      simp only [Option.map_some]
      congr 1
      rw [Bool.eq_iff_iff]
      simp
      omega
theorem lex_trans : ∀ x y z : List Int, lexF x y = some true → lexF y z = some true → lexF x z = some true
  | [], [], _, h, _ => by simp [lexF] at h
  | [], _ :: _, [], _, h => by simp [lexF] at h
  | [], _ :: _, _ :: _, _, _ => rfl
  | _ :: _, [], _, h, _ => by simp [lexF] at h
  | _ :: _, _ :: _, [], _, h => by simp [lexF] at h
  | a :: x, b :: y, c :: z, h1, h2 => by
    rw [lexF] at h1 h2 ⊢
    by_cases e1 : a = b
    · rw [if_pos e1] at h1
      by_cases e2 : b = c
      · rw [if_pos e2] at h2
        rw [if_pos (e1.trans e2)]
        exact lex_trans x y z h1 h2
      · rw [if_neg e2] at h2
        rw [if_neg (by omega)]
        simp only [Option.some.injEq, decide_eq_true_eq] at h2 ⊢
        omega
    · rw [if_neg e1] at h1
      by_cases e2 : b = c
      · rw [if_neg (by omega)]
        simp only [Option.some.injEq, decide_eq_true_eq] at h1 ⊢
        omega
      · rw [if_neg e2] at h2
        simp only [Option.some.injEq, decide_eq_true_eq] at h1 h2 ⊢
        rw [if_neg (by omega)]
        simp only [Option.some.injEq, decide_eq_true_eq]
        omega

theorem less_self (a : List UInt8) : less a a = false := by unfold less; rw [lex_self]; exact blt_irr a
theorem less_flip {a b : List UInt8} (h : a ≠ b) : less a b = !less b a := by
  unfold less
  rw [lex_flip (nums a) (nums b)]
  cases lexF (nums b) (nums a) with
  | none => exact blt_flip a b h
  | some x => rfl
theorem less_trans {a b c : List UInt8} (h1 : less a b = true) (h2 : less b c = true) : less a c = true := by
  unfold less at h1 h2 ⊢
  cases e1 : lexF (nums a) (nums b) with
  | none =>
    rw [e1] at h1
    rw [lex_eq _ _ e1]
    cases e2 : lexF (nums b) (nums c) with
    | none => rw [e2] at h2; exact blt_trans a b c h1 h2
    | some x => rw [e2] at h2; exact h2
  | some x =>
    rw [e1] at h1
    have hx : x = true := h1
    subst hx
    cases e2 : lexF (nums b) (nums c) with
    | none => rw [← lex_eq _ _ e2, e1]; rfl
    | some y =>
      rw [e2] at h2
      have hy : y = true := h2
      subst hy
      rw [lex_trans _ _ _ e1 e2]; rfl

theorem parts_count (l : List UInt8) (n : Nat) : (runes (l.take (plc l n))).length + (runes (l.drop (plc l n))).length = (runes l).length := by
  rw [runes_take, runes_drop, List.length_take, List.length_drop]; omega
theorem part_count (l : List UInt8) (n : Nat) (h : n ≤ (runes l).length) : (runes (l.take (plc l n))).length = n := by
  rw [runes_take, List.length_take]; omega
end Go.Proofs.YtpppefajahbpgaaDoor
