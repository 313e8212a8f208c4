/-
  Texts of one layer in one: L2Letters, L2Builder, L2Runes, L2Step, L2Range, L2Check, L2Cut, L2Fold, L2Tables, L2Less, L2Order, L2RefCheck, L2Value.
-/
import Derived.Test.YtgmejaiifibfoaaGreatDoorRows
import Derived.WalkKit
import Derived.WalkLawsBesides
import Derived.Lib.Hide
import Derived.Test.YtgmejaiifibfoaaGreatDoorShelf
import Derived.Shelf.Strings.BuilderRune
import Derived.LoopTactic
import Derived.Lib.RuneCountTail
import Derived.Lib.RuneBytes
import Derived.Laws.Cover1
import Derived.WalkSpells
import Derived.OwnWalk
import Derived.Lib.IndexBytes
import Derived.Deep.QuietTactic
import Derived.BigQuiet
import Derived.Deep.RegionWith
import Derived.Lib.OthersKept

/-
  What Letter and Small of layer 2 tell, of the code and of the document's answer: contracts of each, over any world. The world stays as it was.
-/
set_option linter.unusedSimpArgs false
set_option linter.unusedVariables false
namespace Go.Proofs.YtgmejaiifibfoaaGreatDoor.L2
open Go.RowKit Go.Lib

theorem ret_bool {a b : Bool} (h : a = b) : Ending.returned (.bool a) = .returned (.bool b) := by rw [h]
theorem ret_int {k : IntKind} {a b : Int} (h : a = b) : Ending.returned (.int k a) = .returned (.int k b) := by rw [h]
def dig (c : Int) : Bool := decide (48 ≤ c ∧ c ≤ 57)
def ltr (c : Int) : Bool := decide ((97 ≤ c ∧ c ≤ 122) ∨ (48 ≤ c ∧ c ≤ 57) ∨ c = 95 ∨ c = 45 ∨ (223 ≤ c ∧ c ≤ 255 ∧ c ≠ 247) ∨ (945 ≤ c ∧ c ≤ 969))
def grt (c : Int) : Bool := decide ((65 ≤ c ∧ c ≤ 90) ∨ (192 ≤ c ∧ c ≤ 222 ∧ c ≠ 215) ∨ (913 ≤ c ∧ c ≤ 937 ∧ c ≠ 930))
def led (c : Int) : Bool := decide (c ≠ 45 ∧ ¬ (48 ≤ c ∧ c ≤ 57))
def sml (c : Int) : Int := if grt c then c + 32 else c
theorem dig_yes {c : Int} (h : 48 ≤ c ∧ c ≤ 57) : dig c = true := decide_eq_true h
theorem dig_no {c : Int} (h : ¬ (48 ≤ c ∧ c ≤ 57)) : dig c = false := decide_eq_false h

theorem digit_any (c : Int) (w : World) : Calls Tryz.prog 125 #[.int .i32 c] w fun e w' => e = .returned (.bool (dig c)) ∧ w = w' := by
  by_cases a : 48 ≤ c <;> by_cases b : c ≤ 57
  all_goals
    go_enter Tryz.func125, Tryz.ntmps125
    go_wp2
    go_ret
    exact ⟨by simp [dig, a, b], rfl⟩
theorem letter_any (c : Int) (w : World) : Calls Tryz.prog 111 #[.int .i32 c] w fun e w' => e = .returned (.bool (ltr c)) ∧ w = w' := by
  by_cases h : 48 ≤ c ∧ c ≤ 57
  all_goals
    have D := Lib.hid h
    clear h
    go_enter Tryz.func111, Tryz.ntmps111
    go_wp2_with (go_at_call 125; refine (digit_any _ _).mono ?_; (first | rw [dig_yes D.out] | rw [dig_no D.out]); rintro e w' ⟨rfl, rfl⟩)
  all_goals
    have hd := D.out
    clear D
    go_ret
    refine ⟨ret_bool ?_, rfl⟩
    rw [Bool.eq_iff_iff]
    unfold ltr
    simp only [beq_iff_eq, beq_eq_false_iff_ne, bne_iff_ne, ne_eq, decide_eq_true_eq, Bool.false_eq_true, Bool.and_eq_true, Bool.or_eq_true, true_iff, false_iff, iff_true, iff_false] at *
    omega
theorem leads_any (c : Int) (w : World) : Calls Tryz.prog 112 #[.int .i32 c] w fun e w' => e = .returned (.bool (led c)) ∧ w = w' := by
  by_cases h : 48 ≤ c ∧ c ≤ 57
  all_goals
    have D := Lib.hid h
    clear h
    go_enter Tryz.func112, Tryz.ntmps112
    go_wp2_with (go_at_call 125; refine (digit_any _ _).mono ?_; (first | rw [dig_yes D.out] | rw [dig_no D.out]); rintro e w' ⟨rfl, rfl⟩)
  all_goals
    have hd := D.out
    clear D
    go_ret
    refine ⟨ret_bool ?_, rfl⟩
    rw [Bool.eq_iff_iff]
    unfold led
    simp only [beq_iff_eq, beq_eq_false_iff_ne, bne_iff_ne, ne_eq, decide_eq_true_eq, Bool.false_eq_true, Bool.and_eq_true, Bool.or_eq_true, true_iff, false_iff, iff_true, iff_false] at *
    omega
theorem refletter_any (c : Int) (w : World) : Calls Tryz.prog 97 #[.int .i64 c] w fun e w' => e = .returned (.bool (ltr c)) ∧ w = w' := by
  go_enter Tryz.func97, Tryz.ntmps97
  go_wp2
  all_goals
    go_ret
    refine ⟨ret_bool ?_, rfl⟩
    rw [Bool.eq_iff_iff]
    unfold ltr
    simp only [beq_iff_eq, beq_eq_false_iff_ne, bne_iff_ne, ne_eq, decide_eq_true_eq, Bool.false_eq_true, Bool.and_eq_true, Bool.or_eq_true, true_iff, false_iff, iff_true, iff_false] at *
    first | omega | simp only [or_true, true_or]
end Go.Proofs.YtgmejaiifibfoaaGreatDoor.L2

/-
  What a strings.Builder that the call made holds behind WriteRune: by the library's contracts, but for copyCheck and WriteRune themselves, which are walked here.
-/
set_option linter.unusedSimpArgs false
set_option linter.unusedVariables false
namespace Go.Proofs.YtgmejaiifibfoaaGreatDoor.L2
open Go.RowKit Go.Lib

theorem byteInfo : (Tryz.prog.info? 5).map (fun i => (i.zero, i.size, i.bytes)) = some (some (.int .u8 0), 1, 1) := by kernel_rfl

end Go.Proofs.YtgmejaiifibfoaaGreatDoor.L2

/-
  The runes of a text, plainly: over lists of bytes; no program in this text.
-/
set_option linter.unusedSimpArgs false
set_option linter.unusedVariables false
namespace Go.Proofs.YtgmejaiifibfoaaGreatDoor.L2
open Go.Lib

/-- The rune at the beginning of a text, and how many bytes it has. -/
def dec (l : List UInt8) : Nat × Nat := decodeN l.length (l.getD 0 0).toNat (l.getD 1 0).toNat (l.getD 2 0).toNat (l.getD 3 0).toNat
theorem size_len (s : ByteArray) : s.size = s.data.toList.length := by simp
theorem getD_drop (l : List UInt8) (p j : Nat) : (l.drop p).getD j 0 = l.getD (p + j) 0 := by
  simp [List.getD_eq_getElem?_getD, List.getElem?_drop]
theorem dec_at (s : ByteArray) (pos : Nat) : Utf8.decode s pos = dec (s.data.toList.drop pos) := by
  rw [decode_at]
  unfold dec
  simp only [List.length_drop, getD_drop, Nat.add_zero, getD_get!', ← size_len]
theorem byte_lt (l : List UInt8) (j : Nat) : (l.getD j 0).toNat < 256 := (l.getD j 0).toNat_lt

set_option maxRecDepth 100000 in
set_option maxHeartbeats 2000000 in
theorem decodeN_facts (n b0 b1 b2 b3 : Nat) (hn : 1 ≤ n) (h0 : b0 < 256) (h1 : b1 < 256) (h2 : b2 < 256) (h3 : b3 < 256) :
    1 ≤ (decodeN n b0 b1 b2 b3).2 ∧ (decodeN n b0 b1 b2 b3).2 ≤ n ∧ (decodeN n b0 b1 b2 b3).2 ≤ 4 ∧
    ((decodeN n b0 b1 b2 b3).1 < 55296 ∨ (57344 ≤ (decodeN n b0 b1 b2 b3).1 ∧ (decodeN n b0 b1 b2 b3).1 ≤ 1114111)) := by
  unfold decodeN
  repeat' split
  all_goals (simp only; omega)
theorem len_pos {l : List UInt8} (h : l ≠ []) : 1 ≤ l.length := List.length_pos_iff.2 h
theorem dec_facts (l : List UInt8) (h : l ≠ []) : 1 ≤ (dec l).2 ∧ (dec l).2 ≤ l.length ∧ (dec l).2 ≤ 4 ∧ ((dec l).1 < 55296 ∨ (57344 ≤ (dec l).1 ∧ (dec l).1 ≤ 1114111)) :=
  decodeN_facts _ _ _ _ _ (len_pos h) (byte_lt _ _) (byte_lt _ _) (byte_lt _ _) (byte_lt _ _)
theorem getD_take (l : List UInt8) (p j : Nat) : (l.take p).getD j 0 = if j < p then l.getD j 0 else 0 := by
  simp only [List.getD_eq_getElem?_getD, List.getElem?_take]
  split <;> simp
/-- Which forms a text's beginning may have. -/
def good2 (n b0 b1 : Nat) : Prop := (1 < n ∧ b1 / 64 = 2) ∧ b0 % 32 * 64 + b1 % 64 ≥ 128
def good3 (n b0 b1 b2 : Nat) : Prop := ((1 < n ∧ b1 / 64 = 2) ∧ (2 < n ∧ b2 / 64 = 2)) ∧ (b0 % 16 * 4096 + b1 % 64 * 64 + b2 % 64 ≥ 2048 ∧ (b0 % 16 * 4096 + b1 % 64 * 64 + b2 % 64 < 55296 ∨ (57344 ≤ b0 % 16 * 4096 + b1 % 64 * 64 + b2 % 64 ∧ b0 % 16 * 4096 + b1 % 64 * 64 + b2 % 64 ≤ 1114111)))
def good4 (n b0 b1 b2 b3 : Nat) : Prop := ((1 < n ∧ b1 / 64 = 2) ∧ (2 < n ∧ b2 / 64 = 2) ∧ (3 < n ∧ b3 / 64 = 2)) ∧ (b0 % 8 * 262144 + b1 % 64 * 4096 + b2 % 64 * 64 + b3 % 64 ≥ 65536 ∧ (b0 % 8 * 262144 + b1 % 64 * 4096 + b2 % 64 * 64 + b3 % 64 < 55296 ∨ (57344 ≤ b0 % 8 * 262144 + b1 % 64 * 4096 + b2 % 64 * 64 + b3 % 64 ∧ b0 % 8 * 262144 + b1 % 64 * 4096 + b2 % 64 * 64 + b3 % 64 ≤ 1114111)))
theorem dN1 (n b0 b1 b2 b3 : Nat) (h : b0 < 128) : decodeN n b0 b1 b2 b3 = (b0, 1) := by unfold decodeN; rw [if_pos h]
theorem dN2 (n b0 b1 b2 b3 : Nat) (h : b0 / 32 = 6) : (good2 n b0 b1 → decodeN n b0 b1 b2 b3 = (b0 % 32 * 64 + b1 % 64, 2)) ∧ (¬ good2 n b0 b1 → decodeN n b0 b1 b2 b3 = (65533, 1)) := by
  have h16 : ¬ b0 / 16 = 14 := by omega
  have h8 : ¬ b0 / 8 = 30 := by omega
  unfold decodeN good2
  rw [if_neg (show ¬ b0 < 128 by omega)]
  constructor
  · rintro ⟨c, d⟩
    rw [if_pos ⟨h, c⟩, if_pos d]
  · intro g
    by_cases c : 1 < n ∧ b1 / 64 = 2
    · rw [if_pos ⟨h, c⟩, if_neg (fun d => g ⟨c, d⟩)]
    · rw [if_neg (fun x => c x.2), if_neg (fun x => h16 x.1), if_neg (fun x => h8 x.1)]
theorem dN3 (n b0 b1 b2 b3 : Nat) (h : b0 / 16 = 14) : (good3 n b0 b1 b2 → decodeN n b0 b1 b2 b3 = (b0 % 16 * 4096 + b1 % 64 * 64 + b2 % 64, 3)) ∧ (¬ good3 n b0 b1 b2 → decodeN n b0 b1 b2 b3 = (65533, 1)) := by
  have h32 : ¬ b0 / 32 = 6 := by omega
  have h8 : ¬ b0 / 8 = 30 := by omega
  unfold decodeN good3
  rw [if_neg (show ¬ b0 < 128 by omega), if_neg (fun x => h32 x.1)]
  constructor
  · rintro ⟨⟨c1, c2⟩, d⟩
    rw [if_pos ⟨h, c1, c2⟩, if_pos d]
  · intro g
    by_cases c : (1 < n ∧ b1 / 64 = 2) ∧ (2 < n ∧ b2 / 64 = 2)
    · rw [if_pos ⟨h, c.1, c.2⟩, if_neg (fun d => g ⟨c, d⟩)]
    · rw [if_neg (fun x => c x.2), if_neg (fun x => h8 x.1)]
theorem dN4 (n b0 b1 b2 b3 : Nat) (h : b0 / 8 = 30) : (good4 n b0 b1 b2 b3 → decodeN n b0 b1 b2 b3 = (b0 % 8 * 262144 + b1 % 64 * 4096 + b2 % 64 * 64 + b3 % 64, 4)) ∧ (¬ good4 n b0 b1 b2 b3 → decodeN n b0 b1 b2 b3 = (65533, 1)) := by
  have h32 : ¬ b0 / 32 = 6 := by omega
  have h16 : ¬ b0 / 16 = 14 := by omega
  unfold decodeN good4
  rw [if_neg (show ¬ b0 < 128 by omega), if_neg (fun x => h32 x.1), if_neg (fun x => h16 x.1)]
  constructor
  · rintro ⟨⟨c1, c2, c3⟩, d⟩
    rw [if_pos ⟨h, c1, c2, c3⟩, if_pos d]
  · intro g
    by_cases c : (1 < n ∧ b1 / 64 = 2) ∧ (2 < n ∧ b2 / 64 = 2) ∧ (3 < n ∧ b3 / 64 = 2)
    · rw [if_pos ⟨h, c.1, c.2.1, c.2.2⟩, if_neg (fun d => g ⟨c, d⟩)]
    · rw [if_neg (fun x => c x.2)]
theorem dN0 (n b0 b1 b2 b3 : Nat) (h : ¬ b0 < 128) (h32 : ¬ b0 / 32 = 6) (h16 : ¬ b0 / 16 = 14) (h8 : ¬ b0 / 8 = 30) : decodeN n b0 b1 b2 b3 = (65533, 1) := by
  unfold decodeN
  rw [if_neg h, if_neg (fun x => h32 x.1), if_neg (fun x => h16 x.1), if_neg (fun x => h8 x.1)]
theorem decodeN_short (n p b0 b1 b2 b3 : Nat) (hp : 1 ≤ p) (hpn : p ≤ n) (hw : (decodeN n b0 b1 b2 b3).2 ≤ p) :
    decodeN p b0 (if 1 < p then b1 else 0) (if 2 < p then b2 else 0) (if 3 < p then b3 else 0) = decodeN n b0 b1 b2 b3 := by
  by_cases h1 : b0 < 128
  · rw [dN1 _ _ _ _ _ h1, dN1 _ _ _ _ _ h1]
  by_cases h2 : b0 / 32 = 6
  · by_cases g : good2 n b0 b1
    · rw [(dN2 n b0 b1 b2 b3 h2).1 g] at hw ⊢
      have p1 : 1 < p := hw
      rw [if_pos p1]
      exact (dN2 p b0 b1 _ _ h2).1 ⟨⟨p1, g.1.2⟩, g.2⟩
    · rw [(dN2 n b0 b1 b2 b3 h2).2 g]
      refine (dN2 p b0 _ _ _ h2).2 ?_
      rintro ⟨⟨p1, c⟩, d⟩
      rw [if_pos p1] at c d
      exact g ⟨⟨by omega, c⟩, d⟩
  by_cases h3 : b0 / 16 = 14
  · by_cases g : good3 n b0 b1 b2
    · rw [(dN3 n b0 b1 b2 b3 h3).1 g] at hw ⊢
      have p2 : 2 < p := hw
      rw [if_pos (show 1 < p by omega), if_pos p2]
      exact (dN3 p b0 b1 b2 _ h3).1 ⟨⟨⟨by omega, g.1.1.2⟩, ⟨p2, g.1.2.2⟩⟩, g.2⟩
    · rw [(dN3 n b0 b1 b2 b3 h3).2 g]
      refine (dN3 p b0 _ _ _ h3).2 ?_
      rintro ⟨⟨⟨p1, c1⟩, ⟨p2, c2⟩⟩, d⟩
      rw [if_pos p1] at c1 d
      rw [if_pos p2] at c2 d
      exact g ⟨⟨⟨by omega, c1⟩, ⟨by omega, c2⟩⟩, d⟩
  by_cases h4 : b0 / 8 = 30
  · by_cases g : good4 n b0 b1 b2 b3
    · rw [(dN4 n b0 b1 b2 b3 h4).1 g] at hw ⊢
      have p3 : 3 < p := hw
      rw [if_pos (show 1 < p by omega), if_pos (show 2 < p by omega), if_pos p3]
      exact (dN4 p b0 b1 b2 b3 h4).1 ⟨⟨⟨by omega, g.1.1.2⟩, ⟨by omega, g.1.2.1.2⟩, ⟨p3, g.1.2.2.2⟩⟩, g.2⟩
    · rw [(dN4 n b0 b1 b2 b3 h4).2 g]
      refine (dN4 p b0 _ _ _ h4).2 ?_
      rintro ⟨⟨⟨p1, c1⟩, ⟨p2, c2⟩, ⟨p3, c3⟩⟩, d⟩
      rw [if_pos p1] at c1 d
      rw [if_pos p2] at c2 d
      rw [if_pos p3] at c3 d
      exact g ⟨⟨⟨by omega, c1⟩, ⟨by omega, c2⟩, ⟨by omega, c3⟩⟩, d⟩
  rw [dN0 _ _ _ _ _ h1 h2 h3 h4, dN0 _ _ _ _ _ h1 h2 h3 h4]
theorem dec_take (l : List UInt8) (p : Nat) (hp : 1 ≤ p) (hl : p ≤ l.length) (hw : (dec l).2 ≤ p) : dec (l.take p) = dec l := by
  unfold dec at hw ⊢
  rw [← decodeN_short l.length p _ _ _ _ hp hl hw, getD_take, getD_take, getD_take, getD_take, if_pos (by omega), List.length_take, Nat.min_eq_left hl]
  congr 1 <;> (split <;> rfl)

/-- The runes of a text, with their widths. -/
def runesF : Nat → List UInt8 → List (Nat × Nat)
  | 0, _ => []
  | _ + 1, [] => []
  | f + 1, c :: l => dec (c :: l) :: runesF f ((c :: l).drop (dec (c :: l)).2)
def runes (l : List UInt8) : List (Nat × Nat) := runesF l.length l
theorem runesF_enough : ∀ (f g : Nat) (l : List UInt8), l.length ≤ f → l.length ≤ g → runesF f l = runesF g l
  | 0, 0, _, _, _ => rfl
  | 0, _ + 1, [], _, _ => rfl
  | 0, _ + 1, _ :: _, h, _ => by simp at h
  | _ + 1, 0, [], _, _ => rfl
  | _ + 1, 0, _ :: _, _, h => by simp at h
  | _ + 1, _ + 1, [], _, _ => rfl
  | f + 1, g + 1, c :: l, hf, hg => by
    have hd := dec_facts (c :: l) (by simp)
    simp only [runesF]
    rw [runesF_enough f g _ (by simp at hf hd ⊢; omega) (by simp at hg hd ⊢; omega)]
theorem runes_nil : runes [] = [] := rfl
theorem runes_cons {l : List UInt8} (h : l ≠ []) : runes l = dec l :: runes (l.drop (dec l).2) := by
  cases l with
  | nil => exact absurd rfl h
  | cons c l =>
    have hd := dec_facts (c :: l) (by simp)
    unfold runes
    rw [List.length_cons, runesF]
    rw [runesF_enough l.length ((c :: l).drop (dec (c :: l)).2).length _ (by simp at hd ⊢; omega) (Nat.le_refl _)]
/-- Induction over the runes. -/
theorem runes_ind {M : List UInt8 → Prop} (h0 : M []) (h1 : ∀ l, l ≠ [] → M (l.drop (dec l).2) → M l) (l : List UInt8) : M l := by
  have h : ∀ (n : Nat) (l : List UInt8), l.length ≤ n → M l := by
    intro n
    induction n with
    | zero =>
      intro l hl
      have : l = [] := List.length_eq_zero_iff.1 (by omega)
      rw [this]; exact h0
    | succ n ih =>
      intro l hl
      by_cases e : l = []
      · rw [e]; exact h0
      · have hd := dec_facts l e
        exact h1 l e (ih _ (by rw [List.length_drop]; omega))
  exact h l.length l (Nat.le_refl _)

def wsum (r : List (Nat × Nat)) : Nat := (r.map (·.2)).sum
theorem wsum_nil : wsum [] = 0 := rfl
theorem wsum_cons (x : Nat × Nat) (r : List (Nat × Nat)) : wsum (x :: r) = x.2 + wsum r := by simp [wsum]
theorem wsum_runes (l : List UInt8) : wsum (runes l) = l.length := by
  induction l using runes_ind with
  | h0 => rfl
  | h1 l h ih =>
    have hd := dec_facts l h
    rw [runes_cons h, wsum_cons, ih, List.length_drop]; omega
theorem runes_len (l : List UInt8) : (runes l).length ≤ l.length := by
  induction l using runes_ind with
  | h0 => exact Nat.le_refl _
  | h1 l h ih =>
    have hd := dec_facts l h
    rw [List.length_drop] at ih
    rw [runes_cons h, List.length_cons]; omega
theorem runes_empty {l : List UInt8} : runes l = [] ↔ l = [] := by
  constructor
  · intro h
    by_cases e : l = []
    · exact e
    · rw [runes_cons e] at h; cases h
  · rintro rfl; rfl
/-- Where the n-th rune begins. -/
def plc (l : List UInt8) (n : Nat) : Nat := wsum ((runes l).take n)
theorem plc_nil (n : Nat) : plc [] n = 0 := by simp [plc, runes_nil, wsum]
theorem plc_zero (l : List UInt8) : plc l 0 = 0 := by simp [plc, wsum]
theorem plc_succ {l : List UInt8} (h : l ≠ []) (n : Nat) : plc l (n + 1) = (dec l).2 + plc (l.drop (dec l).2) n := by
  unfold plc; rw [runes_cons h, List.take_succ_cons, wsum_cons]
theorem plc_le (l : List UInt8) (n : Nat) : plc l n ≤ l.length := by
  induction l using runes_ind generalizing n with
  | h0 => simp [plc_nil]
  | h1 l h ih =>
    have hd := dec_facts l h
    cases n with
    | zero => simp [plc_zero]
    | succ n =>
      have := ih n
      rw [List.length_drop] at this
      rw [plc_succ h]; omega
theorem plc_far (l : List UInt8) (n : Nat) (h : l.length ≤ n) : plc l n = l.length := by
  unfold plc
  rw [List.take_of_length_le (by have := runes_len l; omega), wsum_runes]
theorem runes_take (l : List UInt8) (n : Nat) : runes (l.take (plc l n)) = (runes l).take n := by
  induction l using runes_ind generalizing n with
  | h0 => simp [plc_nil, runes_nil]
  | h1 l h ih =>
    have hd := dec_facts l h
    cases n with
    | zero => simp [plc_zero, runes_nil]
    | succ n =>
      have hle := plc_le l (n + 1)
      rw [plc_succ h] at hle ⊢
      have e : dec (l.take ((dec l).2 + plc (l.drop (dec l).2) n)) = dec l := dec_take l _ (by omega) hle (by omega)
      have hne : l.take ((dec l).2 + plc (l.drop (dec l).2) n) ≠ [] := by
        intro e0
        have := congrArg List.length e0
        rw [List.length_take, List.length_nil] at this
        have := len_pos h
        omega
      rw [runes_cons hne, e, List.drop_take, Nat.add_sub_cancel_left, ih n, runes_cons h, List.take_succ_cons]
theorem runes_drop (l : List UInt8) (n : Nat) : runes (l.drop (plc l n)) = (runes l).drop n := by
  induction l using runes_ind generalizing n with
  | h0 => simp [plc_nil, runes_nil]
  | h1 l h ih =>
    cases n with
    | zero => simp [plc_zero]
    | succ n =>
      rw [plc_succ h, ← List.drop_drop, ih n]
      conv => rhs; rw [runes_cons h, List.drop_succ_cons]

/-- The numbers of a text's runes. -/
def nums (l : List UInt8) : List Int := (runes l).map fun x => (x.1 : Int)
theorem nums_nil : nums [] = [] := rfl
theorem nums_cons {l : List UInt8} (h : l ≠ []) : nums l = ((dec l).1 : Int) :: nums (l.drop (dec l).2) := by unfold nums; rw [runes_cons h]; rfl
theorem nums_len (l : List UInt8) : (nums l).length = (runes l).length := by simp [nums]
/-- Is it a rune that may be one? -/
def okNum (c : Int) : Prop := (0 ≤ c ∧ c < 55296) ∨ (57344 ≤ c ∧ c ≤ 1114111)
theorem nums_ok (l : List UInt8) : ∀ c ∈ nums l, okNum c := by
  induction l using runes_ind with
  | h0 => intro c hc; cases hc
  | h1 l h ih =>
    have hd := dec_facts l h
    rw [nums_cons h]
    intro c hc
    rcases List.mem_cons.1 hc with rfl | hc
    · unfold okNum; omega
    · exact ih c hc

/-- The bytes of a rune, and of some. -/
def enc (c : Int) : List UInt8 := encodeRune c
def encAll (r : List Int) : List UInt8 := r.flatMap enc
set_option maxRecDepth 100000 in
set_option maxHeartbeats 2000000 in
theorem dec_enc (c : Int) (h : okNum c) (l : List UInt8) : dec (enc c ++ l) = (c.toNat, (enc c).length) ∧ 1 ≤ (enc c).length ∧ (enc c).length ≤ 4 := by
  obtain ⟨n, rfl⟩ : ∃ n : Nat, c = n := ⟨c.toNat, by unfold okNum at h; omega⟩
  unfold okNum at h
  unfold enc encodeRune
  rcases (show n ≤ 127 ∨ (128 ≤ n ∧ n ≤ 2047) ∨ (2048 ≤ n ∧ n ≤ 65535) ∨ 65536 ≤ n by omega) with h1 | h2 | h3 | h4
  · rw [encodeRuneZ_one (by omega) (by omega)]
    have e0 : ((n : Int).toNat.toUInt8).toNat = n := by simp; omega
    refine ⟨?_, by simp, by simp⟩
    unfold dec decodeN
    simp only [List.map_cons, List.map_nil, List.cons_append, List.nil_append, List.getD_cons_zero, e0]
    rw [if_pos (by omega)]; rfl
  · rw [encodeRuneZ_two (by omega) (by omega)]
    have e0 : ((192 + (n : Int) / 64).toNat.toUInt8).toNat = 192 + n / 64 := by simp; omega
    have e1 : ((128 + (n : Int) % 64).toNat.toUInt8).toNat = 128 + n % 64 := by simp; omega
    refine ⟨?_, by simp, by simp⟩
    unfold dec decodeN
    simp only [List.map_cons, List.map_nil, List.cons_append, List.nil_append, List.getD_cons_zero, List.getD_cons_succ, List.length_cons, e0, e1]
    rw [if_neg (by omega), if_pos (by omega), if_pos (by omega)]
    apply Prod.ext <;> simp only [List.length_nil, Int.toNat_natCast] <;> omega
  · rw [encodeRuneZ_three (by omega)]
    have e0 : ((224 + (n : Int) / 4096).toNat.toUInt8).toNat = 224 + n / 4096 := by simp; omega
    have e1 : ((128 + (n : Int) / 64 % 64).toNat.toUInt8).toNat = 128 + n / 64 % 64 := by simp; omega
    have e2 : ((128 + (n : Int) % 64).toNat.toUInt8).toNat = 128 + n % 64 := by simp; omega
    refine ⟨?_, by simp, by simp⟩
    unfold dec decodeN
    simp only [List.map_cons, List.map_nil, List.cons_append, List.nil_append, List.getD_cons_zero, List.getD_cons_succ, List.length_cons, e0, e1, e2]
    rw [if_neg (by omega), if_neg (by omega), if_pos (by omega), if_pos (by omega)]
    apply Prod.ext <;> simp only [List.length_nil, Int.toNat_natCast] <;> omega
  · rw [encodeRuneZ_four (by omega) (by omega)]
    have e0 : ((240 + (n : Int) / 262144).toNat.toUInt8).toNat = 240 + n / 262144 := by simp; omega
    have e1 : ((128 + (n : Int) / 4096 % 64).toNat.toUInt8).toNat = 128 + n / 4096 % 64 := by simp; omega
    have e2 : ((128 + (n : Int) / 64 % 64).toNat.toUInt8).toNat = 128 + n / 64 % 64 := by simp; omega
    have e3 : ((128 + (n : Int) % 64).toNat.toUInt8).toNat = 128 + n % 64 := by simp; omega
    refine ⟨?_, by simp, by simp⟩
    unfold dec decodeN
    simp only [List.map_cons, List.map_nil, List.cons_append, List.nil_append, List.getD_cons_zero, List.getD_cons_succ, List.length_cons, e0, e1, e2, e3]
    rw [if_neg (by omega), if_neg (by omega), if_neg (by omega), if_pos (by omega), if_pos (by omega)]
    apply Prod.ext <;> simp only [List.length_nil, Int.toNat_natCast] <;> omega
theorem encAll_nil : encAll [] = [] := rfl
theorem encAll_cons (c : Int) (r : List Int) : encAll (c :: r) = enc c ++ encAll r := rfl
theorem encAll_snoc (r : List Int) (c : Int) : encAll (r ++ [c]) = encAll r ++ enc c := by simp [encAll]
theorem nums_encAll (r : List Int) (h : ∀ c ∈ r, okNum c) : nums (encAll r) = r := by
  induction r with
  | nil => rfl
  | cons c r ih =>
    have hc := h c (by simp)
    obtain ⟨hd, h1, h4⟩ := dec_enc c hc (encAll r)
    have hne : enc c ++ encAll r ≠ [] := by
      intro e
      have := congrArg List.length e
      rw [List.length_append, List.length_nil] at this
      omega
    rw [encAll_cons, nums_cons hne, hd]
    rw [show (enc c ++ encAll r).drop (c.toNat, (enc c).length).2 = encAll r from List.drop_left, ih (fun x hx => h x (by simp [hx]))]
    congr 1
    unfold okNum at hc; omega
theorem enc_len (c : Int) : (enc c).length ≤ 4 := by
  unfold enc encodeRune; rw [List.length_map]; exact (encodeRuneZ_length c).2
theorem encAll_len (r : List Int) : (encAll r).length ≤ 4 * r.length := by
  induction r with
  | nil => simp [encAll]
  | cons c r ih => have := enc_len c; rw [encAll_cons, List.length_append, List.length_cons]; omega
end Go.Proofs.YtgmejaiifibfoaaGreatDoor.L2

/-
  The rune at the beginning of a text, by the document's answer: the model's own.
-/
set_option linter.unusedSimpArgs false
set_option linter.unusedVariables false
namespace Go.Proofs.YtgmejaiifibfoaaGreatDoor.L2
open Go.RowKit Go.Lib

theorem get_list (s : ByteArray) (k : Nat) (h : k < s.size) : s.data.toList.getD k 0 = s[k] := by
  rw [List.getD_eq_getElem?_getD, List.getElem?_eq_getElem (by rw [← size_len]; exact h)]; rfl
theorem wrap_byte (b : UInt8) : wrap64 (b.toNat : Int) = b.toNat := by
  have := b.toNat_lt
  unfold wrap64; omega
/-- What the i-th byte of a text brings, if it goes on. -/
def tl (l : List UInt8) (i : Nat) : Int := if i < l.length ∧ 128 ≤ (l.getD i 0).toNat ∧ (l.getD i 0).toNat < 192 then ((l.getD i 0).toNat : Int) - 128 else -1
theorem tl_range (l : List UInt8) (i : Nat) : -1 ≤ tl l i ∧ tl l i ≤ 63 := by unfold tl; split <;> omega
set_option maxRecDepth 100000 in
theorem tail_any (s : ByteArray) (i : Nat) (w : World) (hi : i ≤ 3) :
    Calls Tryz.prog 128 #[.string s, .int .i64 i] w fun e w' => e = .returned (.int .i64 (tl s.data.toList i)) ∧ w = w' := by
  by_cases h : i < s.size
  · have hw : ∀ b : UInt8, wrap64 (b.toNat : Int) = b.toNat := wrap_byte
    go_enter Tryz.func128, Tryz.ntmps128
    go_wp2
    all_goals
      go_ret
      refine ⟨ret_int ?_, rfl⟩
      unfold tl
      rw [get_list s i h]
      first | rw [if_pos ⟨by rw [← size_len]; exact h, by omega, by omega⟩] | rw [if_neg (by omega)]
  · go_enter Tryz.func128, Tryz.ntmps128
    go_wp2
    go_ret
    exact ⟨ret_int (by unfold tl; rw [if_neg (by rw [← size_len]; omega)]), rfl⟩

theorem tail1 (s : ByteArray) (w : World) : Calls Tryz.prog 128 #[.string s, .int .i64 1] w fun e w' => e = .returned (.int .i64 (tl s.data.toList 1)) ∧ w = w' := tail_any s 1 w (by omega)
theorem tail2 (s : ByteArray) (w : World) : Calls Tryz.prog 128 #[.string s, .int .i64 2] w fun e w' => e = .returned (.int .i64 (tl s.data.toList 2)) ∧ w = w' := tail_any s 2 w (by omega)
theorem tail3 (s : ByteArray) (w : World) : Calls Tryz.prog 128 #[.string s, .int .i64 3] w fun e w' => e = .returned (.int .i64 (tl s.data.toList 3)) ∧ w = w' := tail_any s 3 w (by omega)

def stepZ (a b c d : Int) : Int × Int × Bool :=
  if a < 128 then (a, 1, true)
  else if 192 ≤ a ∧ a < 224 ∧ 0 ≤ b ∧ 128 ≤ (a - 192) * 64 + b then ((a - 192) * 64 + b, 2, true)
  else if 224 ≤ a ∧ a < 240 ∧ 0 ≤ b ∧ 0 ≤ c ∧ 2048 ≤ (a - 224) * 4096 + b * 64 + c ∧ ((a - 224) * 4096 + b * 64 + c < 55296 ∨ 57343 < (a - 224) * 4096 + b * 64 + c) then ((a - 224) * 4096 + b * 64 + c, 3, true)
  else if 240 ≤ a ∧ a < 248 ∧ 0 ≤ b ∧ 0 ≤ c ∧ 0 ≤ d ∧ 65536 ≤ (a - 240) * 262144 + b * 4096 + c * 64 + d ∧ (a - 240) * 262144 + b * 4096 + c * 64 + d ≤ 1114111 then ((a - 240) * 262144 + b * 4096 + c * 64 + d, 4, true)
  else (65533, 1, false)
/-- Is it one? -/
def okR (x : Nat × Nat) : Bool := !(x.1 == 65533 && x.2 == 1)
def triple (x : Int × Int × Bool) : Ending := .returned (.tuple #[.int .i64 x.1, .int .i64 x.2.1, .bool x.2.2])
theorem triple_eq {a b : Int} {c : Bool} {x : Int × Int × Bool} (h : x = (a, b, c)) : Ending.returned (.tuple #[.int .i64 a, .int .i64 b, .bool c]) = triple x := by rw [h]; rfl

theorem tl_facts (l : List UInt8) (i : Nat) (h : 1 ≤ i) : (tl l i = -1 ∧ ¬ (i < l.length ∧ (l.getD i 0).toNat / 64 = 2)) ∨ (0 ≤ tl l i ∧ (i < l.length ∧ (l.getD i 0).toNat / 64 = 2) ∧ tl l i = ((l.getD i 0).toNat % 64 : Nat)) := by
  have hb := byte_lt l i
  unfold tl
  by_cases c : i < l.length ∧ 128 ≤ (l.getD i 0).toNat ∧ (l.getD i 0).toNat < 192
  · rw [if_pos c]
    right
    refine ⟨by omega, ⟨c.1, by omega⟩, by omega⟩
  · rw [if_neg c]
    left
    exact ⟨rfl, by omega⟩
theorem stepZ_dec (l : List UInt8) : stepZ (l.getD 0 0).toNat (tl l 1) (tl l 2) (tl l 3) = (((dec l).1 : Int), ((dec l).2 : Int), okR (dec l)) := by
  have h0 := byte_lt l 0
  have f1 := tl_facts l 1 (by omega)
  have f2 := tl_facts l 2 (by omega)
  have f3 := tl_facts l 3 (by omega)
  have r1 := tl_range l 1
  have r2 := tl_range l 2
  have r3 := tl_range l 3
  unfold dec
  generalize (l.getD 0 0).toNat = b0 at *
  generalize (l.getD 1 0).toNat = b1 at *
  generalize (l.getD 2 0).toNat = b2 at *
  generalize (l.getD 3 0).toNat = b3 at *
  generalize tl l 1 = t1 at *
  generalize tl l 2 = t2 at *
  generalize tl l 3 = t3 at *
  generalize l.length = n at *
  by_cases c1 : b0 < 128
  · rw [dN1 _ _ _ _ _ c1]
    unfold stepZ
    rw [if_pos (by omega)]
    have : okR (b0, 1) = true := by unfold okR; simp; omega
    rw [this]; rfl
  by_cases c2 : b0 / 32 = 6
  · by_cases g : good2 n b0 b1
    · rw [(dN2 n b0 b1 b2 b3 c2).1 g]
      unfold good2 at g
      unfold stepZ
      rw [if_neg (by omega), if_pos (by omega)]
      have : okR (b0 % 32 * 64 + b1 % 64, 2) = true := by unfold okR; simp
      rw [this]
      refine Prod.ext ?_ (Prod.ext rfl rfl)
      simp only; omega
    · rw [(dN2 n b0 b1 b2 b3 c2).2 g]
      unfold good2 at g
      unfold stepZ
      rw [if_neg (by omega), if_neg (by omega), if_neg (by omega), if_neg (by omega)]
      rfl
  by_cases c3 : b0 / 16 = 14
  · by_cases g : good3 n b0 b1 b2
    · rw [(dN3 n b0 b1 b2 b3 c3).1 g]
      unfold good3 at g
      unfold stepZ
      rw [if_neg (by omega), if_neg (by omega), if_pos (by omega)]
      have : okR (b0 % 16 * 4096 + b1 % 64 * 64 + b2 % 64, 3) = true := by unfold okR; simp
      rw [this]
      refine Prod.ext ?_ (Prod.ext rfl rfl)
      simp only; omega
    · rw [(dN3 n b0 b1 b2 b3 c3).2 g]
      unfold good3 at g
      unfold stepZ
      rw [if_neg (by omega), if_neg (by omega), if_neg (by omega), if_neg (by omega)]
      rfl
  by_cases c4 : b0 / 8 = 30
  · by_cases g : good4 n b0 b1 b2 b3
    · rw [(dN4 n b0 b1 b2 b3 c4).1 g]
      unfold good4 at g
      unfold stepZ
      rw [if_neg (by omega), if_neg (by omega), if_neg (by omega), if_pos (by omega)]
      have : okR (b0 % 8 * 262144 + b1 % 64 * 4096 + b2 % 64 * 64 + b3 % 64, 4) = true := by unfold okR; simp
      rw [this]
      refine Prod.ext ?_ (Prod.ext rfl rfl)
      simp only; omega
    · rw [(dN4 n b0 b1 b2 b3 c4).2 g]
      unfold good4 at g
      unfold stepZ
      rw [if_neg (by omega), if_neg (by omega), if_neg (by omega), if_neg (by omega)]
      rfl
  rw [dN0 _ _ _ _ _ c1 c2 c3 c4]
  unfold stepZ
  rw [if_neg (by omega), if_neg (by omega), if_neg (by omega), if_neg (by omega)]
  rfl

/-- What Step tells of a text. -/
def stepE (l : List UInt8) : Ending := .returned (.tuple #[.int .i64 ((dec l).1 : Int), .int .i64 ((dec l).2 : Int), .bool (okR (dec l))])
theorem stepZ_E (l : List UInt8) : triple (stepZ (l.getD 0 0).toNat (tl l 1) (tl l 2) (tl l 3)) = stepE l := by rw [stepZ_dec]; rfl
set_option maxRecDepth 100000 in
set_option maxHeartbeats 1000000 in
theorem step_any (s : ByteArray) (w : World) (h : 0 < s.size) :
    Calls Tryz.prog 116 #[.string s] w fun e w' => e = stepE s.data.toList ∧ w = w' := by
  have r1 := tl_range s.data.toList 1
  have r2 := tl_range s.data.toList 2
  have r3 := tl_range s.data.toList 3
  obtain ⟨r10, r11⟩ := r1
  obtain ⟨r20, r21⟩ := r2
  obtain ⟨r30, r31⟩ := r3
  obtain ⟨a, hw, ha, h0, h1⟩ : ∃ a : Int, wrap64 ((s[0]'h).toNat : Int) = a ∧ Hid (stepE s.data.toList = triple (stepZ a (tl s.data.toList 1) (tl s.data.toList 2) (tl s.data.toList 3))) ∧ 0 ≤ a ∧ a ≤ 255 := by
    have hb := (s[0]'h).toNat_lt
    exact ⟨((s[0]'h).toNat : Int), wrap_byte _, Lib.hid (by rw [← stepZ_E, get_list s 0 h]), by omega, by omega⟩
  rw [ha.out]
  rcases (show a < 128 ∨ (128 ≤ a ∧ a < 192 ∧ a < 224 ∧ a < 240) ∨ (128 ≤ a ∧ 192 ≤ a ∧ a < 224 ∧ a < 240) ∨ (128 ≤ a ∧ 192 ≤ a ∧ 224 ≤ a ∧ a < 240) ∨ (128 ≤ a ∧ 192 ≤ a ∧ 224 ≤ a ∧ 240 ≤ a ∧ a < 248) ∨ (128 ≤ a ∧ 192 ≤ a ∧ 224 ≤ a ∧ 240 ≤ a ∧ 248 ≤ a) by omega) with k | ⟨k1, k2, k3, k4⟩ | ⟨k1, k2, k3, k4⟩ | ⟨k1, k2, k3, k4⟩ | ⟨k1, k2, k3, k4, k5⟩ | ⟨k1, k2, k3, k4, k5⟩
  all_goals
    go_enter Tryz.func116, Tryz.ntmps116
    go_wp2_with (go_at_call 128; first | ((with_reducible refine (tail1 s _).mono ?_); rintro e w' ⟨rfl, rfl⟩) | ((with_reducible refine (tail2 s _).mono ?_); rintro e w' ⟨rfl, rfl⟩) | ((with_reducible refine (tail3 s _).mono ?_); rintro e w' ⟨rfl, rfl⟩))
  all_goals
    go_ret3
    refine ⟨triple_eq ?_, rfl⟩
    unfold stepZ
    repeat (first | rw [if_pos (by omega)] | rw [if_neg (by omega)])
    try rw [hw]
end Go.Proofs.YtgmejaiifibfoaaGreatDoor.L2

/-
  The runes of a text by the document's answer, and how many there are, and where each begins, by the code.
-/
set_option linter.unusedSimpArgs false
set_option linter.unusedVariables false
namespace Go.Proofs.YtgmejaiifibfoaaGreatDoor.L2
open Go.RowKit Go.Lib

/-- Are all of a text's runes ones? -/
def allOk (l : List UInt8) : Bool := (runes l).all okR
theorem allOk_nil : allOk [] = true := rfl
theorem allOk_cons {l : List UInt8} (h : l ≠ []) : allOk l = (okR (dec l) && allOk (l.drop (dec l).2)) := by unfold allOk; rw [runes_cons h]; rfl
theorem ne_nil {s : ByteArray} (h : 0 < s.size) : s.data.toList ≠ [] := by
  intro e; rw [size_len, e] at h; exact absurd h (by simp)
theorem is_nil {s : ByteArray} (h : ¬ 0 < s.size) : s.data.toList = [] := by
  rw [size_len] at h; exact List.length_eq_zero_iff.1 (by omega)
theorem intInfo : (Tryz.prog.info? 3).map (fun i => (i.zero, i.size, i.bytes)) = some (some (.int .i64 0), 1, 8) := by kernel_rfl
/-- How many bytes a text has that a slot holds. -/
def strSize : Value → Nat | .string x => x.size | _ => 0

/-- What Runes tells: a new slice of the runes, and whether all are ones. -/
def runesPost (l : List UInt8) (w : World) (e : Ending) (w' : World) : Prop :=
  ∃ v : Value, e = .returned (.tuple #[v, .bool (allOk l)]) ∧ w'.ownsRow w.heap.size 3 1 v (nums l).length ((nums l).map (Value.int .i64)) ∧ Below w.heap.size w w'
def runesRel (l : List UInt8) (w : World) (s0 v b : Value) (wr : World) : Prop :=
  ∃ (x : ByteArray) (done : List Int) (a : Bool), s0 = .string x ∧ b = .bool a ∧ x.size ≤ l.length ∧ done.length + x.size ≤ l.length ∧ nums l = done ++ nums x.data.toList ∧ allOk l = (a && allOk x.data.toList) ∧
    wr.ownsRow w.heap.size 3 1 v done.length (done.map (Value.int .i64)) ∧ Below w.heap.size w wr
theorem runesRel_next {l : List UInt8} {x : ByteArray} {done : List Int} {a : Bool} (hx : 0 < x.size) (hd : done.length + x.size ≤ l.length) (h1 : nums l = done ++ nums x.data.toList) (h2 : allOk l = (a && allOk x.data.toList)) :
    nums l = (done ++ [((dec x.data.toList).1 : Int)]) ++ nums (x.extract (dec x.data.toList).2 x.size).data.toList ∧ allOk l = ((a && okR (dec x.data.toList)) && allOk (x.extract (dec x.data.toList).2 x.size).data.toList) ∧
    (done ++ [((dec x.data.toList).1 : Int)]).length + (x.extract (dec x.data.toList).2 x.size).size ≤ l.length := by
  have hf := dec_facts x.data.toList (ne_nil hx)
  rw [extract_to_end, tail_size]
  refine ⟨?_, ?_, ?_⟩
  · rw [h1, nums_cons (ne_nil hx)]; simp
  · rw [h2, allOk_cons (ne_nil hx)]; simp [Bool.and_assoc]
  · rw [List.length_append, List.length_singleton]; rw [← size_len] at hf; omega

set_option maxHeartbeats 1000000 in
set_option maxRecDepth 100000 in
theorem runes_any (s : ByteArray) (w : World) (hs : s.size ≤ 1000000) : Calls Tryz.prog 96 #[.string s] w (runesPost s.data.toList w) := by
  obtain ⟨i0, hi, hz0, hz1, hz2⟩ := info_parts intInfo
  have hs' : s.data.toList.length ≤ 1000000 := by rw [← size_len]; exact hs
  go_enter Tryz.func96, Tryz.ntmps96
  go_wp2
  go_loopw [0, 4, 5] (fun s0 v b wr => runesRel s.data.toList w s0 v b wr) (fun s0 _ _ _ => strSize s0)
  case atStart => exact ⟨s, [], true, rfl, rfl, by rw [size_len]; exact Nat.le_refl _, by rw [size_len]; simp, rfl, rfl, World.ownsRow_nil _ _ _ _, Below.refl _ _⟩
  case round =>
    obtain ⟨x, done, a, rfl, rfl, hx, hd, hn, ha, hown, hb⟩ := hrel
    by_cases hlt : 0 < x.size
    · have hf := dec_facts x.data.toList (ne_nil hlt)
      rw [← size_len] at hf
      obtain ⟨f1, f2, f3, _⟩ := hf
      have R := runesRel_next hlt hd hn ha
      obtain ⟨R1, R2, R3⟩ := R
      have HR := Lib.hid R1
      have HR2 := Lib.hid R2
      have HN := Lib.hid hn
      have HA := Lib.hid ha
      clear R1 R2 hn ha
      go_wp2_with (first
        | (go_at_call 116; (with_reducible refine (step_any x _ hlt).mono ?_); unfold stepE; rintro e w' ⟨rfl, rfl⟩)
        | (at_builtin; refine wpList_append_own _ rfl _ _ 58 rfl w.heap.size 3 i0 (.int .i64 0) 1 8 Tryz.underlying58 hi hz0 hz1 hz2 rfl (by decide) _ _ _ rfl (hown.alloc _) ⟨wr.heap.size, 0, none⟩ 1 1 [.int .i64 ((dec x.data.toList).1 : Int)] rfl rfl ?c1 ?c2 ?c3 ?c4 ?c5 ?_))
      case c1 =>
        intro j u hj
        match j, hj with
        | 0, hj => simp at hj; subst hj; simp [Addr.add]
      case c2 => intro u hu; simp at hu; subst hu; rfl
      case c3 => unfold maxLen; omega
      case c4 => omega
      case c5 => have := hb.size; simp; omega
      intro v' w1 hown' hgrow hn0
      have hown2 : w1.ownsRow w.heap.size 3 1 v' (done ++ [((dec x.data.toList).1 : Int)]).length ((done ++ [((dec x.data.toList).1 : Int)]).map (Value.int .i64)) := by
        rw [List.length_append, List.length_singleton, List.map_append]; exact hown'
      have hb2 : Below w.heap.size w w1 := (hb.alloc hb.size _).grown hgrow (by have := hb.size; simp; omega) (fun k hk => (hown.lt k hk).1)
      have HO := Lib.hid hown2
      clear hown2 hown' hgrow hown hn0
      cases a
      all_goals
        go_wp2
        go_roundw
        case rel => exact ⟨_, _, _, rfl, rfl, by rw [tail_size]; omega, R3, HR.out, HR2.out, HO.out, hb2⟩
        case measure => show (x.extract _ x.size).size < x.size; rw [tail_size]; omega
    · go_wp2
      go_ret2
      have e := is_nil hlt
      rw [e] at hn ha
      rw [nums_nil, List.append_nil] at hn
      rw [allOk_nil, Bool.and_true] at ha
      refine ⟨_, by rw [ha]; rfl, by rw [hn]; exact hown, hb⟩

/-- The slice at A reads as these numbers (none of them: whatever A is), in a block from B on. -/
def Reads (w : World) (B : Nat) (A : Option Addr) (zs : List Int) : Prop :=
  zs = [] ∨ ∃ g, A = some ⟨g, 0, none⟩ ∧ B ≤ g ∧ g < w.heap.size ∧ ∀ j, j < zs.length → w.cell? ⟨g, j, none⟩ = some (.int .i64 (zs.getD j 0))
theorem reads_of_own {w : World} {B : Nat} {e : TypeId} {v : Value} {zs : List Int} (h : w.ownsRow B e 1 v zs.length (zs.map (Value.int .i64))) : ∃ A cap, v = .slice A zs.length cap ∧ Reads w B A zs := by
  have hl := h.lt
  have hc := fun (g : Nat) (hg : v.ownBlock = some g) => h.cells hg
  rcases h.2 with ⟨rfl, h0⟩ | ⟨g, cap, cur, rfl, _⟩
  · have e : zs = [] := List.length_eq_zero_iff.1 h0
    exact ⟨none, 0, by rw [h0], Or.inl e⟩
  · refine ⟨_, cap, rfl, Or.inr ⟨g, rfl, (hl g rfl).1, (hl g rfl).2, fun j hj => ?_⟩⟩
    have hx := hc g rfl j (.int .i64 (zs.getD j 0)) (by rw [List.getElem?_map, List.getD_eq_getElem?_getD, List.getElem?_eq_getElem hj]; rfl)
    rwa [show (⟨g, 0, none⟩ : Addr).add j = ⟨g, j, none⟩ by unfold Addr.add; split <;> simp_all] at hx
theorem Reads.kept {w w' : World} {B : Nat} {A : Option Addr} {zs : List Int} (h : Reads w B A zs) (hb : Below w.heap.size w w') : Reads w' B A zs := by
  rcases h with h | ⟨g, e, hB, hlt, hc⟩
  · exact Or.inl h
  · exact Or.inr ⟨g, e, hB, Nat.lt_of_lt_of_le hlt hb.size, fun j hj => (hb.cell (p := ⟨g, j, none⟩) hlt).trans (hc j hj)⟩
def runesAt (l : List UInt8) (w : World) (e : Ending) (w' : World) : Prop :=
  ∃ (A : Option Addr) (cap : Nat), e = .returned (.tuple #[.slice A (nums l).length cap, .bool (allOk l)]) ∧ Reads w' w.heap.size A (nums l) ∧ Below w.heap.size w w'
theorem runes_at (s : ByteArray) (w : World) (hs : s.size ≤ 1000000) : Calls Tryz.prog 96 #[.string s] w (runesAt s.data.toList w) := by
  refine (runes_any s w hs).mono ?_
  rintro e w' ⟨v, rfl, ho, hb⟩
  obtain ⟨A, cap, rfl, hr⟩ := reads_of_own ho
  exact ⟨A, cap, rfl, hr, hb⟩

theorem toNat_pred (n : Int) (h : 0 < n) : n.toNat = (n - 1).toNat + 1 := by omega
/-- The text of these bytes. -/
def strOf (l : List UInt8) : ByteArray := ⟨l.toArray⟩
theorem strOf_list (l : List UInt8) : (strOf l).data.toList = l := by simp [strOf]
theorem strOf_size (l : List UInt8) : (strOf l).size = l.length := by rw [size_len, strOf_list]
theorem strOf_eq (s : ByteArray) : strOf s.data.toList = s := by cases s; simp [strOf]
theorem strOf_of {s : ByteArray} {l : List UInt8} (h : s.data.toList = l) : s = strOf l := by rw [← h, strOf_eq]
theorem head_of (s : ByteArray) (p : Nat) : s.extract 0 p = strOf (s.data.toList.take p) := strOf_of (by rw [extract_data, List.drop_zero, Nat.sub_zero])
theorem tail_of (s : ByteArray) (p : Nat) : s.extract p s.size = strOf (s.data.toList.drop p) := strOf_of (extract_to_end s p)

end Go.Proofs.YtgmejaiifibfoaaGreatDoor.L2

/-
  Names, by the code and by the document's answer: the same.
-/
set_option linter.unusedSimpArgs false
set_option linter.unusedVariables false
namespace Go.Proofs.YtgmejaiifibfoaaGreatDoor.L2
open Go.RowKit Go.Lib

/-- Is a name what is left, behind k letters? -/
def chkF : Nat → List Int → Bool
  | k, [] => decide (k ≠ 0)
  | k, c :: r => !(decide (k = 32) || !ltr c || (decide (k = 0) && !led c)) && chkF (k + 1) r
def chk (l : List UInt8) : Bool := chkF 0 (nums l)
def errOf (b : Bool) : Int := if b then 0 else 20
theorem chkF_bad {k : Nat} {c : Int} {r : List Int} (h : (decide (k = 32) || !ltr c || (decide (k = 0) && !led c)) = true) : chkF k (c :: r) = false := by
  rw [chkF, h]; rfl
theorem chkF_good {k : Nat} {c : Int} {r : List Int} (h : (decide (k = 32) || !ltr c || (decide (k = 0) && !led c)) = false) : chkF k (c :: r) = chkF (k + 1) r := by
  rw [chkF, h]; rfl
theorem ret_err {a b : Bool} (h : a = b) : Ending.returned (.int .i64 (errOf a)) = .returned (.int .i64 (errOf b)) := by rw [h]
theorem drop_ne {s : ByteArray} {pos : Nat} (h : pos < s.size) : s.data.toList.drop pos ≠ [] := by
  intro e; have := congrArg List.length e; rw [List.length_drop, ← size_len] at this; simp at this; omega
theorem drop_nil {s : ByteArray} {pos : Nat} (h : ¬ pos < s.size) : s.data.toList.drop pos = [] := List.drop_eq_nil_of_le (by rw [← size_len]; omega)

set_option maxHeartbeats 1000000 in
set_option maxRecDepth 100000 in
theorem check_any (s : ByteArray) (w : World) (hs : s.size ≤ 9223372036854775807) :
    Calls Tryz.prog 83 #[.string s] w fun e w' => e = .returned (.int .i64 (errOf (chk s.data.toList))) ∧ Below w.heap.size w w' := by
  go_enter Tryz.func83, Tryz.ntmps83
  go_wp2
  go_loopw [3] (fun n wr => ∃ pos k : Nat, wr = w.iter s pos ∧ pos ≤ s.size ∧ k ≤ 32 ∧ n = .int .i64 k ∧ Hid (chkF k (nums (s.data.toList.drop pos)) = chk s.data.toList)) (fun _ wr => s.size - wr.iterPos w.heap.size)
  case atStart => exact ⟨0, 0, rfl, Nat.zero_le _, by omega, rfl, Lib.hid rfl⟩
  case round =>
    obtain ⟨pos, k, rfl, hp, hk32, rfl, hk⟩ := hrel
    by_cases hlt : pos < s.size
    · have hne := drop_ne hlt
      have hf := dec_facts _ hne
      have hda := dec_at s pos
      rw [List.length_drop, ← size_len] at hf
      obtain ⟨f1, f2, f3, _⟩ := hf
      have hnx : ∀ ty, (Instr.next (.pointer (some ⟨w.heap.size, 0, none⟩)) true ty).run Tryz.prog (w.iter s pos) = _ := fun ty => (run_next_any w s pos ty hlt).trans (by rw [hda])
      have hcons := nums_cons hne
      rw [List.drop_drop] at hcons
      have hk' := hk.out
      rw [hcons] at hk'
      clear hda hcons hne hk
      by_cases g : (decide (k = 32) || !ltr ((dec (s.data.toList.drop pos)).1 : Int) || (decide (k = 0) && !led ((dec (s.data.toList.drop pos)).1 : Int))) = true
      · rw [chkF_bad g] at hk'
        have HK := Lib.hid hk'
        clear hk'
        have hE : Hid (Ending.returned (.int .i64 20) = .returned (.int .i64 (errOf (chk s.data.toList)))) := Lib.hid (by rw [← HK.out]; rfl)
        clear HK
        cases h1 : ltr ((dec (s.data.toList.drop pos)).1 : Int)
        all_goals
          cases h2 : led ((dec (s.data.toList.drop pos)).1 : Int)
        all_goals
          have H1 := Lib.hid h1
          have H2 := Lib.hid h2
          rw [h1, h2] at g
          clear h1 h2
          by_cases k1 : k = 32
          · subst k1
            clear g
            go_wp2
            go_ret
            exact ⟨hE.out, (Below.refl _ _).alloc (Nat.le_refl _) _⟩
          · have k1' : ((k : Int) == 32) = false := by simp; omega
            by_cases k2 : k = 0
            · subst k2
              first
                | (simp at g; done)
                | (clear g
                   go_wp2_with (first
                     | (go_at_call 111; refine (letter_any _ _).mono ?_; rw [H1.out]; rintro e w' ⟨rfl, rfl⟩)
                     | (go_at_call 112; refine (leads_any _ _).mono ?_; rw [H2.out]; rintro e w' ⟨rfl, rfl⟩))
                   go_ret
                   exact ⟨hE.out, (Below.refl _ _).alloc (Nat.le_refl _) _⟩)
            · have k2' : ((k : Int) == 0) = false := by simp; omega
              first
                | (simp [k1, k2] at g; done)
                | (clear g
                   go_wp2_with (first
                     | (go_at_call 111; refine (letter_any _ _).mono ?_; rw [H1.out]; rintro e w' ⟨rfl, rfl⟩)
                     | (go_at_call 112; refine (leads_any _ _).mono ?_; rw [H2.out]; rintro e w' ⟨rfl, rfl⟩))
                   go_ret
                   exact ⟨hE.out, (Below.refl _ _).alloc (Nat.le_refl _) _⟩)
      · have g' : (decide (k = 32) || !ltr ((dec (s.data.toList.drop pos)).1 : Int) || (decide (k = 0) && !led ((dec (s.data.toList.drop pos)).1 : Int))) = false := by simpa using g
        rw [chkF_good g'] at hk'
        have HK := Lib.hid hk'
        clear hk' g
        simp only [Bool.or_eq_false_iff, decide_eq_false_iff_not, Bool.not_eq_false'] at g'
        obtain ⟨⟨g1, g2⟩, g3⟩ := g'
        have k1' : ((k : Int) == 32) = false := by simp; omega
        have H1 := Lib.hid g2
        clear g2
        by_cases k2 : k = 0
        · subst k2
          have H2 : Hid (led ((dec (s.data.toList.drop pos)).1 : Int) = true) := Lib.hid (by simpa using g3)
          clear g3
          go_wp2_with (first
            | (go_at_call 111; refine (letter_any _ _).mono ?_; rw [H1.out]; rintro e w' ⟨rfl, rfl⟩)
            | (go_at_call 112; refine (leads_any _ _).mono ?_; rw [H2.out]; rintro e w' ⟨rfl, rfl⟩))
          go_roundw
          case rel => exact ⟨pos + (dec (s.data.toList.drop pos)).2, 0 + 1, rfl, by omega, by omega, by go_num, HK⟩
          case measure => simp; omega
        · have k2' : ((k : Int) == 0) = false := by simp; omega
          clear g3
          go_wp2_with (first
            | (go_at_call 111; refine (letter_any _ _).mono ?_; rw [H1.out]; rintro e w' ⟨rfl, rfl⟩))
          go_roundw
          case rel => exact ⟨pos + (dec (s.data.toList.drop pos)).2, k + 1, rfl, by omega, by omega, by go_num, HK⟩
          case measure => simp; omega
    · have hnx : ∀ ty, (Instr.next (.pointer (some ⟨w.heap.size, 0, none⟩)) true ty).run Tryz.prog (w.iter s pos) = _ := fun ty => run_next_end w s pos ty hlt
      have hk' := hk.out
      rw [drop_nil hlt, nums_nil] at hk'
      by_cases k2 : k = 0
      · subst k2
        have HK := Lib.hid hk'
        clear hk' hk
        go_wp2
        go_ret
        exact ⟨by rw [← HK.out]; rfl, (Below.refl _ _).alloc (Nat.le_refl _) _⟩
      · have k2' : ((k : Int) == 0) = false := by simp; omega
        have hk2 : true = chk s.data.toList := by rw [← hk', chkF]; simp [k2]
        have HK := Lib.hid hk2
        clear hk' hk hk2
        go_wp2
        go_ret
        exact ⟨by rw [← HK.out]; rfl, (Below.refl _ _).alloc (Nat.le_refl _) _⟩
end Go.Proofs.YtgmejaiifibfoaaGreatDoor.L2

/-
  Both parts of a text, by the code.
-/
set_option linter.unusedSimpArgs false
set_option linter.unusedVariables false
namespace Go.Proofs.YtgmejaiifibfoaaGreatDoor.L2
open Go.RowKit Go.Lib

theorem ext_size {s : ByteArray} {n : Nat} (hs : s.size ≤ n) (a b : Nat) : (s.extract a b).size ≤ n := by
  rw [size_len, extract_data]
  rw [List.length_take, List.length_drop, ← size_len]
  omega
theorem nxt {B : Nat} {w w1 w2 : World} (h1 : Below B w w1) (h2 : Below w1.heap.size w1 w2) (hB : B ≤ w1.heap.size) : Below B w w2 := h1.trans (h2.mono hB)
theorem bdrewN {B : Nat} {a w : World} (h : Below B a w) (n : Nat) : Below B a (w.drewN n) := ⟨h.os, h.tape, h.output, h.size, h.block⟩
/-- Both parts, and what became of the world. -/
def cutPost (l : List UInt8) (p : Nat) (w : World) (e : Ending) (w' : World) : Prop :=
  e = .returned (.tuple #[.string (strOf (l.take p)), .string (strOf (l.drop p))]) ∧ Below w.heap.size w w'
end Go.Proofs.YtgmejaiifibfoaaGreatDoor.L2

/-
  Names with small letters, by the code.
-/
set_option linter.unusedSimpArgs false
set_option linter.unusedVariables false
namespace Go.Proofs.YtgmejaiifibfoaaGreatDoor.L2
open Go.RowKit Go.Lib

/-- A text with the letter in the place of each great one; whether that is a name; what Fold tells. -/
def foldT (l : List UInt8) : List UInt8 := encAll ((nums l).map sml)
def foldB (l : List UInt8) : Bool := chk (foldT l)
def foldS (l : List UInt8) : List UInt8 := if foldB l then foldT l else []
def foldPost (l : List UInt8) (w : World) (e : Ending) (w' : World) : Prop :=
  e = .returned (.tuple #[.string (strOf (foldS l)), .int .i64 (errOf (foldB l))]) ∧ Below w.heap.size w w'
theorem sml_ok {c : Int} (h : okNum c) : okNum (sml c) := by
  unfold sml
  cases g : grt c
  · exact h
  · have : 65 ≤ c ∧ c ≤ 937 := by unfold grt at g; simp only [decide_eq_true_eq] at g; omega
    unfold okNum; simp only [if_true]; omega
theorem sml_sml (c : Int) : sml (sml c) = sml c := by
  have h : grt (sml c) = false := by
    unfold sml
    cases g : grt c
    · simpa using g
    · simp only [if_true]
      unfold grt at g ⊢
      simp only [decide_eq_true_eq, decide_eq_false_iff_not] at g ⊢
      omega
  have e : ∀ d, grt d = false → sml d = d := fun d hd => by unfold sml; rw [hd]; rfl
  exact e _ h
theorem nums_fold (l : List UInt8) : nums (foldT l) = (nums l).map sml := by
  unfold foldT
  refine nums_encAll _ ?_
  intro c hc
  obtain ⟨x, hx, rfl⟩ := List.mem_map.1 hc
  exact sml_ok (nums_ok l x hx)
theorem chkF_long : ∀ (r : List Int) (k : Nat), k ≤ 32 → 32 < k + r.length → chkF k r = false
  | [], k, h, h' => by simp at h'; omega
  | c :: r, k, h, h' => by
    rw [chkF]
    by_cases e : k = 32
    · simp [e]
    · rw [chkF_long r (k + 1) (by omega) (by simp at h'; omega), Bool.and_false]
theorem foldB_long {l : List UInt8} (h : 32 < (runes l).length) : foldB l = false := by
  unfold foldB chk
  rw [nums_fold]
  exact chkF_long _ 0 (by omega) (by rw [List.length_map, nums_len]; omega)
theorem foldT_len {l : List UInt8} (h : (runes l).length ≤ 32) : (foldT l).length ≤ 128 := by
  have := encAll_len ((nums l).map sml)
  unfold foldT
  rw [List.length_map, nums_len] at this
  omega
theorem builder_kept {T e : TypeId} {B b : Nat} {bs : List Value} {w w' : World} (h : Lib.IsBuilderF T e B b bs w) (hb : Below w.heap.size w w') : Lib.IsBuilderF T e B b bs w' := by
  have go : ∀ p, Lib.BuilderAtF T e B b p bs w → Lib.BuilderAtF T e B b p bs w' := by
    intro p h
    have hlt := h.lt
    obtain ⟨hB, v, hbk, hown, hne⟩ := h
    exact ⟨hB, v, (hb.block _ hlt).trans hbk, hown.kept (row := none) ⟨hb.os, hb.tape, hb.output, hb.size, fun k hk _ => hb.block k hk⟩ (by cases hv : v.ownBlock <;> simp), hne⟩
  exact h.elim (fun x => .inl (go _ x)) (fun x => .inr (go _ x))
theorem check_at (l : List UInt8) (w : World) (hl : l.length ≤ 1000000) {b : Bool} {n : Int} (h : chk l = b) (hn : errOf b = n) :
    Calls Tryz.prog 83 #[.string { data := l.toArray }] w fun e w' => e = .returned (.int .i64 n) ∧ Below w.heap.size w w' :=
  (check_any (strOf l) w (by rw [strOf_size]; omega)).mono fun e w' ⟨he, hb⟩ => ⟨by rw [he, strOf_list, h, hn], hb⟩

end Go.Proofs.YtgmejaiifibfoaaGreatDoor.L2

/-
  What utf8.DecodeRuneInString tells of a text that isn't empty, where Go's two tables are laid; whether a text begins with what is no UTF-8.
-/
set_option linter.unusedSimpArgs false
set_option linter.unusedVariables false
namespace Go.Proofs.YtgmejaiifibfoaaGreatDoor.L2
open Go.RowKit Go.Lib

/-- The two tables, as the program's text lays them. -/
def Tab (w : World) : Prop := Lib.Utf8Tabs 0 1 w
theorem cell_in {w : World} {a : Addr} {v : Value} (h : w.cell? a = some v) : a.block < w.heap.size := by
  rcases Nat.lt_or_ge a.block w.heap.size with hlt | hge
  · exact hlt
  · have e : w.heap[a.block]? = none := Array.getElem?_eq_none hge
    simp [World.cell?, e] at h
theorem Tab.kept {w w' : World} (h : Tab w) (hb : Below w.heap.size w w') : Tab w' := by
  obtain ⟨h1, h2⟩ := h
  refine ⟨fun c hc => ?_, fun i hi => ⟨?_, ?_⟩⟩
  · have := h1 c hc
    exact (hb.cell (cell_in this)).trans this
  · have := (h2 i hi).1
    exact (hb.cell (cell_in this)).trans this
  · have := (h2 i hi).2
    exact (hb.cell (cell_in this)).trans this
theorem decode_any (s : ByteArray) (w : World) (hT : Tab w) (h : 0 < s.size) :
    Calls Tryz.prog 129 #[.string s] w fun e w' => e = .returned (.tuple #[.int .i32 ((dec s.data.toList).1 : Int), .int .i64 ((dec s.data.toList).2 : Int)]) ∧ Below w.heap.size w w' := by
  refine (Tryz.utf8_DecodeRuneInString s w hT).mono ?_
  rintro e w' ⟨rfl, hb⟩
  have e1 : Lib.decodeGo s = dec s.data.toList := by
    unfold Lib.decodeGo
    rw [if_neg (by omega), dec_at, List.drop_zero]
  exact ⟨by rw [e1], hb⟩
set_option maxHeartbeats 1000000 in
theorem broken_any (s : ByteArray) (w : World) (hT : Tab w) (h : 0 < s.size) :
    Calls Tryz.prog 126 #[.string s] w fun e w' => e = .returned (.bool (!okR (dec s.data.toList))) ∧ Below w.heap.size w w' := by
  have HT := Lib.hid hT
  clear hT
  go_enter Tryz.func126, Tryz.ntmps126
  go_wp2_with (go_at_call 129; refine (decode_any _ _ HT.out h).mono ?_; rintro e w1 ⟨rfl, hb1⟩)
  all_goals
    go_ret
    refine ⟨ret_bool ?_, hb1⟩
    unfold okR
    rw [Bool.eq_iff_iff]
    simp only [beq_iff_eq, beq_eq_false_iff_ne, bne_iff_ne, ne_eq, decide_eq_true_eq, Bool.false_eq_true, Bool.and_eq_true, Bool.or_eq_true, Bool.not_not, true_iff, false_iff, iff_true, iff_false] at *
    omega
end Go.Proofs.YtgmejaiifibfoaaGreatDoor.L2

/-
  Which of two texts stands ahead, by the code and by the document's answer: the same.
-/
set_option linter.unusedSimpArgs false
set_option linter.unusedVariables false
namespace Go.Proofs.YtgmejaiifibfoaaGreatDoor.L2
open Go.RowKit Go.Lib

/-- Number by number; a beginning of the other one ahead of it; none of both: they are alike. -/
def lexF : List Int → List Int → Option Bool
  | [], [] => none
  | [], _ :: _ => some true
  | _ :: _, [] => some false
  | x :: a, y :: b => if x = y then lexF a b else some (decide (x < y))
/-- Does it stand ahead? -/
def less (a b : List UInt8) : Bool := (lexF (nums a) (nums b)).getD (Op.bytesLess a b)
theorem lex_none (a b : List UInt8) (h : lexF (nums a) (nums b) = none) : less a b = Op.bytesLess a b := by unfold less; rw [h]; rfl
theorem lex_some (a b : List UInt8) {x : Bool} (h : lexF (nums a) (nums b) = some x) : less a b = x := by unfold less; rw [h]; rfl

theorem empty_facts {x : ByteArray} (h : ¬ 0 < x.size) : x.toList = [] := by rw [toList_data]; exact is_nil h
theorem full_facts {x : ByteArray} (h : 0 < x.size) : x.toList.isEmpty = false ∧ (!x.toList.isEmpty) = true := by
  have e : x.toList.isEmpty = false := by
    rw [toList_data]
    cases e : x.data.toList with
    | nil => exact absurd e (ne_nil h)
    | cons a l => rfl
  rw [e]; exact ⟨rfl, rfl⟩

def lessRel (a b : ByteArray) (w : World) (r : Value) (wr : World) : Prop :=
  ∃ (pos : Nat) (x : ByteArray), pos ≤ a.size ∧ x.size ≤ b.size ∧ r = .string x ∧ wr.heap[w.heap.size]? = some (.stringIter a pos) ∧ Below w.heap.size w wr ∧ lexF (nums (a.data.toList.drop pos)) (nums x.data.toList) = lexF (nums a.data.toList) (nums b.data.toList)
/-- From the i-th number on. -/
theorem lexF_step (x y : List Int) (i : Nat) (hx : i < x.length) (hy : i < y.length) (he : x.getD i 0 = y.getD i 0) : lexF (x.drop i) (y.drop i) = lexF (x.drop (i + 1)) (y.drop (i + 1)) := by
  rw [List.drop_eq_getElem_cons hx, List.drop_eq_getElem_cons hy, lexF]
  have e : x[i] = y[i] := by
    rw [List.getD_eq_getElem?_getD, List.getD_eq_getElem?_getD, List.getElem?_eq_getElem hx, List.getElem?_eq_getElem hy] at he
    exact he
  rw [if_pos e]
theorem lexF_at (x y : List Int) (i : Nat) (hx : i < x.length) (hy : i < y.length) (he : x.getD i 0 ≠ y.getD i 0) : lexF (x.drop i) (y.drop i) = some (decide (x.getD i 0 < y.getD i 0)) := by
  rw [List.getD_eq_getElem?_getD, List.getD_eq_getElem?_getD, List.getElem?_eq_getElem hx, List.getElem?_eq_getElem hy] at he ⊢
  simp only [Option.getD_some] at he ⊢
  rw [List.drop_eq_getElem_cons hx, List.drop_eq_getElem_cons hy, lexF, if_neg he]
theorem lexF_end (x y : List Int) (i : Nat) (h : x.length ≤ i ∨ y.length ≤ i) (hx : i ≤ x.length) (hy : i ≤ y.length) :
    lexF (x.drop i) (y.drop i) = if x.length = y.length then none else some (decide (x.length < y.length)) := by
  by_cases e1 : x.length = i
  · rw [List.drop_eq_nil_of_le (by omega : x.length ≤ i)]
    by_cases e2 : y.length = i
    · rw [List.drop_eq_nil_of_le (by omega : y.length ≤ i), lexF, if_pos (by omega)]
    · rw [List.drop_eq_getElem_cons (by omega : i < y.length), lexF, if_neg (by omega), decide_eq_true (by omega)]
  · rw [List.drop_eq_getElem_cons (by omega : i < x.length), List.drop_eq_nil_of_le (by omega : y.length ≤ i), lexF, if_neg (by omega), decide_eq_false (by omega)]

end Go.Proofs.YtgmejaiifibfoaaGreatDoor.L2

/-
  That Fold is done once, that parts make the text, and that Less is an order: plainly, over lists; no walk in this text.
-/
set_option linter.unusedSimpArgs false
set_option linter.unusedVariables false
namespace Go.Proofs.YtgmejaiifibfoaaGreatDoor.L2
open Go.RowKit Go.Lib

theorem fold_twice (l : List UInt8) : foldT (foldT l) = foldT l := by
  have h := nums_fold l
  show encAll ((nums (foldT l)).map sml) = foldT l
  rw [h, List.map_map]
  unfold foldT
  congr 1
  refine List.map_congr_left ?_
  intro c _
  exact sml_sml c
theorem foldS_yes {l : List UInt8} (h : foldB l = true) : foldS l = foldT l := by unfold foldS; rw [h]; rfl
theorem fold_again {l : List UInt8} (h : foldB l = true) : foldB (foldS l) = true ∧ foldS (foldS l) = foldS l ∧ chk (foldS l) = true ∧ (runes (foldS l)).length = (runes l).length := by
  rw [foldS_yes h]
  have h2 : foldB (foldT l) = true := by unfold foldB; rw [fold_twice]; exact h
  refine ⟨h2, by rw [foldS_yes h2, fold_twice], h, ?_⟩
  rw [← nums_len, nums_fold, List.length_map, nums_len]

theorem blt_irr : ∀ l : List UInt8, Op.bytesLess l l = false
  | [] => rfl
  | c :: l => by simp only [Op.bytesLess]; rw [blt_irr l]; simp
theorem blt_flip : ∀ a b : List UInt8, a ≠ b → Op.bytesLess a b = !Op.bytesLess b a
  | [], [], h => absurd rfl h
  | [], _ :: _, _ => rfl
  | _ :: _, [], _ => rfl
  | c :: a, d :: b, h => by
    simp only [Op.bytesLess]
    rcases Nat.lt_trichotomy c.toNat d.toNat with g | g | g
    · have e1 : c < d := UInt8.lt_iff_toNat_lt.2 g
      have e2 : ¬ d < c := fun x => by have := UInt8.lt_iff_toNat_lt.1 x; omega
      have e3 : ¬ d = c := fun x => by rw [x] at g; omega
      simp [e1, e2, e3]
    · have e : c = d := UInt8.toNat_inj.1 g
      subst e
      have := blt_flip a b (fun x => h (by rw [x]))
      simp [UInt8.lt_irrefl, this]
    · have e1 : d < c := UInt8.lt_iff_toNat_lt.2 g
      have e2 : ¬ c < d := fun x => by have := UInt8.lt_iff_toNat_lt.1 x; omega
      have e3 : ¬ c = d := fun x => by rw [x] at g; omega
      simp [e1, e2, e3]
theorem blt_trans : ∀ a b c : List UInt8, Op.bytesLess a b = true → Op.bytesLess b c = true → Op.bytesLess a c = true
  | [], [], _, h, _ => by simp [Op.bytesLess] at h
  | [], _ :: _, [], _, h => by simp [Op.bytesLess] at h
  | [], _ :: _, _ :: _, _, _ => rfl
  | _ :: _, [], _, h, _ => by simp [Op.bytesLess] at h
  | _ :: _, _ :: _, [], _, h => by simp [Op.bytesLess] at h
  | x :: a, y :: b, z :: c, h1, h2 => by
    simp only [Op.bytesLess, Bool.or_eq_true, Bool.and_eq_true, decide_eq_true_eq, beq_iff_eq] at h1 h2 ⊢
    rcases h1 with h1 | ⟨rfl, h1⟩
    · rcases h2 with h2 | ⟨rfl, h2⟩
      · left
        have := UInt8.lt_iff_toNat_lt.1 h1
        have := UInt8.lt_iff_toNat_lt.1 h2
        exact UInt8.lt_iff_toNat_lt.2 (by omega)
      · exact Or.inl h1
    · rcases h2 with h2 | ⟨rfl, h2⟩
      · exact Or.inl h2
      · exact Or.inr ⟨rfl, blt_trans a b c h1 h2⟩

theorem lex_self : ∀ x : List Int, lexF x x = none
  | [] => rfl
  | c :: x => by rw [lexF, if_pos rfl]; exact lex_self x
theorem lex_eq : ∀ x y : List Int, lexF x y = none → x = y
  | [], [], _ => rfl
  | [], _ :: _, h => by simp [lexF] at h
  | _ :: _, [], h => by simp [lexF] at h
  | c :: x, d :: y, h => by
    rw [lexF] at h
    by_cases e : c = d
    · rw [if_pos e] at h; rw [e, lex_eq x y h]
    · rw [if_neg e] at h; cases h
theorem lex_flip : ∀ x y : List Int, lexF x y = (lexF y x).map (!·)
  | [], [] => rfl
  | [], _ :: _ => rfl
  | _ :: _, [] => rfl
  | c :: x, d :: y => by
    rw [lexF, lexF]
    by_cases e : c = d
    · rw [if_pos e, if_pos e.symm]; exact lex_flip x y
    · rw [if_neg e, if_neg (fun h => e h.symm)]
      simp only [Option.map_some]
      congr 1
      rw [Bool.eq_iff_iff]
      simp
      omega
theorem lex_trans : ∀ x y z : List Int, lexF x y = some true → lexF y z = some true → lexF x z = some true
  | [], [], _, h, _ => by simp [lexF] at h
  | [], _ :: _, [], _, h => by simp [lexF] at h
  | [], _ :: _, _ :: _, _, _ => rfl
  | _ :: _, [], _, h, _ => by simp [lexF] at h
  | _ :: _, _ :: _, [], _, h => by simp [lexF] at h
  | a :: x, b :: y, c :: z, h1, h2 => by
    rw [lexF] at h1 h2 ⊢
    by_cases e1 : a = b
    · rw [if_pos e1] at h1
      by_cases e2 : b = c
      · rw [if_pos e2] at h2
        rw [if_pos (e1.trans e2)]
        exact lex_trans x y z h1 h2
      · rw [if_neg e2] at h2
        rw [if_neg (by omega)]
        simp only [Option.some.injEq, decide_eq_true_eq] at h2 ⊢
        omega
    · rw [if_neg e1] at h1
      by_cases e2 : b = c
      · rw [if_neg (by omega)]
        simp only [Option.some.injEq, decide_eq_true_eq] at h1 ⊢
        omega
      · rw [if_neg e2] at h2
        simp only [Option.some.injEq, decide_eq_true_eq] at h1 h2 ⊢
        rw [if_neg (by omega)]
        simp only [Option.some.injEq, decide_eq_true_eq]
        omega

theorem less_self (a : List UInt8) : less a a = false := by unfold less; rw [lex_self]; exact blt_irr a
theorem less_flip {a b : List UInt8} (h : a ≠ b) : less a b = !less b a := by
  unfold less
  rw [lex_flip (nums a) (nums b)]
  cases lexF (nums b) (nums a) with
  | none => exact blt_flip a b h
  | some x => rfl
theorem less_trans {a b c : List UInt8} (h1 : less a b = true) (h2 : less b c = true) : less a c = true := by
  unfold less at h1 h2 ⊢
  cases e1 : lexF (nums a) (nums b) with
  | none =>
    rw [e1] at h1
    rw [lex_eq _ _ e1]
    cases e2 : lexF (nums b) (nums c) with
    | none => rw [e2] at h2; exact blt_trans a b c h1 h2
    | some x => rw [e2] at h2; exact h2
  | some x =>
    rw [e1] at h1
    have hx : x = true := h1
    subst hx
    cases e2 : lexF (nums b) (nums c) with
    | none => rw [← lex_eq _ _ e2, e1]; rfl
    | some y =>
      rw [e2] at h2
      have hy : y = true := h2
      subst hy
      rw [lex_trans _ _ _ e1 e2]; rfl

theorem parts_count (l : List UInt8) (n : Nat) : (runes (l.take (plc l n))).length + (runes (l.drop (plc l n))).length = (runes l).length := by
  rw [runes_take, runes_drop, List.length_take, List.length_drop]; omega
theorem part_count (l : List UInt8) (n : Nat) (h : n ≤ (runes l).length) : (runes (l.take (plc l n))).length = n := by
  rw [runes_take, List.length_take]; omega
end Go.Proofs.YtgmejaiifibfoaaGreatDoor.L2

/-
  Names, by the document's answer: the same as by the code.
-/
set_option linter.unusedSimpArgs false
set_option linter.unusedVariables false
namespace Go.Proofs.YtgmejaiifibfoaaGreatDoor.L2
open Go.RowKit Go.Lib

theorem chkF_later : ∀ (r : List Int) (k : Nat), 1 ≤ k → k ≤ 32 → chkF k r = (decide (k + r.length ≤ 32) && r.all ltr)
  | [], k, h1, h => by rw [chkF, decide_eq_true (show k ≠ 0 by omega), List.length_nil, decide_eq_true (show k + 0 ≤ 32 by omega)]; rfl
  | c :: r, k, h1, h => by
    rw [chkF]
    by_cases e : k = 32
    · subst e; rw [List.length_cons, decide_eq_false (show ¬ 32 + (r.length + 1) ≤ 32 by omega)]; simp
    · rw [chkF_later r (k + 1) (by omega) (by omega)]
      have e0 : decide (k = 32) = false := by simp [e]
      have e1 : decide (k = 0) = false := by simp; omega
      rw [e0, e1, List.all_cons, List.length_cons, show k + 1 + r.length = k + (r.length + 1) by omega]
      cases ltr c <;> simp
/-- When a text is a name. -/
theorem chk_iff (l : List UInt8) : chk l = true ↔ 1 ≤ (nums l).length ∧ (nums l).length ≤ 32 ∧ led ((nums l).getD 0 0) = true ∧ (nums l).all ltr = true := by
  unfold chk
  cases h : nums l with
  | nil => simp [chkF]
  | cons c r =>
    rw [chkF, chkF_later r 1 (by omega) (by omega)]
    simp only [List.length_cons, List.getD_cons_zero, List.all_cons]
    cases ltr c <;> cases led c <;> simp <;> omega
theorem ok_num {x : Nat × Nat} (h : okR x = false) : x.1 = 65533 := by
  unfold okR at h; simp at h; exact h.1
theorem bad_all {l : List UInt8} (h : allOk l = false) : (nums l).all ltr = false := by
  unfold allOk at h
  rw [List.all_eq_false] at h ⊢
  obtain ⟨x, hx, hb⟩ := h
  refine ⟨(x.1 : Int), List.mem_map.2 ⟨x, hx, rfl⟩, ?_⟩
  rw [ok_num (by simpa using hb)]
  decide
theorem chk_no {l : List UInt8} (h : allOk l = false ∨ (nums l).length < 1 ∨ 32 < (nums l).length ∨ led ((nums l).getD 0 0) = false ∨ (nums l).all ltr = false) : chk l = false := by
  rw [← Bool.not_eq_true, chk_iff]
  rintro ⟨a, b, c, d⟩
  rcases h with h | h | h | h | h
  · rw [bad_all h] at d; cases d
  · omega
  · omega
  · rw [h] at c; cases c
  · rw [h] at d; cases d
theorem take_all_succ (f : Int → Bool) (l : List Int) (k : Nat) (h : k < l.length) : (l.take (k + 1)).all f = ((l.take k).all f && f (l.getD k 0)) := by
  rw [List.take_succ_eq_append_getElem h, List.all_append, List.all_cons, List.all_nil, Bool.and_true, List.getD_eq_getElem?_getD, List.getElem?_eq_getElem h]; rfl
theorem all_no (f : Int → Bool) (l : List Int) (k : Nat) (h : k < l.length) (hk : f (l.getD k 0) = false) : l.all f = false := by
  rw [List.all_eq_false]
  refine ⟨l.getD k 0, ?_, by rw [hk]; simp⟩
  rw [List.getD_eq_getElem?_getD, List.getElem?_eq_getElem h]
  exact List.getElem_mem h

set_option maxHeartbeats 1000000 in
set_option maxRecDepth 100000 in
theorem refcheck_any (s : ByteArray) (w : World) (hs : s.size ≤ 1000000) :
    Calls Tryz.prog 60 #[.string s] w fun e w' => e = .returned (.bool (chk s.data.toList)) ∧ Below w.heap.size w w' := by
  have hlen := runes_len s.data.toList
  rw [← nums_len, ← size_len] at hlen
  obtain ⟨n, hn⟩ : ∃ n : Nat, (nums s.data.toList).length = n := ⟨_, rfl⟩
  rw [hn] at hlen
  have HN := Lib.hid hn
  clear hn
  cases hok : allOk s.data.toList
  · have hc := chk_no (l := s.data.toList) (Or.inl hok)
    have HC := Lib.hid hc
    have HO := Lib.hid hok
    clear hc hok
    go_enter Tryz.func60, Tryz.ntmps60
    go_wp2_with (go_at_call 96; refine (runes_at _ _ hs).mono ?_; unfold runesAt; rw [HN.out, HO.out]; rintro e w2 ⟨A, cap, rfl, hr, hb2⟩; clear hr)
    go_ret
    exact ⟨by rw [HC.out]; rfl, hb2⟩
  have HO := Lib.hid hok
  clear hok
  go_enter Tryz.func60, Tryz.ntmps60
  go_wp2_with fail
  refine (runes_at _ _ hs).mono ?_
  unfold runesAt
  rw [HN.out, HO.out]
  rintro e w2 ⟨A, cap, rfl, hr, hb2⟩
  rcases hr with hr | ⟨g, rfl, hB, hlt, hcell⟩
  · have h0 : n = 0 := by have := HN.out; rw [hr] at this; exact this.symm
    subst h0
    have hc := chk_no (l := s.data.toList) (Or.inr (Or.inl (by rw [HN.out]; omega)))
    have HC := Lib.hid hc
    clear hc hr
    go_wp2
    go_ret
    exact ⟨by rw [HC.out]; rfl, hb2⟩
  rw [HN.out] at hcell
  have HCELL := Lib.hid hcell
  clear hcell
  by_cases h1 : n < 1
  · have hc := chk_no (l := s.data.toList) (Or.inr (Or.inl (by rw [HN.out]; omega)))
    have h0 : n = 0 := by omega
    subst h0
    have HC := Lib.hid hc
    clear hc
    go_wp2
    go_ret
    exact ⟨by rw [HC.out]; rfl, hb2⟩
  by_cases h32 : 32 < n
  · have hc := chk_no (l := s.data.toList) (Or.inr (Or.inr (Or.inl (by rw [HN.out]; omega))))
    have HC := Lib.hid hc
    clear hc
    go_wp2
    go_ret
    exact ⟨by rw [HC.out]; rfl, hb2⟩
  obtain ⟨c0, hc0⟩ : ∃ c0 : Int, (nums s.data.toList).getD 0 0 = c0 := ⟨_, rfl⟩
  have hcell0 := HCELL.out 0 (by omega)
  rw [hc0] at hcell0
  have HC0 := Lib.hid hc0
  clear hc0
  by_cases hled : led c0 = true
  · have hl : c0 ≠ 45 ∧ ¬ (48 ≤ c0 ∧ c0 ≤ 57) := by unfold led at hled; simp only [decide_eq_true_eq] at hled; exact hled
    have hl1 : (c0 == 45) = false := by simpa using hl.1
    have HLED := Lib.hid hled
    rcases (show c0 < 48 ∨ (48 ≤ c0 ∧ 57 < c0) by omega) with hx | ⟨hx, hy⟩
    all_goals
      clear hl hled
      go_wp2
      go_loop [5] (fun i => ∃ k : Nat, k ≤ n ∧ i = .int .i64 k ∧ Hid (((nums s.data.toList).take k).all ltr = true)) (fun i => n - (RowKit.intOf i).toNat)
      case atStart => exact ⟨0, Nat.zero_le _, rfl, Lib.hid rfl⟩
      case round =>
        obtain ⟨k, hk, rfl, ha⟩ := hrel
        by_cases hkn : k < n
        · have hck := HCELL.out k hkn
          have hts := take_all_succ ltr (nums s.data.toList) k (by rw [HN.out]; exact hkn)
          rw [ha.out] at hts
          have hno := all_no ltr (nums s.data.toList) k (by rw [HN.out]; exact hkn)
          obtain ⟨ck, hckk⟩ : ∃ ck : Int, (nums s.data.toList).getD k 0 = ck := ⟨_, rfl⟩
          rw [hckk] at hck hts hno
          clear hckk
          cases hlt2 : ltr ck
          · have hc := chk_no (l := s.data.toList) (Or.inr (Or.inr (Or.inr (Or.inr (hno hlt2)))))
            have HC := Lib.hid hc
            have HL := Lib.hid hlt2
            clear hc hlt2 hts hno
            go_wp2_with (go_at_call 97; refine (refletter_any _ _).mono ?_; rw [HL.out]; rintro e w' ⟨rfl, rfl⟩)
            go_ret
            exact ⟨by rw [HC.out]; rfl, hb2⟩
          · have HL := Lib.hid hlt2
            rw [hlt2] at hts
            have HTS := Lib.hid hts
            clear hlt2 hts hno
            go_wp2_with (go_at_call 97; refine (refletter_any _ _).mono ?_; rw [HL.out]; rintro e w' ⟨rfl, rfl⟩)
            go_round
            case rel => exact ⟨k + 1, by omega, by go_num, HTS⟩
            case measure => simp [RowKit.intOf]; omega
        · have hfin := ha.out
          rw [List.take_of_length_le (by rw [HN.out]; omega)] at hfin
          have hc : chk s.data.toList = true := (chk_iff _).2 ⟨by rw [HN.out]; omega, by rw [HN.out]; omega, by rw [HC0.out]; exact HLED.out, hfin⟩
          have HC := Lib.hid hc
          clear hc hfin
          go_wp2
          go_ret
          exact ⟨by rw [HC.out]; rfl, hb2⟩
  · have hf : led c0 = false := by simpa using hled
    have hc := chk_no (l := s.data.toList) (Or.inr (Or.inr (Or.inr (Or.inl (by rw [HC0.out]; exact hf)))))
    have HC := Lib.hid hc
    have hl : c0 = 45 ∨ (48 ≤ c0 ∧ c0 ≤ 57) := by unfold led at hf; simp only [decide_eq_false_iff_not] at hf; omega
    clear hc hf hled
    rcases hl with rfl | ⟨hx, hy⟩
    · go_wp2
      go_ret
      exact ⟨by rw [HC.out]; rfl, hb2⟩
    · have hl1 : (c0 == 45) = false := by simp; omega
      go_wp2
      go_ret
      exact ⟨by rw [HC.out]; rfl, hb2⟩
end Go.Proofs.YtgmejaiifibfoaaGreatDoor.L2

/-
  Values, by the code and by the document's answer: the same.
-/
set_option linter.unusedSimpArgs false
set_option linter.unusedVariables false
namespace Go.Proofs.YtgmejaiifibfoaaGreatDoor.L2
open Go.RowKit Go.Lib

/-- A character that a value may have. -/
def vch (c : Int) : Bool := decide (32 ≤ c ∧ c ≠ 127)
/-- Is a value what is left, behind k characters? -/
def valF : Nat → List (Nat × Nat) → Bool
  | _, [] => true
  | k, x :: r => !(decide (k = 32) || !vch (x.1 : Int) || !okR x) && valF (k + 1) r
def vlu (l : List UInt8) : Bool := valF 0 (runes l)
theorem valF_bad {k : Nat} {x : Nat × Nat} {r : List (Nat × Nat)} (h : (decide (k = 32) || !vch (x.1 : Int) || !okR x) = true) : valF k (x :: r) = false := by rw [valF, h]; rfl
theorem valF_good {k : Nat} {x : Nat × Nat} {r : List (Nat × Nat)} (h : (decide (k = 32) || !vch (x.1 : Int) || !okR x) = false) : valF k (x :: r) = valF (k + 1) r := by rw [valF, h]; rfl
theorem valF_eq : ∀ (r : List (Nat × Nat)) (k : Nat), k ≤ 32 → valF k r = (decide (k + r.length ≤ 32) && r.all okR && (r.map fun x => (x.1 : Int)).all vch)
  | [], k, h => by rw [valF, List.length_nil, decide_eq_true (show k + 0 ≤ 32 by omega)]; rfl
  | x :: r, k, h => by
    rw [valF]
    by_cases e : k = 32
    · subst e; rw [List.length_cons, decide_eq_false (show ¬ 32 + (r.length + 1) ≤ 32 by omega)]; simp
    · rw [valF_eq r (k + 1) (by omega), decide_eq_false e, List.length_cons, List.map_cons, List.all_cons, List.all_cons, show k + 1 + r.length = k + (r.length + 1) by omega]
      cases vch (x.1 : Int) <;> cases okR x <;> simp
theorem vlu_eq (l : List UInt8) : vlu l = (decide ((nums l).length ≤ 32) && allOk l && (nums l).all vch) := by
  unfold vlu
  rw [valF_eq _ 0 (by omega), Nat.zero_add, nums_len]; rfl

/-- What holds of the world while characters are looked at. -/
def valRel (s : ByteArray) (w : World) (n : Value) (wr : World) : Prop :=
  ∃ pos k : Nat, pos ≤ s.size ∧ k ≤ 32 ∧ n = .int .i64 k ∧ wr.heap[w.heap.size]? = some (.stringIter s pos) ∧ Below w.heap.size w wr ∧ valF k (runes (s.data.toList.drop pos)) = vlu s.data.toList
set_option maxHeartbeats 2000000 in
set_option maxRecDepth 100000 in
theorem value_any (s : ByteArray) (w : World) (hs : s.size ≤ 1000000) (hT : Tab w) :
    Calls Tryz.prog 114 #[.string s] w fun e w' => e = .returned (.int .i64 (errOf (vlu s.data.toList))) ∧ Below w.heap.size w w' := by
  have HT := Lib.hid hT
  clear hT
  go_enter Tryz.func114, Tryz.ntmps114
  go_wp2
  go_loopw [3] (fun n wr => valRel s w n wr) (fun _ wr => s.size - wr.iterPos w.heap.size)
  case atStart => exact ⟨0, 0, Nat.zero_le _, by omega, rfl, World.iter_heap w s 0, (Below.refl _ w).alloc (Nat.le_refl _) _, rfl⟩
  case round =>
    obtain ⟨pos, k, hp, hk32, rfl, hit, hbw, hk⟩ := hrel
    have hsz : w.heap.size < wr.heap.size := (Array.getElem?_eq_some_iff.1 hit).1
    by_cases hlt : pos < s.size
    · have hne := drop_ne hlt
      have hf := dec_facts _ hne
      have hda := dec_at s pos
      rw [List.length_drop, ← size_len] at hf
      obtain ⟨f1, f2, f3, _⟩ := hf
      have hnx : ∀ ty, (Instr.next (.pointer (some ⟨w.heap.size, 0, none⟩)) true ty).run Tryz.prog wr = _ := fun ty => (Lib.run_next_any_at wr w.heap.size s pos ty hit hlt).trans (by rw [hda])
      have hit2 := Lib.iterAt_heap wr w.heap.size s pos (pos + (dec (s.data.toList.drop pos)).2) hit
      have hbw2 := Lib.below_iterAt hbw (k := w.heap.size) (Nat.le_refl _) s (pos + (dec (s.data.toList.drop pos)).2)
      have hT2 := HT.out.kept hbw2
      have hsz2 : w.heap.size < (wr.iterAt w.heap.size s (pos + (dec (s.data.toList.drop pos)).2)).heap.size := by rw [Lib.iterAt_size]; exact hsz
      have hcons := runes_cons hne
      rw [List.drop_drop] at hcons
      rw [hcons] at hk
      have HP : Hid (wr.iterPos w.heap.size = pos) := Lib.hid (by simp [World.iterPos, hit])
      have hxs : 0 < (s.extract pos s.size).size := by rw [tail_size]; omega
      have hxe := extract_to_end s pos
      obtain ⟨x, hx⟩ : ∃ x : Nat × Nat, dec (s.data.toList.drop pos) = x := ⟨_, rfl⟩
      rw [hx] at hk f1 f2 f3 hnx hit2 hbw2 hT2 hsz2
      have HX := Lib.hid hx
      have HI2 := Lib.hid hit2
      have HB2 := Lib.hid hbw2
      have HT2 := Lib.hid hT2
      have HXE := Lib.hid hxe
      clear hda hcons hne hit hbw hx hit2 hbw2 hT2 hxe
      obtain ⟨c, wd⟩ := x
      simp only at f1 f2 f3 hnx
      by_cases k1 : k = 32
      · subst k1
        rw [valF_bad (by simp)] at hk
        have HK := Lib.hid hk
        clear hk
        go_wp2
        go_ret
        exact ⟨by rw [← HK.out]; rfl, HB2.out⟩
      have k1' : ((k : Int) == 32) = false := by simp; omega
      by_cases hv : vch (c : Int) = true
      · have hv' : 32 ≤ (c : Int) ∧ (c : Int) ≠ 127 := by unfold vch at hv; simp only [decide_eq_true_eq] at hv; exact hv
        obtain ⟨v1, v2⟩ := hv'
        have v3 : ((c : Int) == 127) = false := by simpa using v2
        cases hok : okR (c, wd)
        · rw [valF_bad (by rw [hok]; simp)] at hk
          have HK := Lib.hid hk
          have HO := Lib.hid hok
          clear hk hok hv v2
          go_wp2_with (go_at_call 126; refine (broken_any _ _ HT2.out hxs).mono ?_; rw [HXE.out, HX.out, HO.out]; rintro e w3 ⟨rfl, hb3⟩)
          go_ret
          exact ⟨by rw [← HK.out]; rfl, nxt HB2.out hb3 HB2.out.size⟩
        · rw [valF_good (by rw [hok, hv, decide_eq_false k1]; rfl)] at hk
          have HK := Lib.hid hk
          have HO := Lib.hid hok
          clear hk hok hv v2
          go_wp2_with (go_at_call 126; refine (broken_any _ _ HT2.out hxs).mono ?_; rw [HXE.out, HX.out, HO.out]; rintro e w3 ⟨rfl, hb3⟩)
          have hi3 : w3.heap[w.heap.size]? = some (.stringIter s (pos + wd)) := (hb3.block _ hsz2).trans HI2.out
          go_roundw
          case rel => exact ⟨pos + wd, k + 1, by omega, by omega, by go_num, hi3, nxt HB2.out hb3 HB2.out.size, HK.out⟩
          case measure =>
            have e3 : w3.iterPos w.heap.size = pos + wd := by simp [World.iterPos, hi3]
            show s.size - w3.iterPos w.heap.size < s.size - wr.iterPos w.heap.size
            rw [e3, HP.out]; omega
      · have hv' : (c : Int) < 32 ∨ (32 ≤ (c : Int) ∧ (c : Int) = 127) := by
          unfold vch at hv; simp only [decide_eq_true_eq] at hv; omega
        rw [valF_bad (by simp [hv])] at hk
        have HK := Lib.hid hk
        clear hk hv
        rcases hv' with v1 | ⟨v1, v2⟩
        · go_wp2
          go_ret
          exact ⟨by rw [← HK.out]; rfl, HB2.out⟩
        · have v3 : ((c : Int) == 127) = true := by simpa using v2
          clear v2
          go_wp2
          go_ret
          exact ⟨by rw [← HK.out]; rfl, HB2.out⟩
    · have hnx : ∀ ty, (Instr.next (.pointer (some ⟨w.heap.size, 0, none⟩)) true ty).run Tryz.prog wr = _ := fun ty => Lib.run_next_end_at wr w.heap.size s pos ty hit hlt
      rw [drop_nil hlt, runes_nil, valF] at hk
      have HK := Lib.hid hk
      clear hk
      go_wp2
      go_ret
      exact ⟨by rw [← HK.out]; rfl, hbw⟩

theorem vlu_no {l : List UInt8} (h : allOk l = false ∨ 32 < (nums l).length ∨ (nums l).all vch = false) : vlu l = false := by
  rw [vlu_eq]
  rcases h with h | h | h
  · rw [h]; simp
  · rw [decide_eq_false (by omega)]; simp
  · rw [h]; simp
set_option maxHeartbeats 1000000 in
set_option maxRecDepth 100000 in
theorem refvalue_any (s : ByteArray) (w : World) (hs : s.size ≤ 1000000) :
    Calls Tryz.prog 61 #[.string s] w fun e w' => e = .returned (.bool (vlu s.data.toList)) ∧ Below w.heap.size w w' := by
  have hlen := runes_len s.data.toList
  rw [← nums_len, ← size_len] at hlen
  obtain ⟨n, hn⟩ : ∃ n : Nat, (nums s.data.toList).length = n := ⟨_, rfl⟩
  rw [hn] at hlen
  have HN := Lib.hid hn
  clear hn
  cases hok : allOk s.data.toList
  · have hc := vlu_no (l := s.data.toList) (Or.inl hok)
    have HC := Lib.hid hc
    have HO := Lib.hid hok
    clear hc hok
    go_enter Tryz.func61, Tryz.ntmps61
    go_wp2_with (go_at_call 96; refine (runes_at _ _ hs).mono ?_; unfold runesAt; rw [HN.out, HO.out]; rintro e w2 ⟨A, cap, rfl, hr, hb2⟩; clear hr)
    go_ret
    exact ⟨by rw [HC.out]; rfl, hb2⟩
  have HO := Lib.hid hok
  clear hok
  go_enter Tryz.func61, Tryz.ntmps61
  go_wp2_with fail
  refine (runes_at _ _ hs).mono ?_
  unfold runesAt
  rw [HN.out, HO.out]
  rintro e w2 ⟨A, cap, rfl, hr, hb2⟩
  have HR := Lib.hid hr
  clear hr
  by_cases h32 : 32 < n
  · have hc := vlu_no (l := s.data.toList) (Or.inr (Or.inl (by rw [HN.out]; omega)))
    have HC := Lib.hid hc
    clear hc
    go_wp2
    go_ret
    exact ⟨by rw [HC.out]; rfl, hb2⟩
  go_wp2
  go_loop [5] (fun i => ∃ k : Nat, k ≤ n ∧ i = .int .i64 k ∧ Hid (((nums s.data.toList).take k).all vch = true)) (fun i => n - (RowKit.intOf i).toNat)
  case atStart => exact ⟨0, Nat.zero_le _, rfl, Lib.hid rfl⟩
  case round =>
    obtain ⟨k, hk, rfl, ha⟩ := hrel
    by_cases hkn : k < n
    · have hkl : k < (nums s.data.toList).length := by rw [HN.out]; exact hkn
      obtain ⟨g, hA, hck⟩ : ∃ g, A = some ⟨g, 0, none⟩ ∧ w2.cell? ⟨g, k, none⟩ = some (.int .i64 ((nums s.data.toList).getD k 0)) := by
        rcases HR.out with h | ⟨g, h1, h2, h3, h4⟩
        · rw [h] at hkl; exact absurd hkl (by simp)
        · exact ⟨g, h1, h4 k hkl⟩
      subst hA
      have hts := take_all_succ vch (nums s.data.toList) k hkl
      rw [ha.out] at hts
      have hno := all_no vch (nums s.data.toList) k hkl
      obtain ⟨ck, hckk⟩ : ∃ ck : Int, (nums s.data.toList).getD k 0 = ck := ⟨_, rfl⟩
      rw [hckk] at hck hts hno
      clear hckk hkl
      by_cases hv : vch ck = true
      · have hv' : 32 ≤ ck ∧ ck ≠ 127 := by unfold vch at hv; simp only [decide_eq_true_eq] at hv; exact hv
        obtain ⟨v1, v2⟩ := hv'
        have v3 : (ck == 127) = false := by simpa using v2
        rw [hv] at hts
        have HTS := Lib.hid hts
        clear hts hno hv v2
        go_wp2
        go_round
        case rel => exact ⟨k + 1, by omega, by go_num, HTS⟩
        case measure => simp [RowKit.intOf]; omega
      · have hvf : vch ck = false := by simpa using hv
        have hc := vlu_no (l := s.data.toList) (Or.inr (Or.inr (hno hvf)))
        have HC := Lib.hid hc
        have hv' : ck < 32 ∨ (32 ≤ ck ∧ ck = 127) := by
          unfold vch at hvf; simp only [decide_eq_false_iff_not] at hvf; omega
        clear hc hts hno hv hvf
        rcases hv' with v1 | ⟨v1, rfl⟩
        all_goals
          go_wp2
          go_ret
          exact ⟨by rw [HC.out]; rfl, hb2⟩
    · have hfin := ha.out
      rw [List.take_of_length_le (by rw [HN.out]; omega)] at hfin
      have hc : vlu s.data.toList = true := by rw [vlu_eq, HO.out, hfin, decide_eq_true (by rw [HN.out]; omega)]; rfl
      have HC := Lib.hid hc
      clear hc hfin
      go_wp2
      go_ret
      exact ⟨by rw [HC.out]; rfl, hb2⟩
end Go.Proofs.YtgmejaiifibfoaaGreatDoor.L2
