/-
  The runes of a text, plainly: over lists of bytes; no program in this text.
-/
import Derived.Lib.RuneCountTail
import Derived.Lib.RuneBytes
import Derived.Laws.Cover1
set_option linter.unusedSimpArgs false
set_option linter.unusedVariables false
namespace Go.Proofs.YtfoabgjcndgflaaDoor.L2
open Go.Lib

/-- The rune at the beginning of a text, and how many bytes it has. -/
def dec (l : List UInt8) : Nat × Nat := decodeN l.length (l.getD 0 0).toNat (l.getD 1 0).toNat (l.getD 2 0).toNat (l.getD 3 0).toNat
theorem size_len (s : ByteArray) : s.size = s.data.toList.length := by simp
theorem getD_drop (l : List UInt8) (p j : Nat) : (l.drop p).getD j 0 = l.getD (p + j) 0 := by
  simp [List.getD_eq_getElem?_getD, List.getElem?_drop]
theorem dec_at (s : ByteArray) (pos : Nat) : Utf8.decode s pos = dec (s.data.toList.drop pos) := by
  rw [decode_at]
  unfold dec
  simp only [List.length_drop, getD_drop, Nat.add_zero, getD_get!', ← size_len]
theorem byte_lt (l : List UInt8) (j : Nat) : (l.getD j 0).toNat < 256 := (l.getD j 0).toNat_lt

set_option maxRecDepth 100000 in
set_option maxHeartbeats 2000000 in
theorem decodeN_facts (n b0 b1 b2 b3 : Nat) (hn : 1 ≤ n) (h0 : b0 < 256) (h1 : b1 < 256) (h2 : b2 < 256) (h3 : b3 < 256) :
    1 ≤ (decodeN n b0 b1 b2 b3).2 ∧ (decodeN n b0 b1 b2 b3).2 ≤ n ∧ (decodeN n b0 b1 b2 b3).2 ≤ 4 ∧
    ((decodeN n b0 b1 b2 b3).1 < 55296 ∨ (57344 ≤ (decodeN n b0 b1 b2 b3).1 ∧ (decodeN n b0 b1 b2 b3).1 ≤ 1114111)) := by
  unfold decodeN
  repeat' split
  all_goals (simp only; omega)
theorem len_pos {l : List UInt8} (h : l ≠ []) : 1 ≤ l.length := List.length_pos_iff.2 h
theorem dec_facts (l : List UInt8) (h : l ≠ []) : 1 ≤ (dec l).2 ∧ (dec l).2 ≤ l.length ∧ (dec l).2 ≤ 4 ∧ ((dec l).1 < 55296 ∨ (57344 ≤ (dec l).1 ∧ (dec l).1 ≤ 1114111)) :=
  decodeN_facts _ _ _ _ _ (len_pos h) (byte_lt _ _) (byte_lt _ _) (byte_lt _ _) (byte_lt _ _)
theorem getD_take (l : List UInt8) (p j : Nat) : (l.take p).getD j 0 = if j < p then l.getD j 0 else 0 := by
  simp only [List.getD_eq_getElem?_getD, List.getElem?_take]
  split <;> simp
/-- Which forms a text's beginning may have. -/
def good2 (n b0 b1 : Nat) : Prop := (1 < n ∧ b1 / 64 = 2) ∧ b0 % 32 * 64 + b1 % 64 ≥ 128
def good3 (n b0 b1 b2 : Nat) : Prop := ((1 < n ∧ b1 / 64 = 2) ∧ (2 < n ∧ b2 / 64 = 2)) ∧ (b0 % 16 * 4096 + b1 % 64 * 64 + b2 % 64 ≥ 2048 ∧ (b0 % 16 * 4096 + b1 % 64 * 64 + b2 % 64 < 55296 ∨ (57344 ≤ b0 % 16 * 4096 + b1 % 64 * 64 + b2 % 64 ∧ b0 % 16 * 4096 + b1 % 64 * 64 + b2 % 64 ≤ 1114111)))
def good4 (n b0 b1 b2 b3 : Nat) : Prop := ((1 < n ∧ b1 / 64 = 2) ∧ (2 < n ∧ b2 / 64 = 2) ∧ (3 < n ∧ b3 / 64 = 2)) ∧ (b0 % 8 * 262144 + b1 % 64 * 4096 + b2 % 64 * 64 + b3 % 64 ≥ 65536 ∧ (b0 % 8 * 262144 + b1 % 64 * 4096 + b2 % 64 * 64 + b3 % 64 < 55296 ∨ (57344 ≤ b0 % 8 * 262144 + b1 % 64 * 4096 + b2 % 64 * 64 + b3 % 64 ∧ b0 % 8 * 262144 + b1 % 64 * 4096 + b2 % 64 * 64 + b3 % 64 ≤ 1114111)))
theorem dN1 (n b0 b1 b2 b3 : Nat) (h : b0 < 128) : decodeN n b0 b1 b2 b3 = (b0, 1) := by unfold decodeN; rw [if_pos h]
theorem dN2 (n b0 b1 b2 b3 : Nat) (h : b0 / 32 = 6) : (good2 n b0 b1 → decodeN n b0 b1 b2 b3 = (b0 % 32 * 64 + b1 % 64, 2)) ∧ (¬ good2 n b0 b1 → decodeN n b0 b1 b2 b3 = (65533, 1)) := by
  have h16 : ¬ b0 / 16 = 14 := by omega
  have h8 : ¬ b0 / 8 = 30 := by omega
  unfold decodeN good2
  rw [if_neg (show ¬ b0 < 128 by omega)]
  constructor
  · rintro ⟨c, d⟩
    rw [if_pos ⟨h, c⟩, if_pos d]
  · intro g
    by_cases c : 1 < n ∧ b1 / 64 = 2
    · rw [if_pos ⟨h, c⟩, if_neg (fun d => g ⟨c, d⟩)]
    · rw [if_neg (fun x => c x.2), if_neg (fun x => h16 x.1), if_neg (fun x => h8 x.1)]
theorem dN3 (n b0 b1 b2 b3 : Nat) (h : b0 / 16 = 14) : (good3 n b0 b1 b2 → decodeN n b0 b1 b2 b3 = (b0 % 16 * 4096 + b1 % 64 * 64 + b2 % 64, 3)) ∧ (¬ good3 n b0 b1 b2 → decodeN n b0 b1 b2 b3 = (65533, 1)) := by
  have h32 : ¬ b0 / 32 = 6 := by omega
  have h8 : ¬ b0 / 8 = 30 := by omega
  unfold decodeN good3
  rw [if_neg (show ¬ b0 < 128 by omega), if_neg (fun x => h32 x.1)]
  constructor
  · rintro ⟨⟨c1, c2⟩, d⟩
    rw [if_pos ⟨h, c1, c2⟩, if_pos d]
  · intro g
    by_cases c : (1 < n ∧ b1 / 64 = 2) ∧ (2 < n ∧ b2 / 64 = 2)
    · rw [if_pos ⟨h, c.1, c.2⟩, if_neg (fun d => g ⟨c, d⟩)]
    · rw [if_neg (fun x => c x.2), if_neg (fun x => h8 x.1)]
theorem dN4 (n b0 b1 b2 b3 : Nat) (h : b0 / 8 = 30) : (good4 n b0 b1 b2 b3 → decodeN n b0 b1 b2 b3 = (b0 % 8 * 262144 + b1 % 64 * 4096 + b2 % 64 * 64 + b3 % 64, 4)) ∧ (¬ good4 n b0 b1 b2 b3 → decodeN n b0 b1 b2 b3 = (65533, 1)) := by
  have h32 : ¬ b0 / 32 = 6 := by omega
  have h16 : ¬ b0 / 16 = 14 := by omega
  unfold decodeN good4
  rw [if_neg (show ¬ b0 < 128 by omega), if_neg (fun x => h32 x.1), if_neg (fun x => h16 x.1)]
  constructor
  · rintro ⟨⟨c1, c2, c3⟩, d⟩
    rw [if_pos ⟨h, c1, c2, c3⟩, if_pos d]
  · intro g
    by_cases c : (1 < n ∧ b1 / 64 = 2) ∧ (2 < n ∧ b2 / 64 = 2) ∧ (3 < n ∧ b3 / 64 = 2)
    · rw [if_pos ⟨h, c.1, c.2.1, c.2.2⟩, if_neg (fun d => g ⟨c, d⟩)]
    · rw [if_neg (fun x => c x.2)]
theorem dN0 (n b0 b1 b2 b3 : Nat) (h : ¬ b0 < 128) (h32 : ¬ b0 / 32 = 6) (h16 : ¬ b0 / 16 = 14) (h8 : ¬ b0 / 8 = 30) : decodeN n b0 b1 b2 b3 = (65533, 1) := by
  unfold decodeN
  rw [if_neg h, if_neg (fun x => h32 x.1), if_neg (fun x => h16 x.1), if_neg (fun x => h8 x.1)]
theorem decodeN_short (n p b0 b1 b2 b3 : Nat) (hp : 1 ≤ p) (hpn : p ≤ n) (hw : (decodeN n b0 b1 b2 b3).2 ≤ p) :
    decodeN p b0 (if 1 < p then b1 else 0) (if 2 < p then b2 else 0) (if 3 < p then b3 else 0) = decodeN n b0 b1 b2 b3 := by
  by_cases h1 : b0 < 128
  · rw [dN1 _ _ _ _ _ h1, dN1 _ _ _ _ _ h1]
  by_cases h2 : b0 / 32 = 6
  · by_cases g : good2 n b0 b1
    · rw [(dN2 n b0 b1 b2 b3 h2).1 g] at hw ⊢
      have p1 : 1 < p := hw
      rw [if_pos p1]
      exact (dN2 p b0 b1 _ _ h2).1 ⟨⟨p1, g.1.2⟩, g.2⟩
    · rw [(dN2 n b0 b1 b2 b3 h2).2 g]
      refine (dN2 p b0 _ _ _ h2).2 ?_
      rintro ⟨⟨p1, c⟩, d⟩
      rw [if_pos p1] at c d
      exact g ⟨⟨by omega, c⟩, d⟩
  by_cases h3 : b0 / 16 = 14
  · by_cases g : good3 n b0 b1 b2
    · rw [(dN3 n b0 b1 b2 b3 h3).1 g] at hw ⊢
      have p2 : 2 < p := hw
      rw [if_pos (show 1 < p by omega), if_pos p2]
      exact (dN3 p b0 b1 b2 _ h3).1 ⟨⟨⟨by omega, g.1.1.2⟩, ⟨p2, g.1.2.2⟩⟩, g.2⟩
    · rw [(dN3 n b0 b1 b2 b3 h3).2 g]
      refine (dN3 p b0 _ _ _ h3).2 ?_
      rintro ⟨⟨⟨p1, c1⟩, ⟨p2, c2⟩⟩, d⟩
      rw [if_pos p1] at c1 d
      rw [if_pos p2] at c2 d
      exact g ⟨⟨⟨by omega, c1⟩, ⟨by omega, c2⟩⟩, d⟩
  by_cases h4 : b0 / 8 = 30
  · by_cases g : good4 n b0 b1 b2 b3
    · rw [(dN4 n b0 b1 b2 b3 h4).1 g] at hw ⊢
      have p3 : 3 < p := hw
      rw [if_pos (show 1 < p by omega), if_pos (show 2 < p by omega), if_pos p3]
      exact (dN4 p b0 b1 b2 b3 h4).1 ⟨⟨⟨by omega, g.1.1.2⟩, ⟨by omega, g.1.2.1.2⟩, ⟨p3, g.1.2.2.2⟩⟩, g.2⟩
    · rw [(dN4 n b0 b1 b2 b3 h4).2 g]
      refine (dN4 p b0 _ _ _ h4).2 ?_
      rintro ⟨⟨⟨p1, c1⟩, ⟨p2, c2⟩, ⟨p3, c3⟩⟩, d⟩
      rw [if_pos p1] at c1 d
      rw [if_pos p2] at c2 d
      rw [if_pos p3] at c3 d
      exact g ⟨⟨⟨by omega, c1⟩, ⟨by omega, c2⟩, ⟨by omega, c3⟩⟩, d⟩
  rw [dN0 _ _ _ _ _ h1 h2 h3 h4, dN0 _ _ _ _ _ h1 h2 h3 h4]
theorem dec_take (l : List UInt8) (p : Nat) (hp : 1 ≤ p) (hl : p ≤ l.length) (hw : (dec l).2 ≤ p) : dec (l.take p) = dec l := by
  unfold dec at hw ⊢
  rw [← decodeN_short l.length p _ _ _ _ hp hl hw, getD_take, getD_take, getD_take, getD_take, if_pos (by omega), List.length_take, Nat.min_eq_left hl]
  congr 1 <;> (split <;> rfl)

/-- The runes of a text, with their widths. -/
def runesF : Nat → List UInt8 → List (Nat × Nat)
  | 0, _ => []
  | _ + 1, [] => []
  | f + 1, c :: l => dec (c :: l) :: runesF f ((c :: l).drop (dec (c :: l)).2)
def runes (l : List UInt8) : List (Nat × Nat) := runesF l.length l
theorem runesF_enough : ∀ (f g : Nat) (l : List UInt8), l.length ≤ f → l.length ≤ g → runesF f l = runesF g l
  | 0, 0, _, _, _ => rfl
  | 0, _ + 1, [], _, _ => rfl
  | 0, _ + 1, _ :: _, h, _ => by simp at h
  | _ + 1, 0, [], _, _ => rfl
  | _ + 1, 0, _ :: _, _, h => by simp at h
  | _ + 1, _ + 1, [], _, _ => rfl
  | f + 1, g + 1, c :: l, hf, hg => by
    have hd := dec_facts (c :: l) (by simp)
    simp only [runesF]
    rw [runesF_enough f g _ (by simp at hf hd ⊢; omega) (by simp at hg hd ⊢; omega)]
theorem runes_nil : runes [] = [] := rfl
theorem runes_cons {l : List UInt8} (h : l ≠ []) : runes l = dec l :: runes (l.drop (dec l).2) := by
  cases l with
  | nil => exact absurd rfl h
  | cons c l =>
    have hd := dec_facts (c :: l) (by simp)
    unfold runes
    rw [List.length_cons, runesF]
    rw [runesF_enough l.length ((c :: l).drop (dec (c :: l)).2).length _ (by simp at hd ⊢; omega) (Nat.le_refl _)]
/-- Induction over the runes. -/
theorem runes_ind {M : List UInt8 → Prop} (h0 : M []) (h1 : ∀ l, l ≠ [] → M (l.drop (dec l).2) → M l) (l : List UInt8) : M l := by
  have h : ∀ (n : Nat) (l : List UInt8), l.length ≤ n → M l := by
    intro n
    induction n with
    | zero =>
      intro l hl
      have : l = [] := List.length_eq_zero_iff.1 (by omega)
      rw [this]; exact h0
    | succ n ih =>
      intro l hl
      by_cases e : l = []
      · rw [e]; exact h0
      · have hd := dec_facts l e
        exact h1 l e (ih _ (by rw [List.length_drop]; omega))
  exact h l.length l (Nat.le_refl _)

def wsum (r : List (Nat × Nat)) : Nat := (r.map (·.2)).sum
theorem wsum_nil : wsum [] = 0 := rfl
theorem wsum_cons (x : Nat × Nat) (r : List (Nat × Nat)) : wsum (x :: r) = x.2 + wsum r := by simp [wsum]
theorem wsum_runes (l : List UInt8) : wsum (runes l) = l.length := by
  induction l using runes_ind with
  | h0 => rfl
  | h1 l h ih =>
    have hd := dec_facts l h
    rw [runes_cons h, wsum_cons, ih, List.length_drop]; omega
theorem runes_len (l : List UInt8) : (runes l).length ≤ l.length := by
  induction l using runes_ind with
  | h0 => exact Nat.le_refl _
  | h1 l h ih =>
    have hd := dec_facts l h
    rw [List.length_drop] at ih
    rw [runes_cons h, List.length_cons]; omega
theorem runes_empty {l : List UInt8} : runes l = [] ↔ l = [] := by
  constructor
  · intro h
    by_cases e : l = []
    · exact e
    · rw [runes_cons e] at h; cases h
  · rintro rfl; rfl
/-- Where the n-th rune begins. -/
def plc (l : List UInt8) (n : Nat) : Nat := wsum ((runes l).take n)
theorem plc_nil (n : Nat) : plc [] n = 0 := by simp [plc, runes_nil, wsum]
theorem plc_zero (l : List UInt8) : plc l 0 = 0 := by simp [plc, wsum]
theorem plc_succ {l : List UInt8} (h : l ≠ []) (n : Nat) : plc l (n + 1) = (dec l).2 + plc (l.drop (dec l).2) n := by
  unfold plc; rw [runes_cons h, List.take_succ_cons, wsum_cons]
theorem plc_le (l : List UInt8) (n : Nat) : plc l n ≤ l.length := by
  induction l using runes_ind generalizing n with
  | h0 => simp [plc_nil]
  | h1 l h ih =>
    have hd := dec_facts l h
    cases n with
    | zero => simp [plc_zero]
    | succ n =>
      have := ih n
      rw [List.length_drop] at this
      rw [plc_succ h]; omega
theorem plc_far (l : List UInt8) (n : Nat) (h : l.length ≤ n) : plc l n = l.length := by
  unfold plc
  rw [List.take_of_length_le (by have := runes_len l; omega), wsum_runes]
theorem runes_take (l : List UInt8) (n : Nat) : runes (l.take (plc l n)) = (runes l).take n := by
  induction l using runes_ind generalizing n with
  | h0 => simp [plc_nil, runes_nil]
  | h1 l h ih =>
    have hd := dec_facts l h
    cases n with
    | zero => simp [plc_zero, runes_nil]
    | succ n =>
      have hle := plc_le l (n + 1)
      rw [plc_succ h] at hle ⊢
      have e : dec (l.take ((dec l).2 + plc (l.drop (dec l).2) n)) = dec l := dec_take l _ (by omega) hle (by omega)
      have hne : l.take ((dec l).2 + plc (l.drop (dec l).2) n) ≠ [] := by
        intro e0
        have := congrArg List.length e0
        rw [List.length_take, List.length_nil] at this
        have := len_pos h
        omega
      rw [runes_cons hne, e, List.drop_take, Nat.add_sub_cancel_left, ih n, runes_cons h, List.take_succ_cons]
theorem runes_drop (l : List UInt8) (n : Nat) : runes (l.drop (plc l n)) = (runes l).drop n := by
  induction l using runes_ind generalizing n with
  | h0 => simp [plc_nil, runes_nil]
  | h1 l h ih =>
    cases n with
    | zero => simp [plc_zero]
    | succ n =>
      rw [plc_succ h, ← List.drop_drop, ih n]
      conv => rhs; rw [runes_cons h, List.drop_succ_cons]

/-- The numbers of a text's runes. -/
def nums (l : List UInt8) : List Int := (runes l).map fun x => (x.1 : Int)
theorem nums_nil : nums [] = [] := rfl
theorem nums_cons {l : List UInt8} (h : l ≠ []) : nums l = ((dec l).1 : Int) :: nums (l.drop (dec l).2) := by unfold nums; rw [runes_cons h]; rfl
theorem nums_len (l : List UInt8) : (nums l).length = (runes l).length := by simp [nums]
/-- Is it a rune that may be one? -/
def okNum (c : Int) : Prop := (0 ≤ c ∧ c < 55296) ∨ (57344 ≤ c ∧ c ≤ 1114111)
theorem nums_ok (l : List UInt8) : ∀ c ∈ nums l, okNum c := by
  induction l using runes_ind with
  | h0 => intro c hc; cases hc
  | h1 l h ih =>
    have hd := dec_facts l h
    rw [nums_cons h]
    intro c hc
    rcases List.mem_cons.1 hc with rfl | hc
    · unfold okNum; omega
    · exact ih c hc

/-- The bytes of a rune, and of some. -/
def enc (c : Int) : List UInt8 := encodeRune c
def encAll (r : List Int) : List UInt8 := r.flatMap enc
set_option maxRecDepth 100000 in
set_option maxHeartbeats 2000000 in
theorem dec_enc (c : Int) (h : okNum c) (l : List UInt8) : dec (enc c ++ l) = (c.toNat, (enc c).length) ∧ 1 ≤ (enc c).length ∧ (enc c).length ≤ 4 := by
  obtain ⟨n, rfl⟩ : ∃ n : Nat, c = n := ⟨c.toNat, by unfold okNum at h; omega⟩
  unfold okNum at h
  unfold enc encodeRune
  rcases (show n ≤ 127 ∨ (128 ≤ n ∧ n ≤ 2047) ∨ (2048 ≤ n ∧ n ≤ 65535) ∨ 65536 ≤ n by omega) with h1 | h2 | h3 | h4
  · rw [encodeRuneZ_one (by omega) (by omega)]
    have e0 : ((n : Int).toNat.toUInt8).toNat = n := by simp; omega
    refine ⟨?_, by simp, by simp⟩
    unfold dec decodeN
    simp only [List.map_cons, List.map_nil, List.cons_append, List.nil_append, List.getD_cons_zero, e0]
    rw [if_pos (by omega)]; rfl
  · rw [encodeRuneZ_two (by omega) (by omega)]
    have e0 : ((192 + (n : Int) / 64).toNat.toUInt8).toNat = 192 + n / 64 := by simp; omega
    have e1 : ((128 + (n : Int) % 64).toNat.toUInt8).toNat = 128 + n % 64 := by simp; omega
    refine ⟨?_, by simp, by simp⟩
    unfold dec decodeN
    simp only [List.map_cons, List.map_nil, List.cons_append, List.nil_append, List.getD_cons_zero, List.getD_cons_succ, List.length_cons, e0, e1]
    rw [if_neg (by omega), if_pos (by omega), if_pos (by omega)]
    apply Prod.ext <;> simp only [List.length_nil, Int.toNat_natCast] <;> omega
  · rw [encodeRuneZ_three (by omega)]
    have e0 : ((224 + (n : Int) / 4096).toNat.toUInt8).toNat = 224 + n / 4096 := by simp; omega
    have e1 : ((128 + (n : Int) / 64 % 64).toNat.toUInt8).toNat = 128 + n / 64 % 64 := by simp; omega
    have e2 : ((128 + (n : Int) % 64).toNat.toUInt8).toNat = 128 + n % 64 := by simp; omega
    refine ⟨?_, by simp, by simp⟩
    unfold dec decodeN
    simp only [List.map_cons, List.map_nil, List.cons_append, List.nil_append, List.getD_cons_zero, List.getD_cons_succ, List.length_cons, e0, e1, e2]
    rw [if_neg (by omega), if_neg (by omega), if_pos (by omega), if_pos (by omega)]
    apply Prod.ext <;> simp only [List.length_nil, Int.toNat_natCast] <;> omega
  · rw [encodeRuneZ_four (by omega) (by omega)]
    have e0 : ((240 + (n : Int) / 262144).toNat.toUInt8).toNat = 240 + n / 262144 := by simp; omega
    have e1 : ((128 + (n : Int) / 4096 % 64).toNat.toUInt8).toNat = 128 + n / 4096 % 64 := by simp; omega
    have e2 : ((128 + (n : Int) / 64 % 64).toNat.toUInt8).toNat = 128 + n / 64 % 64 := by simp; omega
    have e3 : ((128 + (n : Int) % 64).toNat.toUInt8).toNat = 128 + n % 64 := by simp; omega
    refine ⟨?_, by simp, by simp⟩
    unfold dec decodeN
    simp only [List.map_cons, List.map_nil, List.cons_append, List.nil_append, List.getD_cons_zero, List.getD_cons_succ, List.length_cons, e0, e1, e2, e3]
    rw [if_neg (by omega), if_neg (by omega), if_neg (by omega), if_pos (by omega), if_pos (by omega)]
    apply Prod.ext <;> simp only [List.length_nil, Int.toNat_natCast] <;> omega
theorem encAll_nil : encAll [] = [] := rfl
theorem encAll_cons (c : Int) (r : List Int) : encAll (c :: r) = enc c ++ encAll r := rfl
theorem encAll_snoc (r : List Int) (c : Int) : encAll (r ++ [c]) = encAll r ++ enc c := by simp [encAll]
theorem nums_encAll (r : List Int) (h : ∀ c ∈ r, okNum c) : nums (encAll r) = r := by
  induction r with
  | nil => rfl
  | cons c r ih =>
    have hc := h c (by simp)
    obtain ⟨hd, h1, h4⟩ := dec_enc c hc (encAll r)
    have hne : enc c ++ encAll r ≠ [] := by
      intro e
      have := congrArg List.length e
      rw [List.length_append, List.length_nil] at this
      omega
    rw [encAll_cons, nums_cons hne, hd]
    rw [show (enc c ++ encAll r).drop (c.toNat, (enc c).length).2 = encAll r from List.drop_left, ih (fun x hx => h x (by simp [hx]))]
    congr 1
    unfold okNum at hc; omega
theorem enc_len (c : Int) : (enc c).length ≤ 4 := by
  unfold enc encodeRune; rw [List.length_map]; exact (encodeRuneZ_length c).2
theorem encAll_len (r : List Int) : (encAll r).length ≤ 4 * r.length := by
  induction r with
  | nil => simp [encAll]
  | cons c r ih => have := enc_len c; rw [encAll_cons, List.length_append, List.length_cons]; omega
end Go.Proofs.YtfoabgjcndgflaaDoor.L2
