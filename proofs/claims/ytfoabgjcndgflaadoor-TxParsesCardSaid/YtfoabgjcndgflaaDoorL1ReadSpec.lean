/-
  The number of a text, plainly: over lists of bytes; no program in this text.
-/
import Derived.Lib.Strings
import Derived.Laws.Cover1
set_option linter.unusedSimpArgs false
set_option linter.unusedVariables false
namespace Go.Proofs.YtfoabgjcndgflaaDoor.L1
open Go.Lib

def isDig (c : UInt8) : Bool := decide (48 ≤ c.toNat) && decide (c.toNat ≤ 57)
theorem isDig_iff {c : UInt8} : isDig c = true ↔ 48 ≤ c.toNat ∧ c.toNat ≤ 57 := by simp [isDig]
/-- Digits, without a 0 ahead of others. -/
def plainB (l : List UInt8) : Bool := !l.isEmpty && (l.length == 1 || l.getD 0 0 != 48) && l.all isDig
/-- The number of digits. -/
def dv (l : List UInt8) : Nat := l.foldl (fun n c => n * 10 + (c.toNat - 48)) 0
theorem dv_snoc (l : List UInt8) (c : UInt8) : dv (l ++ [c]) = dv l * 10 + (c.toNat - 48) := by simp [dv]
theorem dv_app (l k : List UInt8) : dv l ≤ dv (l ++ k) := by
  induction k generalizing l with
  | nil => simp
  | cons c k ih =>
    have := ih (l ++ [c])
    rw [dv_snoc] at this
    rw [show l ++ c :: k = l ++ [c] ++ k by simp]
    omega
theorem dv_take (l : List UInt8) (k : Nat) : dv (l.take k) ≤ dv l := by
  have := dv_app (l.take k) (l.drop k)
  rwa [List.take_append_drop] at this
theorem take_succ (l : List UInt8) (k : Nat) (h : k < l.length) : l.take (k + 1) = l.take k ++ [l[k]] := by
  rw [List.take_succ_eq_append_getElem h]
theorem dv_take_succ (l : List UInt8) (k : Nat) (h : k < l.length) : dv (l.take (k + 1)) = dv (l.take k) * 10 + (l[k].toNat - 48) := by
  rw [take_succ l k h, dv_snoc]
theorem all_take_succ (l : List UInt8) (k : Nat) (h : k < l.length) : (l.take (k + 1)).all isDig = ((l.take k).all isDig && isDig l[k]) := by
  rw [take_succ l k h, List.all_append, List.all_cons, List.all_nil, Bool.and_true]
theorem all_at (l : List UInt8) (k : Nat) (h : k < l.length) (a : l.all isDig = true) : 48 ≤ l[k].toNat ∧ l[k].toNat ≤ 57 := by
  exact isDig_iff.1 (List.all_eq_true.1 a _ (List.getElem_mem h))
theorem not_all_at (l : List UInt8) (k : Nat) (h : k < l.length) (a : ¬ (48 ≤ l[k].toNat ∧ l[k].toNat ≤ 57)) : l.all isDig = false := by
  rw [← Bool.not_eq_true]; intro h'; exact a (all_at l k h h')

/-- Is there a - ahead? -/
def neg (l : List UInt8) : Bool := hasPrefix l [45]
def body (l : List UInt8) : List UInt8 := trimPrefix l [45]
/-- Is it a number's text? -/
def form (l : List UInt8) : Bool := plainB (body l) && !(neg l && body l == [48])
/-- Is it an int64, with these digits? -/
def fits (d : List UInt8) (b : Bool) : Bool := if b then decide (dv d ≤ 9223372036854775808) else decide (dv d ≤ 9223372036854775807)
def valB (d : List UInt8) (b : Bool) : Int := if b then -(dv d : Int) else dv d
/-- What value tells. -/
def fitV (d : List UInt8) (b : Bool) : Int := if fits d b then valB d b else 0
theorem fitV_range (d : List UInt8) (b : Bool) : -9223372036854775808 ≤ fitV d b ∧ fitV d b ≤ 9223372036854775807 := by
  unfold fitV fits valB; cases b <;> simp <;> split <;> omega
/-- What Read tells: the number, the error. -/
def okR (l : List UInt8) (least most : Int) : Bool := fits (body l) (neg l) && (decide (least ≤ valB (body l) (neg l)) && decide (valB (body l) (neg l) ≤ most))
def readV (l : List UInt8) (least most : Int) : Int := if form l && okR l least most then valB (body l) (neg l) else 0
def readE (l : List UInt8) (least most : Int) : Int := if form l then (if okR l least most then 0 else 10) else 11

theorem tdiv_min (d : Int) (h0 : 0 ≤ d) (h1 : d ≤ 9) : (-9223372036854775808 + d).tdiv 10 = -((9223372036854775808 - d) / 10) := by
  rw [show -9223372036854775808 + d = -(9223372036854775808 - d) by omega, Int.neg_tdiv, Int.tdiv_eq_ediv_of_nonneg (by omega)]
theorem room_yes (N : Nat) (d : Int) (h0 : 0 ≤ d) (h1 : d ≤ 9) (h : (N : Int) * 10 + d ≤ 9223372036854775808) : ¬ -(N : Int) < (-9223372036854775808 + d).tdiv 10 := by
  rw [tdiv_min d h0 h1]; omega
theorem room_no (N : Nat) (d : Int) (h0 : 0 ≤ d) (h1 : d ≤ 9) (h : ¬ (N : Int) * 10 + d ≤ 9223372036854775808) : -(N : Int) < (-9223372036854775808 + d).tdiv 10 := by
  rw [tdiv_min d h0 h1]; omega

theorem dv_cons (c : UInt8) (l : List UInt8) : dv (c :: l) = (c.toNat - 48) * 10 ^ l.length + dv l := by
  have h : ∀ (l : List UInt8) (a : Nat), l.foldl (fun n c => n * 10 + (c.toNat - 48)) a = a * 10 ^ l.length + l.foldl (fun n c => n * 10 + (c.toNat - 48)) 0 := by
    intro l
    induction l with
    | nil => intro a; simp
    | cons x l ih =>
      intro a
      simp only [List.foldl_cons, List.length_cons]
      rw [ih (a * 10 + (x.toNat - 48)), ih (0 * 10 + (x.toNat - 48)), Nat.pow_succ, Nat.add_mul]
      simp only [Nat.zero_mul, Nat.zero_add]
      rw [Nat.mul_assoc, Nat.mul_comm 10, Nat.add_assoc]
  unfold dv
  rw [List.foldl_cons, h l]
  simp
theorem dv_lt (l : List UInt8) (h : l.all isDig = true) : dv l < 10 ^ l.length := by
  induction l with
  | nil => simp [dv]
  | cons c l ih =>
    simp only [List.all_cons, Bool.and_eq_true] at h
    have hc := isDig_iff.1 h.1
    have := ih h.2
    rw [dv_cons, List.length_cons, Nat.pow_succ]
    have : (c.toNat - 48) * 10 ^ l.length ≤ 9 * 10 ^ l.length := Nat.mul_le_mul_right _ (by omega)
    omega
theorem dv_ge (c : UInt8) (l : List UInt8) (h : (c :: l).all isDig = true) (h0 : c ≠ 48) : 10 ^ l.length ≤ dv (c :: l) := by
  simp only [List.all_cons, Bool.and_eq_true] at h
  have hc := isDig_iff.1 h.1
  have : c.toNat ≠ 48 := fun e => h0 (UInt8.toNat_inj.1 (by rw [e]; rfl))
  rw [dv_cons]
  have : 1 * 10 ^ l.length ≤ (c.toNat - 48) * 10 ^ l.length := Nat.mul_le_mul_right _ (by omega)
  omega
theorem pow_mono {a b : Nat} (h : a ≤ b) : 10 ^ a ≤ 10 ^ b := Nat.pow_le_pow_right (by omega) h
/-- Of two digit texts of one length: the lesser stands ahead. -/
theorem less_dv : ∀ (a b : List UInt8), a.length = b.length → a.all isDig = true → b.all isDig = true → Op.bytesLess a b = decide (dv a < dv b)
  | [], [], _, _, _ => by simp [Op.bytesLess]
  | x :: a, y :: b, h, ha, hb => by
    have ha' := ha; have hb' := hb
    simp only [List.all_cons, Bool.and_eq_true] at ha hb
    have hx := isDig_iff.1 ha.1
    have hy := isDig_iff.1 hb.1
    have hl : a.length = b.length := by simpa using h
    have ih := less_dv a b hl ha.2 hb.2
    have la := dv_lt a ha.2
    have lb := dv_lt b hb.2
    rw [hl] at la
    rw [Op.bytesLess, ih, Bool.eq_iff_iff]
    simp only [Bool.or_eq_true, Bool.and_eq_true, decide_eq_true_eq, beq_iff_eq]
    rw [dv_cons, dv_cons, hl, UInt8.lt_iff_toNat_lt]
    rcases Nat.lt_trichotomy x.toNat y.toNat with hlt | heq | hgt
    · have : (x.toNat - 48 + 1) * 10 ^ b.length ≤ (y.toNat - 48) * 10 ^ b.length := Nat.mul_le_mul_right _ (by omega)
      rw [Nat.add_mul] at this
      constructor
      · intro _; omega
      · intro _; exact Or.inl hlt
    · have e : x = y := UInt8.toNat_inj.1 heq
      subst e
      constructor
      · rintro (h | h)
        · omega
        · omega
      · intro h; exact Or.inr ⟨rfl, by omega⟩
    · have : (y.toNat - 48 + 1) * 10 ^ b.length ≤ (x.toNat - 48) * 10 ^ b.length := Nat.mul_le_mul_right _ (by omega)
      rw [Nat.add_mul] at this
      constructor
      · rintro (h | h)
        · omega
        · have := congrArg UInt8.toNat h.1; omega
      · intro h; omega
theorem dv_inj : ∀ (a b : List UInt8), a.length = b.length → a.all isDig = true → b.all isDig = true → dv a = dv b → a = b
  | [], [], _, _, _, _ => rfl
  | x :: a, y :: b, h, ha, hb, e => by
    simp only [List.all_cons, Bool.and_eq_true] at ha hb
    have hx := isDig_iff.1 ha.1
    have hy := isDig_iff.1 hb.1
    have hl : a.length = b.length := by simpa using h
    have la := dv_lt a ha.2
    have lb := dv_lt b hb.2
    rw [hl] at la
    rw [dv_cons, dv_cons, hl] at e
    have hxy : x.toNat = y.toNat := by
      rcases Nat.lt_trichotomy x.toNat y.toNat with hlt | heq | hgt
      · have : (x.toNat - 48 + 1) * 10 ^ b.length ≤ (y.toNat - 48) * 10 ^ b.length := Nat.mul_le_mul_right _ (by omega)
        rw [Nat.add_mul] at this; omega
      · exact heq
      · have : (y.toNat - 48 + 1) * 10 ^ b.length ≤ (x.toNat - 48) * 10 ^ b.length := Nat.mul_le_mul_right _ (by omega)
        rw [Nat.add_mul] at this; omega
    have e' : x = y := UInt8.toNat_inj.1 hxy
    subst e'
    rw [dv_inj a b hl ha.2 hb.2 (by omega)]
/-- The greatest texts. -/
def top (b : Bool) : List UInt8 := if b then [57, 50, 50, 51, 51, 55, 50, 48, 51, 54, 56, 53, 52, 55, 55, 53, 56, 48, 56] else [57, 50, 50, 51, 51, 55, 50, 48, 51, 54, 56, 53, 52, 55, 55, 53, 56, 48, 55]
theorem top_dig (b : Bool) : (top b).all isDig = true := by cases b <;> decide +kernel
theorem top_len (b : Bool) : (top b).length = 19 := by cases b <;> rfl
theorem top_dv (d : List UInt8) (b : Bool) : fits d b = decide (dv d ≤ dv (top b)) := by
  have h1 : dv (top true) = 9223372036854775808 := by decide +kernel
  have h0 : dv (top false) = 9223372036854775807 := by decide +kernel
  cases b
  · rw [h0]; simp [fits]
  · rw [h1]; simp [fits]
/-- The three ways of the document's answer. -/
theorem fits_long (d : List UInt8) (b : Bool) (hp : plainB d = true) (h : 19 < d.length) : fits d b = false := by
  unfold plainB at hp
  simp only [Bool.and_eq_true, Bool.or_eq_true] at hp
  obtain ⟨⟨_, h1⟩, ha⟩ := hp
  cases d with
  | nil => simp at h
  | cons c l =>
    have hc : c ≠ 48 := by
      rcases h1 with h1 | h1
      · simp at h1; rw [h1] at h; simp at h
      · simpa using h1
    have := dv_ge c l ha hc
    have h19 : 10 ^ 19 ≤ 10 ^ l.length := pow_mono (by simp at h; omega)
    unfold fits
    cases b <;> simp <;> omega
theorem fits_short (d : List UInt8) (b : Bool) (hp : plainB d = true) (h : d.length < 19) : fits d b = true := by
  unfold plainB at hp
  simp only [Bool.and_eq_true, Bool.or_eq_true] at hp
  have := dv_lt d hp.2
  have h18 : 10 ^ d.length ≤ 10 ^ 18 := pow_mono (by omega)
  unfold fits
  cases b <;> simp <;> omega
theorem fits_same (d : List UInt8) (b : Bool) (hp : plainB d = true) (h : d.length = 19) : (!(Op.bytesLess d (top b) || d == top b)) = !fits d b := by
  unfold plainB at hp
  simp only [Bool.and_eq_true, Bool.or_eq_true] at hp
  rw [less_dv d (top b) (by rw [h, top_len]) hp.2 (top_dig b), top_dv]
  congr 1
  rw [Bool.eq_iff_iff]
  simp only [Bool.or_eq_true, decide_eq_true_eq, beq_iff_eq]
  constructor
  · rintro (k | k)
    · omega
    · rw [k]; exact Nat.le_refl _
  · intro k
    rcases Nat.lt_or_eq_of_le k with k | k
    · exact Or.inl k
    · exact Or.inr (dv_inj d (top b) (by rw [h, top_len]) hp.2 (top_dig b) k)
end Go.Proofs.YtfoabgjcndgflaaDoor.L1
