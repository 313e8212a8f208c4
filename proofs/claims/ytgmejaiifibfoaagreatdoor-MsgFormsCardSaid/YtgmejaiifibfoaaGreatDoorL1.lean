/-
  Texts of one layer in one: L1Ops, L1ReadSpec, L1Read, L1Print, L1Mul, L1Sum, L1Back, L1RefRead.
-/
import Derived.Test.YtgmejaiifibfoaaGreatDoorRows
import Derived.WalkKit
import Derived.WalkLawsBesides
import Derived.Lib.Hide
import Derived.Lib.Strings
import Derived.Laws.Cover1
import Derived.Test.YtgmejaiifibfoaaGreatDoorShelf
import Derived.WalkSpells
import Derived.LoopTactic
import Derived.Laws.IdiomStrings
import Derived.Lib.ItoaMem
import Derived.Lib.ItoaLen
import Derived.Deep.OwnRows

/-
  What Add, Sub and Mul of layer 1 tell, of the code and of the document's answer: contracts of each, over any world. The world stays as it was.
-/
set_option linter.unusedSimpArgs false
set_option linter.unusedVariables false
namespace Go.Proofs.YtgmejaiifibfoaaGreatDoor.L1
open Go.RowKit Go.Lib

/-- Is it from -2^62 to 2^62? -/
def al (n : Int) : Bool := decide (-4611686018427387904 ≤ n) && decide (n ≤ 4611686018427387904)
theorem al_iff {n : Int} : al n = true ↔ -4611686018427387904 ≤ n ∧ n ≤ 4611686018427387904 := by simp [al]
theorem al_not {n : Int} : al n = false ↔ n < -4611686018427387904 ∨ 4611686018427387904 < n := by
  rw [← Bool.not_eq_true, al_iff]; omega

/-- What an operation with the result n tells, where good says whether the operands may be. -/
def okv (good : Bool) (n : Int) : Int := if good && al n then n else 0
def oke (good : Bool) (n : Int) : Int := if good && al n then 0 else 10
theorem okv_yes {n : Int} (h : al n = true) : okv true n = n := by simp [okv, h]
theorem oke_yes {n : Int} (h : al n = true) : oke true n = 0 := by simp [oke, h]
theorem okv_no {n : Int} (h : al n = false) : okv true n = 0 := by simp [okv, h]
theorem oke_no {n : Int} (h : al n = false) : oke true n = 10 := by simp [oke, h]
theorem okv_bad {n : Int} : okv false n = 0 := by simp [okv]
theorem oke_bad {n : Int} : oke false n = 10 := by simp [oke]

/-- A pair of numbers, as a call returns it. -/
def two (a b : Int) : Ending := .returned (.tuple #[.int .i64 a, .int .i64 b])
theorem two_eq {a b c d : Int} (h : a = c) (k : b = d) : Ending.returned (.tuple #[.int .i64 a, .int .i64 b]) = two c d := by rw [h, k]; rfl

theorem within_any (n a b : Int) (w : World) :
    Calls Tryz.prog 113 #[.int .i64 n, .int .i64 a, .int .i64 b] w fun e w' => e = .returned (.bool (decide (a ≤ n) && decide (n ≤ b))) ∧ w = w' := by
  by_cases a : a ≤ n <;> by_cases b : n ≤ b
  all_goals
    go_enter Tryz.func113, Tryz.ntmps113
    go_wp2
    go_ret
    exact ⟨by simp [a, b], rfl⟩

theorem within_is (n a b : Int) (R : Bool) (w : World) (h : R = true ↔ a ≤ n ∧ n ≤ b) :
    Calls Tryz.prog 113 #[.int .i64 n, .int .i64 a, .int .i64 b] w fun e w' => e = .returned (.bool R) ∧ w = w' := by
  have e : R = (decide (a ≤ n) && decide (n ≤ b)) := by rw [Bool.eq_iff_iff, h]; simp
  rw [e]; exact within_any n a b w

end Go.Proofs.YtgmejaiifibfoaaGreatDoor.L1

/-
  The number of a text, plainly: over lists of bytes; no program in this text.
-/
set_option linter.unusedSimpArgs false
set_option linter.unusedVariables false
namespace Go.Proofs.YtgmejaiifibfoaaGreatDoor.L1
open Go.Lib

def isDig (c : UInt8) : Bool := decide (48 ≤ c.toNat) && decide (c.toNat ≤ 57)
theorem isDig_iff {c : UInt8} : isDig c = true ↔ 48 ≤ c.toNat ∧ c.toNat ≤ 57 := by simp [isDig]
/-- Digits, without a 0 ahead of others. -/
def plainB (l : List UInt8) : Bool := !l.isEmpty && (l.length == 1 || l.getD 0 0 != 48) && l.all isDig
/-- The number of digits. -/
def dv (l : List UInt8) : Nat := l.foldl (fun n c => n * 10 + (c.toNat - 48)) 0
theorem dv_snoc (l : List UInt8) (c : UInt8) : dv (l ++ [c]) = dv l * 10 + (c.toNat - 48) := by simp [dv]
theorem dv_app (l k : List UInt8) : dv l ≤ dv (l ++ k) := by
  induction k generalizing l with
  | nil => simp
  | cons c k ih =>
    have := ih (l ++ [c])
    rw [dv_snoc] at this
    rw [show l ++ c :: k = l ++ [c] ++ k by simp]
    omega
theorem dv_take (l : List UInt8) (k : Nat) : dv (l.take k) ≤ dv l := by
  have := dv_app (l.take k) (l.drop k)
  rwa [List.take_append_drop] at this
theorem take_succ (l : List UInt8) (k : Nat) (h : k < l.length) : l.take (k + 1) = l.take k ++ [l[k]] := by
  rw [List.take_succ_eq_append_getElem h]
theorem dv_take_succ (l : List UInt8) (k : Nat) (h : k < l.length) : dv (l.take (k + 1)) = dv (l.take k) * 10 + (l[k].toNat - 48) := by
  rw [take_succ l k h, dv_snoc]
theorem all_take_succ (l : List UInt8) (k : Nat) (h : k < l.length) : (l.take (k + 1)).all isDig = ((l.take k).all isDig && isDig l[k]) := by
  rw [take_succ l k h, List.all_append, List.all_cons, List.all_nil, Bool.and_true]
theorem all_at (l : List UInt8) (k : Nat) (h : k < l.length) (a : l.all isDig = true) : 48 ≤ l[k].toNat ∧ l[k].toNat ≤ 57 := by
  exact isDig_iff.1 (List.all_eq_true.1 a _ (List.getElem_mem h))
theorem not_all_at (l : List UInt8) (k : Nat) (h : k < l.length) (a : ¬ (48 ≤ l[k].toNat ∧ l[k].toNat ≤ 57)) : l.all isDig = false := by
  rw [← Bool.not_eq_true]; intro h'; exact a (all_at l k h h')

/-- Is there a - ahead? -/
def neg (l : List UInt8) : Bool := hasPrefix l [45]
def body (l : List UInt8) : List UInt8 := trimPrefix l [45]
/-- Is it a number's text? -/
def form (l : List UInt8) : Bool := plainB (body l) && !(neg l && body l == [48])
/-- Is it an int64, with these digits? -/
def fits (d : List UInt8) (b : Bool) : Bool := if b then decide (dv d ≤ 9223372036854775808) else decide (dv d ≤ 9223372036854775807)
def valB (d : List UInt8) (b : Bool) : Int := if b then -(dv d : Int) else dv d
/-- What value tells. -/
def fitV (d : List UInt8) (b : Bool) : Int := if fits d b then valB d b else 0
theorem fitV_range (d : List UInt8) (b : Bool) : -9223372036854775808 ≤ fitV d b ∧ fitV d b ≤ 9223372036854775807 := by
  unfold fitV fits valB; cases b <;> simp <;> split <;> omega
/-- What Read tells: the number, the error. -/
def okR (l : List UInt8) (least most : Int) : Bool := fits (body l) (neg l) && (decide (least ≤ valB (body l) (neg l)) && decide (valB (body l) (neg l) ≤ most))
def readV (l : List UInt8) (least most : Int) : Int := if form l && okR l least most then valB (body l) (neg l) else 0
def readE (l : List UInt8) (least most : Int) : Int := if form l then (if okR l least most then 0 else 10) else 11

theorem tdiv_min (d : Int) (h0 : 0 ≤ d) (h1 : d ≤ 9) : (-9223372036854775808 + d).tdiv 10 = -((9223372036854775808 - d) / 10) := by
  rw [show -9223372036854775808 + d = -(9223372036854775808 - d) by omega, Int.neg_tdiv, Int.tdiv_eq_ediv_of_nonneg (by omega)]
theorem room_yes (N : Nat) (d : Int) (h0 : 0 ≤ d) (h1 : d ≤ 9) (h : (N : Int) * 10 + d ≤ 9223372036854775808) : ¬ -(N : Int) < (-9223372036854775808 + d).tdiv 10 := by
  rw [tdiv_min d h0 h1]; omega
theorem room_no (N : Nat) (d : Int) (h0 : 0 ≤ d) (h1 : d ≤ 9) (h : ¬ (N : Int) * 10 + d ≤ 9223372036854775808) : -(N : Int) < (-9223372036854775808 + d).tdiv 10 := by
  rw [tdiv_min d h0 h1]; omega

theorem dv_cons (c : UInt8) (l : List UInt8) : dv (c :: l) = (c.toNat - 48) * 10 ^ l.length + dv l := by
  have h : ∀ (l : List UInt8) (a : Nat), l.foldl (fun n c => n * 10 + (c.toNat - 48)) a = a * 10 ^ l.length + l.foldl (fun n c => n * 10 + (c.toNat - 48)) 0 := by
    intro l
    induction l with
    | nil => intro a; simp
    | cons x l ih =>
      intro a
      simp only [List.foldl_cons, List.length_cons]
      rw [ih (a * 10 + (x.toNat - 48)), ih (0 * 10 + (x.toNat - 48)), Nat.pow_succ, Nat.add_mul]
      simp only [Nat.zero_mul, Nat.zero_add]
      rw [Nat.mul_assoc, Nat.mul_comm 10, Nat.add_assoc]
  unfold dv
  rw [List.foldl_cons, h l]
  simp
theorem dv_lt (l : List UInt8) (h : l.all isDig = true) : dv l < 10 ^ l.length := by
  induction l with
  | nil => simp [dv]
  | cons c l ih =>
    simp only [List.all_cons, Bool.and_eq_true] at h
    have hc := isDig_iff.1 h.1
    have := ih h.2
    rw [dv_cons, List.length_cons, Nat.pow_succ]
    have : (c.toNat - 48) * 10 ^ l.length ≤ 9 * 10 ^ l.length := Nat.mul_le_mul_right _ (by omega)
    omega
theorem dv_ge (c : UInt8) (l : List UInt8) (h : (c :: l).all isDig = true) (h0 : c ≠ 48) : 10 ^ l.length ≤ dv (c :: l) := by
  simp only [List.all_cons, Bool.and_eq_true] at h
  have hc := isDig_iff.1 h.1
  have : c.toNat ≠ 48 := fun e => h0 (UInt8.toNat_inj.1 (by rw [e]; rfl))
  rw [dv_cons]
  have : 1 * 10 ^ l.length ≤ (c.toNat - 48) * 10 ^ l.length := Nat.mul_le_mul_right _ (by omega)
  omega
theorem pow_mono {a b : Nat} (h : a ≤ b) : 10 ^ a ≤ 10 ^ b := Nat.pow_le_pow_right (by omega) h
/-- Of two digit texts of one length: the lesser stands ahead. -/
theorem less_dv : ∀ (a b : List UInt8), a.length = b.length → a.all isDig = true → b.all isDig = true → Op.bytesLess a b = decide (dv a < dv b)
  | [], [], _, _, _ => by simp [Op.bytesLess]
  | x :: a, y :: b, h, ha, hb => by
    have ha' := ha; have hb' := hb
    simp only [List.all_cons, Bool.and_eq_true] at ha hb
    have hx := isDig_iff.1 ha.1
    have hy := isDig_iff.1 hb.1
    have hl : a.length = b.length := by simpa using h
    have ih := less_dv a b hl ha.2 hb.2
    have la := dv_lt a ha.2
    have lb := dv_lt b hb.2
    rw [hl] at la
    rw [Op.bytesLess, ih, Bool.eq_iff_iff]
    simp only [Bool.or_eq_true, Bool.and_eq_true, decide_eq_true_eq, beq_iff_eq]
    rw [dv_cons, dv_cons, hl, UInt8.lt_iff_toNat_lt]
    rcases Nat.lt_trichotomy x.toNat y.toNat with hlt | heq | hgt
    · have : (x.toNat - 48 + 1) * 10 ^ b.length ≤ (y.toNat - 48) * 10 ^ b.length := Nat.mul_le_mul_right _ (by omega)
      rw [Nat.add_mul] at this
      constructor
      · intro _; omega
      · intro _; exact Or.inl hlt
    · have e : x = y := UInt8.toNat_inj.1 heq
      subst e
      constructor
      · rintro (h | h)
        · omega
        · omega
      · intro h; exact Or.inr ⟨rfl, by omega⟩
    · have : (y.toNat - 48 + 1) * 10 ^ b.length ≤ (x.toNat - 48) * 10 ^ b.length := Nat.mul_le_mul_right _ (by omega)
      rw [Nat.add_mul] at this
      constructor
      · rintro (h | h)
        · omega
        · have := congrArg UInt8.toNat h.1; omega
      · intro h; omega
theorem dv_inj : ∀ (a b : List UInt8), a.length = b.length → a.all isDig = true → b.all isDig = true → dv a = dv b → a = b
  | [], [], _, _, _, _ => rfl
  | x :: a, y :: b, h, ha, hb, e => by
    simp only [List.all_cons, Bool.and_eq_true] at ha hb
    have hx := isDig_iff.1 ha.1
    have hy := isDig_iff.1 hb.1
    have hl : a.length = b.length := by simpa using h
    have la := dv_lt a ha.2
    have lb := dv_lt b hb.2
    rw [hl] at la
    rw [dv_cons, dv_cons, hl] at e
    have hxy : x.toNat = y.toNat := by
      rcases Nat.lt_trichotomy x.toNat y.toNat with hlt | heq | hgt
      · have : (x.toNat - 48 + 1) * 10 ^ b.length ≤ (y.toNat - 48) * 10 ^ b.length := Nat.mul_le_mul_right _ (by omega)
        rw [Nat.add_mul] at this; omega
      · exact heq
      · have : (y.toNat - 48 + 1) * 10 ^ b.length ≤ (x.toNat - 48) * 10 ^ b.length := Nat.mul_le_mul_right _ (by omega)
        rw [Nat.add_mul] at this; omega
    have e' : x = y := UInt8.toNat_inj.1 hxy
    subst e'
    rw [dv_inj a b hl ha.2 hb.2 (by omega)]
/-- The greatest texts. -/
def top (b : Bool) : List UInt8 := if b then [57, 50, 50, 51, 51, 55, 50, 48, 51, 54, 56, 53, 52, 55, 55, 53, 56, 48, 56] else [57, 50, 50, 51, 51, 55, 50, 48, 51, 54, 56, 53, 52, 55, 55, 53, 56, 48, 55]
theorem top_dig (b : Bool) : (top b).all isDig = true := by cases b <;> decide +kernel
theorem top_len (b : Bool) : (top b).length = 19 := by cases b <;> rfl
theorem top_dv (d : List UInt8) (b : Bool) : fits d b = decide (dv d ≤ dv (top b)) := by
  have h1 : dv (top true) = 9223372036854775808 := by decide +kernel
  have h0 : dv (top false) = 9223372036854775807 := by decide +kernel
  cases b
  · rw [h0]; simp [fits]
  · rw [h1]; simp [fits]
/-- The three ways of the document's answer. -/
theorem fits_long (d : List UInt8) (b : Bool) (hp : plainB d = true) (h : 19 < d.length) : fits d b = false := by
  unfold plainB at hp
  simp only [Bool.and_eq_true, Bool.or_eq_true] at hp
  obtain ⟨⟨_, h1⟩, ha⟩ := hp
  cases d with
  | nil => simp at h
  | cons c l =>
    have hc : c ≠ 48 := by
      rcases h1 with h1 | h1
      · simp at h1; rw [h1] at h; simp at h
      · simpa using h1
    have := dv_ge c l ha hc
    have h19 : 10 ^ 19 ≤ 10 ^ l.length := pow_mono (by simp at h; omega)
    unfold fits
    cases b <;> simp <;> omega
theorem fits_short (d : List UInt8) (b : Bool) (hp : plainB d = true) (h : d.length < 19) : fits d b = true := by
  unfold plainB at hp
  simp only [Bool.and_eq_true, Bool.or_eq_true] at hp
  have := dv_lt d hp.2
  have h18 : 10 ^ d.length ≤ 10 ^ 18 := pow_mono (by omega)
  unfold fits
  cases b <;> simp <;> omega
theorem fits_same (d : List UInt8) (b : Bool) (hp : plainB d = true) (h : d.length = 19) : (!(Op.bytesLess d (top b) || d == top b)) = !fits d b := by
  unfold plainB at hp
  simp only [Bool.and_eq_true, Bool.or_eq_true] at hp
  rw [less_dv d (top b) (by rw [h, top_len]) hp.2 (top_dig b), top_dv]
  congr 1
  rw [Bool.eq_iff_iff]
  simp only [Bool.or_eq_true, decide_eq_true_eq, beq_iff_eq]
  constructor
  · rintro (k | k)
    · omega
    · rw [k]; exact Nat.le_refl _
  · intro k
    rcases Nat.lt_or_eq_of_le k with k | k
    · exact Or.inl k
    · exact Or.inr (dv_inj d (top b) (by rw [h, top_len]) hp.2 (top_dig b) k)
end Go.Proofs.YtgmejaiifibfoaaGreatDoor.L1

/-
  What Read of layer 1 tells, of the code: its texts are gone through by runes.
-/
set_option linter.unusedSimpArgs false
set_option linter.unusedVariables false
namespace Go.Proofs.YtgmejaiifibfoaaGreatDoor.L1
open Go.RowKit Go.Lib

theorem size_len (s : ByteArray) : s.size = s.data.toList.length := by simp
theorem get_list (s : ByteArray) (k : Nat) (h : k < s.size) : s.data.toList[k]'(by rw [← size_len]; exact h) = s[k] := rfl
theorem full (s : ByteArray) (h : 0 < s.size) : s.toList.isEmpty = false ∧ (!s.toList.isEmpty) = true := by
  have e : s.toList.isEmpty = false := by
    rw [toList_data]
    cases e : s.data.toList with
    | nil => have k := size_len s; rw [e] at k; rw [k] at h; exact absurd h (by simp)
    | cons a l => rfl
  rw [e]; exact ⟨rfl, rfl⟩

theorem width_pos (s : ByteArray) (pos : Nat) (h : pos < s.size) : 1 ≤ (Utf8.decode s pos).2 := by
  by_cases ha : (s[pos]'h).toNat < 128
  · rw [decode_ascii s pos h ha]
    exact Nat.le_refl _
  · exact (decode_high s pos h (by omega)).2

/-- The text of these bytes. -/
def strOf (l : List UInt8) : ByteArray := ⟨l.toArray⟩
theorem strOf_list (l : List UInt8) : (strOf l).data.toList = l := by simp [strOf]
theorem strOf_toList (l : List UInt8) : (strOf l).toList = l := by rw [toList_data, strOf_list]
theorem strOf_size (l : List UInt8) : (strOf l).size = l.length := by rw [size_len, strOf_list]
theorem body_le (l : List UInt8) : (body l).length ≤ l.length := by unfold body trimPrefix; split <;> simp
/-- The pair of answers of Read, with the world below. -/
def readPost (l : List UInt8) (least most : Int) (w : World) (e : Ending) (w' : World) : Prop := e = two (readV l least most) (readE l least most) ∧ Below w.heap.size w w'

end Go.Proofs.YtgmejaiifibfoaaGreatDoor.L1

/-
  What Print of layer 1 tells, of the code and of the document's answer: the decimal numeral. Memory that was there stays as it was.
-/
set_option linter.unusedSimpArgs false
set_option linter.unusedVariables false
namespace Go.Proofs.YtgmejaiifibfoaaGreatDoor.L1
open Go.RowKit Go.Lib

/-- The table of powers of ten. -/
abbrev Tab (w : World) : Prop := Lib.TabIs Tryz.prog w "internal/strconv.uint64pow10" .u64 Lib.pow10Tab

theorem below_grown (B : Nat) (w : World) (k : Nat) (os : Array Obj) (h : B ≤ w.heap.size) : Below B w (Go.Sort.grow (w.drewN k) os) := by
  refine ⟨rfl, rfl, rfl, by simp, fun i hi => ?_⟩
  rw [Go.Sort.heap_grow_old (w.drewN k) os (by simp; omega)]
  simp
theorem nxt {W a b : World} (h : Below W.heap.size W a) (k : Below a.heap.size a b) : Below W.heap.size W b := h.trans (k.mono h.size)
theorem tab_below {B : Nat} {w w' : World} (h : Tab w) (hb : Below B w w') (hB : B = w.heap.size) : Tab w' := by
  unfold Tab TabIs World.var? at *
  cases hg : Tryz.prog.globalNamed "internal/strconv.uint64pow10" with
  | none => simp [hg] at h
  | some g =>
    simp only [hg, Option.bind_some] at h ⊢
    have hlt : g < w.heap.size := by
      rcases Nat.lt_or_ge g w.heap.size with h' | h'
      · exact h'
      · rw [Array.getElem?_eq_none h'] at h; simp at h
    rw [hb.block g (by omega)]
    exact h

theorem strOf_app (l : List UInt8) (t : ByteArray) : strOf l ++ t = strOf (l ++ t.data.toList) := by
  apply ByteArray.ext
  rw [ByteArray.data_append]
  simp [strOf]
def dgt (m : Nat) : UInt8 := UInt8.ofNat (48 + m % 10)
theorem one_digit (w : World) (m : Nat) :
    (convert 52 9 (.slice (some ⟨w.heap.size, 0, none⟩) 1 1)).run Tryz.prog (w.alloc (.cells #[.int .u8 (48 + (m : Int) % 10)] 5)) =
      .ok (.string (strOf [dgt m])) (w.alloc (.cells #[.int .u8 (48 + (m : Int) % 10)] 5)) := by
  refine run_convert_bytes_back (P := Tryz.prog) _ _ _ 5 ⟨w.heap.size, 0, none⟩ 1 [dgt m] Tryz.underlying52 Tryz.underlying5 Tryz.underlying9 ?_
  intro j hj
  obtain rfl : j = 0 := by simpa using hj
  rw [add_plain, World.cell?_alloc_new]
  have : (dgt m).toNat = 48 + m % 10 := by unfold dgt; rw [UInt8.toNat_ofNat']; omega
  simp only [List.getElem_cons_zero, this]
  simp

end Go.Proofs.YtgmejaiifibfoaaGreatDoor.L1

/-
  What Mul of layer 1 tells, of the code and of the document's answer (which reckons by halves): one contract for each, the same answer. The world stays as it was.
-/
set_option linter.unusedSimpArgs false
set_option linter.unusedVariables false
namespace Go.Proofs.YtgmejaiifibfoaaGreatDoor.L1
open Go.RowKit Go.Lib

/-- The number without its sign. -/
def sz (n : Int) : Int := if 0 ≤ n then n else -n
theorem sz_nat (n : Int) : sz n = n.natAbs := by unfold sz; split <;> omega

theorem mul_over {a b : Int} (ha : a ≠ 0) : al (a * b) = false ↔ 4611686018427387904 / sz a < sz b := by
  have e : al (a * b) = false ↔ 4611686018427387904 < (a * b).natAbs := by rw [al_not]; omega
  have hp : 0 < a.natAbs := by omega
  have q : (4611686018427387904 : Int) / (a.natAbs : Int) = ((4611686018427387904 / a.natAbs : Nat) : Int) := (Int.natCast_ediv 4611686018427387904 a.natAbs).symm
  rw [e, Int.natAbs_mul, sz_nat, sz_nat, q]
  have h := Nat.div_lt_iff_lt_mul (x := 4611686018427387904) (y := b.natAbs) hp
  rw [Nat.mul_comm] at h
  exact h.symm.trans Int.ofNat_lt.symm
theorem mul_not_over {a b : Int} (ha : a ≠ 0) (h : al (a * b) = true) : ¬ 4611686018427387904 / sz a < sz b := by
  intro k; rw [(mul_over ha).2 k] at h; cases h

/-- Products by halves. -/
theorem half_eq (a b : Int) : a * b = a * (b / 2) + a * (b / 2) + a * (b % 2) := by
  rw [← Int.mul_add, ← Int.mul_add]
  congr 1
  omega
theorem half_even (a b : Int) (h : b % 2 = 0) : a * (b / 2) + a * (b / 2) = a * b := by
  have := half_eq a b; rw [h] at this; omega
theorem half_odd (a b : Int) (h : b % 2 = 1) : a * (b / 2) + a * (b / 2) + a = a * b := by
  have := half_eq a b; rw [h] at this; omega
theorem half_sign (a b : Int) (hb : 0 ≤ b) : (0 ≤ a * (b / 2) ∧ a * (b / 2) + a * (b / 2) ≤ a * b) ∨ (a * (b / 2) ≤ 0 ∧ a * b ≤ a * (b / 2) + a * (b / 2)) := by
  have e := half_eq a b
  have h2 : 0 ≤ b / 2 := by omega
  have h3 : 0 ≤ b % 2 := by omega
  by_cases h : 0 ≤ a
  · have := Int.mul_nonneg h h2
    have := Int.mul_nonneg h h3
    left; omega
  · have := Int.mul_nonneg (show 0 ≤ -a by omega) h2
    have := Int.mul_nonneg (show 0 ≤ -a by omega) h3
    rw [Int.neg_mul] at *
    right; omega
theorem half_over1 (a b : Int) (hb : 0 ≤ b) (h : al (a * (b / 2)) = false) : al (a * b) = false := by
  rw [al_not] at *; have := half_sign a b hb; omega
theorem half_over2 (a b : Int) (hb : 0 ≤ b) (h : al (a * (b / 2) + a * (b / 2)) = false) : al (a * b) = false := by
  rw [al_not] at *; have := half_sign a b hb; omega

theorem okv_neg {g : Bool} {n : Int} : -okv g (-n) = okv g n := by
  have : al (-n) = al n := by rw [Bool.eq_iff_iff, al_iff, al_iff]; omega
  unfold okv; rw [this]; split <;> omega
theorem oke_neg {g : Bool} {n : Int} : oke g (-n) = oke g n := by
  have : al (-n) = al n := by rw [Bool.eq_iff_iff, al_iff, al_iff]; omega
  unfold oke; rw [this]
theorem okv_range (g : Bool) (n : Int) : -4611686018427387904 ≤ okv g n ∧ okv g n ≤ 4611686018427387904 := by
  unfold okv; split
  · rename_i h; simp at h; exact al_iff.1 h.2
  · omega

end Go.Proofs.YtgmejaiifibfoaaGreatDoor.L1

/-
  What Sum of layer 1 tells, of the code and of the document's answer, of any slice of numbers: the same. The world stays as it was.
-/
set_option linter.unusedSimpArgs false
set_option linter.unusedVariables false
namespace Go.Proofs.YtgmejaiifibfoaaGreatDoor.L1
open Go.RowKit Go.Lib

def step (a : Option Int) (n : Int) : Option Int := a.bind fun s => if al s && al n && al (s + n) then some (s + n) else none
theorem step_no {s n : Int} (h : (al s && al n && al (s + n)) = false) : step (some s) n = none := by simp only [step, Option.bind_some, h, Bool.false_eq_true, if_false]
theorem step_yes {s n : Int} (h : (al s && al n && al (s + n)) = true) : step (some s) n = some (s + n) := by simp only [step, Option.bind_some, h, if_true]
/-- All of them together, each step as Add. -/
def sumO (l : List Int) : Option Int := l.foldl step (some 0)
def sumV (l : List Int) : Int := (sumO l).getD 0
def sumE (l : List Int) : Int := if (sumO l).isSome then 0 else 10
theorem sumO_snoc (l : List Int) (x : Int) : sumO (l ++ [x]) = step (sumO l) x := by simp [sumO]
theorem sumO_dead (l k : List Int) (h : sumO l = none) : sumO (l ++ k) = none := by
  induction k generalizing l with
  | nil => simpa using h
  | cons x k ih =>
    rw [show l ++ x :: k = l ++ [x] ++ k by simp]
    exact ih _ (by rw [sumO_snoc, h]; rfl)
theorem sumO_dead_take (l : List Int) (k : Nat) (h : sumO (l.take k) = none) : sumO l = none := by
  rw [← List.take_append_drop k l]; exact sumO_dead _ _ h
theorem sumO_take_succ (l : List Int) (k : Nat) (h : k < l.length) : sumO (l.take (k + 1)) = step (sumO (l.take k)) (l.getD k 0) := by
  rw [List.take_succ_eq_append_getElem h, sumO_snoc, List.getD_eq_getElem?_getD, List.getElem?_eq_getElem h]; rfl
theorem step_range {a : Option Int} {n s : Int} (h : step a n = some s) : al s = true := by
  cases a with
  | none => cases h
  | some t =>
    unfold step at h
    simp only [Option.bind_some] at h
    split at h
    · rename_i hh
      simp only [Bool.and_eq_true] at hh
      rw [← Option.some.inj h]; exact hh.2
    · cases h
theorem sumO_range (l : List Int) {s : Int} (h : sumO l = some s) : al s = true := by
  rcases List.eq_nil_or_concat l with rfl | ⟨k, x, rfl⟩
  · have : s = 0 := by simpa [sumO] using h.symm
    rw [this]; decide
  · rw [List.concat_eq_append, sumO_snoc] at h
    exact step_range h

/-- The slice at A reads as these numbers (none of them: whatever A is), below block B. -/
def Ints (w : World) (B : Nat) (A : Option Addr) (zs : List Int) : Prop :=
  zs = [] ∨ ∃ b off, A = some ⟨b, off, none⟩ ∧ b < B ∧ ∀ j, j < zs.length → w.cell? ⟨b, off + j, none⟩ = some (.int .i64 (zs.getD j 0))
theorem Ints.below {w w' : World} {B : Nat} {A : Option Addr} {zs : List Int} (h : Ints w B A zs) (hb : Below B w w') : Ints w' B A zs := by
  rcases h with h | ⟨b, off, e, hlt, hc⟩
  · exact Or.inl h
  · exact Or.inr ⟨b, off, e, hlt, fun j hj => (hb.cell (p := ⟨b, off + j, none⟩) hlt).trans (hc j hj)⟩

theorem two_len {zs : List Int} {len : Nat} (h : zs.length = len) : len ≤ zs.length ∧ zs.length ≤ len := by omega
end Go.Proofs.YtgmejaiifibfoaaGreatDoor.L1

/-
  There and back: the number of a number's text; sums of one number many times. Plain.
-/
set_option linter.unusedSimpArgs false
set_option linter.unusedVariables false
namespace Go.Proofs.YtgmejaiifibfoaaGreatDoor.L1
open Go.RowKit Go.Lib

theorem digit_byte (u : Nat) (h : u < 10) : (UInt8.ofNat (48 + u)).toNat = 48 + u := by rw [UInt8.toNat_ofNat']; omega
theorem dd_all (u : Nat) : (decDigits u).all isDig = true := by
  induction u using Nat.strongRecOn with
  | _ u ih =>
    rw [decDigits]
    split
    · rename_i h; simp only [List.all_cons, List.all_nil, Bool.and_true]; rw [isDig_iff, digit_byte u h]; omega
    · rw [List.all_append, ih (u / 10) (by omega)]
      simp only [List.all_cons, List.all_nil, Bool.and_true, Bool.true_and]; rw [isDig_iff, digit_byte _ (by omega)]; omega
theorem dd_dv (u : Nat) : dv (decDigits u) = u := by
  induction u using Nat.strongRecOn with
  | _ u ih =>
    rw [decDigits]
    split
    · rename_i h; simp only [dv, List.foldl_cons, List.foldl_nil, digit_byte u h]; omega
    · rw [dv_snoc, ih (u / 10) (by omega), digit_byte _ (by omega)]; omega
theorem dd_ne (u : Nat) : decDigits u ≠ [] := by
  rw [decDigits]; split <;> simp
theorem dd_head (u : Nat) (h : 1 ≤ u) : (decDigits u).getD 0 0 ≠ 48 := by
  induction u using Nat.strongRecOn with
  | _ u ih =>
    rw [decDigits]
    split
    · rename_i h'
      simp only [List.getD_cons_zero]
      intro e
      have := congrArg UInt8.toNat e
      rw [digit_byte u h'] at this
      have e48 : (48 : UInt8).toNat = 48 := rfl
      omega
    · have := ih (u / 10) (by omega) (by omega)
      have hn := dd_ne (u / 10)
      cases hd : decDigits (u / 10) with
      | nil => exact absurd hd hn
      | cons c l => rw [hd] at this; simpa using this
theorem dd_plain (u : Nat) : plainB (decDigits u) = true := by
  unfold plainB
  rw [dd_all]
  have hn := dd_ne u
  have he : (decDigits u).isEmpty = false := by
    cases h : decDigits u with
    | nil => exact absurd h hn
    | cons a l => rfl
  rw [he]
  by_cases h : u < 10
  · rw [show decDigits u = [UInt8.ofNat (48 + u)] by rw [decDigits, dif_pos h]]; rfl
  · have hh := dd_head u (by omega)
    have hb : ((decDigits u).getD 0 0 != 48) = true := by rw [bne_iff_ne]; exact hh
    rw [hb]; simp
theorem dd_not45 (u : Nat) : neg (decDigits u) = false := by
  have ha := dd_all u
  unfold neg hasPrefix
  cases h : decDigits u with
  | nil => rfl
  | cons c l =>
    rw [h] at ha
    simp only [List.all_cons, Bool.and_eq_true] at ha
    have hc := isDig_iff.1 ha.1
    have : (45 : UInt8) ≠ c := by intro e; rw [← e] at hc; have e45 : (45 : UInt8).toNat = 45 := rfl; omega
    simp [List.isPrefixOf, this]
theorem back_v (n : Int) (h0 : -9223372036854775808 ≤ n) (h1 : n ≤ 9223372036854775807) :
    readV (itoa n) (-9223372036854775808) 9223372036854775807 = n ∧ readE (itoa n) (-9223372036854775808) 9223372036854775807 = 0 := by
  by_cases hp : 0 ≤ n
  · obtain ⟨u, rfl⟩ : ∃ u : Nat, n = u := ⟨n.toNat, by omega⟩
    rw [itoa_nonneg]
    have hb : body (decDigits u) = decDigits u := by unfold body trimPrefix; rw [show hasPrefix (decDigits u) [45] = false from dd_not45 u]; rfl
    have hf : form (decDigits u) = true := by unfold form; rw [hb, dd_plain, dd_not45]; rfl
    have hv : valB (body (decDigits u)) (neg (decDigits u)) = u := by rw [hb, dd_not45]; simp [valB, dd_dv]
    have hfit : fits (body (decDigits u)) (neg (decDigits u)) = true := by rw [hb, dd_not45]; unfold fits; rw [dd_dv]; simp; omega
    have ho : okR (decDigits u) (-9223372036854775808) 9223372036854775807 = true := by
      unfold okR; rw [hv, hfit]; simp only [Bool.true_and, Bool.and_eq_true, decide_eq_true_eq]; omega
    unfold readV readE
    rw [hf, ho, hv]; exact ⟨rfl, rfl⟩
  · obtain ⟨u, rfl⟩ : ∃ u : Nat, n = -(u : Int) := ⟨n.natAbs, by omega⟩
    have hu : 1 ≤ u := by omega
    rw [itoa_neg u hu]
    have hn : neg (45 :: decDigits u) = true := by unfold neg hasPrefix; simp [List.isPrefixOf]
    have hb : body (45 :: decDigits u) = decDigits u := by unfold body trimPrefix; rw [show hasPrefix (45 :: decDigits u) [45] = true from hn]; rfl
    have hz : (decDigits u == [48]) = false := by
      rw [beq_eq_false_iff_ne]; intro e
      have := congrArg dv e
      rw [dd_dv] at this
      have h48 : dv [48] = 0 := by decide +kernel
      omega
    have hf : form (45 :: decDigits u) = true := by unfold form; rw [hb, dd_plain, hn, hz]; rfl
    have hv : valB (body (45 :: decDigits u)) (neg (45 :: decDigits u)) = -(u : Int) := by rw [hb, hn]; simp [valB, dd_dv]
    have hfit : fits (body (45 :: decDigits u)) (neg (45 :: decDigits u)) = true := by rw [hb, hn]; unfold fits; rw [dd_dv]; simp; omega
    have ho : okR (45 :: decDigits u) (-9223372036854775808) 9223372036854775807 = true := by
      unfold okR; rw [hv, hfit]; simp only [Bool.true_and, Bool.and_eq_true, decide_eq_true_eq]; omega
    unfold readV readE
    rw [hf, ho, hv]; exact ⟨rfl, rfl⟩

/-- The same number many times. -/
theorem al_less (a : Int) (t : Nat) (h : al (a * (t + 1 : Nat)) = true) : al (a * t) = true := by
  rw [al_iff] at *
  have e : a * ((t + 1 : Nat) : Int) = a * t + a := by rw [Int.natCast_add, Int.mul_add]; simp
  by_cases ha : 0 ≤ a
  · have := Int.mul_nonneg ha (show (0 : Int) ≤ t by omega); omega
  · have := Int.mul_nonneg (show 0 ≤ -a by omega) (show (0 : Int) ≤ t by omega)
    rw [Int.neg_mul] at this; omega
theorem sum_rep (a : Int) (ha : al a = true) (t : Nat) : sumO (List.replicate t a) = if al (a * t) then some (a * t) else none := by
  induction t with
  | zero => simp [sumO, al]
  | succ t ih =>
    rw [List.replicate_succ', sumO_snoc, ih]
    have e : a * ((t + 1 : Nat) : Int) = a * t + a := by rw [Int.natCast_add, Int.mul_add]; simp
    cases h1 : al (a * t)
    · have h2 : al (a * ((t + 1 : Nat) : Int)) = false := by
        cases h2 : al (a * ((t + 1 : Nat) : Int))
        · rfl
        · rw [al_less a t h2] at h1; cases h1
      rw [h2]; rfl
    · cases h2 : al (a * ((t + 1 : Nat) : Int))
      · rw [e] at h2
        simp only [if_true]
        rw [step_no (by rw [h1, ha, h2]; rfl)]; rfl
      · rw [e] at h2 ⊢
        simp only [if_true]
        rw [step_yes (by rw [h1, ha, h2]; rfl)]

/-- A row of the call's own, all one number, summed. -/
theorem ints_row (a : Int) (t b : Nat) (w : World) (h : w.rowIs b 2 t (fun j => if j < t then .int .i64 a else .int .i64 0)) : Ints w w.heap.size (some ⟨b, 0, none⟩) (List.replicate t a) := by
  right
  refine ⟨b, 0, rfl, h.lt, fun j hj => ?_⟩
  have hj' : j < t := by simpa using hj
  have hc := h.cell hj'
  rw [if_pos hj'] at hc
  rw [Nat.zero_add, hc]
  simp [List.getD_eq_getElem?_getD, hj']
theorem rep_range (a : Int) (t : Nat) (a0 : -9223372036854775808 ≤ a) (a1 : a ≤ 9223372036854775807) (j : Nat) : -9223372036854775808 ≤ (List.replicate t a).getD j 0 ∧ (List.replicate t a).getD j 0 ≤ 9223372036854775807 := by
  rw [List.getD_eq_getElem?_getD, List.getElem?_replicate]
  split <;> simp <;> omega
end Go.Proofs.YtgmejaiifibfoaaGreatDoor.L1

/-
  What Read of layer 1 tells, of the document's answer: the same as the code's. The world stays as it was.
-/
set_option linter.unusedSimpArgs false
set_option linter.unusedVariables false
namespace Go.Proofs.YtgmejaiifibfoaaGreatDoor.L1
open Go.RowKit Go.Lib

theorem extract_list (s : ByteArray) : (s.extract 1 s.size).data.toList = s.data.toList.drop 1 := by
  rw [extract_data, List.take_of_length_le]
  rw [List.length_drop, ← size_len]; exact Nat.le_refl _

end Go.Proofs.YtgmejaiifibfoaaGreatDoor.L1
