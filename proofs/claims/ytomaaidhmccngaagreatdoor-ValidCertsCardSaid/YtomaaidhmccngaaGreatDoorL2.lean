import Derived.Test.YtomaaidhmccngaaGreatDoorRows
import Derived.WalkLawsBesides
import Derived.Lib.Hide
import Derived.Test.YtomaaidhmccngaaGreatDoorShelf
import Derived.Shelf.Strings.BuilderRune
import Derived.Lib.RuneCountTail
import Derived.WalkSpells
import Derived.Lib.IndexBytes
import Derived.BigQuiet
set_option linter.unusedSimpArgs false
set_option linter.unusedVariables false
set_option maxRecDepth 100000
set_option maxHeartbeats 16000000
namespace Go.Proofs.YtomaaidhmccngaaGreatDoor.L2
open Go.RowKit Go.Lib
theorem qdX {a b : Bool} (h : a = b) : Ending.returned (.bool a) = .returned (.bool b) := by rw [h]
theorem qmt {k : IntKind} {a b : Int} (h : a = b) : Ending.returned (.int k a) = .returned (.int k b) := by rw [h]
def dig (c : Int) : Bool := decide (48 <= c /\ c <= 57)
def ltr (c : Int) : Bool := decide ((97 <= c /\ c <= 122) ∨ (48 <= c /\ c <= 57) ∨ c = 95 ∨ c = 45 ∨ (223 <= c /\ c <= 255 /\ c ≠ 247) ∨ (945 <= c /\ c <= 969))
def led (c : Int) : Bool := decide (c ≠ 45 /\ ¬ (48 <= c /\ c <= 57))
theorem qlt {c : Int} (h : 48 <= c /\ c <= 57) : dig c = true := decide_eq_true h
theorem dig_no {c : Int} (h : ¬ (48 <= c /\ c <= 57)) : dig c = false := decide_eq_false h
theorem qhj (c : Int) (w : World) : Calls Tryz.prog 215 #[.int .i32 c] w fun e w' => e = .returned (.bool (dig c)) /\ w = w' := by
 by_cases a : 48 <= c <;> by_cases b : c <= 57
 all_goals
  go_enter Tryz.func215, Tryz.ntmps215
  go_wp2
  go_ret
  exact ⟨by simp [dig, a, b], rfl⟩
theorem qdn (c : Int) (w : World) : Calls Tryz.prog 208 #[.int .i32 c] w fun e w' => e = .returned (.bool (ltr c)) /\ w = w' := by
 by_cases h : 48 <= c /\ c <= 57
 all_goals
  have D := hid h
  clear h
  go_enter Tryz.func208, Tryz.ntmps208
  go_wp2_with (go_at_call 215; refine (qhj _ _).mono ?_; (first | rw [qlt D.out] | rw [dig_no D.out]); rintro e w' ⟨rfl, rfl⟩)
 all_goals
  have hd := D.out
  clear D
  go_ret
  refine ⟨qdX ?_, rfl⟩
  rw [Bool.eq_iff_iff]
  unfold ltr
  simp only [beq_iff_eq, beq_eq_false_iff_ne, bne_iff_ne, ne_eq, decide_eq_true_eq, Bool.false_eq_true, Bool.and_eq_true, Bool.or_eq_true, true_iff, false_iff, iff_true, iff_false] at *
  omega
theorem qff (c : Int) (w : World) : Calls Tryz.prog 209 #[.int .i32 c] w fun e w' => e = .returned (.bool (led c)) /\ w = w' := by
 by_cases h : 48 <= c /\ c <= 57
 all_goals
  have D := hid h
  clear h
  go_enter Tryz.func209, Tryz.ntmps209
  go_wp2_with (go_at_call 215; refine (qhj _ _).mono ?_; (first | rw [qlt D.out] | rw [dig_no D.out]); rintro e w' ⟨rfl, rfl⟩)
 all_goals
  have hd := D.out
  clear D
  go_ret
  refine ⟨qdX ?_, rfl⟩
  rw [Bool.eq_iff_iff]
  unfold led
  simp only [beq_iff_eq, beq_eq_false_iff_ne, bne_iff_ne, ne_eq, decide_eq_true_eq, Bool.false_eq_true, Bool.and_eq_true, Bool.or_eq_true, true_iff, false_iff, iff_true, iff_false] at *
  omega
theorem qdV (c : Int) (w : World) : Calls Tryz.prog 179 #[.int .i64 c] w fun e w' => e = .returned (.bool (ltr c)) /\ w = w' := by
 go_enter Tryz.func179, Tryz.ntmps179
 go_wp2
 all_goals
  go_ret
  refine ⟨qdX ?_, rfl⟩
  rw [Bool.eq_iff_iff]
  unfold ltr
  simp only [beq_iff_eq, beq_eq_false_iff_ne, bne_iff_ne, ne_eq, decide_eq_true_eq, Bool.false_eq_true, Bool.and_eq_true, Bool.or_eq_true, true_iff, false_iff, iff_true, iff_false] at *
  first | omega | simp only [or_true, true_or]
end Go.Proofs.YtomaaidhmccngaaGreatDoor.L2
namespace Go.Proofs.YtomaaidhmccngaaGreatDoor.L2
open Go.RowKit Go.Lib
theorem byteInfo : (Tryz.prog.info? 5).map (fun i => (i.zero, i.size, i.bytes)) = some (some (.int .u8 0), 1, 1) := by kernel_rfl
end Go.Proofs.YtomaaidhmccngaaGreatDoor.L2
namespace Go.Proofs.YtomaaidhmccngaaGreatDoor.L2
open Go.Lib
def dec (l : List UInt8) : Nat × Nat := decodeN l.length (l.getD 0 0).toNat (l.getD 1 0).toNat (l.getD 2 0).toNat (l.getD 3 0).toNat
theorem qaF (s : ByteArray) : s.size = s.data.toList.length := by simp
theorem getD_drop (l : List UInt8) (p j : Nat) : (l.drop p).getD j 0 = l.getD (p + j) 0 := by
 simp [List.getD_eq_getElem?_getD, List.getElem?_drop]
theorem qls (s : ByteArray) (pos : Nat) : Utf8.decode s pos = dec (s.data.toList.drop pos) := by
 rw [decode_at]
 unfold dec
 simp only [List.length_drop, getD_drop, Nat.add_zero, getD_get!', <- qaF]
theorem qem (l : List UInt8) (j : Nat) : (l.getD j 0).toNat < 256 := (l.getD j 0).toNat_lt
theorem qgr (n b0 b1 b2 b3 : Nat) (hn : 1 <= n) (h0 : b0 < 256) (h1 : b1 < 256) (h2 : b2 < 256) (h3 : b3 < 256) :
 1 <= (decodeN n b0 b1 b2 b3).2 /\ (decodeN n b0 b1 b2 b3).2 <= n /\ (decodeN n b0 b1 b2 b3).2 <= 4 /\
 ((decodeN n b0 b1 b2 b3).1 < 55296 ∨ (57344 <= (decodeN n b0 b1 b2 b3).1 /\ (decodeN n b0 b1 b2 b3).1 <= 1114111)) := by
 unfold decodeN
 repeat' split
 all_goals (simp only; omega)
theorem len_pos {l : List UInt8} (h : l ≠ []) : 1 <= l.length := List.length_pos_iff.2 h
theorem qb8 (l : List UInt8) (h : l ≠ []) : 1 <= (dec l).2 /\ (dec l).2 <= l.length /\ (dec l).2 <= 4 /\ ((dec l).1 < 55296 ∨ (57344 <= (dec l).1 /\ (dec l).1 <= 1114111)) :=
 qgr _ _ _ _ _ (len_pos h) (qem _ _) (qem _ _) (qem _ _) (qem _ _)
def good2 (n b0 b1 : Nat) : Prop := (1 < n /\ b1 / 64 = 2) /\ b0 % 32 * 64 + b1 % 64 ≥ 128
def good3 (n b0 b1 b2 : Nat) : Prop := ((1 < n /\ b1 / 64 = 2) /\ (2 < n /\ b2 / 64 = 2)) /\ (b0 % 16 * 4096 + b1 % 64 * 64 + b2 % 64 ≥ 2048 /\ (b0 % 16 * 4096 + b1 % 64 * 64 + b2 % 64 < 55296 ∨ (57344 <= b0 % 16 * 4096 + b1 % 64 * 64 + b2 % 64 /\ b0 % 16 * 4096 + b1 % 64 * 64 + b2 % 64 <= 1114111)))
def good4 (n b0 b1 b2 b3 : Nat) : Prop := ((1 < n /\ b1 / 64 = 2) /\ (2 < n /\ b2 / 64 = 2) /\ (3 < n /\ b3 / 64 = 2)) /\ (b0 % 8 * 262144 + b1 % 64 * 4096 + b2 % 64 * 64 + b3 % 64 ≥ 65536 /\ (b0 % 8 * 262144 + b1 % 64 * 4096 + b2 % 64 * 64 + b3 % 64 < 55296 ∨ (57344 <= b0 % 8 * 262144 + b1 % 64 * 4096 + b2 % 64 * 64 + b3 % 64 /\ b0 % 8 * 262144 + b1 % 64 * 4096 + b2 % 64 * 64 + b3 % 64 <= 1114111)))
theorem dN1 (n b0 b1 b2 b3 : Nat) (h : b0 < 128) : decodeN n b0 b1 b2 b3 = (b0, 1) := by unfold decodeN; rw [if_pos h]
theorem dN2 (n b0 b1 b2 b3 : Nat) (h : b0 / 32 = 6) : (good2 n b0 b1 -> decodeN n b0 b1 b2 b3 = (b0 % 32 * 64 + b1 % 64, 2)) /\ (¬ good2 n b0 b1 -> decodeN n b0 b1 b2 b3 = (65533, 1)) := by
 have h16 : ¬ b0 / 16 = 14 := by omega
 have h8 : ¬ b0 / 8 = 30 := by omega
 unfold decodeN good2
 rw [if_neg (show ¬ b0 < 128 by omega)]
 constructor
 ·rintro ⟨c, d⟩
  rw [if_pos ⟨h, c⟩, if_pos d]
 ·intro g
  by_cases c : 1 < n /\ b1 / 64 = 2
  ·rw [if_pos ⟨h, c⟩, if_neg (fun d => g ⟨c, d⟩)]
  ·rw [if_neg (fun x => c x.2), if_neg (fun x => h16 x.1), if_neg (fun x => h8 x.1)]
theorem dN3 (n b0 b1 b2 b3 : Nat) (h : b0 / 16 = 14) : (good3 n b0 b1 b2 -> decodeN n b0 b1 b2 b3 = (b0 % 16 * 4096 + b1 % 64 * 64 + b2 % 64, 3)) /\ (¬ good3 n b0 b1 b2 -> decodeN n b0 b1 b2 b3 = (65533, 1)) := by
 have h32 : ¬ b0 / 32 = 6 := by omega
 have h8 : ¬ b0 / 8 = 30 := by omega
 unfold decodeN good3
 rw [if_neg (show ¬ b0 < 128 by omega), if_neg (fun x => h32 x.1)]
 constructor
 ·rintro ⟨⟨c1, c2⟩, d⟩
  rw [if_pos ⟨h, c1, c2⟩, if_pos d]
 ·intro g
  by_cases c : (1 < n /\ b1 / 64 = 2) /\ (2 < n /\ b2 / 64 = 2)
  ·rw [if_pos ⟨h, c.1, c.2⟩, if_neg (fun d => g ⟨c, d⟩)]
  ·rw [if_neg (fun x => c x.2), if_neg (fun x => h8 x.1)]
theorem dN4 (n b0 b1 b2 b3 : Nat) (h : b0 / 8 = 30) : (good4 n b0 b1 b2 b3 -> decodeN n b0 b1 b2 b3 = (b0 % 8 * 262144 + b1 % 64 * 4096 + b2 % 64 * 64 + b3 % 64, 4)) /\ (¬ good4 n b0 b1 b2 b3 -> decodeN n b0 b1 b2 b3 = (65533, 1)) := by
 have h32 : ¬ b0 / 32 = 6 := by omega
 have h16 : ¬ b0 / 16 = 14 := by omega
 unfold decodeN good4
 rw [if_neg (show ¬ b0 < 128 by omega), if_neg (fun x => h32 x.1), if_neg (fun x => h16 x.1)]
 constructor
 ·rintro ⟨⟨c1, c2, c3⟩, d⟩
  rw [if_pos ⟨h, c1, c2, c3⟩, if_pos d]
 ·intro g
  by_cases c : (1 < n /\ b1 / 64 = 2) /\ (2 < n /\ b2 / 64 = 2) /\ (3 < n /\ b3 / 64 = 2)
  ·rw [if_pos ⟨h, c.1, c.2.1, c.2.2⟩, if_neg (fun d => g ⟨c, d⟩)]
  ·rw [if_neg (fun x => c x.2)]
theorem dN0 (n b0 b1 b2 b3 : Nat) (h : ¬ b0 < 128) (h32 : ¬ b0 / 32 = 6) (h16 : ¬ b0 / 16 = 14) (h8 : ¬ b0 / 8 = 30) : decodeN n b0 b1 b2 b3 = (65533, 1) := by
 unfold decodeN
 rw [if_neg h, if_neg (fun x => h32 x.1), if_neg (fun x => h16 x.1), if_neg (fun x => h8 x.1)]
def runesF : Nat -> List UInt8 -> List (Nat × Nat)
 | 0, _ => []
 | _ + 1, [] => []
 | f + 1, c :: l => dec (c :: l) :: runesF f ((c :: l).drop (dec (c :: l)).2)
def runes (l : List UInt8) : List (Nat × Nat) := runesF l.length l
theorem qdY : ∀ (f g : Nat) (l : List UInt8), l.length <= f -> l.length <= g -> runesF f l = runesF g l
 | 0, 0, _, _, _ => rfl
 | 0, _ + 1, [], _, _ => rfl
 | 0, _ + 1, _ :: _, h, _ => by simp at h
 | _ + 1, 0, [], _, _ => rfl
 | _ + 1, 0, _ :: _, _, h => by simp at h
 | _ + 1, _ + 1, [], _, _ => rfl
 | f + 1, g + 1, c :: l, hf, hg => by
   have hd := qb8 (c :: l) (by simp)
   simp only [runesF]
   rw [qdY f g _ (by simp at hf hd ⊢; omega) (by simp at hg hd ⊢; omega)]
theorem qhS : runes [] = [] := rfl
theorem qc8 {l : List UInt8} (h : l ≠ []) : runes l = dec l :: runes (l.drop (dec l).2) := by
 cases l with
 | nil => exact absurd rfl h
 | cons c l =>
   have hd := qb8 (c :: l) (by simp)
   unfold runes
   rw [List.length_cons, runesF]
   rw [qdY l.length ((c :: l).drop (dec (c :: l)).2).length _ (by simp at hd ⊢; omega) (Nat.le_refl _)]
theorem qhQ {M : List UInt8 -> Prop} (h0 : M []) (h1 : ∀ l, l ≠ [] -> M (l.drop (dec l).2) -> M l) (l : List UInt8) : M l := by
 have h : ∀ (n : Nat) (l : List UInt8), l.length <= n -> M l := by
  intro n
  induction n with
  | zero =>
    intro l hl
    have : l = [] := List.length_eq_zero_iff.1 (by omega)
    rw [this]; exact h0
  | succ n ih =>
    intro l hl
    by_cases e : l = []
    ·rw [e]; exact h0
    ·have hd := qb8 l e
     exact h1 l e (ih _ (by rw [List.length_drop]; omega))
 exact h l.length l (Nat.le_refl _)
theorem qhR (l : List UInt8) : (runes l).length <= l.length := by
 induction l using qhQ with
 | h0 => exact Nat.le_refl _
 | h1 l h ih =>
   have hd := qb8 l h
   rw [List.length_drop] at ih
   rw [qc8 h, List.length_cons]; omega
def nums (l : List UInt8) : List Int := (runes l).map fun x => (x.1 : Int)
theorem qjw : nums [] = [] := rfl
theorem qhz {l : List UInt8} (h : l ≠ []) : nums l = ((dec l).1 : Int) :: nums (l.drop (dec l).2) := by unfold nums; rw [qc8 h]; rfl
theorem qcG (l : List UInt8) : (nums l).length = (runes l).length := by simp [nums]
def enc (c : Int) : List UInt8 := encodeRune c
end Go.Proofs.YtomaaidhmccngaaGreatDoor.L2
namespace Go.Proofs.YtomaaidhmccngaaGreatDoor.L2
open Go.RowKit Go.Lib
theorem qgw (s : ByteArray) (k : Nat) (h : k < s.size) : s.data.toList.getD k 0 = s[k] := by
 rw [List.getD_eq_getElem?_getD, List.getElem?_eq_getElem (by rw [<- qaF]; exact h)]; rfl
theorem qif (b : UInt8) : wrap64 (b.toNat : Int) = b.toNat := by
 have := b.toNat_lt
 unfold wrap64; omega
def tl (l : List UInt8) (i : Nat) : Int := if i < l.length /\ 128 <= (l.getD i 0).toNat /\ (l.getD i 0).toNat < 192 then ((l.getD i 0).toNat : Int) - 128 else -1
theorem qdv (l : List UInt8) (i : Nat) : -1 <= tl l i /\ tl l i <= 63 := by unfold tl; split <;> omega
theorem qgN (s : ByteArray) (i : Nat) (w : World) (hi : i <= 3) :
 Calls Tryz.prog 212 #[.string s, .int .i64 i] w fun e w' => e = .returned (.int .i64 (tl s.data.toList i)) /\ w = w' := by
 by_cases h : i < s.size
 ·have hw : ∀ b : UInt8, wrap64 (b.toNat : Int) = b.toNat := qif
  go_enter Tryz.func212, Tryz.ntmps212
  go_wp2
  all_goals
   go_ret
   refine ⟨qmt ?_, rfl⟩
   unfold tl
   rw [qgw s i h]
   first | rw [if_pos ⟨by rw [<- qaF]; exact h, by omega, by omega⟩] | rw [if_neg (by omega)]
 ·go_enter Tryz.func212, Tryz.ntmps212
  go_wp2
  go_ret
  exact ⟨qmt (by unfold tl; rw [if_neg (by rw [<- qaF]; omega)]), rfl⟩
theorem tail1 (s : ByteArray) (w : World) : Calls Tryz.prog 212 #[.string s, .int .i64 1] w fun e w' => e = .returned (.int .i64 (tl s.data.toList 1)) /\ w = w' := qgN s 1 w (by omega)
theorem tail2 (s : ByteArray) (w : World) : Calls Tryz.prog 212 #[.string s, .int .i64 2] w fun e w' => e = .returned (.int .i64 (tl s.data.toList 2)) /\ w = w' := qgN s 2 w (by omega)
theorem tail3 (s : ByteArray) (w : World) : Calls Tryz.prog 212 #[.string s, .int .i64 3] w fun e w' => e = .returned (.int .i64 (tl s.data.toList 3)) /\ w = w' := qgN s 3 w (by omega)
def stepZ (a b c d : Int) : Int × Int × Bool :=
 if a < 128 then (a, 1, true)
 else if 192 <= a /\ a < 224 /\ 0 <= b /\ 128 <= (a - 192) * 64 + b then ((a - 192) * 64 + b, 2, true)
 else if 224 <= a /\ a < 240 /\ 0 <= b /\ 0 <= c /\ 2048 <= (a - 224) * 4096 + b * 64 + c /\ ((a - 224) * 4096 + b * 64 + c < 55296 ∨ 57343 < (a - 224) * 4096 + b * 64 + c) then ((a - 224) * 4096 + b * 64 + c, 3, true)
 else if 240 <= a /\ a < 248 /\ 0 <= b /\ 0 <= c /\ 0 <= d /\ 65536 <= (a - 240) * 262144 + b * 4096 + c * 64 + d /\ (a - 240) * 262144 + b * 4096 + c * 64 + d <= 1114111 then ((a - 240) * 262144 + b * 4096 + c * 64 + d, 4, true)
 else (65533, 1, false)
def okR (x : Nat × Nat) : Bool := !(x.1 == 65533 && x.2 == 1)
def triple (x : Int × Int × Bool) : Ending := .returned (.tuple #[.int .i64 x.1, .int .i64 x.2.1, .bool x.2.2])
theorem qmW {a b : Int} {c : Bool} {x : Int × Int × Bool} (h : x = (a, b, c)) : Ending.returned (.tuple #[.int .i64 a, .int .i64 b, .bool c]) = triple x := by rw [h]; rfl
theorem qgQ (l : List UInt8) (i : Nat) (h : 1 <= i) : (tl l i = -1 /\ ¬ (i < l.length /\ (l.getD i 0).toNat / 64 = 2)) ∨ (0 <= tl l i /\ (i < l.length /\ (l.getD i 0).toNat / 64 = 2) /\ tl l i = ((l.getD i 0).toNat % 64 : Nat)) := by
 have hb := qem l i
 unfold tl
 by_cases c : i < l.length /\ 128 <= (l.getD i 0).toNat /\ (l.getD i 0).toNat < 192
 ·rw [if_pos c]
  right
  refine ⟨by omega, ⟨c.1, by omega⟩, by omega⟩
 ·rw [if_neg c]
  left
  exact ⟨rfl, by omega⟩
theorem qmG (l : List UInt8) : stepZ (l.getD 0 0).toNat (tl l 1) (tl l 2) (tl l 3) = (((dec l).1 : Int), ((dec l).2 : Int), okR (dec l)) := by
 have h0 := qem l 0
 have f1 := qgQ l 1 (by omega)
 have f2 := qgQ l 2 (by omega)
 have f3 := qgQ l 3 (by omega)
 have r1 := qdv l 1
 have r2 := qdv l 2
 have r3 := qdv l 3
 unfold dec
 generalize (l.getD 0 0).toNat = b0 at *
 generalize (l.getD 1 0).toNat = b1 at *
 generalize (l.getD 2 0).toNat = b2 at *
 generalize (l.getD 3 0).toNat = b3 at *
 generalize tl l 1 = t1 at *
 generalize tl l 2 = t2 at *
 generalize tl l 3 = t3 at *
 generalize l.length = n at *
 by_cases c1 : b0 < 128
 ·rw [dN1 _ _ _ _ _ c1]
  unfold stepZ
  rw [if_pos (by omega)]
  have : okR (b0, 1) = true := by unfold okR; simp; omega
  rw [this]; rfl
 by_cases c2 : b0 / 32 = 6
 ·by_cases g : good2 n b0 b1
  ·rw [(dN2 n b0 b1 b2 b3 c2).1 g]
   unfold good2 at g
   unfold stepZ
   rw [if_neg (by omega), if_pos (by omega)]
   have : okR (b0 % 32 * 64 + b1 % 64, 2) = true := by unfold okR; simp
   rw [this]
   refine Prod.ext ?_ (Prod.ext rfl rfl)
   simp only; omega
  ·rw [(dN2 n b0 b1 b2 b3 c2).2 g]
   unfold good2 at g
   unfold stepZ
   rw [if_neg (by omega), if_neg (by omega), if_neg (by omega), if_neg (by omega)]
   rfl
 by_cases c3 : b0 / 16 = 14
 ·by_cases g : good3 n b0 b1 b2
  ·rw [(dN3 n b0 b1 b2 b3 c3).1 g]
   unfold good3 at g
   unfold stepZ
   rw [if_neg (by omega), if_neg (by omega), if_pos (by omega)]
   have : okR (b0 % 16 * 4096 + b1 % 64 * 64 + b2 % 64, 3) = true := by unfold okR; simp
   rw [this]
   refine Prod.ext ?_ (Prod.ext rfl rfl)
   simp only; omega
  ·rw [(dN3 n b0 b1 b2 b3 c3).2 g]
   unfold good3 at g
   unfold stepZ
   rw [if_neg (by omega), if_neg (by omega), if_neg (by omega), if_neg (by omega)]
   rfl
 by_cases c4 : b0 / 8 = 30
 ·by_cases g : good4 n b0 b1 b2 b3
  ·rw [(dN4 n b0 b1 b2 b3 c4).1 g]
   unfold good4 at g
   unfold stepZ
   rw [if_neg (by omega), if_neg (by omega), if_neg (by omega), if_pos (by omega)]
   have : okR (b0 % 8 * 262144 + b1 % 64 * 4096 + b2 % 64 * 64 + b3 % 64, 4) = true := by unfold okR; simp
   rw [this]
   refine Prod.ext ?_ (Prod.ext rfl rfl)
   simp only; omega
  ·rw [(dN4 n b0 b1 b2 b3 c4).2 g]
   unfold good4 at g
   unfold stepZ
   rw [if_neg (by omega), if_neg (by omega), if_neg (by omega), if_neg (by omega)]
   rfl
 rw [dN0 _ _ _ _ _ c1 c2 c3 c4]
 unfold stepZ
 rw [if_neg (by omega), if_neg (by omega), if_neg (by omega), if_neg (by omega)]
 rfl
def stepE (l : List UInt8) : Ending := .returned (.tuple #[.int .i64 ((dec l).1 : Int), .int .i64 ((dec l).2 : Int), .bool (okR (dec l))])
theorem stepZ_E (l : List UInt8) : triple (stepZ (l.getD 0 0).toNat (tl l 1) (tl l 2) (tl l 3)) = stepE l := by rw [qmG]; rfl
theorem step_any (s : ByteArray) (w : World) (h : 0 < s.size) :
 Calls Tryz.prog 200 #[.string s] w fun e w' => e = stepE s.data.toList /\ w = w' := by
 have r1 := qdv s.data.toList 1
 have r2 := qdv s.data.toList 2
 have r3 := qdv s.data.toList 3
 obtain ⟨r10, r11⟩ := r1
 obtain ⟨r20, r21⟩ := r2
 obtain ⟨r30, r31⟩ := r3
 obtain ⟨a, hw, ha, h0, h1⟩ : ∃ a : Int, wrap64 ((s[0]'h).toNat : Int) = a /\ Hid (stepE s.data.toList = triple (stepZ a (tl s.data.toList 1) (tl s.data.toList 2) (tl s.data.toList 3))) /\ 0 <= a /\ a <= 255 := by
  have hb := (s[0]'h).toNat_lt
  exact ⟨((s[0]'h).toNat : Int), qif _, hid (by rw [<- stepZ_E, qgw s 0 h]), by omega, by omega⟩
 rw [ha.out]
 rcases (show a < 128 ∨ (128 <= a /\ a < 192 /\ a < 224 /\ a < 240) ∨ (128 <= a /\ 192 <= a /\ a < 224 /\ a < 240) ∨ (128 <= a /\ 192 <= a /\ 224 <= a /\ a < 240) ∨ (128 <= a /\ 192 <= a /\ 224 <= a /\ 240 <= a /\ a < 248) ∨ (128 <= a /\ 192 <= a /\ 224 <= a /\ 240 <= a /\ 248 <= a) by omega) with k | ⟨k1, k2, k3, k4⟩ | ⟨k1, k2, k3, k4⟩ | ⟨k1, k2, k3, k4⟩ | ⟨k1, k2, k3, k4, k5⟩ | ⟨k1, k2, k3, k4, k5⟩
 all_goals
  go_enter Tryz.func200, Tryz.ntmps200
  go_wp2_with (go_at_call 212; first | ((with_reducible refine (tail1 s _).mono ?_); rintro e w' ⟨rfl, rfl⟩) | ((with_reducible refine (tail2 s _).mono ?_); rintro e w' ⟨rfl, rfl⟩) | ((with_reducible refine (tail3 s _).mono ?_); rintro e w' ⟨rfl, rfl⟩))
 all_goals
  go_ret3
  refine ⟨qmW ?_, rfl⟩
  unfold stepZ
  repeat (first | rw [if_pos (by omega)] | rw [if_neg (by omega)])
  try rw [hw]
end Go.Proofs.YtomaaidhmccngaaGreatDoor.L2
namespace Go.Proofs.YtomaaidhmccngaaGreatDoor.L2
open Go.RowKit Go.Lib
def allOk (l : List UInt8) : Bool := (runes l).all okR
theorem qkT : allOk [] = true := rfl
theorem qjH {l : List UInt8} (h : l ≠ []) : allOk l = (okR (dec l) && allOk (l.drop (dec l).2)) := by unfold allOk; rw [qc8 h]; rfl
theorem qjr {s : ByteArray} (h : 0 < s.size) : s.data.toList ≠ [] := by
 intro e; rw [qaF, e] at h; exact absurd h (by simp)
theorem is_nil {s : ByteArray} (h : ¬ 0 < s.size) : s.data.toList = [] := by
 rw [qaF] at h; exact List.length_eq_zero_iff.1 (by omega)
theorem intInfo : (Tryz.prog.info? 3).map (fun i => (i.zero, i.size, i.bytes)) = some (some (.int .i64 0), 1, 8) := by kernel_rfl
def strSize : Value -> Nat | .string x => x.size | _ => 0
def runesPost (l : List UInt8) (w : World) (e : Ending) (w' : World) : Prop :=
 ∃ v : Value, e = .returned (.tuple #[v, .bool (allOk l)]) /\ w'.ownsRow w.heap.size 3 1 v (nums l).length ((nums l).map (Value.int .i64)) /\ Below w.heap.size w w'
def runesRel (l : List UInt8) (w : World) (s0 v b : Value) (wr : World) : Prop :=
 ∃ (x : ByteArray) (done : List Int) (a : Bool), s0 = .string x /\ b = .bool a /\ x.size <= l.length /\ done.length + x.size <= l.length /\ nums l = done ++ nums x.data.toList /\ allOk l = (a && allOk x.data.toList) /\
   wr.ownsRow w.heap.size 3 1 v done.length (done.map (Value.int .i64)) /\ Below w.heap.size w wr
theorem qgI {l : List UInt8} {x : ByteArray} {done : List Int} {a : Bool} (hx : 0 < x.size) (hd : done.length + x.size <= l.length) (h1 : nums l = done ++ nums x.data.toList) (h2 : allOk l = (a && allOk x.data.toList)) :
 nums l = (done ++ [((dec x.data.toList).1 : Int)]) ++ nums (x.extract (dec x.data.toList).2 x.size).data.toList /\ allOk l = ((a && okR (dec x.data.toList)) && allOk (x.extract (dec x.data.toList).2 x.size).data.toList) /\
 (done ++ [((dec x.data.toList).1 : Int)]).length + (x.extract (dec x.data.toList).2 x.size).size <= l.length := by
 have hf := qb8 x.data.toList (qjr hx)
 rw [extract_to_end, tail_size]
 refine ⟨?_, ?_, ?_⟩
 ·rw [h1, qhz (qjr hx)]; simp
 ·rw [h2, qjH (qjr hx)]; simp [Bool.and_assoc]
 ·rw [List.length_append, List.length_singleton]; rw [<- qaF] at hf; omega
theorem qm1 (s : ByteArray) (w : World) (hs : s.size <= 1000000) : Calls Tryz.prog 178 #[.string s] w (runesPost s.data.toList w) := by
 obtain ⟨i0, hi, hz0, hz1, hz2⟩ := info_parts intInfo
 have hs' : s.data.toList.length <= 1000000 := by rw [<- qaF]; exact hs
 go_enter Tryz.func178, Tryz.ntmps178
 go_wp2
 go_loopw [0, 4, 5] (fun s0 v b wr => runesRel s.data.toList w s0 v b wr) (fun s0 _ _ _ => strSize s0)
 case atStart => exact ⟨s, [], true, rfl, rfl, by rw [qaF]; exact Nat.le_refl _, by rw [qaF]; simp, rfl, rfl, World.ownsRow_nil _ _ _ _, Below.refl _ _⟩
 case round =>
  obtain ⟨x, done, a, rfl, rfl, hx, hd, hn, ha, hown, hb⟩ := hrel
  by_cases hlt : 0 < x.size
  ·have hf := qb8 x.data.toList (qjr hlt)
   rw [<- qaF] at hf
   obtain ⟨f1, f2, f3, _⟩ := hf
   have R := qgI hlt hd hn ha
   obtain ⟨R1, R2, R3⟩ := R
   have HR := hid R1
   have HR2 := hid R2
   have HN := hid hn
   have HA := hid ha
   clear R1 R2 hn ha
   go_wp2_with (first
    | (go_at_call 200; (with_reducible refine (step_any x _ hlt).mono ?_); unfold stepE; rintro e w' ⟨rfl, rfl⟩)
    | (at_builtin; refine wpList_append_own _ rfl _ _ 79 rfl w.heap.size 3 i0 (.int .i64 0) 1 8 Tryz.underlying79 hi hz0 hz1 hz2 rfl (by decide) _ _ _ rfl (hown.alloc _) ⟨wr.heap.size, 0, none⟩ 1 1 [.int .i64 ((dec x.data.toList).1 : Int)] rfl rfl ?c1 ?c2 ?c3 ?c4 ?c5 ?_))
   case c1 =>
    intro j u hj
    match j, hj with
    | 0, hj => simp at hj; subst hj; simp [Addr.add]
   case c2 => intro u hu; simp at hu; subst hu; rfl
   case c3 => unfold maxLen; omega
   case c4 => omega
   case c5 => have := hb.size; simp; omega
   intro v' w1 hown' hgrow hn0
   have hown2 : w1.ownsRow w.heap.size 3 1 v' (done ++ [((dec x.data.toList).1 : Int)]).length ((done ++ [((dec x.data.toList).1 : Int)]).map (Value.int .i64)) := by
    rw [List.length_append, List.length_singleton, List.map_append]; exact hown'
   have hb2 : Below w.heap.size w w1 := (hb.alloc hb.size _).grown hgrow (by have := hb.size; simp; omega) (fun k hk => (hown.lt k hk).1)
   have HO := hid hown2
   clear hown2 hown' hgrow hown hn0
   cases a
   all_goals
    go_wp2
    go_roundw
    case rel => exact ⟨_, _, _, rfl, rfl, by rw [tail_size]; omega, R3, HR.out, HR2.out, HO.out, hb2⟩
    case measure => show (x.extract _ x.size).size < x.size; rw [tail_size]; omega
  ·go_wp2
   go_ret2
   have e := is_nil hlt
   rw [e] at hn ha
   rw [qjw, List.append_nil] at hn
   rw [qkT, Bool.and_true] at ha
   refine ⟨_, by rw [ha]; rfl, by rw [hn]; exact hown, hb⟩
def Reads (w : World) (B : Nat) (A : Option Addr) (zs : List Int) : Prop :=
 zs = [] ∨ ∃ g, A = some ⟨g, 0, none⟩ /\ B <= g /\ g < w.heap.size /\ ∀ j, j < zs.length -> w.cell? ⟨g, j, none⟩ = some (.int .i64 (zs.getD j 0))
theorem qhA {w : World} {B : Nat} {e : TypeId} {v : Value} {zs : List Int} (h : w.ownsRow B e 1 v zs.length (zs.map (Value.int .i64))) : ∃ A cap, v = .slice A zs.length cap /\ Reads w B A zs := by
 have hl := h.lt
 have hc := fun (g : Nat) (hg : v.ownBlock = some g) => h.cells hg
 rcases h.2 with ⟨rfl, h0⟩ | ⟨g, cap, cur, rfl, _⟩
 ·have e : zs = [] := List.length_eq_zero_iff.1 h0
  exact ⟨none, 0, by rw [h0], Or.inl e⟩
 ·refine ⟨_, cap, rfl, Or.inr ⟨g, rfl, (hl g rfl).1, (hl g rfl).2, fun j hj => ?_⟩⟩
  have hx := hc g rfl j (.int .i64 (zs.getD j 0)) (by rw [List.getElem?_map, List.getD_eq_getElem?_getD, List.getElem?_eq_getElem hj]; rfl)
  rwa [show (⟨g, 0, none⟩ : Addr).add j = ⟨g, j, none⟩ by unfold Addr.add; split <;> simp_all] at hx
def runesAt (l : List UInt8) (w : World) (e : Ending) (w' : World) : Prop :=
 ∃ (A : Option Addr) (cap : Nat), e = .returned (.tuple #[.slice A (nums l).length cap, .bool (allOk l)]) /\ Reads w' w.heap.size A (nums l) /\ Below w.heap.size w w'
theorem qeP (s : ByteArray) (w : World) (hs : s.size <= 1000000) : Calls Tryz.prog 178 #[.string s] w (runesAt s.data.toList w) := by
 refine (qm1 s w hs).mono ?_
 rintro e w' ⟨v, rfl, ho, hb⟩
 obtain ⟨A, cap, rfl, hr⟩ := qhA ho
 exact ⟨A, cap, rfl, hr, hb⟩
def strOf (l : List UInt8) : ByteArray := ⟨l.toArray⟩
theorem qdt (l : List UInt8) : (strOf l).data.toList = l := by simp [strOf]
theorem qb6 (l : List UInt8) : (strOf l).size = l.length := by rw [qaF, qdt]
theorem strOf_eq (s : ByteArray) : strOf s.data.toList = s := by cases s; simp [strOf]
theorem qj9 {s : ByteArray} {l : List UInt8} (h : s.data.toList = l) : s = strOf l := by rw [<- h, strOf_eq]
end Go.Proofs.YtomaaidhmccngaaGreatDoor.L2
namespace Go.Proofs.YtomaaidhmccngaaGreatDoor.L2
open Go.RowKit Go.Lib
def chkF : Nat -> List Int -> Bool
 | k, [] => decide (k ≠ 0)
 | k, c :: r => !(decide (k = 32) || !ltr c || (decide (k = 0) && !led c)) && chkF (k + 1) r
def chk (l : List UInt8) : Bool := chkF 0 (nums l)
def errOf (b : Bool) : Int := if b then 0 else 20
theorem chkF_bad {k : Nat} {c : Int} {r : List Int} (h : (decide (k = 32) || !ltr c || (decide (k = 0) && !led c)) = true) : chkF k (c :: r) = false := by
 rw [chkF, h]; rfl
theorem qln {k : Nat} {c : Int} {r : List Int} (h : (decide (k = 32) || !ltr c || (decide (k = 0) && !led c)) = false) : chkF k (c :: r) = chkF (k + 1) r := by
 rw [chkF, h]; rfl
theorem qlu {s : ByteArray} {pos : Nat} (h : pos < s.size) : s.data.toList.drop pos ≠ [] := by
 intro e; have := congrArg List.length e; rw [List.length_drop, <- qaF] at this; simp at this; omega
theorem drop_nil {s : ByteArray} {pos : Nat} (h : ¬ pos < s.size) : s.data.toList.drop pos = [] := List.drop_eq_nil_of_le (by rw [<- qaF]; omega)
theorem qaD (s : ByteArray) (w : World) (hs : s.size <= 9223372036854775807) :
 Calls Tryz.prog 197 #[.string s] w fun e w' => e = .returned (.int .i64 (errOf (chk s.data.toList))) /\ Below w.heap.size w w' := by
 go_enter Tryz.func197, Tryz.ntmps197
 go_wp2
 go_loopw [3] (fun n wr => ∃ pos k : Nat, wr = w.iter s pos /\ pos <= s.size /\ k <= 32 /\ n = .int .i64 k /\ Hid (chkF k (nums (s.data.toList.drop pos)) = chk s.data.toList)) (fun _ wr => s.size - wr.iterPos w.heap.size)
 case atStart => exact ⟨0, 0, rfl, Nat.zero_le _, by omega, rfl, hid rfl⟩
 case round =>
  obtain ⟨pos, k, rfl, hp, hk32, rfl, hk⟩ := hrel
  by_cases hlt : pos < s.size
  ·have hne := qlu hlt
   have hf := qb8 _ hne
   have hda := qls s pos
   rw [List.length_drop, <- qaF] at hf
   obtain ⟨f1, f2, f3, _⟩ := hf
   have hnx : ∀ ty, (Instr.next (.pointer (some ⟨w.heap.size, 0, none⟩)) true ty).run Tryz.prog (w.iter s pos) = _ := fun ty => (run_next_any w s pos ty hlt).trans (by rw [hda])
   have hcons := qhz hne
   rw [List.drop_drop] at hcons
   have hk' := hk.out
   rw [hcons] at hk'
   clear hda hcons hne hk
   by_cases g : (decide (k = 32) || !ltr ((dec (s.data.toList.drop pos)).1 : Int) || (decide (k = 0) && !led ((dec (s.data.toList.drop pos)).1 : Int))) = true
   ·rw [chkF_bad g] at hk'
    have HK := hid hk'
    clear hk'
    have hE : Hid (Ending.returned (.int .i64 20) = .returned (.int .i64 (errOf (chk s.data.toList)))) := hid (by rw [<- HK.out]; rfl)
    clear HK
    cases h1 : ltr ((dec (s.data.toList.drop pos)).1 : Int)
    all_goals
     cases h2 : led ((dec (s.data.toList.drop pos)).1 : Int)
    all_goals
     have H1 := hid h1
     have H2 := hid h2
     rw [h1, h2] at g
     clear h1 h2
     by_cases k1 : k = 32
     ·subst k1
      clear g
      go_wp2
      go_ret
      exact ⟨hE.out, (Below.refl _ _).alloc (Nat.le_refl _) _⟩
     ·have k1' : ((k : Int) == 32) = false := by simp; omega
      by_cases k2 : k = 0
      ·subst k2
       first
        | (simp at g; done)
        | (clear g
           go_wp2_with (first
            | (go_at_call 208; refine (qdn _ _).mono ?_; rw [H1.out]; rintro e w' ⟨rfl, rfl⟩)
            | (go_at_call 209; refine (qff _ _).mono ?_; rw [H2.out]; rintro e w' ⟨rfl, rfl⟩))
           go_ret
           exact ⟨hE.out, (Below.refl _ _).alloc (Nat.le_refl _) _⟩)
      ·have k2' : ((k : Int) == 0) = false := by simp; omega
       first
        | (simp [k1, k2] at g; done)
        | (clear g
           go_wp2_with (first
            | (go_at_call 208; refine (qdn _ _).mono ?_; rw [H1.out]; rintro e w' ⟨rfl, rfl⟩)
            | (go_at_call 209; refine (qff _ _).mono ?_; rw [H2.out]; rintro e w' ⟨rfl, rfl⟩))
           go_ret
           exact ⟨hE.out, (Below.refl _ _).alloc (Nat.le_refl _) _⟩)
   ·have g' : (decide (k = 32) || !ltr ((dec (s.data.toList.drop pos)).1 : Int) || (decide (k = 0) && !led ((dec (s.data.toList.drop pos)).1 : Int))) = false := by simpa using g
    rw [qln g'] at hk'
    have HK := hid hk'
    clear hk' g
    simp only [Bool.or_eq_false_iff, decide_eq_false_iff_not, Bool.not_eq_false'] at g'
    obtain ⟨⟨g1, g2⟩, g3⟩ := g'
    have k1' : ((k : Int) == 32) = false := by simp; omega
    have H1 := hid g2
    clear g2
    by_cases k2 : k = 0
    ·subst k2
     have H2 : Hid (led ((dec (s.data.toList.drop pos)).1 : Int) = true) := hid (by simpa using g3)
     clear g3
     go_wp2_with (first
      | (go_at_call 208; refine (qdn _ _).mono ?_; rw [H1.out]; rintro e w' ⟨rfl, rfl⟩)
      | (go_at_call 209; refine (qff _ _).mono ?_; rw [H2.out]; rintro e w' ⟨rfl, rfl⟩))
     go_roundw
     case rel => exact ⟨pos + (dec (s.data.toList.drop pos)).2, 0 + 1, rfl, by omega, by omega, by go_num, HK⟩
     case measure => simp; omega
    ·have k2' : ((k : Int) == 0) = false := by simp; omega
     clear g3
     go_wp2_with (first
      | (go_at_call 208; refine (qdn _ _).mono ?_; rw [H1.out]; rintro e w' ⟨rfl, rfl⟩))
     go_roundw
     case rel => exact ⟨pos + (dec (s.data.toList.drop pos)).2, k + 1, rfl, by omega, by omega, by go_num, HK⟩
     case measure => simp; omega
  ·have hnx : ∀ ty, (Instr.next (.pointer (some ⟨w.heap.size, 0, none⟩)) true ty).run Tryz.prog (w.iter s pos) = _ := fun ty => run_next_end w s pos ty hlt
   have hk' := hk.out
   rw [drop_nil hlt, qjw] at hk'
   by_cases k2 : k = 0
   ·subst k2
    have HK := hid hk'
    clear hk' hk
    go_wp2
    go_ret
    exact ⟨by rw [<- HK.out]; rfl, (Below.refl _ _).alloc (Nat.le_refl _) _⟩
   ·have k2' : ((k : Int) == 0) = false := by simp; omega
    have hk2 : true = chk s.data.toList := by rw [<- hk', chkF]; simp [k2]
    have HK := hid hk2
    clear hk' hk hk2
    go_wp2
    go_ret
    exact ⟨by rw [<- HK.out]; rfl, (Below.refl _ _).alloc (Nat.le_refl _) _⟩
end Go.Proofs.YtomaaidhmccngaaGreatDoor.L2
namespace Go.Proofs.YtomaaidhmccngaaGreatDoor.L2
open Go.RowKit Go.Lib
theorem nxt {B : Nat} {w w1 w2 : World} (h1 : Below B w w1) (h2 : Below w1.heap.size w1 w2) (hB : B <= w1.heap.size) : Below B w w2 := h1.trans (h2.mono hB)
theorem qdE (s : ByteArray) (w : World) (hs : s.size <= 1000000) :
 Calls Tryz.prog 131 #[.string s] w fun e w' => e = .returned (.string s) /\ Below w.heap.size w w' := by
 go_enter Tryz.func131, Tryz.ntmps131
 go_wp2_with (go_at_call 160; refine (Tryz.stringslite_Clone _ _ (by omega)).mono ?_; rintro e w1 ⟨rfl, hb1⟩)
 go_ret
 exact ⟨rfl, hb1⟩
end Go.Proofs.YtomaaidhmccngaaGreatDoor.L2
namespace Go.Proofs.YtomaaidhmccngaaGreatDoor.L2
open Go.RowKit Go.Lib
end Go.Proofs.YtomaaidhmccngaaGreatDoor.L2
namespace Go.Proofs.YtomaaidhmccngaaGreatDoor.L2
open Go.RowKit Go.Lib
def Tab (w : World) : Prop := Lib.Utf8Tabs 1 2 w
theorem qbe {w : World} {a : Addr} {v : Value} (h : w.cell? a = some v) : a.block < w.heap.size := by
 rcases Nat.lt_or_ge a.block w.heap.size with hlt | hge
 ·exact hlt
 ·have e : w.heap[a.block]? = none := Array.getElem?_eq_none hge
  simp [World.cell?, e] at h
theorem Tab.kept {w w' : World} (h : Tab w) (hb : Below w.heap.size w w') : Tab w' := by
 obtain ⟨h1, h2⟩ := h
 refine ⟨fun c hc => ?_, fun i hi => ⟨?_, ?_⟩⟩
 ·have := h1 c hc
  exact (hb.cell (qbe this)).trans this
 ·have := (h2 i hi).1
  exact (hb.cell (qbe this)).trans this
 ·have := (h2 i hi).2
  exact (hb.cell (qbe this)).trans this
theorem qkg (s : ByteArray) (w : World) (hT : Tab w) (h : 0 < s.size) :
 Calls Tryz.prog 217 #[.string s] w fun e w' => e = .returned (.tuple #[.int .i32 ((dec s.data.toList).1 : Int), .int .i64 ((dec s.data.toList).2 : Int)]) /\ Below w.heap.size w w' := by
 refine (Tryz.utf8_DecodeRuneInString s w hT).mono ?_
 rintro e w' ⟨rfl, hb⟩
 have e1 : Lib.decodeGo s = dec s.data.toList := by
  unfold Lib.decodeGo
  rw [if_neg (by omega), qls, List.drop_zero]
 exact ⟨by rw [e1], hb⟩
theorem qfA (s : ByteArray) (w : World) (hT : Tab w) (h : 0 < s.size) :
 Calls Tryz.prog 216 #[.string s] w fun e w' => e = .returned (.bool (!okR (dec s.data.toList))) /\ Below w.heap.size w w' := by
 have HT := hid hT
 clear hT
 go_enter Tryz.func216, Tryz.ntmps216
 go_wp2_with (go_at_call 217; refine (qkg _ _ HT.out h).mono ?_; rintro e w1 ⟨rfl, hb1⟩)
 all_goals
  go_ret
  refine ⟨qdX ?_, hb1⟩
  unfold okR
  rw [Bool.eq_iff_iff]
  simp only [beq_iff_eq, beq_eq_false_iff_ne, bne_iff_ne, ne_eq, decide_eq_true_eq, Bool.false_eq_true, Bool.and_eq_true, Bool.or_eq_true, Bool.not_not, true_iff, false_iff, iff_true, iff_false] at *
  omega
end Go.Proofs.YtomaaidhmccngaaGreatDoor.L2
namespace Go.Proofs.YtomaaidhmccngaaGreatDoor.L2
open Go.RowKit Go.Lib
end Go.Proofs.YtomaaidhmccngaaGreatDoor.L2
namespace Go.Proofs.YtomaaidhmccngaaGreatDoor.L2
open Go.RowKit Go.Lib
end Go.Proofs.YtomaaidhmccngaaGreatDoor.L2
namespace Go.Proofs.YtomaaidhmccngaaGreatDoor.L2
open Go.RowKit Go.Lib
theorem qfI : ∀ (r : List Int) (k : Nat), 1 <= k -> k <= 32 -> chkF k r = (decide (k + r.length <= 32) && r.all ltr)
 | [], k, h1, h => by rw [chkF, decide_eq_true (show k ≠ 0 by omega), List.length_nil, decide_eq_true (show k + 0 <= 32 by omega)]; rfl
 | c :: r, k, h1, h => by
   rw [chkF]
   by_cases e : k = 32
   ·subst e; rw [List.length_cons, decide_eq_false (show ¬ 32 + (r.length + 1) <= 32 by omega)]; simp
   ·rw [qfI r (k + 1) (by omega) (by omega)]
    have e0 : decide (k = 32) = false := by simp [e]
    have e1 : decide (k = 0) = false := by simp; omega
    rw [e0, e1, List.all_cons, List.length_cons, show k + 1 + r.length = k + (r.length + 1) by omega]
    cases ltr c <;> simp
theorem qio (l : List UInt8) : chk l = true ↔ 1 <= (nums l).length /\ (nums l).length <= 32 /\ led ((nums l).getD 0 0) = true /\ (nums l).all ltr = true := by
 unfold chk
 cases h : nums l with
 | nil => simp [chkF]
 | cons c r =>
   rw [chkF, qfI r 1 (by omega) (by omega)]
   simp only [List.length_cons, List.getD_cons_zero, List.all_cons]
   cases ltr c <;> cases led c <;> simp <;> omega
theorem ok_num {x : Nat × Nat} (h : okR x = false) : x.1 = 65533 := by
 unfold okR at h; simp at h; exact h.1
theorem bad_all {l : List UInt8} (h : allOk l = false) : (nums l).all ltr = false := by
 unfold allOk at h
 rw [List.all_eq_false] at h ⊢
 obtain ⟨x, hx, hb⟩ := h
 refine ⟨(x.1 : Int), List.mem_map.2 ⟨x, hx, rfl⟩, ?_⟩
 rw [ok_num (by simpa using hb)]
 decide
theorem qfJ {l : List UInt8} (h : allOk l = false ∨ (nums l).length < 1 ∨ 32 < (nums l).length ∨ led ((nums l).getD 0 0) = false ∨ (nums l).all ltr = false) : chk l = false := by
 rw [<- Bool.not_eq_true, qio]
 rintro ⟨a, b, c, d⟩
 rcases h with h | h | h | h | h
 ·rw [bad_all h] at d; cases d
 ·omega
 ·omega
 ·rw [h] at c; cases c
 ·rw [h] at d; cases d
theorem qec (f : Int -> Bool) (l : List Int) (k : Nat) (h : k < l.length) : (l.take (k + 1)).all f = ((l.take k).all f && f (l.getD k 0)) := by
 rw [List.take_succ_eq_append_getElem h, List.all_append, List.all_cons, List.all_nil, Bool.and_true, List.getD_eq_getElem?_getD, List.getElem?_eq_getElem h]; rfl
theorem all_no (f : Int -> Bool) (l : List Int) (k : Nat) (h : k < l.length) (hk : f (l.getD k 0) = false) : l.all f = false := by
 rw [List.all_eq_false]
 refine ⟨l.getD k 0, ?_, by rw [hk]; simp⟩
 rw [List.getD_eq_getElem?_getD, List.getElem?_eq_getElem h]
 exact List.getElem_mem h
theorem qa2 (s : ByteArray) (w : World) (hs : s.size <= 1000000) :
 Calls Tryz.prog 148 #[.string s] w fun e w' => e = .returned (.bool (chk s.data.toList)) /\ Below w.heap.size w w' := by
 have hlen := qhR s.data.toList
 rw [<- qcG, <- qaF] at hlen
 obtain ⟨n, hn⟩ : ∃ n : Nat, (nums s.data.toList).length = n := ⟨_, rfl⟩
 rw [hn] at hlen
 have HN := hid hn
 clear hn
 cases hok : allOk s.data.toList
 ·have hc := qfJ (l := s.data.toList) (Or.inl hok)
  have HC := hid hc
  have HO := hid hok
  clear hc hok
  go_enter Tryz.func148, Tryz.ntmps148
  go_wp2_with (go_at_call 178; refine (qeP _ _ hs).mono ?_; unfold runesAt; rw [HN.out, HO.out]; rintro e w2 ⟨A, cap, rfl, hr, hb2⟩; clear hr)
  go_ret
  exact ⟨by rw [HC.out]; rfl, hb2⟩
 have HO := hid hok
 clear hok
 go_enter Tryz.func148, Tryz.ntmps148
 go_wp2_with fail
 refine (qeP _ _ hs).mono ?_
 unfold runesAt
 rw [HN.out, HO.out]
 rintro e w2 ⟨A, cap, rfl, hr, hb2⟩
 rcases hr with hr | ⟨g, rfl, hB, hlt, hcell⟩
 ·have h0 : n = 0 := by have := HN.out; rw [hr] at this; exact this.symm
  subst h0
  have hc := qfJ (l := s.data.toList) (Or.inr (Or.inl (by rw [HN.out]; omega)))
  have HC := hid hc
  clear hc hr
  go_wp2
  go_ret
  exact ⟨by rw [HC.out]; rfl, hb2⟩
 rw [HN.out] at hcell
 have HCELL := hid hcell
 clear hcell
 by_cases h1 : n < 1
 ·have hc := qfJ (l := s.data.toList) (Or.inr (Or.inl (by rw [HN.out]; omega)))
  have h0 : n = 0 := by omega
  subst h0
  have HC := hid hc
  clear hc
  go_wp2
  go_ret
  exact ⟨by rw [HC.out]; rfl, hb2⟩
 by_cases h32 : 32 < n
 ·have hc := qfJ (l := s.data.toList) (Or.inr (Or.inr (Or.inl (by rw [HN.out]; omega))))
  have HC := hid hc
  clear hc
  go_wp2
  go_ret
  exact ⟨by rw [HC.out]; rfl, hb2⟩
 obtain ⟨c0, hc0⟩ : ∃ c0 : Int, (nums s.data.toList).getD 0 0 = c0 := ⟨_, rfl⟩
 have hcell0 := HCELL.out 0 (by omega)
 rw [hc0] at hcell0
 have HC0 := hid hc0
 clear hc0
 by_cases hled : led c0 = true
 ·have hl : c0 ≠ 45 /\ ¬ (48 <= c0 /\ c0 <= 57) := by unfold led at hled; simp only [decide_eq_true_eq] at hled; exact hled
  have hl1 : (c0 == 45) = false := by simpa using hl.1
  have HLED := hid hled
  rcases (show c0 < 48 ∨ (48 <= c0 /\ 57 < c0) by omega) with hx | ⟨hx, hy⟩
  all_goals
   clear hl hled
   go_wp2
   go_loop [5] (fun i => ∃ k : Nat, k <= n /\ i = .int .i64 k /\ Hid (((nums s.data.toList).take k).all ltr = true)) (fun i => n - (RowKit.intOf i).toNat)
   case atStart => exact ⟨0, Nat.zero_le _, rfl, hid rfl⟩
   case round =>
    obtain ⟨k, hk, rfl, ha⟩ := hrel
    by_cases hkn : k < n
    ·have hck := HCELL.out k hkn
     have hts := qec ltr (nums s.data.toList) k (by rw [HN.out]; exact hkn)
     rw [ha.out] at hts
     have hno := all_no ltr (nums s.data.toList) k (by rw [HN.out]; exact hkn)
     obtain ⟨ck, hckk⟩ : ∃ ck : Int, (nums s.data.toList).getD k 0 = ck := ⟨_, rfl⟩
     rw [hckk] at hck hts hno
     clear hckk
     cases hlt2 : ltr ck
     ·have hc := qfJ (l := s.data.toList) (Or.inr (Or.inr (Or.inr (Or.inr (hno hlt2)))))
      have HC := hid hc
      have HL := hid hlt2
      clear hc hlt2 hts hno
      go_wp2_with (go_at_call 179; refine (qdV _ _).mono ?_; rw [HL.out]; rintro e w' ⟨rfl, rfl⟩)
      go_ret
      exact ⟨by rw [HC.out]; rfl, hb2⟩
     ·have HL := hid hlt2
      rw [hlt2] at hts
      have HTS := hid hts
      clear hlt2 hts hno
      go_wp2_with (go_at_call 179; refine (qdV _ _).mono ?_; rw [HL.out]; rintro e w' ⟨rfl, rfl⟩)
      go_round
      case rel => exact ⟨k + 1, by omega, by go_num, HTS⟩
      case measure => simp [RowKit.intOf]; omega
    ·have hfin := ha.out
     rw [List.take_of_length_le (by rw [HN.out]; omega)] at hfin
     have hc : chk s.data.toList = true := (qio _).2 ⟨by rw [HN.out]; omega, by rw [HN.out]; omega, by rw [HC0.out]; exact HLED.out, hfin⟩
     have HC := hid hc
     clear hc hfin
     go_wp2
     go_ret
     exact ⟨by rw [HC.out]; rfl, hb2⟩
 ·have hf : led c0 = false := by simpa using hled
  have hc := qfJ (l := s.data.toList) (Or.inr (Or.inr (Or.inr (Or.inl (by rw [HC0.out]; exact hf)))))
  have HC := hid hc
  have hl : c0 = 45 ∨ (48 <= c0 /\ c0 <= 57) := by unfold led at hf; simp only [decide_eq_false_iff_not] at hf; omega
  clear hc hf hled
  rcases hl with rfl | ⟨hx, hy⟩
  ·go_wp2
   go_ret
   exact ⟨by rw [HC.out]; rfl, hb2⟩
  ·have hl1 : (c0 == 45) = false := by simp; omega
   go_wp2
   go_ret
   exact ⟨by rw [HC.out]; rfl, hb2⟩
end Go.Proofs.YtomaaidhmccngaaGreatDoor.L2
namespace Go.Proofs.YtomaaidhmccngaaGreatDoor.L2
open Go.RowKit Go.Lib
def vch (c : Int) : Bool := decide (32 <= c /\ c ≠ 127)
def valF : Nat -> List (Nat × Nat) -> Bool
 | _, [] => true
 | k, x :: r => !(decide (k = 32) || !vch (x.1 : Int) || !okR x) && valF (k + 1) r
def vlu (l : List UInt8) : Bool := valF 0 (runes l)
theorem qgS {k : Nat} {x : Nat × Nat} {r : List (Nat × Nat)} (h : (decide (k = 32) || !vch (x.1 : Int) || !okR x) = true) : valF k (x :: r) = false := by rw [valF, h]; rfl
theorem qmZ {k : Nat} {x : Nat × Nat} {r : List (Nat × Nat)} (h : (decide (k = 32) || !vch (x.1 : Int) || !okR x) = false) : valF k (x :: r) = valF (k + 1) r := by rw [valF, h]; rfl
theorem qmY : ∀ (r : List (Nat × Nat)) (k : Nat), k <= 32 -> valF k r = (decide (k + r.length <= 32) && r.all okR && (r.map fun x => (x.1 : Int)).all vch)
 | [], k, h => by rw [valF, List.length_nil, decide_eq_true (show k + 0 <= 32 by omega)]; rfl
 | x :: r, k, h => by
   rw [valF]
   by_cases e : k = 32
   ·subst e; rw [List.length_cons, decide_eq_false (show ¬ 32 + (r.length + 1) <= 32 by omega)]; simp
   ·rw [qmY r (k + 1) (by omega), decide_eq_false e, List.length_cons, List.map_cons, List.all_cons, List.all_cons, show k + 1 + r.length = k + (r.length + 1) by omega]
    cases vch (x.1 : Int) <;> cases okR x <;> simp
theorem qnb (l : List UInt8) : vlu l = (decide ((nums l).length <= 32) && allOk l && (nums l).all vch) := by
 unfold vlu
 rw [qmY _ 0 (by omega), Nat.zero_add, qcG]; rfl
def valRel (s : ByteArray) (w : World) (n : Value) (wr : World) : Prop :=
 ∃ pos k : Nat, pos <= s.size /\ k <= 32 /\ n = .int .i64 k /\ wr.heap[w.heap.size]? = some (.stringIter s pos) /\ Below w.heap.size w wr /\ valF k (runes (s.data.toList.drop pos)) = vlu s.data.toList
theorem qna (s : ByteArray) (w : World) (hs : s.size <= 1000000) (hT : Tab w) :
 Calls Tryz.prog 211 #[.string s] w fun e w' => e = .returned (.int .i64 (errOf (vlu s.data.toList))) /\ Below w.heap.size w w' := by
 have HT := hid hT
 clear hT
 go_enter Tryz.func211, Tryz.ntmps211
 go_wp2
 go_loopw [3] (fun n wr => valRel s w n wr) (fun _ wr => s.size - wr.iterPos w.heap.size)
 case atStart => exact ⟨0, 0, Nat.zero_le _, by omega, rfl, World.iter_heap w s 0, (Below.refl _ w).alloc (Nat.le_refl _) _, rfl⟩
 case round =>
  obtain ⟨pos, k, hp, hk32, rfl, hit, hbw, hk⟩ := hrel
  have hsz : w.heap.size < wr.heap.size := (Array.getElem?_eq_some_iff.1 hit).1
  by_cases hlt : pos < s.size
  ·have hne := qlu hlt
   have hf := qb8 _ hne
   have hda := qls s pos
   rw [List.length_drop, <- qaF] at hf
   obtain ⟨f1, f2, f3, _⟩ := hf
   have hnx : ∀ ty, (Instr.next (.pointer (some ⟨w.heap.size, 0, none⟩)) true ty).run Tryz.prog wr = _ := fun ty => (Lib.run_next_any_at wr w.heap.size s pos ty hit hlt).trans (by rw [hda])
   have hit2 := Lib.iterAt_heap wr w.heap.size s pos (pos + (dec (s.data.toList.drop pos)).2) hit
   have hbw2 := Lib.below_iterAt hbw (k := w.heap.size) (Nat.le_refl _) s (pos + (dec (s.data.toList.drop pos)).2)
   have hT2 := HT.out.kept hbw2
   have hsz2 : w.heap.size < (wr.iterAt w.heap.size s (pos + (dec (s.data.toList.drop pos)).2)).heap.size := by rw [Lib.iterAt_size]; exact hsz
   have hcons := qc8 hne
   rw [List.drop_drop] at hcons
   rw [hcons] at hk
   have HP : Hid (wr.iterPos w.heap.size = pos) := hid (by simp [World.iterPos, hit])
   have hxs : 0 < (s.extract pos s.size).size := by rw [tail_size]; omega
   have hxe := extract_to_end s pos
   obtain ⟨x, hx⟩ : ∃ x : Nat × Nat, dec (s.data.toList.drop pos) = x := ⟨_, rfl⟩
   rw [hx] at hk f1 f2 f3 hnx hit2 hbw2 hT2 hsz2
   have HX := hid hx
   have HI2 := hid hit2
   have HB2 := hid hbw2
   have HT2 := hid hT2
   have HXE := hid hxe
   clear hda hcons hne hit hbw hx hit2 hbw2 hT2 hxe
   obtain ⟨c, wd⟩ := x
   simp only at f1 f2 f3 hnx
   by_cases k1 : k = 32
   ·subst k1
    rw [qgS (by simp)] at hk
    have HK := hid hk
    clear hk
    go_wp2
    go_ret
    exact ⟨by rw [<- HK.out]; rfl, HB2.out⟩
   have k1' : ((k : Int) == 32) = false := by simp; omega
   by_cases hv : vch (c : Int) = true
   ·have hv' : 32 <= (c : Int) /\ (c : Int) ≠ 127 := by unfold vch at hv; simp only [decide_eq_true_eq] at hv; exact hv
    obtain ⟨v1, v2⟩ := hv'
    have v3 : ((c : Int) == 127) = false := by simpa using v2
    cases hok : okR (c, wd)
    ·rw [qgS (by rw [hok]; simp)] at hk
     have HK := hid hk
     have HO := hid hok
     clear hk hok hv v2
     go_wp2_with (go_at_call 216; refine (qfA _ _ HT2.out hxs).mono ?_; rw [HXE.out, HX.out, HO.out]; rintro e w3 ⟨rfl, hb3⟩)
     go_ret
     exact ⟨by rw [<- HK.out]; rfl, nxt HB2.out hb3 HB2.out.size⟩
    ·rw [qmZ (by rw [hok, hv, decide_eq_false k1]; rfl)] at hk
     have HK := hid hk
     have HO := hid hok
     clear hk hok hv v2
     go_wp2_with (go_at_call 216; refine (qfA _ _ HT2.out hxs).mono ?_; rw [HXE.out, HX.out, HO.out]; rintro e w3 ⟨rfl, hb3⟩)
     have hi3 : w3.heap[w.heap.size]? = some (.stringIter s (pos + wd)) := (hb3.block _ hsz2).trans HI2.out
     go_roundw
     case rel => exact ⟨pos + wd, k + 1, by omega, by omega, by go_num, hi3, nxt HB2.out hb3 HB2.out.size, HK.out⟩
     case measure =>
      have e3 : w3.iterPos w.heap.size = pos + wd := by simp [World.iterPos, hi3]
      show s.size - w3.iterPos w.heap.size < s.size - wr.iterPos w.heap.size
      rw [e3, HP.out]; omega
   ·have hv' : (c : Int) < 32 ∨ (32 <= (c : Int) /\ (c : Int) = 127) := by
     unfold vch at hv; simp only [decide_eq_true_eq] at hv; omega
    rw [qgS (by simp [hv])] at hk
    have HK := hid hk
    clear hk hv
    rcases hv' with v1 | ⟨v1, v2⟩
    ·go_wp2
     go_ret
     exact ⟨by rw [<- HK.out]; rfl, HB2.out⟩
    ·have v3 : ((c : Int) == 127) = true := by simpa using v2
     clear v2
     go_wp2
     go_ret
     exact ⟨by rw [<- HK.out]; rfl, HB2.out⟩
  ·have hnx : ∀ ty, (Instr.next (.pointer (some ⟨w.heap.size, 0, none⟩)) true ty).run Tryz.prog wr = _ := fun ty => Lib.run_next_end_at wr w.heap.size s pos ty hit hlt
   rw [drop_nil hlt, qhS, valF] at hk
   have HK := hid hk
   clear hk
   go_wp2
   go_ret
   exact ⟨by rw [<- HK.out]; rfl, hbw⟩
theorem qnc {l : List UInt8} (h : allOk l = false ∨ 32 < (nums l).length ∨ (nums l).all vch = false) : vlu l = false := by
 rw [qnb]
 rcases h with h | h | h
 ·rw [h]; simp
 ·rw [decide_eq_false (by omega)]; simp
 ·rw [h]; simp
theorem qhJ (s : ByteArray) (w : World) (hs : s.size <= 1000000) :
 Calls Tryz.prog 149 #[.string s] w fun e w' => e = .returned (.bool (vlu s.data.toList)) /\ Below w.heap.size w w' := by
 have hlen := qhR s.data.toList
 rw [<- qcG, <- qaF] at hlen
 obtain ⟨n, hn⟩ : ∃ n : Nat, (nums s.data.toList).length = n := ⟨_, rfl⟩
 rw [hn] at hlen
 have HN := hid hn
 clear hn
 cases hok : allOk s.data.toList
 ·have hc := qnc (l := s.data.toList) (Or.inl hok)
  have HC := hid hc
  have HO := hid hok
  clear hc hok
  go_enter Tryz.func149, Tryz.ntmps149
  go_wp2_with (go_at_call 178; refine (qeP _ _ hs).mono ?_; unfold runesAt; rw [HN.out, HO.out]; rintro e w2 ⟨A, cap, rfl, hr, hb2⟩; clear hr)
  go_ret
  exact ⟨by rw [HC.out]; rfl, hb2⟩
 have HO := hid hok
 clear hok
 go_enter Tryz.func149, Tryz.ntmps149
 go_wp2_with fail
 refine (qeP _ _ hs).mono ?_
 unfold runesAt
 rw [HN.out, HO.out]
 rintro e w2 ⟨A, cap, rfl, hr, hb2⟩
 have HR := hid hr
 clear hr
 by_cases h32 : 32 < n
 ·have hc := qnc (l := s.data.toList) (Or.inr (Or.inl (by rw [HN.out]; omega)))
  have HC := hid hc
  clear hc
  go_wp2
  go_ret
  exact ⟨by rw [HC.out]; rfl, hb2⟩
 go_wp2
 go_loop [5] (fun i => ∃ k : Nat, k <= n /\ i = .int .i64 k /\ Hid (((nums s.data.toList).take k).all vch = true)) (fun i => n - (RowKit.intOf i).toNat)
 case atStart => exact ⟨0, Nat.zero_le _, rfl, hid rfl⟩
 case round =>
  obtain ⟨k, hk, rfl, ha⟩ := hrel
  by_cases hkn : k < n
  ·have hkl : k < (nums s.data.toList).length := by rw [HN.out]; exact hkn
   obtain ⟨g, hA, hck⟩ : ∃ g, A = some ⟨g, 0, none⟩ /\ w2.cell? ⟨g, k, none⟩ = some (.int .i64 ((nums s.data.toList).getD k 0)) := by
    rcases HR.out with h | ⟨g, h1, h2, h3, h4⟩
    ·rw [h] at hkl; exact absurd hkl (by simp)
    ·exact ⟨g, h1, h4 k hkl⟩
   subst hA
   have hts := qec vch (nums s.data.toList) k hkl
   rw [ha.out] at hts
   have hno := all_no vch (nums s.data.toList) k hkl
   obtain ⟨ck, hckk⟩ : ∃ ck : Int, (nums s.data.toList).getD k 0 = ck := ⟨_, rfl⟩
   rw [hckk] at hck hts hno
   clear hckk hkl
   by_cases hv : vch ck = true
   ·have hv' : 32 <= ck /\ ck ≠ 127 := by unfold vch at hv; simp only [decide_eq_true_eq] at hv; exact hv
    obtain ⟨v1, v2⟩ := hv'
    have v3 : (ck == 127) = false := by simpa using v2
    rw [hv] at hts
    have HTS := hid hts
    clear hts hno hv v2
    go_wp2
    go_round
    case rel => exact ⟨k + 1, by omega, by go_num, HTS⟩
    case measure => simp [RowKit.intOf]; omega
   ·have hvf : vch ck = false := by simpa using hv
    have hc := qnc (l := s.data.toList) (Or.inr (Or.inr (hno hvf)))
    have HC := hid hc
    have hv' : ck < 32 ∨ (32 <= ck /\ ck = 127) := by
     unfold vch at hvf; simp only [decide_eq_false_iff_not] at hvf; omega
    clear hc hts hno hv hvf
    rcases hv' with v1 | ⟨v1, rfl⟩
    all_goals
     go_wp2
     go_ret
     exact ⟨by rw [HC.out]; rfl, hb2⟩
  ·have hfin := ha.out
   rw [List.take_of_length_le (by rw [HN.out]; omega)] at hfin
   have hc : vlu s.data.toList = true := by rw [qnb, HO.out, hfin, decide_eq_true (by rw [HN.out]; omega)]; rfl
   have HC := hid hc
   clear hc hfin
   go_wp2
   go_ret
   exact ⟨by rw [HC.out]; rfl, hb2⟩
end Go.Proofs.YtomaaidhmccngaaGreatDoor.L2
