/-
  The rune at the beginning of a text, by the document's answer: the model's own.
-/
import Derived.Test.YtfoabgjcndgflaaDoorL2Letters
import Derived.Test.YtfoabgjcndgflaaDoorL2Runes
set_option linter.unusedSimpArgs false
set_option linter.unusedVariables false
namespace Go.Proofs.YtfoabgjcndgflaaDoor.L2
open Go.RowKit Go.Lib

theorem get_list (s : ByteArray) (k : Nat) (h : k < s.size) : s.data.toList.getD k 0 = s[k] := by
  rw [List.getD_eq_getElem?_getD, List.getElem?_eq_getElem (by rw [← size_len]; exact h)]; rfl
theorem wrap_byte (b : UInt8) : wrap64 (b.toNat : Int) = b.toNat := by
  have := b.toNat_lt
  unfold wrap64; omega
/-- What the i-th byte of a text brings, if it goes on. -/
def tl (l : List UInt8) (i : Nat) : Int := if i < l.length ∧ 128 ≤ (l.getD i 0).toNat ∧ (l.getD i 0).toNat < 192 then ((l.getD i 0).toNat : Int) - 128 else -1
theorem tl_range (l : List UInt8) (i : Nat) : -1 ≤ tl l i ∧ tl l i ≤ 63 := by unfold tl; split <;> omega
set_option maxRecDepth 100000 in
theorem tail_any (s : ByteArray) (i : Nat) (w : World) (hi : i ≤ 3) :
    Calls Tryd.prog 71 #[.string s, .int .i64 i] w fun e w' => e = .returned (.int .i64 (tl s.data.toList i)) ∧ w = w' := by
  by_cases h : i < s.size
  · have hw : ∀ b : UInt8, wrap64 (b.toNat : Int) = b.toNat := wrap_byte
    go_enter Tryd.func71, Tryd.ntmps71
    go_wp2
    all_goals
      go_ret
      refine ⟨ret_int ?_, rfl⟩
      unfold tl
      rw [get_list s i h]
      first | rw [if_pos ⟨by rw [← size_len]; exact h, by omega, by omega⟩] | rw [if_neg (by omega)]
  · go_enter Tryd.func71, Tryd.ntmps71
    go_wp2
    go_ret
    exact ⟨ret_int (by unfold tl; rw [if_neg (by rw [← size_len]; omega)]), rfl⟩

theorem tail1 (s : ByteArray) (w : World) : Calls Tryd.prog 71 #[.string s, .int .i64 1] w fun e w' => e = .returned (.int .i64 (tl s.data.toList 1)) ∧ w = w' := tail_any s 1 w (by omega)
theorem tail2 (s : ByteArray) (w : World) : Calls Tryd.prog 71 #[.string s, .int .i64 2] w fun e w' => e = .returned (.int .i64 (tl s.data.toList 2)) ∧ w = w' := tail_any s 2 w (by omega)
theorem tail3 (s : ByteArray) (w : World) : Calls Tryd.prog 71 #[.string s, .int .i64 3] w fun e w' => e = .returned (.int .i64 (tl s.data.toList 3)) ∧ w = w' := tail_any s 3 w (by omega)

def stepZ (a b c d : Int) : Int × Int × Bool :=
  if a < 128 then (a, 1, true)
  else if 192 ≤ a ∧ a < 224 ∧ 0 ≤ b ∧ 128 ≤ (a - 192) * 64 + b then ((a - 192) * 64 + b, 2, true)
  else if 224 ≤ a ∧ a < 240 ∧ 0 ≤ b ∧ 0 ≤ c ∧ 2048 ≤ (a - 224) * 4096 + b * 64 + c ∧ ((a - 224) * 4096 + b * 64 + c < 55296 ∨ 57343 < (a - 224) * 4096 + b * 64 + c) then ((a - 224) * 4096 + b * 64 + c, 3, true)
  else if 240 ≤ a ∧ a < 248 ∧ 0 ≤ b ∧ 0 ≤ c ∧ 0 ≤ d ∧ 65536 ≤ (a - 240) * 262144 + b * 4096 + c * 64 + d ∧ (a - 240) * 262144 + b * 4096 + c * 64 + d ≤ 1114111 then ((a - 240) * 262144 + b * 4096 + c * 64 + d, 4, true)
  else (65533, 1, false)
/-- Is it one? -/
def okR (x : Nat × Nat) : Bool := !(x.1 == 65533 && x.2 == 1)
def triple (x : Int × Int × Bool) : Ending := .returned (.tuple #[.int .i64 x.1, .int .i64 x.2.1, .bool x.2.2])
theorem triple_eq {a b : Int} {c : Bool} {x : Int × Int × Bool} (h : x = (a, b, c)) : Ending.returned (.tuple #[.int .i64 a, .int .i64 b, .bool c]) = triple x := by rw [h]; rfl

theorem tl_facts (l : List UInt8) (i : Nat) (h : 1 ≤ i) : (tl l i = -1 ∧ ¬ (i < l.length ∧ (l.getD i 0).toNat / 64 = 2)) ∨ (0 ≤ tl l i ∧ (i < l.length ∧ (l.getD i 0).toNat / 64 = 2) ∧ tl l i = ((l.getD i 0).toNat % 64 : Nat)) := by
  have hb := byte_lt l i
  unfold tl
  by_cases c : i < l.length ∧ 128 ≤ (l.getD i 0).toNat ∧ (l.getD i 0).toNat < 192
  · rw [if_pos c]
    right
    refine ⟨by omega, ⟨c.1, by omega⟩, by omega⟩
  · rw [if_neg c]
    left
    exact ⟨rfl, by omega⟩
theorem stepZ_dec (l : List UInt8) : stepZ (l.getD 0 0).toNat (tl l 1) (tl l 2) (tl l 3) = (((dec l).1 : Int), ((dec l).2 : Int), okR (dec l)) := by
  have h0 := byte_lt l 0
  have f1 := tl_facts l 1 (by omega)
  have f2 := tl_facts l 2 (by omega)
  have f3 := tl_facts l 3 (by omega)
  have r1 := tl_range l 1
  have r2 := tl_range l 2
  have r3 := tl_range l 3
  unfold dec
  generalize (l.getD 0 0).toNat = b0 at *
  generalize (l.getD 1 0).toNat = b1 at *
  generalize (l.getD 2 0).toNat = b2 at *
  generalize (l.getD 3 0).toNat = b3 at *
  generalize tl l 1 = t1 at *
  generalize tl l 2 = t2 at *
  generalize tl l 3 = t3 at *
  generalize l.length = n at *
  by_cases c1 : b0 < 128
  · rw [dN1 _ _ _ _ _ c1]
    unfold stepZ
    rw [if_pos (by omega)]
    have : okR (b0, 1) = true := by unfold okR; simp; omega
    rw [this]; rfl
  by_cases c2 : b0 / 32 = 6
  · by_cases g : good2 n b0 b1
    · rw [(dN2 n b0 b1 b2 b3 c2).1 g]
      unfold good2 at g
      unfold stepZ
      rw [if_neg (by omega), if_pos (by omega)]
      have : okR (b0 % 32 * 64 + b1 % 64, 2) = true := by unfold okR; simp
      rw [this]
      refine Prod.ext ?_ (Prod.ext rfl rfl)
      simp only; omega
    · rw [(dN2 n b0 b1 b2 b3 c2).2 g]
      unfold good2 at g
      unfold stepZ
      rw [if_neg (by omega), if_neg (by omega), if_neg (by omega), if_neg (by omega)]
      rfl
  by_cases c3 : b0 / 16 = 14
  · by_cases g : good3 n b0 b1 b2
    · rw [(dN3 n b0 b1 b2 b3 c3).1 g]
      unfold good3 at g
      unfold stepZ
      rw [if_neg (by omega), if_neg (by omega), if_pos (by omega)]
      have : okR (b0 % 16 * 4096 + b1 % 64 * 64 + b2 % 64, 3) = true := by unfold okR; simp
      rw [this]
      refine Prod.ext ?_ (Prod.ext rfl rfl)
      simp only; omega
    · rw [(dN3 n b0 b1 b2 b3 c3).2 g]
      unfold good3 at g
      unfold stepZ
      rw [if_neg (by omega), if_neg (by omega), if_neg (by omega), if_neg (by omega)]
      rfl
  by_cases c4 : b0 / 8 = 30
  · by_cases g : good4 n b0 b1 b2 b3
    · rw [(dN4 n b0 b1 b2 b3 c4).1 g]
      unfold good4 at g
      unfold stepZ
      rw [if_neg (by omega), if_neg (by omega), if_neg (by omega), if_pos (by omega)]
      have : okR (b0 % 8 * 262144 + b1 % 64 * 4096 + b2 % 64 * 64 + b3 % 64, 4) = true := by unfold okR; simp
      rw [this]
      refine Prod.ext ?_ (Prod.ext rfl rfl)
      simp only; omega
    · rw [(dN4 n b0 b1 b2 b3 c4).2 g]
      unfold good4 at g
      unfold stepZ
      rw [if_neg (by omega), if_neg (by omega), if_neg (by omega), if_neg (by omega)]
      rfl
  rw [dN0 _ _ _ _ _ c1 c2 c3 c4]
  unfold stepZ
  rw [if_neg (by omega), if_neg (by omega), if_neg (by omega), if_neg (by omega)]
  rfl

/-- What Step tells of a text. -/
def stepE (l : List UInt8) : Ending := .returned (.tuple #[.int .i64 ((dec l).1 : Int), .int .i64 ((dec l).2 : Int), .bool (okR (dec l))])
theorem stepZ_E (l : List UInt8) : triple (stepZ (l.getD 0 0).toNat (tl l 1) (tl l 2) (tl l 3)) = stepE l := by rw [stepZ_dec]; rfl
set_option maxRecDepth 100000 in
set_option maxHeartbeats 1000000 in
theorem step_any (s : ByteArray) (w : World) (h : 0 < s.size) :
    Calls Tryd.prog 60 #[.string s] w fun e w' => e = stepE s.data.toList ∧ w = w' := by
  have r1 := tl_range s.data.toList 1
  have r2 := tl_range s.data.toList 2
  have r3 := tl_range s.data.toList 3
  obtain ⟨r10, r11⟩ := r1
  obtain ⟨r20, r21⟩ := r2
  obtain ⟨r30, r31⟩ := r3
  obtain ⟨a, hw, ha, h0, h1⟩ : ∃ a : Int, wrap64 ((s[0]'h).toNat : Int) = a ∧ Hid (stepE s.data.toList = triple (stepZ a (tl s.data.toList 1) (tl s.data.toList 2) (tl s.data.toList 3))) ∧ 0 ≤ a ∧ a ≤ 255 := by
    have hb := (s[0]'h).toNat_lt
    exact ⟨((s[0]'h).toNat : Int), wrap_byte _, Lib.hid (by rw [← stepZ_E, get_list s 0 h]), by omega, by omega⟩
  rw [ha.out]
  rcases (show a < 128 ∨ (128 ≤ a ∧ a < 192 ∧ a < 224 ∧ a < 240) ∨ (128 ≤ a ∧ 192 ≤ a ∧ a < 224 ∧ a < 240) ∨ (128 ≤ a ∧ 192 ≤ a ∧ 224 ≤ a ∧ a < 240) ∨ (128 ≤ a ∧ 192 ≤ a ∧ 224 ≤ a ∧ 240 ≤ a ∧ a < 248) ∨ (128 ≤ a ∧ 192 ≤ a ∧ 224 ≤ a ∧ 240 ≤ a ∧ 248 ≤ a) by omega) with k | ⟨k1, k2, k3, k4⟩ | ⟨k1, k2, k3, k4⟩ | ⟨k1, k2, k3, k4⟩ | ⟨k1, k2, k3, k4, k5⟩ | ⟨k1, k2, k3, k4, k5⟩
  all_goals
    go_enter Tryd.func60, Tryd.ntmps60
    go_wp2_with (go_at_call 71; first | ((with_reducible refine (tail1 s _).mono ?_); rintro e w' ⟨rfl, rfl⟩) | ((with_reducible refine (tail2 s _).mono ?_); rintro e w' ⟨rfl, rfl⟩) | ((with_reducible refine (tail3 s _).mono ?_); rintro e w' ⟨rfl, rfl⟩))
  all_goals
    go_ret3
    refine ⟨triple_eq ?_, rfl⟩
    unfold stepZ
    repeat (first | rw [if_pos (by omega)] | rw [if_neg (by omega)])
    try rw [hw]
end Go.Proofs.YtfoabgjcndgflaaDoor.L2
