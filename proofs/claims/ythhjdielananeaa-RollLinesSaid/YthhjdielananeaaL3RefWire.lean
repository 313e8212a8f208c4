/-
  The document's bytes of numbers and texts: contracts.
-/
import Derived.Test.YthhjdielananeaaL3Clone
import Derived.Lib.ConvBytes
set_option linter.unusedSimpArgs false
set_option linter.unusedVariables false
namespace Go.Proofs.Ythhjdielananeaa.L3
open Go.RowKit Go.Lib

def strOf (l : List UInt8) : ByteArray := ⟨l.toArray⟩
theorem strOf_app (l m : List UInt8) : strOf l ++ strOf m = strOf (l ++ m) := by
  apply ByteArray.ext
  rw [ByteArray.data_append]
  simp [strOf]
theorem strOf_size (l : List UInt8) : (strOf l).size = l.length := by
  show (strOf l).data.size = _
  simp [strOf]
theorem strOf_list (l : List UInt8) : (strOf l).data.toList = l := rfl
theorem strOf_of (s : ByteArray) : strOf s.data.toList = s := by
  cases s; rfl
theorem size_list (s : ByteArray) : s.size = s.data.toList.length := by rw [Array.length_toList]; rfl
def dgtB (m : Nat) : UInt8 := UInt8.ofNat (m % 128 + 128)
def dgtS (m : Nat) : UInt8 := UInt8.ofNat m
theorem add_zero' (b : Nat) : (⟨b, 0, none⟩ : Addr).add 0 = ⟨b, 0, none⟩ := by simp [Addr.add]
theorem one_byte (w : World) (c : UInt8) (z : Int) (hz : z = (c.toNat : Int)) :
    (convert 53 9 (.slice (some ⟨w.heap.size, 0, none⟩) 1 1)).run Try.prog (w.alloc (.cells #[.int .u8 z] 5)) =
      .ok (.string (strOf [c])) (w.alloc (.cells #[.int .u8 z] 5)) := by
  subst hz
  refine run_convert_bytes_back (P := Try.prog) _ _ _ 5 ⟨w.heap.size, 0, none⟩ 1 [c] Try.underlying53 Try.underlying5 Try.underlying9 ?_
  intro j hj
  obtain rfl : j = 0 := by simpa using hj
  rw [add_zero', World.cell?_alloc_new]
  simp
theorem strOf_cons (c : UInt8) (l : List UInt8) : strOf [c] ++ strOf l = strOf (c :: l) := strOf_app _ _

/-- A text's bytes in new memory. -/
theorem str_bytes (w : World) (s : ByteArray) : ∃ c w', (convert 9 53 (.string s)).run Try.prog w = .ok (.slice (some ⟨w.heap.size, 0, none⟩) s.size c) w' ∧ Reads w' (w.heap.size + 1) 1 (some ⟨w.heap.size, 0, none⟩) s.size (byteCells s.data.toList) ∧ Below w.heap.size w w' ∧ w'.heap.size = w.heap.size + 1 := by
  refine ⟨_, _, Lib.run_convert_string_bytes w 9 53 5 s Try.underlying9 Try.underlying53 Try.underlying5, ⟨?_, fun _ => ⟨_, rfl, Nat.lt_succ_self _, fun j u hu => ?_⟩⟩, ⟨rfl, rfl, rfl, ?_, fun k hk => Lib.bytesWorld_at_old w _ s k hk⟩, Lib.bytesWorld_size w _ s⟩
  · rw [byteCells_length, ← size_list, Nat.mul_one]
  · simp only [byteCells, List.getElem?_map] at hu
    cases hj : s.data.toList[j]? with
    | none => rw [hj] at hu; cases hu
    | some c =>
      rw [hj] at hu
      have hlt : j < s.size := by rw [size_list]; exact (List.getElem?_eq_some_iff.1 hj).1
      have ha : (⟨w.heap.size, 0, none⟩ : Addr).add j = ⟨w.heap.size, j, none⟩ := by unfold Addr.add; split <;> simp_all
      rw [ha, Lib.bytesWorld_cell w _ s j hlt, List.getD_eq_getElem?_getD, hj]
      simpa using hu
  · rw [Lib.bytesWorld_size]; omega

set_option maxHeartbeats 1000000 in
set_option maxRecDepth 100000 in
theorem refnum_ok (k : Nat) (w : World) (hk : k ≤ 4611686018427387904) :
    Calls Try.prog 35 #[.int .i64 k] w fun e w' => e = .returned (.tuple #[.string (strOf (encN k)), .bool true]) ∧ Below w.heap.size w w' := by
  go_enter Try.func35, Try.ntmps35
  go_wp2
  go_loopw [0, 4] (fun a b wr => ∃ (m : Nat) (x : List UInt8), a = .int .i64 m ∧ b = .string (strOf x) ∧ m ≤ 4611686018427387904 ∧ x ++ encN m = encN k ∧ Below w.heap.size w wr) (fun a _ _ => (RowKit.intOf a).toNat)
  case atStart => exact ⟨k, [], rfl, rfl, hk, rfl, Below.refl _ _⟩
  case round =>
    obtain ⟨m, x, rfl, rfl, hm, he, hb⟩ := hrel
    have hxl : x.length ≤ 9 := by
      have := congrArg List.length he
      have h9 := encN_le9 hk
      simp at this; omega
    have HE := Lib.hid he
    have hs1 : (strOf x).size ≤ 9 := by rw [strOf_size]; exact hxl
    have hs2 : (strOf [dgtB m]).size ≤ 1 := by rw [strOf_size]; simp
    have hs3 : (strOf [dgtS m]).size ≤ 1 := by rw [strOf_size]; simp
    clear he hxl
    by_cases hlt : 128 ≤ m
    · have hcv := one_byte wr (dgtB m) ((m : Int) % 128 + 128) (by rw [dgtB, toNat_ofNat (by omega)]; simp)
      go_wp2_with fail
      go_roundw
      case rel =>
        refine ⟨m / 128, x ++ [dgtB m], by simp, by rw [strOf_app], by omega, ?_, hb.alloc hb.size _⟩
        rw [List.append_assoc, List.singleton_append]
        unfold dgtB
        rw [← encN_big hlt]; exact HE.out
      case measure => simp [intOf]; omega
    · have hcv := one_byte wr (dgtS m) (m : Int) (by rw [dgtS, toNat_ofNat (by omega)])
      go_wp2_with fail
      go_ret2
      have e : encN k = x ++ [dgtS m] := by rw [← HE.out, encN_small (by omega)]; rfl
      exact ⟨by rw [e, ← strOf_app]; rfl, hb.alloc hb.size _⟩
set_option maxHeartbeats 1000000 in
set_option maxRecDepth 100000 in
theorem refN_ok (k : Nat) (w : World) (hk : k ≤ 4611686018427387904) :
    Calls Try.prog 36 #[.int .i64 k] w fun e w' => e = .returned (.string (strOf (encN k))) ∧ Below w.heap.size w w' := by
  go_enter Try.func36, Try.ntmps36
  go_wp2_with (go_at_call 35; refine (refnum_ok _ _ hk).mono ?_; rintro e w1 ⟨rfl, hb1⟩)
  go_ret
  exact ⟨rfl, hb1⟩
end Go.Proofs.Ythhjdielananeaa.L3
