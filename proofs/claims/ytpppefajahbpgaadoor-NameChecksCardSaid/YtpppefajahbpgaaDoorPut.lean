/-
  The bytes of a rune, by the document's answer.
-/
import Derived.Test.YtpppefajahbpgaaDoorRange
set_option linter.unusedSimpArgs false
set_option linter.unusedVariables false
namespace Go.Proofs.YtpppefajahbpgaaDoor
open Go.RowKit Go.Lib

theorem add_plain (b off j : Nat) : (⟨b, off, none⟩ : Addr).add j = ⟨b, off + j, none⟩ := by unfold Addr.add; split <;> simp_all
theorem conv_bytes (w : World) (zs : List Int) (bs : List UInt8) (h : zs = bs.map fun b => (b.toNat : Int)) (n : Nat) (hn : n = bs.length) :
    (convert 41 9 (.slice (some ⟨w.heap.size, 0, none⟩) n n)).run Tryd.prog (w.alloc (.cells (zs.map (Value.int .u8)).toArray 5)) =
      .ok (.string (strOf bs)) (w.alloc (.cells (zs.map (Value.int .u8)).toArray 5)) := by
  subst hn
  refine run_convert_bytes_back (P := Tryd.prog) _ _ _ 5 ⟨w.heap.size, 0, none⟩ bs.length bs Tryd.underlying41 Tryd.underlying5 Tryd.underlying9 ?_
  intro j hj
  rw [add_plain, World.cell?_alloc_new, h]
  simp [hj]
theorem enc_ints (n : Int) : (encodeRuneZ n) = (enc n).map fun b => (b.toNat : Int) := by
  unfold enc encodeRune
  rw [List.map_map]
  conv => lhs; rw [← List.map_id (encodeRuneZ n)]
  refine List.map_congr_left ?_
  intro x hx
  have := encodeRuneZ_byte n x hx
  simp only [id, Function.comp]
  have e : (x.toNat.toUInt8).toNat = x.toNat := by simp; omega
  rw [e]; omega
theorem enc_length (n : Int) : (enc n).length = (encodeRuneZ n).length := by unfold enc encodeRune; rw [List.length_map]

set_option maxHeartbeats 1000000 in
theorem put_any (n : Int) (w : World) (h : okNum n) : Calls Tryd.prog 26 #[.int .i64 n] w fun e w' => e = .returned (.string (strOf (enc n))) ∧ Below w.heap.size w w' := by
  unfold okNum at h
  have hei := enc_ints n
  have hel := enc_length n
  have HEI := Lib.hid hei
  have HEL := Lib.hid hel
  clear hei hel
  have h0 : 0 ≤ n := by omega
  rcases (show n < 128 ∨ (128 ≤ n ∧ n < 2048) ∨ (128 ≤ n ∧ 2048 ≤ n ∧ n < 65536) ∨ (128 ≤ n ∧ 2048 ≤ n ∧ 65536 ≤ n ∧ n ≤ 1114111) by omega) with k | ⟨k1, k2⟩ | ⟨k1, k2, k3⟩ | ⟨k1, k2, k3, k4⟩
  · have hz : encodeRuneZ n = [n] := encodeRuneZ_one (by omega) (by omega)
    have hcv : (convert 41 9 (.slice (some ⟨w.heap.size, 0, none⟩) 1 1)).run Tryd.prog (w.alloc (.cells #[.int .u8 n] 5)) = .ok (.string (strOf (enc n))) (w.alloc (.cells #[.int .u8 n] 5)) :=
      conv_bytes w [n] (enc n) (by rw [← HEI.out, hz]) 1 (by rw [HEL.out, hz]; rfl)
    clear hz h
    go_enter Tryd.func26, Tryd.ntmps26
    go_wp2
    go_ret
    exact ⟨rfl, (Below.refl _ _).alloc (Nat.le_refl _) _⟩
  · have hz : encodeRuneZ n = [192 + n / 64, 128 + n % 64] := encodeRuneZ_two (by omega) (by omega)
    have hcv : (convert 41 9 (.slice (some ⟨w.heap.size, 0, none⟩) 2 2)).run Tryd.prog (w.alloc (.cells #[.int .u8 (192 + n / 64), .int .u8 (128 + n % 64)] 5)) = .ok (.string (strOf (enc n))) (w.alloc (.cells #[.int .u8 (192 + n / 64), .int .u8 (128 + n % 64)] 5)) :=
      conv_bytes w [192 + n / 64, 128 + n % 64] (enc n) (by rw [← HEI.out, hz]) 2 (by rw [HEL.out, hz]; rfl)
    clear hz h
    go_enter Tryd.func26, Tryd.ntmps26
    go_wp2
    go_ret
    exact ⟨rfl, (Below.refl _ _).alloc (Nat.le_refl _) _⟩
  · have hz : encodeRuneZ n = [224 + n / 4096, 128 + n / 64 % 64, 128 + n % 64] := encodeRuneZ_three (by omega)
    have hcv : (convert 41 9 (.slice (some ⟨w.heap.size, 0, none⟩) 3 3)).run Tryd.prog (w.alloc (.cells #[.int .u8 (224 + n / 4096), .int .u8 (128 + n / 64 % 64), .int .u8 (128 + n % 64)] 5)) = .ok (.string (strOf (enc n))) (w.alloc (.cells #[.int .u8 (224 + n / 4096), .int .u8 (128 + n / 64 % 64), .int .u8 (128 + n % 64)] 5)) :=
      conv_bytes w [224 + n / 4096, 128 + n / 64 % 64, 128 + n % 64] (enc n) (by rw [← HEI.out, hz]) 3 (by rw [HEL.out, hz]; rfl)
    clear hz h
    go_enter Tryd.func26, Tryd.ntmps26
    go_wp2
    go_ret
    exact ⟨rfl, (Below.refl _ _).alloc (Nat.le_refl _) _⟩
  · have hz : encodeRuneZ n = [240 + n / 262144, 128 + n / 4096 % 64, 128 + n / 64 % 64, 128 + n % 64] := encodeRuneZ_four (by omega) (by omega)
    have hcv : (convert 41 9 (.slice (some ⟨w.heap.size, 0, none⟩) 4 4)).run Tryd.prog (w.alloc (.cells #[.int .u8 (240 + n / 262144), .int .u8 (128 + n / 4096 % 64), .int .u8 (128 + n / 64 % 64), .int .u8 (128 + n % 64)] 5)) = .ok (.string (strOf (enc n))) (w.alloc (.cells #[.int .u8 (240 + n / 262144), .int .u8 (128 + n / 4096 % 64), .int .u8 (128 + n / 64 % 64), .int .u8 (128 + n % 64)] 5)) :=
      conv_bytes w [240 + n / 262144, 128 + n / 4096 % 64, 128 + n / 64 % 64, 128 + n % 64] (enc n) (by rw [← HEI.out, hz]) 4 (by rw [HEL.out, hz]; rfl)
    clear hz h
    go_enter Tryd.func26, Tryd.ntmps26
    go_wp2
    go_ret
    exact ⟨rfl, (Below.refl _ _).alloc (Nat.le_refl _) _⟩
end Go.Proofs.YtpppefajahbpgaaDoor
