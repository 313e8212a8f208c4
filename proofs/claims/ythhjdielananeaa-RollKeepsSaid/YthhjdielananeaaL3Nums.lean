/-
  The bytes of any numbers, one behind the other, or the error of the first that may not be written.
-/
import Derived.Test.YthhjdielananeaaL3Clone
set_option linter.unusedSimpArgs false
set_option linter.unusedVariables false
namespace Go.Proofs.Ythhjdielananeaa.L3
open Go.RowKit Go.Lib

def encs (zs : List Int) : List UInt8 := (zs.map fun z => encN z.toNat).flatten
theorem encs_snoc (zs : List Int) (z : Int) : encs (zs ++ [z]) = encs zs ++ encN z.toNat := by simp [encs]
theorem encs_le (zs : List Int) (h : zs.all okN = true) : (encs zs).length ≤ 9 * zs.length := by
  induction zs with
  | nil => simp [encs]
  | cons z zs ih =>
    simp only [List.all_cons, Bool.and_eq_true] at h
    have h1 := ih h.2
    have h2 := encN_le9 (n := z.toNat) (by have := okN_le h.1; omega)
    simp only [encs, List.map_cons, List.flatten_cons, List.length_append, List.length_cons] at h1 ⊢
    omega
def numsPost (zs : List Int) (w : World) (e : Ending) (w' : World) : Prop :=
  (zs.all okN = true ∧ wrote (encs zs) w e w') ∨ (zs.all okN = false ∧ refused 10 w e w')
def intCells (zs : List Int) : List Value := zs.map (Value.int .i64)
theorem take_snoc_int (zs : List Int) (k : Nat) (h : k < zs.length) : zs.take (k + 1) = zs.take k ++ [zs[k]] := by
  rw [List.take_succ_eq_append_getElem h]

set_option maxHeartbeats 1000000 in
set_option maxRecDepth 100000 in
theorem nums_any (A : Option Addr) (n c : Nat) (zs : List Int) (w : World) (h : Reads w w.heap.size 1 A n (intCells zs)) (hl : n ≤ 10000000) :
    Calls Try.prog 32 #[.slice A n c] w (numsPost zs w) := by
  have hn : zs.length = n := by have := h.1; simpa [intCells] using this
  go_enter Try.func32, Try.ntmps32
  go_wp2
  go_loopw [4, 9] (fun b i wr => ∃ k : Nat, i = .int .i64 k ∧ k ≤ n ∧ (zs.take k).all okN = true ∧ Owned w.heap.size b (encs (zs.take k)) w wr) (fun _ i _ => n - (intOf i).toNat)
  case atStart => exact ⟨0, rfl, Nat.zero_le _, by simp, by simpa [encs] using Owned.nil w _ (Nat.le_refl _)⟩
  case round =>
    obtain ⟨k, rfl, hk, ha, ho⟩ := hrel
    by_cases hlt : k < n
    · obtain ⟨ad, u, rfl, _, hx, hc⟩ := (h.below ho.2.1).at_ hlt
      have hz : u = .int .i64 zs[k] := by
        simp only [intCells, List.getElem?_map, List.getElem?_eq_getElem (show k < zs.length by omega), Option.map_some, Option.some.injEq] at hx
        exact hx.symm
      subst hz
      have hle := encs_le _ ha
      have htk : (zs.take k).length = k := by simp; omega
      have hsn := take_snoc_int zs k (by omega)
      obtain ⟨z, hz⟩ : ∃ z, z = zs[k] := ⟨_, rfl⟩
      rw [← hz] at hc hsn
      have HA := Lib.hid ha
      have HS := Lib.hid hsn
      have HZ := Lib.hid hz
      clear hx ha hsn hz
      by_cases hok : okN z = true
      · have hzb := okN_le hok
        obtain ⟨m, rfl⟩ := Int.eq_ofNat_of_zero_le hzb.1
        go_wp2_with (first
          | (go_at_call 51; refine (allowed_any _ _).mono ?_; rintro e w1 ⟨rfl, rfl⟩)
          | (go_at_call 52; refine (put_any _ _ _ m _ _ ho (by omega) (by omega)).mono ?_; rintro e w3 ⟨v3, rfl, ho3⟩))
        go_round
        case rel =>
          refine ⟨k + 1, by go_num, by omega, ?_, ?_⟩
          · rw [HS.out, List.all_append, HA.out]; simpa using hok
          · rw [HS.out, encs_snoc]; exact ho3
        case measure => simp [intOf]; omega
      · have hok : okN z = false := by simpa using hok
        go_wp2_with (first
          | (go_at_call 51; refine (allowed_any _ _).mono ?_; rintro e w1 ⟨rfl, rfl⟩))
        go_ret2
        refine Or.inr ⟨?_, rfl, ho.2.1⟩
        rw [List.all_eq_false]
        exact ⟨z, by rw [HZ.out]; exact List.getElem_mem _, by rw [hok]; simp⟩
    · have hkn : zs.take k = zs := List.take_of_length_le (by omega)
      rw [hkn] at ha ho
      have HA := Lib.hid ha
      clear hkn ha
      go_wp2_with fail
      go_ret2
      exact Or.inl ⟨HA.out, _, rfl, ho⟩
end Go.Proofs.Ythhjdielananeaa.L3
