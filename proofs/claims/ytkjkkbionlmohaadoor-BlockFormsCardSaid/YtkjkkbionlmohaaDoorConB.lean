/-
  Bytes of several slices, one behind the other: slices.Concat, walked; slices.Grow by the library's contract.
-/
import Derived.Test.YtkjkkbionlmohaaDoorNumsB
import Derived.Test.YtkjkkbionlmohaaDoorLays
set_option linter.unusedSimpArgs false
set_option linter.unusedVariables false
set_option maxRecDepth 10000
namespace Go.Proofs.YtkjkkbionlmohaaDoor
open Go.RowKit Go.Maps Go.Lib
open L3 (Blk Reads Owned encN encs intCells)

theorem grow_any (n : Nat) (w : World) (h0 : 0 < n) (h1 : n ≤ 10000000) : Calls Tryd.prog 54 #[.slice none 0 0, .int .i64 n] w (owns [] w) := by
  obtain ⟨i0, hi, hz0, hz1, hz2⟩ := info_parts L3.byteInfo
  have := Any8.slices_Grow_grow Tryd.growB i0 (.int .u8 0) hi hz0 (by omega) none 0 0 n [] w (Nat.le_refl _) (by omega) (by rw [hz2]; omega) (by omega) (by simp) (fun _ => rfl) (fun a e => by cases e)
  refine Calls.mono (show Calls Tryd.prog 54 #[.slice none 0 0, .int .i64 n] w _ from this) ?_
  rintro e w' ⟨rfl, rfl⟩
  refine ⟨_, rfl, ⟨rfl, .inr ⟨w.heap.size, _, _, (0, 0), rfl, Nat.le_refl _, heap_alloc_new w.drew _, Nat.zero_le _, Nat.zero_le _, grownCap_le_maxLen _ _ _ _ (by unfold maxLen; omega), ?_, ?_⟩⟩, ?_, ?_⟩
  · have hg := grownCap_ge w (0 + n) 0 5
    have e1 : (Value.int IntKind.u8 0).cells.size = 1 := rfl
    rw [Array.size_append, Array.size_append, size_zeroCells, size_zeroCells, e1]
    show 0 + (0 + n - 0) * 1 + (grownCap w (0 + n) 0 5 - (0 + n)) * 1 = grownCap w (0 + n) 0 5 * 1
    omega
  · rw [show ([] : List UInt8).length * 1 = 0 from rfl, List.take_zero]; rfl
  · exact ((Below.refl _ _).drew).alloc (Nat.le_refl _) _
  · exact Nat.le_of_lt ((Array.getElem?_eq_some_iff.1 (heap_alloc_new w.drew _)).1)
/-- A slice of bytes. -/
structure Sl where
  A : Option Addr
  c : Nat
  l : List UInt8
def slV (s : Sl) : Value := .slice s.A s.l.length s.c
def flatS (S : List Sl) : List UInt8 := (S.map (·.l)).flatten
theorem flatS_snoc (S : List Sl) {k : Nat} (hk : k < S.length) : flatS (S.take (k + 1)) = flatS (S.take k) ++ S[k].l := by
  unfold flatS; rw [List.take_succ_eq_append_getElem hk, List.map_append, List.flatten_append]; simp
theorem flatS_le (S : List Sl) (k : Nat) : (flatS (S.take k)).length ≤ (flatS S).length := by
  have : flatS S = flatS (S.take k) ++ flatS (S.drop k) := by
    unfold flatS; rw [← List.flatten_append, ← List.map_append, List.take_append_drop]
  rw [this, List.length_append]; omega
set_option maxHeartbeats 2000000 in
set_option maxRecDepth 100000 in
theorem concat_any (A : Option Addr) (n c : Nat) (S : List Sl) (w : World) (hn : n = S.length) (h : Reads w w.heap.size 1 A n (S.map slV)) (hs : ∀ s ∈ S, Reads w w.heap.size 1 s.A s.l.length (Lib.byteCells s.l) ∧ 0 < s.l.length) (h0 : 0 < n) (hn1 : n ≤ 100) (hb : (flatS S).length ≤ 1000000) :
    Calls Tryd.prog 29 #[.slice A n c] w (owns (flatS S) w) := by
  have hc : ∀ k (hk : k < n), ∃ ad, A = some ad ∧ ∃ s, S[k]? = some s ∧ w.cell? (ad.add k) = some (slV s) := fun k hk => by
    obtain ⟨ad, u, e, _, hx, hcc⟩ := h.at_ hk
    simp only [List.getElem?_map, List.getElem?_eq_getElem (show k < S.length by omega), Option.map_some, Option.some.injEq] at hx
    exact ⟨ad, e, S[k], List.getElem?_eq_getElem (by omega), by rw [hcc, ← hx]⟩
  have hpos : 0 < (flatS S).length := by
    cases S with
    | nil => simp at hn; omega
    | cons s S =>
      have := (hs s (List.mem_cons_self ..)).2
      unfold flatS; rw [List.map_cons, List.flatten_cons, List.length_append]; omega
  have HC := Lib.hid hc
  have HS := Lib.hid hs
  have HN := Lib.hid hn
  have HLE := Lib.hid (fun k => Nat.le_trans (flatS_le S k) hb)
  have HG := Lib.hid (grow_any (flatS S).length w hpos (by omega))
  obtain ⟨tot, htot⟩ : ∃ t, t = (flatS S).length := ⟨_, rfl⟩
  rw [← htot] at HG
  have HT := Lib.hid htot
  clear hc h hs hn hpos hb htot
  go_enter Tryd.func29, Tryd.ntmps29
  go_wp2
  go_loopw [3, 11] (fun z i wr => ∃ k : Nat, i = .int .i64 k ∧ k ≤ n ∧ z = .int .i64 ((flatS (S.take k)).length : Nat) ∧ w = wr) (fun _ i _ => n - (RowKit.intOf i).toNat)
  case atStart => exact ⟨0, rfl, Nat.zero_le _, by simp [flatS], rfl⟩
  case round =>
    obtain ⟨k, rfl, hk, rfl, rfl⟩ := hrel
    by_cases hlt : k < n
    · obtain ⟨ad, rfl, s, hsk, hcell⟩ := HC.out k hlt
      have hkS : k < S.length := by have := HN.out; omega
      have hsk2 : s = S[k] := by rw [List.getElem?_eq_getElem hkS] at hsk; injection hsk with hsk; exact hsk.symm
      have hsn := flatS_snoc S hkS
      rw [← hsk2] at hsn
      have h1 := HLE.out k
      have h2 := HLE.out (k + 1)
      rw [hsn, List.length_append] at h2
      have hsum : (flatS (S.take (k + 1))).length = (flatS (S.take k)).length + s.l.length := by rw [hsn, List.length_append]
      obtain ⟨m, hm⟩ : ∃ m, m = (flatS (S.take k)).length := ⟨_, rfl⟩
      obtain ⟨q, hq⟩ : ∃ q, q = s.l.length := ⟨_, rfl⟩
      unfold slV at hcell
      rw [← hm, ← hq] at h2
      rw [← hm, ← hq] at hsum
      rw [← hq] at hcell
      rw [← hm]
      have hw64 : wrap64 ((m : Int) + (q : Int)) = ((m + q : Nat) : Int) := by unfold wrap64; omega
      have hneg : ¬ (((m + q : Nat) : Int) < 0) := by omega
      have HSUM := Lib.hid hsum
      clear hsk hsk2 hsn h1 hsum hm hq
      go_wp2_with fail
      go_round
      case rel => exact ⟨k + 1, by go_num, by omega, by rw [HSUM.out]; simp, trivial⟩
      case measure => simp [RowKit.intOf]; omega
    · have hkn : S.take k = S := List.take_of_length_le (by have := HN.out; omega)
      rw [hkn, ← HT.out]
      clear hkn
      go_upto_region 10 with (first
        | (go_at_call 54; refine HG.out.mono ?_; rintro e w1 ⟨v1, rfl, ho1⟩))
      clear HG
      go_wp2
      go_loopw [6, 27] (fun b i wr => ∃ k : Nat, i = .int .i64 k ∧ k ≤ n ∧ Owned w.heap.size b (flatS (S.take k)) w wr) (fun _ i _ => n - (RowKit.intOf i).toNat)
      case atStart => exact ⟨0, rfl, Nat.zero_le _, by simpa [flatS] using ho1⟩
      case round =>
        obtain ⟨k, rfl, hk, ho⟩ := hrel
        clear ho1
        by_cases hlt : k < n
        · obtain ⟨ad, rfl, s, hsk, hcell⟩ := HC.out k hlt
          have hkS : k < S.length := by have := HN.out; omega
          have hsk2 : s = S[k] := by rw [List.getElem?_eq_getElem hkS] at hsk; injection hsk with hsk; exact hsk.symm
          have hsn := flatS_snoc S hkS
          rw [← hsk2] at hsn
          have hgood := HS.out s (by rw [hsk2]; exact List.getElem_mem _)
          have h1 := HLE.out k
          have h2 := HLE.out (k + 1)
          rw [hsn, List.length_append] at h2
          have hcw : wr.cell? (ad.add k) = some (slV s) := (ho.2.1.cell (p := ad.add k) (L2.cell_in hcell)).trans hcell
          unfold slV at hcw
          obtain ⟨y, hy⟩ : ∃ y, y = s.l := ⟨_, rfl⟩
          rw [← hy] at hgood hsn h2 hcw
          have hrd : Reads wr wr.heap.size 1 s.A y.length (Lib.byteCells y) := (hgood.1.below ho.2.1).more ho.2.1.size
          have hyp := hgood.2
          obtain ⟨z, hz⟩ : ∃ z, z = flatS (S.take k) := ⟨_, rfl⟩
          rw [← hz] at ho hsn h2
          have HSN := Lib.hid hsn
          obtain ⟨A2, c2, rfl, _, _⟩ := ho.form
          clear hsk hsk2 hsn hgood hcell h1 hy hz
          go_wp2_with (first
            | (at_builtin; refine wpList_append_buf rfl _ _ _ rfl Tryd.underlying33 _ _ z _ rfl ho s.A y.length s.c y rfl rfl hrd hyp (by omega) ?_; intro v4 w4 ho4 hg4))
          go_round
          case rel => exact ⟨k + 1, by go_num, by omega, by rw [HSN.out]; exact ho4⟩
          case measure => simp [RowKit.intOf]; omega
        · have hkn : S.take k = S := List.take_of_length_le (by have := HN.out; omega)
          rw [hkn] at ho
          clear hkn
          go_wp2_with fail
          go_ret
          exact ⟨_, rfl, ho⟩
end Go.Proofs.YtkjkkbionlmohaaDoor
