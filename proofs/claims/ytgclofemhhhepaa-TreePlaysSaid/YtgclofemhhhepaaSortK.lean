/-
  The keys of a map by numbers, rising.
-/
import Derived.Test.YtgclofemhhhepaaCalls
import Derived.Test.YtgclofemhhhepaaLays
set_option linter.unusedSimpArgs false
set_option linter.unusedVariables false
set_option maxRecDepth 10000
namespace Go.Proofs.Ytgclofemhhhepaa
open Go.RowKit Go.Maps Go.Lib Go.Sort Go.Shelf Go.Proofs
open L3 (Blk Reads)
open L6 (Turn moreB fresh From In)

/-- slices.Sort's two contracts. -/
theorem sortsI (m : Nat) : AnyZI.SortsIn Try.prog Try.sortedI_ren Fence.wide m :=
  ⟨fun blk off cap ss W hH hblk hsz => callsIn_wide.2 (AnyM.slices_Sort_int Try.sortI blk off cap ss W hH hblk hsz),
   fun p cap W => callsIn_wide.2 (AnyM.slices_Sort_int_none Try.sortI p cap W)⟩
theorem keysB_any (b : Nat) (w : World) : Calls Try.prog 42 #[.map (some b)] w fun e w' =>
    e = .returned (.func (.func 48) #[] #[.pointer (some ⟨w.heap.size, 0, none⟩)]) ∧ w' = w.alloc (.cells #[.map (some b)] 64) :=
  (callsIn_wide (n := 6)).1 (AnyZI.keys_in Try.keysB Fence.wide 6 trivial rfl (some b) w)
theorem keysU_any (b : Nat) (w : World) : Calls Try.prog 36 #[.map (some b)] w fun e w' =>
    e = .returned (.func (.func 46) #[] #[.pointer (some ⟨w.heap.size, 0, none⟩)]) ∧ w' = w.alloc (.cells #[.map (some b)] 79) :=
  (callsIn_wide (n := 6)).1 (AnyZI.keys_in Try.keysU Fence.wide 6 trivial rfl (some b) w)
/-- A list sorted: rising, the same numbers, where each stood once. -/
theorem sorted_is {l ss : List Int} (h : ss.Perm l) (hn : l.Nodup) : (ss.mergeSort fun x y => decide (x ≤ y)).Pairwise (· < ·) ∧ (∀ x, x ∈ (ss.mergeSort fun x y => decide (x ≤ y)) ↔ x ∈ l) ∧ (ss.mergeSort fun x y => decide (x ≤ y)).length = ss.length := by
  have hp := List.mergeSort_perm ss fun x y => decide (x ≤ y)
  have hs := List.pairwise_mergeSort (le := fun x y : Int => decide (x ≤ y)) (fun a b c h1 h2 => by simp only [decide_eq_true_eq] at *; omega) (fun a b => by simp only [Bool.or_eq_true, decide_eq_true_eq]; omega) ss
  have hnd : (ss.mergeSort fun x y => decide (x ≤ y)).Nodup := (hp.trans h).nodup_iff.2 hn
  refine ⟨?_, fun x => (hp.trans h).mem_iff, hp.length_eq⟩
  have h2 : (ss.mergeSort fun x y => decide (x ≤ y)).Pairwise fun a b => decide (a ≤ b) = true ∧ a ≠ b := hs.and hnd
  exact h2.imp fun {a b} ⟨h1, h2⟩ => by simp only [decide_eq_true_eq] at h1; omega
/-- What a sorted list of keys is, in memory. -/
def Sorted (w : World) (D : DataW Unit) (e : Ending) (w' : World) : Prop :=
  ∃ (v : Value) (Z : List Int), e = .returned v ∧ Z.Pairwise (· < ·) ∧ (∀ x, x ∈ Z ↔ x ∈ intKeys D) ∧ w'.ownsRow w.heap.size 3 1 v Z.length (Z.map (Value.int .i64)) ∧ Below w.heap.size w w'
theorem sortedB_any {w : World} {R : Value → Option (DataW Unit × List MemPlace)} {b n : Nat} {D : DataW Unit} (hown : w.ownsMap Try.prog 3 R b n D) (hn : (intKeys D).Nodup) (hs : Maps.size D ≤ 1000000000) :
    Calls Try.prog 35 #[.func (.func 48) #[] #[.pointer (some ⟨w.heap.size, 0, none⟩)]] (w.alloc (.cells #[.map (some b)] 64)) (Sorted w D) := by
  have hseq : SeqGives Fence.wide 3 Try.prog 48 #[.pointer (some ⟨w.heap.size, 0, none⟩)] encZ (fun ss => ss.Perm (intKeys D)) (Maps.size D) (w.alloc (.cells #[.map (some b)] 64)) :=
    AnyZI.keys_gives (ρ := Try.keysB_ren) { Try.keysB with } Fence.wide _ trivial rfl (by omega) w.heap.size b n D _ (by simp) (by simp) (hown.alloc _)
  have cS := AnyZI.sorted_in Try.sortedI Fence.wide 6 trivial trivial trivial trivial rfl (by omega) (sortsI _) (enters_of Try.func45 (by kernel_rfl) rfl) 48 #[.pointer (some ⟨w.heap.size, 0, none⟩)] trivial (enters_of Try.func48 (by kernel_rfl) rfl) _ _ (by unfold maxLen; omega) (by omega) _ hseq
  have c := (callsIn_wide (n := 6)).1 cS
  change Calls Try.prog 35 _ _ _ at c
  refine c.mono ?_
  rintro e w' ⟨v, ss, rfl, hp, hrow, _, hb⟩
  obtain ⟨h1, h2, h3⟩ := sorted_is hp hn
  refine ⟨v, _, rfl, h1, h2, ?_, ((Below.refl _ w).alloc (Nat.le_refl _) _).trans (hb.mono (by simp))⟩
  rw [← h3] at hrow
  exact ownsRow_base_a hrow (by simp)
theorem sortedU_any {w : World} {R : Value → Option (DataW Unit × List MemPlace)} {b n : Nat} {D : DataW Unit} (hown : w.ownsMap Try.prog 3 R b n D) (hn : (intKeys D).Nodup) (hs : Maps.size D ≤ 1000000000) :
    Calls Try.prog 35 #[.func (.func 46) #[] #[.pointer (some ⟨w.heap.size, 0, none⟩)]] (w.alloc (.cells #[.map (some b)] 79)) (Sorted w D) := by
  have hseq : SeqGives Fence.wide 3 Try.prog 46 #[.pointer (some ⟨w.heap.size, 0, none⟩)] encZ (fun ss => ss.Perm (intKeys D)) (Maps.size D) (w.alloc (.cells #[.map (some b)] 79)) :=
    AnyZI.keys_gives (ρ := Try.keysU_ren) { Try.keysU with } Fence.wide _ trivial rfl (by omega) w.heap.size b n D _ (by simp) (by simp) (hown.alloc _)
  have cS := AnyZI.sorted_in Try.sortedI Fence.wide 6 trivial trivial trivial trivial rfl (by omega) (sortsI _) (enters_of Try.func45 (by kernel_rfl) rfl) 46 #[.pointer (some ⟨w.heap.size, 0, none⟩)] trivial (enters_of Try.func46 (by kernel_rfl) rfl) _ _ (by unfold maxLen; omega) (by omega) _ hseq
  have c := (callsIn_wide (n := 6)).1 cS
  change Calls Try.prog 35 _ _ _ at c
  refine c.mono ?_
  rintro e w' ⟨v, ss, rfl, hp, hrow, _, hb⟩
  obtain ⟨h1, h2, h3⟩ := sorted_is hp hn
  refine ⟨v, _, rfl, h1, h2, ?_, ((Below.refl _ w).alloc (Nat.le_refl _) _).trans (hb.mono (by simp))⟩
  rw [← h3] at hrow
  exact ownsRow_base_a hrow (by simp)
end Go.Proofs.Ytgclofemhhhepaa
