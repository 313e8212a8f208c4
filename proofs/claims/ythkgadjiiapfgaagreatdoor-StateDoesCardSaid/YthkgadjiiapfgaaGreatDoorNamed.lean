/-
  A state's calls, their answers named.
-/
import Derived.Test.YthkgadjiiapfgaaGreatDoorGreats
set_option linter.unusedSimpArgs false
set_option linter.unusedVariables false
set_option maxRecDepth 10000
namespace Go.Proofs.YthkgadjiiapfgaaGreatDoor
open Go.RowKit Go.Maps Go.Lib
open L2 (less nums chk vlu)
open L3 (Blk)
open L6 (Turn moreB fresh From In)

section
variable {S : Nat → Prop} {g m : Nat} {s z : Stt} {w : World}
theorem Sx.below {w' : World} (h : Sx w S g s m) (hb : Below w.heap.size w w') : Sx w' S g s m := ⟨h.1.below hb, h.2⟩
theorem Sx.kept {T : Nat → Prop} {w' : World} (h : Sx w S g s m) (ht : Turn T w w') (hd : ∀ k, k < w.heap.size → S k → ¬ T k) : Sx w' S g s m := ⟨h.1.kept ht hd, h.2⟩
theorem Sx.le {m' : Nat} (h : Sx w S g s m) (hm : m ≤ m') : Sx w S g s m' := ⟨h.1.le hm, h.2⟩
theorem do_is (h : Sx w S g s m) (hin : In w S) (t : Txx) (hwf : t.wf 1000000) (hT : Tabs w) (hm : m + 3 ≤ maxLen) {e : Int} (he : Hid (e = doE s t)) (hz : Hid (z = doS s t)) :
    Calls Tryz.prog 11 #[.pointer (some ⟨g, 0, none⟩), .agg (txC t)] w fun x w' => x = .returned (.int .i64 e) ∧ Sx w' (moreB S w w') g z (m + 2) ∧ In w' (moreB S w w') ∧ Turn S w w' := by
  refine (doSx h hin t hwf hT hm).mono ?_
  rintro x w' ⟨rfl, h1, h2⟩
  exact ⟨by rw [he.out], by rw [hz.out]; exact h1, hin.more h2.size, h2⟩
theorem text_is (h : Sx w S g s m) (hT : Tabs w) (hm : m ≤ 1000000) {l : List UInt8} (hl : Hid (l = digT less s)) :
    Calls Tryz.prog 14 #[.pointer (some ⟨g, 0, none⟩)] w (gives (.string (str l)) w) := by rw [hl.out]; exact digest_any h hT hm
theorem total_is (h : Sx w S g s m) {a : Int} (ha : Hid (a = totA s.A)) : Calls Tryz.prog 30 #[.pointer (some ⟨g, 0, none⟩)] w (gives (.int .i64 a) w) := by rw [ha.out]; exact total_any h
theorem amount_is (h : Sx w S g s m) (l : List UInt8) (hl : l.length ≤ 1000000) {a : Int} (ha : Hid (a = (ofA s.A l).am)) : Calls Tryz.prog 13 #[.pointer (some ⟨g, 0, none⟩), .string (str l)] w fun e w' => e = .returned (.int .i64 a) ∧ w = w' := by
  have := amount_any h.1 l (by unfold maxLen; omega)
  rw [amt_fA, ← ha.out] at this
  exact this
theorem nonce_is (h : Sx w S g s m) (l : List UInt8) (hl : l.length ≤ 1000000) {a : Int} (ha : Hid (a = (ofA s.A l).no)) : Calls Tryz.prog 32 #[.pointer (some ⟨g, 0, none⟩), .string (str l)] w fun e w' => e = .returned (.int .i64 a) ∧ w = w' := by
  have := nonce_any h.1 l (by unfold maxLen; omega)
  rw [nnc_fA, ← ha.out] at this
  exact this
theorem value_le (h : Sane s) (who key : List UInt8) : (getV s.V who key).length ≤ 128 := by
  by_cases hv : getV s.V who key = []
  · rw [hv]; simp
  · exact value_size (h.keyed _ (getV_there hv)).2.2
theorem value_is (h : Sx w S g s m) (who key : List UInt8) (h1 : who.length ≤ 1000000) (h2 : key.length ≤ 1000000) {l : List UInt8} (hl : Hid (l = getV s.V who key)) : Calls Tryz.prog 33 #[.pointer (some ⟨g, 0, none⟩), .string (str who), .string (str key)] w (gives (.string (str l)) w) := by
  have e : vlv (fV s) (who, key) = getV s.V who key := fV_get s (who, key)
  have := value_any h.1 (who, key) (by unfold okP maxLen; dsimp only; omega) (by rw [e]; have := value_le h.2 who key; omega)
  rw [e, ← hl.out] at this
  exact this
end
end Go.Proofs.YthkgadjiiapfgaaGreatDoor
