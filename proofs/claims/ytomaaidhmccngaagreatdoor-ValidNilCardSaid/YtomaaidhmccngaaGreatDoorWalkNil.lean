/-
  The walk of the law on no registers.
-/
import Derived.Test.YtomaaidhmccngaaGreatDoorV4
import Derived.Test.YtomaaidhmccngaaGreatDoorWalkTm
set_option linter.unusedSimpArgs false
set_option linter.unusedVariables false
set_option maxRecDepth 10000
namespace Go.Proofs.YtomaaidhmccngaaGreatDoor
open Go.RowKit Go.Maps Go.Lib
open L3 (Blk Reads)
open L6 (Turn)
open L7 (Shr shrC shrL stmC)
open L11 (Crt crtC mayV)

/-- The law's boxes. -/
structure NvAt (w : World) (x : Crt) (t : Tmo) (b : Blo) (A : Option Addr) (c : Nat) (D : Option Addr) (d : Nat) (W : World) : Prop where
  bx : Blk W w.heap.size 29 (crtC x)
  bt : Blk W (w.heap.size + 1) 31 (tmC t)
  bb : Blk W (w.heap.size + 2) 57 (bloC b (.slice A b.proof.length c) (.slice D b.txs.length d))
  rp : Rd tmL 10 W A b.proof
  rt : Rd txL 7 W D b.txs
  bw : Below w.heap.size w W
section
variable {w W W' : World} {x : Crt} {t : Tmo} {b : Blo} {A : Option Addr} {c : Nat} {D : Option Addr} {d g : Nat}
theorem NvAt.below (h : NvAt w x t b A c D d W) (hb : Below W.heap.size W W') : NvAt w x t b A c D d W' := ⟨h.bx.below hb h.bx.lt, h.bt.below hb h.bt.lt, h.bb.below hb h.bb.lt, h.rp.below hb, h.rt.below hb, nxt h.bw hb⟩
structure NvL (w : World) (x : Crt) (t : Tmo) (b : Blo) (A : Option Addr) (c : Nat) (D : Option Addr) (d g : Nat) (W : World) : Prop where
  n : NvAt w x t b A c D d W
  bl : Blk W g 39 (lawA none none none)
theorem NvL.below (h : NvL w x t b A c D d g W) (hb : Below W.heap.size W W') : NvL w x t b A c D d g W' := ⟨h.n.below hb, h.bl.below hb h.bl.lt⟩
theorem NvL.drew (h : NvL w x t b A c D d g W) : NvL w x t b A c D d g W.drew := h.below (Below.refl _ W).drew
end
theorem nil_cases (x : Crt) : ∃ p q r : Bool, (errI (mayV x) 110 == (0 : Int)) = p ∧ (x.kind != (0 : Int)) = q ∧ (nilC x != (3 : Int)) = r ∧ (p = false ∨ (p = true ∧ q = false) ∨ (p = true ∧ q = true ∧ r = false)) := by
  refine ⟨_, _, _, rfl, rfl, rfl, ?_⟩
  cases hm : mayV x
  · exact .inl (by unfold errI; decide)
  · by_cases hk : x.kind = 0
    · refine .inr (.inl ⟨by unfold errI; decide, by simp [hk]⟩)
    · refine .inr (.inr ⟨by unfold errI; decide, by simp [hk], by unfold nilC; rw [if_neg hk, hm]; decide⟩)
end Go.Proofs.YtomaaidhmccngaaGreatDoor
