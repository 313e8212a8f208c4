/-
  Two messages: their boxes; are they the same.
-/
import Derived.Test.YtgmejaiifibfoaaGreatDoorM2
import Derived.Test.YtgmejaiifibfoaaGreatDoorB5
set_option linter.unusedSimpArgs false
set_option linter.unusedVariables false
set_option maxRecDepth 10000
namespace Go.Proofs.YtgmejaiifibfoaaGreatDoor
open Go.RowKit Go.Maps Go.Lib
open L3 (Blk Reads)
open L11 (Crt zeroC crtL crtC mayV okW crtInfo crtC_ones eqlC neqC wpList_binop)

/-- Two messages' boxes, their lists. -/
structure TwoM (w : World) (a b : Mes) (P Q T P' Q' T' : Value) (W : World) : Prop where
  ba : Blk W w.heap.size 39 (mesC a P Q T)
  bb : Blk W (w.heap.size + 1) 39 (mesC b P' Q' T')
  la : LiesM W a P Q T
  lb : LiesM W b P' Q' T'
  bw : Below w.heap.size w W
section
variable {w W W' : World} {a b : Mes} {P Q T P' Q' T' : Value}
theorem TwoM.below (h : TwoM w a b P Q T P' Q' T' W) (hb : Below W.heap.size W W') : TwoM w a b P Q T P' Q' T' W' :=
  ⟨h.ba.below hb h.ba.lt, h.bb.below hb h.bb.lt, h.la.below hb, h.lb.below hb, nxt h.bw hb⟩
theorem twoM_mk (la : LiesM w a P Q T) (lb : LiesM w b P' Q' T') :
    TwoM w a b P Q T P' Q' T' ((w.alloc (.cells (mesC a P Q T) 39)).alloc (.cells (mesC b P' Q' T') 39)) := by
  have hb := below_new w (.cells (mesC a P Q T) 39)
  have hb2 := hb.alloc hb.size (.cells (mesC b P' Q' T') 39)
  refine ⟨(mes_new _ _ _ _ _ _).alloc _, ?_, la.below hb2, lb.below hb2, hb2⟩
  have := mes_new (w.alloc (.cells (mesC a P Q T) 39)) 39 b P' Q' T'
  simpa using this
end
/-- Are they the same? -/
def sameMV (a b : Mes) : Bool := decide (a.kind = b.kind) && (decide (a.signer = b.signer) && (decide (a.view = b.view) && (decide (a.n = b.n) && (decide (a.set = b.set) && (decide (a.cert = b.cert) && (decide (a.tm = b.tm) && (decide (a.proof = b.proof) && (sameV a.block b.block && decide (a.tx = b.tx)))))))))
theorem sameMV_iff (a b : Mes) : sameMV a b = decide (a = b) := by
  unfold sameMV
  rw [sameV_iff]
  obtain ⟨a0, a1, a2, a3, a4, a5, a6, a7, a8, a9⟩ := a
  obtain ⟨b0, b1, b2, b3, b4, b5, b6, b7, b8, b9⟩ := b
  rw [Bool.eq_iff_iff]
  simp
theorem sameMV_refl (a : Mes) : sameMV a a = true := by rw [sameMV_iff]; simp
theorem beq_u {x y : Nat} {r : Bool} (h : decide (x = y) = r) : ((x : Int) == (y : Int)) = r ∧ ((x : Int) != (y : Int)) = !r := by
  have e : ((x : Int) == (y : Int)) = r := by rw [← h, Bool.eq_iff_iff]; simp; omega
  exact ⟨e, by rw [bne, e]⟩
theorem and_no (l : List Bool) : l.all id = true ∨ l.all id = false := by cases l.all id <;> simp
/-- What the comparisons tell, each. -/
def diffM (a b : Mes) : Nat → Bool
  | 0 => decide (a.kind = b.kind)
  | 1 => decide (a.signer = b.signer)
  | 2 => decide (a.view = b.view)
  | 3 => decide (a.n = b.n)
  | 4 => decide (a.set = b.set)
  | 5 => decide (a.cert = b.cert)
  | 6 => decide (a.tm = b.tm)
  | 7 => decide (a.proof = b.proof)
  | 8 => sameV a.block b.block
  | _ => decide (a.tx = b.tx)
theorem same_no {a b : Mes} {i : Nat} (hi : i < 10) (h : diffM a b i = false) : sameMV a b = false := by
  unfold sameMV
  obtain rfl | rfl | rfl | rfl | rfl | rfl | rfl | rfl | rfl | rfl : i = 0 ∨ i = 1 ∨ i = 2 ∨ i = 3 ∨ i = 4 ∨ i = 5 ∨ i = 6 ∨ i = 7 ∨ i = 8 ∨ i = 9 := by omega
  all_goals
    simp only [diffM] at h
    rw [h]
    simp
theorem same_yes {a b : Mes} (h : ∀ i, i < 10 → diffM a b i = true) : sameMV a b = true := by
  have h0 := h 0 (by omega)
  have h1 := h 1 (by omega)
  have h2 := h 2 (by omega)
  have h3 := h 3 (by omega)
  have h4 := h 4 (by omega)
  have h5 := h 5 (by omega)
  have h6 := h 6 (by omega)
  have h7 := h 7 (by omega)
  have h8 := h 8 (by omega)
  have h9 := h 9 (by omega)
  simp only [diffM] at h0 h1 h2 h3 h4 h5 h6 h7 h8 h9
  unfold sameMV
  rw [h0, h1, h2, h3, h4, h5, h6, h7, h8, h9]; rfl
/-- The ways: the first of ten that tell a difference, or none. -/
theorem ten_ways (d : Nat → Bool) : (∃ i, i < 10 ∧ (∀ j, j < i → d j = true) ∧ d i = false) ∨ (∀ j, j < 10 → d j = true) := by
  have go : ∀ n, (∃ i, i < n ∧ (∀ j, j < i → d j = true) ∧ d i = false) ∨ (∀ j, j < n → d j = true) := by
    intro n
    induction n with
    | zero => exact .inr (fun j hj => by omega)
    | succ n ih =>
      rcases ih with ⟨i, h1, h2, h3⟩ | h
      · exact .inl ⟨i, by omega, h2, h3⟩
      · rcases Bool.eq_false_or_eq_true (d n) with e | e
        · exact .inr (fun j hj => by
            rcases Nat.lt_or_ge j n with hj2 | hj2
            · exact h j hj2
            · obtain rfl : j = n := by omega
              exact e)
        · exact .inl ⟨n, by omega, h, e⟩
  exact go 10
end Go.Proofs.YtgmejaiifibfoaaGreatDoor
