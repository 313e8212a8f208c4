/-
  A map of lists of numbers that the call makes: its values as they are, the rows that they own.
-/
import Derived.Test.YtgclofemhhhepaaDelB
import Derived.Test.YtgclofemhhhepaaAbvP
import Derived.Maps.AppendAt
set_option linter.unusedSimpArgs false
set_option linter.unusedVariables false
set_option maxRecDepth 10000
namespace Go.Proofs.Ytgclofemhhhepaa
open Go.RowKit Go.Maps Go.Lib
open L3 (Blk Reads)
open L6 (Turn moreB fresh From In)

/-- A value as it is. -/
def asIs (v : Value) : Option (DataW Value × List MemPlace) := some (.held v, [])
def nilV : Value := .slice none 0 0
theorem zeroL (w : World) : (zeroValue 50).run Try.prog w = .ok nilV w := by kernel_rfl
/-- Block bc is a map that has these values. -/
def KMap (W : World) (bc n : Nat) (V : Int → Value) : Prop := ∃ D, W.ownsMap Try.prog 3 asIs bc n D ∧ ∀ x, inI x → D.atKey (keyI x) (.held nilV) = .held (V x)
theorem kmap_made (w : World) : KMap (w.alloc (.map #[] 0)) w.heap.size 0 (fun _ => nilV) := ⟨.map [], World.ownsMap_made w _ _ _, fun x hx => rfl⟩
theorem KMap.lt {W : World} {bc n : Nat} {V : Int → Value} (h : KMap W bc n V) : bc < W.heap.size := by obtain ⟨D, h, _⟩ := h; exact h.lt
theorem KMap.turn {W W' : World} {bc n : Nat} {V : Int → Value} {S : Nat → Prop} (h : KMap W bc n V) (ht : Turn S W W') (hs : ¬ S bc) : KMap W' bc n V := by
  obtain ⟨D, h, hv⟩ := h
  exact ⟨D, ht.map h hs, hv⟩
theorem KMap.drew {W : World} {bc n : Nat} {V : Int → Value} (h : KMap W bc n V) : KMap W.drew bc n V := by
  obtain ⟨D, h, hv⟩ := h
  exact ⟨D, h.drew, hv⟩
theorem KMap.look {W : World} {bc n : Nat} {V : Int → Value} (h : KMap W bc n V) {x : Int} (hx : inI x) : (Instr.lookup 95 (.map (some bc)) (.int .i64 x) false).run Try.prog W = .ok (V x) W := by
  obtain ⟨D, h, hv⟩ := h
  obtain ⟨v, ps, hrun, hr⟩ := h.lookup kdI Try.underlying95 (zeroL W) (show asIs nilV = some (.held nilV, []) from rfl) (key_at hx)
  rw [hv x hx] at hr
  have e : v = V x := by
    unfold asIs at hr
    injection hr with hr
    injection hr with hr
    injection hr
  rw [hrun, e]
theorem exec_kid {n : Nat} {ev : Operand → Value} {o : Oper} {W : World} {V : Int → Value} (m x : Operand) (hop : o.op = Op.lookup 95 m x false) (bc : Nat) (hm : ev m = .map (some bc)) (h : KMap W bc n V) (k : Int) (hx : ev x = .int .i64 k) (hk : inI k) :
    (execOp ev o).run Try.prog W = .ok (.value (V k)) W := by
  simp [execOp, hop, hm, hx, h.look hk, Result.andThen]
def upd {β : Type} (f : Int → β) (p : Int) (v : β) (x : Int) : β := if x = p then v else f x
theorem upd_same {β : Type} (f : Int → β) (p : Int) (v : β) : upd f p v p = v := if_pos rfl
theorem upd_other {β : Type} (f : Int → β) {p x : Int} (v : β) (h : x ≠ p) : upd f p v x = f x := if_neg h
theorem kmap_put {W : World} {bc n : Nat} {V : Int → Value} {D : DataW Value} (hm : IsMap D) (hv : ∀ x, inI x → D.atKey (keyI x) (.held nilV) = .held (V x)) {p : Int} (hp : inI p) {v : Value} (h : W.ownsMap Try.prog 3 asIs bc n (D.put (keyI p) (.held v))) : KMap W bc n (upd V p v) := by
  refine ⟨_, h, fun x hx => ?_⟩
  by_cases c : x = p
  · subst c
    rw [upd_same, atKey_put_same hm (keyI_key hx)]
  · rw [upd_other _ _ c, atKey_put_other (keyI_ne c)]
    exact hv x hx
/-- Each key's list owns a row of its own. -/
structure KRow (W : World) (base : Nat) (V : Int → Value) (F : Int → List Int) : Prop where
  row : ∀ x, inI x → OwnI W base (V x) (F x)
  apart : ∀ x y, inI x → inI y → x ≠ y → (V x).ownBlock = none ∨ (V x).ownBlock ≠ (V y).ownBlock
theorem krow_nil (W : World) (base : Nat) : KRow W base (fun _ => nilV) (fun _ => []) := ⟨fun x _ => World.ownsRow_nil _ _ _ _, fun x y _ _ _ => .inl rfl⟩
theorem KRow.below {W W' : World} {base : Nat} {V : Int → Value} {F : Int → List Int} (h : KRow W base V F) (hb : Below W.heap.size W W') : KRow W' base V F :=
  ⟨fun x hx => L6.Turn.row (S := fun _ => False) (L6.Turn.of_keep hb) (h.row x hx) (fun _ _ h => h), h.apart⟩
theorem KRow.turn {W W' : World} {base : Nat} {V : Int → Value} {F : Int → List Int} {S : Nat → Prop} (h : KRow W base V F) (ht : Turn S W W') (hs : ∀ k, S k → k < base) : KRow W' base V F :=
  ⟨fun x hx => ht.row (h.row x hx) (fun k hk hS => by have := (World.ownsRow.lt (h.row x hx) k hk).1; have := hs k hS; omega), h.apart⟩
theorem krow_step {w w1 : World} {base : Nat} {V : Int → Value} {F : Int → List Int} (h : KRow w base V F) {p : Int} (hp : inI p) {v' : Value} {l' : List Int} (ht : Turn (fun j => (V p).ownBlock = some j) w w1) (ho : OwnI w1 base v' l')
    (hloc : v'.ownBlock = (V p).ownBlock ∨ ∃ g, v'.ownBlock = some g ∧ w.heap.size ≤ g) : KRow w1 base (upd V p v') (upd F p l') := by
  have far : ∀ z, inI z → z ≠ p → ((V z).ownBlock = none ∨ (V z).ownBlock ≠ v'.ownBlock) ∧ (v'.ownBlock = none ∨ v'.ownBlock ≠ (V z).ownBlock) := fun z hz hne => by
    rcases hloc with e | ⟨g, e, hg⟩
    · rw [e]
      exact ⟨h.apart z p hz hp hne, h.apart p z hp hz (fun e => hne e.symm)⟩
    · have : (V z).ownBlock ≠ some g := fun e2 => by have := (World.ownsRow.lt (h.row z hz) g e2).2; omega
      rw [e]
      exact ⟨.inr this, .inr (fun e2 => this e2.symm)⟩
  refine ⟨fun x hx => ?_, fun x y hx hy hne => ?_⟩
  · by_cases c : x = p
    · subst c
      rw [upd_same, upd_same]
      exact ho
    · rw [upd_other _ _ c, upd_other _ _ c]
      refine ht.row (h.row x hx) (fun k hk hS => ?_)
      rcases h.apart x p hx hp c with h1 | h1
      · rw [h1] at hk; cases hk
      · exact h1 (hk.trans hS.symm)
  · by_cases c : x = p
    · subst c
      rw [upd_same, upd_other _ _ (fun e => hne e.symm)]
      exact (far y hy (fun e => hne e.symm)).2
    · by_cases d : y = p
      · subst d
        rw [upd_same, upd_other _ _ c]
        exact (far x hx c).1
      · rw [upd_other _ _ c, upd_other _ _ d]
        exact h.apart x y hx hy hne
end Go.Proofs.Ytgclofemhhhepaa
