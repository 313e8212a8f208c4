/-
  What each law's row needs besides its walk: the last step behind a call that makes memory.
-/
import Derived.Test.YtjkfogjhakcnfaaDoorDuo
import Derived.ProofKit
import Derived.OpenShut
import Derived.Carry
import Derived.ChangeMaps5
import Derived.Deep.DeepHandedRow
import Derived.Lib.LaidTab
import Derived.Stop.LaidErr
import Derived.ChangeSlices
import Derived.Deep.Slices
set_option linter.unusedSimpArgs false
set_option linter.unusedVariables false
namespace Go.Proofs.YtjkfogjhakcnfaaDoor
open Go.ChangeShapes Go.WideShapes Go.ChangeAt Go.RowKit

theorem own : ownKnob Tryd.prog.godebug = none := by kernel_rfl
section
variable {H : Type} {enc : TypeId × Value → H} {P : Program}
/-- The row's last step where of memory 'Below' alone is known. -/
theorem post_of_below {f : Func} {s : ChangeSpec} {apart fresh handsOn again : Bool} {W W' : World} {args : Array Value} {v : Value} {ds gs : List (DataW H)} {before pa pv : List MemPlace}
    (hW : DataW.Whole enc P f.params.toList s.vars apart W args.toList ds gs before)
    (hres : ∀ (b : Nat) (sp : Nat → Bool) (hd : Bool), DataW.TrodAll enc P W' b sp hd f.resultTypes.toList (v.resultList f.resultTypes.size) (s.fn H (ds ++ gs)).results [])
    (hargs : ∀ sp : Nat → Bool, (∀ p ∈ before, sp p.block = true) → DataW.TrodAll enc P W' 0 sp true f.params.toList args.toList (s.fn H (ds ++ gs)).args pa)
    (hvars : ∀ sp : Nat → Bool, (∀ p ∈ before, sp p.block = true) → DataW.TrodVars enc P W' sp s.vars (s.fn H (ds ++ gs)).vars pv)
    (hps : before = pa ++ pv) (hb : Below W.heap.size W W')
    (hok : ∀ (j : Nat) (t : TypeId) (r : Value), f.resultTypes[j]? = some t → (v.resultList f.resultTypes.size)[j]? = some r → Value.okWide P W' .any 0 t r) :
    s.post enc P f apart fresh handsOn again W args v W' := by
  have hlt : ∀ p ∈ before, p.block < W.heap.size := fun p hp => hW.lt p hp
  have hold : ∀ p ∈ before, (fun b => decide (b < W.heap.size)) p.block = true := fun p hp => by simpa using hlt p hp
  refine ⟨ds, gs, before, [], pa, pv, hW, hres _ _ _, hargs _ hold, hvars _ hold, World.keptBut_mono (fun p hp => ⟨hp, ?_⟩) (hb.frame (· ∈ before)), fun _ => ?_⟩
  · rw [hps, List.mem_append] at hp
    exact Or.inr hp
  · obtain ⟨_, _, _, _, _, hz, hn⟩ := hW
    refine ⟨hok, _, _, ([] ++ pa) ++ pv, ⟨[] ++ pa, pv, trodAll_append (hargs _ (fun _ _ => rfl)) (hres _ _ _), hvars _ (fun _ _ => rfl), rfl, ?_, ?_⟩, ?_⟩
    · intro b off hp
      have hin : MemPlace.cell b off ∈ before := by rw [hps]; simpa using hp
      rw [hb.frozen (hlt _ hin)]
      exact hz b off hin
    · intro ha
      have := hn ha
      rw [hps] at this
      simpa using this
    · intro p hp _
      rw [hps]
      simpa using hp
end


section
variable {H : Type} {enc : TypeId × Value → H} {w : World} {base : Nat} {spare : Nat → Bool} {held : Bool}
theorem cU : Tryd.prog.cellsOf 22 = 1 := by kernel_rfl
theorem cA : Tryd.prog.cellsOf 42 = 4 := by kernel_rfl
theorem one_of {l : List Value} {off : Nat} (h : off < l.length) : (l.drop off).take 1 = [l[off]] := by
  rw [List.drop_eq_getElem_cons h]; rfl
theorem int_field {n off : Nat} {l : List Value} {y : Option (DataW H × List MemPlace)} (h : DataW.trod enc Tryd.prog w base spare held n 3 ((l.drop off).take (Tryd.prog.cellsOf 3)) = y) (hy : y.isSome = true) (hl : off < l.length) :
    ∃ a, l[off]? = some (.int .i64 a) ∧ inI a := by
  obtain ⟨z, rfl⟩ := Option.isSome_iff_exists.1 hy
  rw [cI, one_of hl] at h
  obtain ⟨k, hk, _, hw⟩ := DataW.trod_int Tryd.underlying3 h
  simp at hk
  exact ⟨k, by rw [List.getElem?_eq_getElem hl, hk], bounds_i64 hw⟩
theorem u32_field {n off : Nat} {l : List Value} {y : Option (DataW H × List MemPlace)} (h : DataW.trod enc Tryd.prog w base spare held n 22 ((l.drop off).take (Tryd.prog.cellsOf 22)) = y) (hy : y.isSome = true) (hl : off < l.length) :
    ∃ a : Nat, l[off]? = some (.int .u32 a) ∧ a < 4294967296 := by
  obtain ⟨z, rfl⟩ := Option.isSome_iff_exists.1 hy
  rw [cU, one_of hl] at h
  obtain ⟨k, hk, _, hw⟩ := DataW.trod_int Tryd.underlying22 h
  simp at hk
  have hb := bounds_u32 hw
  obtain ⟨a, rfl⟩ := Int.eq_ofNat_of_zero_le hb.1
  exact ⟨a, by rw [List.getElem?_eq_getElem hl, hk], by omega⟩
theorem some_of {ys : List (DataW H × List MemPlace)} {j n : Nat} (h : ys.length = n) (hj : j < n) : (ys[j]?).isSome = true := by
  rw [List.getElem?_eq_getElem (by omega)]; rfl
/-- A call, that came in. -/
structure Actx where
  kind : Int
  view : Int
  who : Int
  set : Nat
deriving Inhabited
def Actx.fit (a : Actx) : Prop := inI a.kind ∧ inI a.view ∧ inI a.who ∧ a.set < 4294967296
def actL (a : Actx) : List Value := [.int .i64 a.kind, .int .i64 a.view, .int .i64 a.who, .int .u32 a.set]
def actC (a : Actx) : Array Value := #[.int .i64 a.kind, .int .i64 a.view, .int .i64 a.who, .int .u32 a.set]
theorem act_of_trod {fuel : Nat} {l : List Value} {y : DataW H × List MemPlace} (h : DataW.trod enc Tryd.prog w base spare held fuel 42 l = some y) : ∃ a : Actx, l = actL a ∧ a.fit := by
  obtain ⟨ys, n, _, _, hlen, hyl, hf⟩ := DataW.trod_struct Tryd.underlying42 h
  have hl : l.length = 4 := hlen.trans cA
  have hy : ys.length = 4 := hyl
  obtain ⟨k, e0, w0⟩ := int_field (hf 0 _ rfl) (some_of hy (by decide)) (Nat.lt_of_lt_of_eq (by decide) hl.symm)
  obtain ⟨g, e1, w1⟩ := int_field (hf 1 _ rfl) (some_of hy (by decide)) (Nat.lt_of_lt_of_eq (by decide) hl.symm)
  obtain ⟨m, e2, w2⟩ := int_field (hf 2 _ rfl) (some_of hy (by decide)) (Nat.lt_of_lt_of_eq (by decide) hl.symm)
  obtain ⟨u, e3, w3⟩ := u32_field (hf 3 _ rfl) (some_of hy (by decide)) (Nat.lt_of_lt_of_eq (by decide) hl.symm)
  refine ⟨⟨k, g, m, u⟩, ?_, w0, w1, w2, w3⟩
  match l, hl with
  | [b0, b1, b2, b3], _ =>
    simp at e0 e1 e2 e3
    subst e0 e1 e2 e3
    rfl
end
/-- In w a slice of n calls at A. -/
def Acts (w : World) (A : Option Addr) (n : Nat) (D : Nat → Actx) : Prop :=
  ∀ i, i < n → ∃ ad, A = some ad ∧ ad.block < w.heap.size ∧ (∀ j u, (actL (D i))[j]? = some u → w.cell? ((ad.add (i * 4)).add j) = some u) ∧ (D i).fit
theorem Acts.below {w w' : World} {A : Option Addr} {n : Nat} {D : Nat → Actx} (h : Acts w A n D) (hb : Below w.heap.size w w') : Acts w' A n D := by
  intro i hi
  obtain ⟨ad, hA, hl, hc, hf⟩ := h i hi
  exact ⟨ad, hA, Nat.lt_of_lt_of_le hl hb.size, fun j u hj => (hb.cell (by rw [block_of_add, block_of_add]; exact hl)).trans (hc j u hj), hf⟩
theorem cell_lt {w : World} {a : Addr} {v : Value} (h : w.cell? a = some v) : a.block < w.heap.size := World.block_lt_of_cell? w a h
theorem open_acts {H : Type} {enc : TypeId × Value → H} {W : World} {base : Nat} {v : Value} {d : DataW H} {ps : List MemPlace} (hval : Value.okWide Tryd.prog W .any base 23 v)
    (h : DataW.Trod enc Tryd.prog W 0 (fun _ => true) true 23 v d ps) :
    ∃ (A : Option Addr) (len cap : Nat) (D : Nat → Actx), v = .slice A len cap ∧ Acts W A len D ∧ len ≤ maxLen := by
  obtain ⟨a0, len, cap, rfl⟩ := okWide_slice Tryd.underlying23 hval
  obtain ⟨fuel, hf⟩ := h
  rcases Deep.open_slice Tryd.underlying23 hf with ⟨hcs, hx⟩ | ⟨a, len', cap', m, n, D, Pl, hcs, _, hl, hm, hmm, hx, hi⟩
  · simp [Value.cells] at hcs
    obtain ⟨rfl, rfl, rfl⟩ := hcs
    exact ⟨none, 0, 0, fun _ => default, rfl, fun i hi => absurd hi (by omega), Nat.zero_le _⟩
  · simp [Value.cells] at hcs
    obtain ⟨rfl, rfl, rfl⟩ := hcs
    simp only [if_true] at hmm
    subst hmm
    have each : ∀ i, i < len → ∃ x : Actx, (∀ j u, (actL x)[j]? = some u → W.cell? ((a.add (i * 4)).add j) = some u) ∧ x.fit := by
      intro i hil
      obtain ⟨cs', hc, ht⟩ := hi i (by omega)
      obtain ⟨_, hcl, hat⟩ := World.cells?_some hc
      obtain ⟨x, rfl, hfit⟩ := act_of_trod ht
      rw [cA] at hat
      refine ⟨x, fun j u hj => ?_, hfit⟩
      have hj14 : j < 4 := by
        rcases Nat.lt_or_ge j 4 with h | h
        · exact h
        · rw [List.getElem?_eq_none (by simp [actL]; omega)] at hj; cases hj
      rw [hat j hj14]
      exact hj
    obtain ⟨F, hF⟩ := Deep.choose_lt each
    refine ⟨some a, len, m, F, rfl, fun i hil => ?_, by omega⟩
    obtain ⟨h0, h1⟩ := hF i hil
    have hb := cell_lt (h0 0 _ rfl)
    rw [block_of_add, block_of_add] at hb
    exact ⟨a, rfl, hb, h0, h1⟩
end Go.Proofs.YtjkfogjhakcnfaaDoor
