/-
  What each law's row needs besides its walk: the last step behind a call that makes memory.
-/
import Derived.Test.YtdojbnjaomlngaaAlive
import Derived.Test.YtdojbnjaomlngaaActs
import Derived.Test.YtdojbnjaomlngaaStructs
import Derived.Deep.Strs
import Derived.Deep.Slices
import Derived.ProofKit
import Derived.OpenShut
import Derived.Carry
import Derived.ChangeMaps5
import Derived.Deep.DeepHandedRow
import Derived.Lib.LaidTab
import Derived.Stop.LaidErr
import Derived.ChangeSlices
set_option linter.unusedSimpArgs false
set_option linter.unusedVariables false
set_option maxRecDepth 10000
namespace Go.Proofs.Ytdojbnjaomlngaa
open Go.ChangeShapes Go.WideShapes Go.ChangeAt Go.RowKit
open L3 (Blk Reads block_of_add add_of_add)

theorem own : ownKnob Try.prog.godebug = none := by kernel_rfl
theorem laidOut : laidOutB Try.prog = true := by kernel_rfl
section
variable {H : Type} {enc : TypeId × Value → H} {P : Program}
/-- The row's last step where of memory 'Below' alone is known. -/
theorem post_of_below {f : Func} {s : ChangeSpec} {apart fresh handsOn again : Bool} {W W' : World} {args : Array Value} {v : Value} {ds gs : List (DataW H)} {before pa pv : List MemPlace}
    (hW : DataW.Whole enc P f.params.toList s.vars apart W args.toList ds gs before)
    (hres : ∀ (b : Nat) (sp : Nat → Bool) (hd : Bool), DataW.TrodAll enc P W' b sp hd f.resultTypes.toList (v.resultList f.resultTypes.size) (s.fn H (ds ++ gs)).results [])
    (hargs : ∀ sp : Nat → Bool, (∀ p ∈ before, sp p.block = true) → DataW.TrodAll enc P W' 0 sp true f.params.toList args.toList (s.fn H (ds ++ gs)).args pa)
    (hvars : ∀ sp : Nat → Bool, (∀ p ∈ before, sp p.block = true) → DataW.TrodVars enc P W' sp s.vars (s.fn H (ds ++ gs)).vars pv)
    (hps : before = pa ++ pv) (hb : Below W.heap.size W W')
    (hok : ∀ (j : Nat) (t : TypeId) (r : Value), f.resultTypes[j]? = some t → (v.resultList f.resultTypes.size)[j]? = some r → Value.okWide P W' .any 0 t r) :
    s.post enc P f apart fresh handsOn again W args v W' := by
  have hlt : ∀ p ∈ before, p.block < W.heap.size := fun p hp => hW.lt p hp
  have hold : ∀ p ∈ before, (fun b => decide (b < W.heap.size)) p.block = true := fun p hp => by simpa using hlt p hp
  refine ⟨ds, gs, before, [], pa, pv, hW, hres _ _ _, hargs _ hold, hvars _ hold, World.keptBut_mono (fun p hp => ⟨hp, ?_⟩) (hb.frame (· ∈ before)), fun _ => ?_⟩
  · rw [hps, List.mem_append] at hp
    exact Or.inr hp
  · obtain ⟨_, _, _, _, _, hz, hn⟩ := hW
    refine ⟨hok, _, _, ([] ++ pa) ++ pv, ⟨[] ++ pa, pv, trodAll_append (hargs _ (fun _ _ => rfl)) (hres _ _ _), hvars _ (fun _ _ => rfl), rfl, ?_, ?_⟩, ?_⟩
    · intro b off hp
      have hin : MemPlace.cell b off ∈ before := by rw [hps]; simpa using hp
      rw [hb.frozen (hlt _ hin)]
      exact hz b off hin
    · intro ha
      have := hn ha
      rw [hps] at this
      simpa using this
    · intro p hp _
      rw [hps]
      simpa using hp
end

theorem cell_lt {w : World} {a : Addr} {v : Value} (h : w.cell? a = some v) : a.block < w.heap.size := by
  rcases Nat.lt_or_ge a.block w.heap.size with hlt | hge
  · exact hlt
  · have e : w.heap[a.block]? = none := Array.getElem?_eq_none hge
    simp [World.cell?, e] at h
theorem str_len {s : ByteArray} (h : s.size ≤ maxLen) : s.data.toList.length ≤ maxLen := by
  rw [Array.length_toList]
  exact h
theorem open_acts {H : Type} {enc : TypeId × Value → H} {W : World} {base : Nat} {v : Value} {d : DataW H} {ps : List MemPlace} (hval : Value.okWide Try.prog W .any base 22 v)
    (h : DataW.Trod enc Try.prog W 0 (fun _ => true) true 22 v d ps) :
    ∃ (A : Option Addr) (len cap : Nat) (D : Nat → Actx), v = .slice A len cap ∧ Acts W A len D ∧ len ≤ maxLen := by
  obtain ⟨a0, len, cap, rfl⟩ := okWide_slice Try.underlying22 hval
  obtain ⟨fuel, hf⟩ := h
  rcases open_slice_fields Try.underlying22 Try.underlying31 (by kernel_rfl) (by kernel_rfl) hf with ⟨hcs, hx⟩ | ⟨a, len', cap', m, D, Pl, hcs, _, hl, hm, hmm, hx, hi⟩
  · simp [Value.cells] at hcs
    obtain ⟨rfl, rfl, rfl⟩ := hcs
    exact ⟨none, 0, 0, fun _ => ⟨0, 0, []⟩, rfl, fun i hi => absurd hi (by omega), Nat.zero_le _⟩
  · simp [Value.cells] at hcs
    obtain ⟨rfl, rfl, rfl⟩ := hcs
    simp only [if_true] at hmm
    subst hmm
    have each : ∀ i, i < len → ∃ x : Actx, (∀ j u, (acL x)[j]? = some u → W.cell? ((a.add (i * 3)).add j) = some u) ∧ x.fit := by
      intro i hil
      obtain ⟨ys, n, _, _, _, hfl⟩ := hi i (by omega)
      obtain ⟨v0, y0, hc0, _, ht0⟩ := hfl 0 _ rfl
      obtain ⟨v1, y1, hc1, _, ht1⟩ := hfl 1 _ rfl
      obtain ⟨v2, y2, hc2, _, ht2⟩ := hfl 2 _ rfl
      obtain ⟨k, hk, _, hw0⟩ := DataW.trod_int Try.underlying3 ht0
      obtain ⟨n1, hn, _, hw1⟩ := DataW.trod_int Try.underlying3 ht1
      obtain ⟨s, hs, _, hw2⟩ := DataW.trod_string Try.underlying9 ht2
      simp at hk hn hs
      subst hk hn hs
      refine ⟨⟨k, n1, s.data.toList⟩, fun j u hj => ?_, ⟨bounds_i64 hw0, bounds_i64 hw1, str_len hw2⟩⟩
      rw [add_of_add]
      match j, hj with
      | 0, hj => injection hj with hj; subst hj; exact hc0
      | 1, hj => injection hj with hj; subst hj; exact hc1
      | 2, hj => injection hj with hj; subst hj; rw [str_of]; exact hc2
      | j + 3, hj => cases hj
    obtain ⟨F, hF⟩ := Deep.choose_lt each
    refine ⟨some a, len, _, F, rfl, fun i hil => ?_, by omega⟩
    obtain ⟨c0, hf⟩ := hF i hil
    have hb := cell_lt (c0 0 _ rfl)
    rw [block_of_add, block_of_add] at hb
    exact ⟨a, rfl, hb, c0, hf⟩
/-- An act that came in by value. -/
theorem open_act {H : Type} {enc : TypeId × Value → H} {W : World} {base : Nat} {v : Value} {d : DataW H} {ps : List MemPlace} (hval : Value.okWide Try.prog W .any base 31 v)
    (h : DataW.Trod enc Try.prog W 0 (fun _ => true) true 31 v d ps) : ∃ x : Actx, v = .agg (acC x) ∧ x.fit := by
  obtain ⟨cs, rfl, _⟩ := okWide_struct Try.underlying31 hval
  obtain ⟨fuel, hf⟩ := h
  obtain ⟨ys, n, _, _, hlen, hyl, hfl⟩ := DataW.trod_struct Try.underlying31 hf
  have cA : Try.prog.cellsOf 31 = 3 := by kernel_rfl
  have cI : Try.prog.cellsOf 3 = 1 := by kernel_rfl
  have cS : Try.prog.cellsOf 9 = 1 := by kernel_rfl
  have hl : cs.toList.length = 3 := hlen.trans cA
  have hy : ys.length = 3 := hyl
  have so : ∀ j, j < 3 → (ys[j]?).isSome = true := fun j hj => by rw [List.getElem?_eq_getElem (by omega)]; rfl
  have hl' : (Value.agg cs).cells.toList.length = 3 := hl
  obtain ⟨l, hcs⟩ : ∃ l, l = (Value.agg cs).cells.toList := ⟨_, rfl⟩
  rw [← hcs] at hfl hl'
  clear hl
  match l, hl' with
  | [b0, b1, b2], _ =>
    have h0 := hfl 0 _ rfl
    have h1 := hfl 1 _ rfl
    have h2 := hfl 2 _ rfl
    obtain ⟨y0, e0⟩ := Option.isSome_iff_exists.1 (so 0 (by decide))
    obtain ⟨y1, e1⟩ := Option.isSome_iff_exists.1 (so 1 (by decide))
    obtain ⟨y2, e2⟩ := Option.isSome_iff_exists.1 (so 2 (by decide))
    rw [e0] at h0
    rw [e1] at h1
    rw [e2] at h2
    obtain ⟨k, hk, _, hw0⟩ := DataW.trod_int Try.underlying3 (show DataW.trod enc Try.prog W 0 (fun _ => true) true n 3 [b0] = some y0 from h0)
    obtain ⟨n1, hn, _, hw1⟩ := DataW.trod_int Try.underlying3 (show DataW.trod enc Try.prog W 0 (fun _ => true) true n 3 [b1] = some y1 from h1)
    obtain ⟨s, hs, _, hw2⟩ := DataW.trod_string Try.underlying9 (show DataW.trod enc Try.prog W 0 (fun _ => true) true n 9 [b2] = some y2 from h2)
    simp at hk hn hs
    subst hk hn hs
    refine ⟨⟨k, n1, s.data.toList⟩, ?_, ⟨bounds_i64 hw0, bounds_i64 hw1, str_len hw2⟩⟩
    have : cs = acC ⟨k, n1, s.data.toList⟩ := Array.toList_inj.1 ((show cs.toList = (Value.agg cs).cells.toList from rfl).trans (hcs.symm.trans (by unfold acC; rw [str_of])))
    rw [this]
end Go.Proofs.Ytdojbnjaomlngaa
