/-
  What each law's row needs besides its walk: the last step behind a call that makes memory.
-/
import Derived.Test.YthhjdielananeaaStrV
import Derived.Test.YthhjdielananeaaLin
import Derived.Test.YthhjdielananeaaActs
import Derived.Deep.Strs
import Derived.Deep.Slices
import Derived.ProofKit
import Derived.OpenShut
import Derived.Carry
import Derived.ChangeMaps5
import Derived.Deep.DeepHandedRow
import Derived.Lib.LaidTab
import Derived.Stop.LaidErr
import Derived.ChangeSlices
set_option linter.unusedSimpArgs false
set_option linter.unusedVariables false
set_option maxRecDepth 10000
namespace Go.Proofs.Ythhjdielananeaa
open Go.ChangeShapes Go.WideShapes Go.ChangeAt Go.RowKit
open L3 (Blk Reads block_of_add add_of_add)

theorem own : ownKnob Try.prog.godebug = none := by kernel_rfl
theorem laidOut : laidOutB Try.prog = true := by kernel_rfl
section
variable {H : Type} {enc : TypeId × Value → H} {P : Program}
/-- The row's last step where of memory 'Below' alone is known. -/
theorem post_of_below {f : Func} {s : ChangeSpec} {apart fresh handsOn again : Bool} {W W' : World} {args : Array Value} {v : Value} {ds gs : List (DataW H)} {before pa pv : List MemPlace}
    (hW : DataW.Whole enc P f.params.toList s.vars apart W args.toList ds gs before)
    (hres : ∀ (b : Nat) (sp : Nat → Bool) (hd : Bool), DataW.TrodAll enc P W' b sp hd f.resultTypes.toList (v.resultList f.resultTypes.size) (s.fn H (ds ++ gs)).results [])
    (hargs : ∀ sp : Nat → Bool, (∀ p ∈ before, sp p.block = true) → DataW.TrodAll enc P W' 0 sp true f.params.toList args.toList (s.fn H (ds ++ gs)).args pa)
    (hvars : ∀ sp : Nat → Bool, (∀ p ∈ before, sp p.block = true) → DataW.TrodVars enc P W' sp s.vars (s.fn H (ds ++ gs)).vars pv)
    (hps : before = pa ++ pv) (hb : Below W.heap.size W W')
    (hok : ∀ (j : Nat) (t : TypeId) (r : Value), f.resultTypes[j]? = some t → (v.resultList f.resultTypes.size)[j]? = some r → Value.okWide P W' .any 0 t r) :
    s.post enc P f apart fresh handsOn again W args v W' := by
  have hlt : ∀ p ∈ before, p.block < W.heap.size := fun p hp => hW.lt p hp
  have hold : ∀ p ∈ before, (fun b => decide (b < W.heap.size)) p.block = true := fun p hp => by simpa using hlt p hp
  refine ⟨ds, gs, before, [], pa, pv, hW, hres _ _ _, hargs _ hold, hvars _ hold, World.keptBut_mono (fun p hp => ⟨hp, ?_⟩) (hb.frame (· ∈ before)), fun _ => ?_⟩
  · rw [hps, List.mem_append] at hp
    exact Or.inr hp
  · obtain ⟨_, _, _, _, _, hz, hn⟩ := hW
    refine ⟨hok, _, _, ([] ++ pa) ++ pv, ⟨[] ++ pa, pv, trodAll_append (hargs _ (fun _ _ => rfl)) (hres _ _ _), hvars _ (fun _ _ => rfl), rfl, ?_, ?_⟩, ?_⟩
    · intro b off hp
      have hin : MemPlace.cell b off ∈ before := by rw [hps]; simpa using hp
      rw [hb.frozen (hlt _ hin)]
      exact hz b off hin
    · intro ha
      have := hn ha
      rw [hps] at this
      simpa using this
    · intro p hp _
      rw [hps]
      simpa using hp
end

theorem cell_lt {w : World} {a : Addr} {v : Value} (h : w.cell? a = some v) : a.block < w.heap.size := World.block_lt_of_cell? w a h
theorem str_len {s : ByteArray} (h : s.size ≤ maxLen) : s.data.toList.length ≤ maxLen := by
  rw [Array.length_toList]
  exact h
section
variable {H : Type} {enc : TypeId × Value → H} {w : World} {base : Nat} {spare : Nat → Bool} {held : Bool}
theorem cI : Try.prog.cellsOf 3 = 1 := by kernel_rfl
theorem cJ : Try.prog.cellsOf 2 = 1 := by kernel_rfl
theorem cS : Try.prog.cellsOf 9 = 1 := by kernel_rfl
theorem cT : Try.prog.cellsOf 42 = 3 := by kernel_rfl
theorem cA : Try.prog.cellsOf 44 = 5 := by kernel_rfl
theorem cE : Try.prog.cellsOf 34 = 3 := by kernel_rfl
theorem one_of {l : List Value} {off : Nat} (h : off < l.length) : (l.drop off).take 1 = [l[off]] := by
  rw [List.drop_eq_getElem_cons h]
  rfl
theorem int_field {n off : Nat} {l : List Value} {y : Option (DataW H × List MemPlace)} (h : DataW.trod enc Try.prog w base spare held n 3 ((l.drop off).take (Try.prog.cellsOf 3)) = y) (hy : y.isSome = true) (hl : off < l.length) :
    ∃ a : Int, l[off]? = some (.int .i64 a) ∧ inI a := by
  obtain ⟨z, rfl⟩ := Option.isSome_iff_exists.1 hy
  rw [cI, one_of hl] at h
  obtain ⟨k, hk, _, hw⟩ := DataW.trod_int Try.underlying3 h
  simp at hk
  exact ⟨k, by rw [List.getElem?_eq_getElem hl, hk], bounds_i64 hw⟩
theorem i64_field {n off : Nat} {l : List Value} {y : Option (DataW H × List MemPlace)} (h : DataW.trod enc Try.prog w base spare held n 2 ((l.drop off).take (Try.prog.cellsOf 2)) = y) (hy : y.isSome = true) (hl : off < l.length) :
    ∃ a : Int, l[off]? = some (.int .i64 a) ∧ inI a := by
  obtain ⟨z, rfl⟩ := Option.isSome_iff_exists.1 hy
  rw [cJ, one_of hl] at h
  obtain ⟨k, hk, _, hw⟩ := DataW.trod_int Try.underlying2 h
  simp at hk
  exact ⟨k, by rw [List.getElem?_eq_getElem hl, hk], bounds_i64 hw⟩
theorem str_field {n off : Nat} {l : List Value} {y : Option (DataW H × List MemPlace)} (h : DataW.trod enc Try.prog w base spare held n 9 ((l.drop off).take (Try.prog.cellsOf 9)) = y) (hy : y.isSome = true) (hl : off < l.length) :
    ∃ a : List UInt8, l[off]? = some (.string (str a)) ∧ a.length ≤ maxLen := by
  obtain ⟨z, rfl⟩ := Option.isSome_iff_exists.1 hy
  rw [cS, one_of hl] at h
  obtain ⟨s, hk, _, hw⟩ := DataW.trod_string Try.underlying9 h
  simp at hk
  exact ⟨s.data.toList, by rw [List.getElem?_eq_getElem hl, hk, str_of], str_len hw⟩
theorem some_of {ys : List (DataW H × List MemPlace)} {j n : Nat} (h : ys.length = n) (hj : j < n) : (ys[j]?).isSome = true := by
  rw [List.getElem?_eq_getElem (by omega)]; rfl
theorem list3 {l : List Value} {a0 a1 a2 : Value} (hl : l.length = 3) (h0 : l[0]? = some a0) (h1 : l[1]? = some a1) (h2 : l[2]? = some a2) : l = [a0, a1, a2] := by
  match l, hl with
  | [b0, b1, b2], _ =>
    simp at h0 h1 h2
    subst h0 h1 h2
    rfl
/-- An entry, read. -/
theorem ent_of_trod {fuel : Nat} {l : List Value} {y : DataW H × List MemPlace} (h : DataW.trod enc Try.prog w base spare held fuel 34 l = some y) : ∃ x : Ent, l = enL x ∧ x.fit := by
  obtain ⟨ys, n, _, _, hlen, hyl, hf⟩ := DataW.trod_struct Try.underlying34 h
  have hl : l.length = 3 := hlen.trans cE
  have hy : ys.length = 3 := hyl
  obtain ⟨a0, e0, w0⟩ := i64_field (hf 0 _ rfl) (some_of hy (by decide)) (Nat.lt_of_lt_of_eq (by decide) hl.symm)
  obtain ⟨a1, e1, w1⟩ := int_field (hf 1 _ rfl) (some_of hy (by decide)) (Nat.lt_of_lt_of_eq (by decide) hl.symm)
  obtain ⟨a2, e2, w2⟩ := str_field (hf 2 _ rfl) (some_of hy (by decide)) (Nat.lt_of_lt_of_eq (by decide) hl.symm)
  exact ⟨⟨a0, a1, a2⟩, list3 hl e0 e1 e2, ⟨w0, w1, w2⟩⟩
/-- A tape's call, read. -/
theorem tac_of_trod {fuel : Nat} {l : List Value} {y : DataW H × List MemPlace} (h : DataW.trod enc Try.prog w base spare held fuel 42 l = some y) : ∃ (a b : Int) (s : List UInt8), l = [.int .i64 a, .int .i64 b, .string (str s)] ∧ inI a ∧ inI b ∧ s.length ≤ maxLen := by
  obtain ⟨ys, n, _, _, hlen, hyl, hf⟩ := DataW.trod_struct Try.underlying42 h
  have hl : l.length = 3 := hlen.trans cT
  have hy : ys.length = 3 := hyl
  obtain ⟨a0, e0, w0⟩ := int_field (hf 0 _ rfl) (some_of hy (by decide)) (Nat.lt_of_lt_of_eq (by decide) hl.symm)
  obtain ⟨a1, e1, w1⟩ := int_field (hf 1 _ rfl) (some_of hy (by decide)) (Nat.lt_of_lt_of_eq (by decide) hl.symm)
  obtain ⟨a2, e2, w2⟩ := str_field (hf 2 _ rfl) (some_of hy (by decide)) (Nat.lt_of_lt_of_eq (by decide) hl.symm)
  exact ⟨a0, a1, a2, list3 hl e0 e1 e2, w0, w1, w2⟩
/-- A call, read. -/
theorem act_of_trod {fuel : Nat} {l : List Value} {y : DataW H × List MemPlace} (h : DataW.trod enc Try.prog w base spare held fuel 44 l = some y) : ∃ x : Actx, l = acL x ∧ x.fit := by
  obtain ⟨ys, n, _, _, hlen, hyl, hf⟩ := DataW.trod_struct Try.underlying44 h
  have hl : l.length = 5 := hlen.trans cA
  have hy : ys.length = 3 := hyl
  obtain ⟨k, e0, w0⟩ := int_field (hf 0 _ rfl) (some_of hy (by decide)) (Nat.lt_of_lt_of_eq (by decide) hl.symm)
  obtain ⟨s, e1, w1⟩ := str_field (hf 1 _ rfl) (some_of hy (by decide)) (Nat.lt_of_lt_of_eq (by decide) hl.symm)
  obtain ⟨z, hz⟩ := Option.isSome_iff_exists.1 (some_of (j := 2) hy (by decide))
  obtain ⟨a, b, s2, hs, wa, wb, ws⟩ := tac_of_trod ((hf 2 _ rfl).trans hz)
  refine ⟨⟨k, s, a, b, s2⟩, ?_, w0, w1, wa, wb, ws⟩
  match l, hl with
  | [b0, b1, b2, b3, b4], _ =>
    simp at e0 e1
    subst e0 e1
    have h2 : List.take (Try.prog.cellsOf 42) [b2, b3, b4] = [.int .i64 a, .int .i64 b, .string (str s2)] := hs
    rw [cT] at h2
    exact congrArg (fun t => _ :: _ :: t) h2
end
theorem open_acts {H : Type} {enc : TypeId × Value → H} {W : World} {base : Nat} {v : Value} {d : DataW H} {ps : List MemPlace} (hval : Value.okWide Try.prog W .any base 40 v)
    (h : DataW.Trod enc Try.prog W 0 (fun _ => true) true 40 v d ps) :
    ∃ (A : Option Addr) (len cap : Nat) (D : Nat → Actx), v = .slice A len cap ∧ Acts W A len D ∧ len ≤ maxLen := by
  obtain ⟨a0, len, cap, rfl⟩ := okWide_slice Try.underlying40 hval
  obtain ⟨fuel, hf⟩ := h
  rcases Deep.open_slice Try.underlying40 hf with ⟨hcs, hx⟩ | ⟨a, len', cap', m, n, D, Pl, hcs, _, hl, hm, hmm, hx, hi⟩
  · simp [Value.cells] at hcs
    obtain ⟨rfl, rfl, rfl⟩ := hcs
    exact ⟨none, 0, 0, fun _ => default, rfl, fun i hi => absurd hi (by omega), Nat.zero_le _⟩
  · simp [Value.cells] at hcs
    obtain ⟨rfl, rfl, rfl⟩ := hcs
    simp only [if_true] at hmm
    subst hmm
    have each : ∀ i, i < len → ∃ x : Actx, (∀ j u, (acL x)[j]? = some u → W.cell? ((a.add (i * 5)).add j) = some u) ∧ x.fit := by
      intro i hil
      obtain ⟨cs', hc, ht⟩ := hi i (by omega)
      obtain ⟨_, hcl, hat⟩ := World.cells?_some hc
      obtain ⟨x, rfl, hfit⟩ := act_of_trod ht
      rw [cA] at hat
      refine ⟨x, fun j u hj => ?_, hfit⟩
      have hj5 : j < 5 := by
        rcases Nat.lt_or_ge j 5 with h | h
        · exact h
        · rw [List.getElem?_eq_none (by simp [acL]; omega)] at hj; cases hj
      rw [hat j hj5]
      exact hj
    obtain ⟨F, hF⟩ := Deep.choose_lt each
    refine ⟨some a, len, m, F, rfl, fun i hil => ?_, by omega⟩
    obtain ⟨h0, h1⟩ := hF i hil
    have hb := cell_lt (h0 0 _ rfl)
    rw [block_of_add, block_of_add] at hb
    exact ⟨a, rfl, hb, h0, h1⟩
/-- A call that came in by value. -/
theorem open_act {H : Type} {enc : TypeId × Value → H} {W : World} {base : Nat} {v : Value} {d : DataW H} {ps : List MemPlace} (hval : Value.okWide Try.prog W .any base 44 v)
    (h : DataW.Trod enc Try.prog W 0 (fun _ => true) true 44 v d ps) : ∃ x : Actx, v = .agg (acC x) ∧ x.fit := by
  obtain ⟨cs, rfl, _⟩ := okWide_struct Try.underlying44 hval
  obtain ⟨fuel, hf⟩ := h
  obtain ⟨x, hs, hw⟩ := act_of_trod hf
  refine ⟨x, ?_, hw⟩
  have : cs = acC x := Array.toList_inj.1 hs
  rw [this]
/-- An entry that came in by value. -/
theorem open_ent {H : Type} {enc : TypeId × Value → H} {W : World} {base : Nat} {v : Value} {d : DataW H} {ps : List MemPlace} (hval : Value.okWide Try.prog W .any base 34 v)
    (h : DataW.Trod enc Try.prog W 0 (fun _ => true) true 34 v d ps) : ∃ x : Ent, v = .agg (enC x) ∧ x.fit := by
  obtain ⟨cs, rfl, _⟩ := okWide_struct Try.underlying34 hval
  obtain ⟨fuel, hf⟩ := h
  obtain ⟨x, hs, hw⟩ := ent_of_trod hf
  refine ⟨x, ?_, hw⟩
  have : cs = enC x := Array.toList_inj.1 hs
  rw [this]
end Go.Proofs.Ythhjdielananeaa
