/-
  What each law's row needs besides its walk: the last step behind a call that makes memory; a certificate, and bytes, that came in.
-/
import Derived.Test.YtkjkkbionlmohaaVal
import Derived.ProofKit
import Derived.OpenShut
import Derived.Carry
import Derived.ChangeMaps5
import Derived.Deep.DeepHandedRow
import Derived.Lib.LaidTab
import Derived.Stop.LaidErr
import Derived.ChangeSlices
import Derived.Deep.Slices
set_option linter.unusedSimpArgs false
set_option linter.unusedVariables false
set_option maxRecDepth 10000
namespace Go.Proofs.Ytkjkkbionlmohaa
open Go.ChangeShapes Go.WideShapes Go.ChangeAt Go.RowKit
open L3 (Reads block_of_add)

theorem own : ownKnob Try.prog.godebug = none := by kernel_rfl
section
variable {H : Type} {enc : TypeId × Value → H} {P : Program}
/-- The row's last step where of memory 'Below' alone is known. -/
theorem post_of_below {f : Func} {s : ChangeSpec} {apart fresh handsOn again : Bool} {W W' : World} {args : Array Value} {v : Value} {ds gs : List (DataW H)} {before pa pv : List MemPlace}
    (hW : DataW.Whole enc P f.params.toList s.vars apart W args.toList ds gs before)
    (hres : ∀ (b : Nat) (sp : Nat → Bool) (hd : Bool), DataW.TrodAll enc P W' b sp hd f.resultTypes.toList (v.resultList f.resultTypes.size) (s.fn H (ds ++ gs)).results [])
    (hargs : ∀ sp : Nat → Bool, (∀ p ∈ before, sp p.block = true) → DataW.TrodAll enc P W' 0 sp true f.params.toList args.toList (s.fn H (ds ++ gs)).args pa)
    (hvars : ∀ sp : Nat → Bool, (∀ p ∈ before, sp p.block = true) → DataW.TrodVars enc P W' sp s.vars (s.fn H (ds ++ gs)).vars pv)
    (hps : before = pa ++ pv) (hb : Below W.heap.size W W')
    (hok : ∀ (j : Nat) (t : TypeId) (r : Value), f.resultTypes[j]? = some t → (v.resultList f.resultTypes.size)[j]? = some r → Value.okWide P W' .any 0 t r) :
    s.post enc P f apart fresh handsOn again W args v W' := by
  have hlt : ∀ p ∈ before, p.block < W.heap.size := fun p hp => hW.lt p hp
  have hold : ∀ p ∈ before, (fun b => decide (b < W.heap.size)) p.block = true := fun p hp => by simpa using hlt p hp
  refine ⟨ds, gs, before, [], pa, pv, hW, hres _ _ _, hargs _ hold, hvars _ hold, World.keptBut_mono (fun p hp => ⟨hp, ?_⟩) (hb.frame (· ∈ before)), fun _ => ?_⟩
  · rw [hps, List.mem_append] at hp
    exact Or.inr hp
  · obtain ⟨_, _, _, _, _, hz, hn⟩ := hW
    refine ⟨hok, _, _, ([] ++ pa) ++ pv, ⟨[] ++ pa, pv, trodAll_append (hargs _ (fun _ _ => rfl)) (hres _ _ _), hvars _ (fun _ _ => rfl), rfl, ?_, ?_⟩, ?_⟩
    · intro b off hp
      have hin : MemPlace.cell b off ∈ before := by rw [hps]; simpa using hp
      rw [hb.frozen (hlt _ hin)]
      exact hz b off hin
    · intro ha
      have := hn ha
      rw [hps] at this
      simpa using this
    · intro p hp _
      rw [hps]
      simpa using hp
end

theorem cell_lt {w : World} {a : Addr} {v : Value} (h : w.cell? a = some v) : a.block < w.heap.size := by
  rcases Nat.lt_or_ge a.block w.heap.size with hlt | hge
  · exact hlt
  · have e : w.heap[a.block]? = none := Array.getElem?_eq_none hge
    simp [World.cell?, e] at h
/-- A slice of integers that came in, nil or not, reads as a list of numbers. -/
theorem open_words {H : Type} {enc : TypeId × Value → H} {W : World} {base : Nat} {v : Value} {d : DataW H} {ps : List MemPlace} {t e : TypeId} {k : IntKind} (ht : Try.prog.underlying t = some (.slice e)) (he : Try.prog.underlying e = some (.int k)) (hc : Try.prog.cellsOf e = 1) (hval : Value.okWide Try.prog W .any base t v)
    (h : DataW.Trod enc Try.prog W 0 (fun _ => true) true t v d ps) :
    ∃ (A : Option Addr) (cap : Nat) (zs : List Int), v = .slice A zs.length cap ∧ Reads W W.heap.size 1 A zs.length (zs.map (Value.int k)) ∧ zs.length ≤ maxLen ∧ zs.length ≤ cap ∧ ∀ z ∈ zs, (Lit.int k z).wf = true := by
  obtain ⟨a0, len, cap, rfl⟩ := okWide_slice ht hval
  obtain ⟨fuel, hf⟩ := h
  rcases open_ints ht he hc hf with ⟨hcs, hx⟩ | ⟨a, len', cap', zs, hcs, _, hl, hm, hz, hx, hcell, hwz⟩
  · simp [Value.cells] at hcs
    obtain ⟨rfl, rfl, rfl⟩ := hcs
    exact ⟨none, 0, [], rfl, Reads.none_, Nat.zero_le _, Nat.le_refl _, fun z hz => by cases hz⟩
  · simp [Value.cells] at hcs
    obtain ⟨rfl, rfl, rfl⟩ := hcs
    simp only [if_true] at hz
    have hlen : (zs.take len).length = len := by simp; omega
    refine ⟨some a, cap, zs.take len, by rw [hlen], ⟨by simp, fun h0 => ⟨a, rfl, ?_, fun j u hu => ?_⟩⟩, by omega, by omega, fun z hz => hwz z (List.mem_of_mem_take hz)⟩
    · rw [hlen] at h0
      have := cell_lt (hcell 0 (by omega))
      rwa [block_of_add] at this
    · simp only [List.getElem?_map, List.getElem?_take] at hu
      split at hu
      · rw [hcell j (by omega), List.getD_eq_getElem?_getD]
        cases hj : zs[j]? with
        | none => rw [hj] at hu; cases hu
        | some z => rw [hj] at hu; simpa using hu
      · cases hu
/-- A slice of bytes that came in, nil or not, reads as a list of bytes. -/
theorem open_bytes_word {H : Type} {enc : TypeId × Value → H} {W : World} {base : Nat} {v : Value} {d : DataW H} {ps : List MemPlace} (hval : Value.okWide Try.prog W .any base 26 v)
    (h : DataW.Trod enc Try.prog W 0 (fun _ => true) true 26 v d ps) :
    ∃ (A : Option Addr) (cap : Nat) (l : List UInt8), v = .slice A l.length cap ∧ Reads W W.heap.size 1 A l.length (Lib.byteCells l) ∧ l.length ≤ maxLen ∧ l.length ≤ cap := by
  obtain ⟨A, cap, zs, rfl, hr, hm, hc, hw⟩ := open_words Try.underlying26 Try.underlying5 (by kernel_rfl) hval h
  have e : Lib.byteCells (zs.map fun z => UInt8.ofNat z.toNat) = zs.map (Value.int .u8) := by
    unfold Lib.byteCells
    rw [List.map_map]
    refine List.map_congr_left fun z hz => ?_
    obtain ⟨j, hj, rfl⟩ := List.getElem_of_mem hz
    have hr := range_u8 hw j
    rw [List.getElem?_eq_getElem hj] at hr
    simp only [Option.getD_some] at hr
    simp only [Function.comp_apply, UInt8.toNat_ofNat']
    congr 1
    omega
  refine ⟨A, cap, zs.map fun z => UInt8.ofNat z.toNat, by simp, ?_, by simpa using hm, by simpa using hc⟩
  rw [e]; simpa using hr
section
variable {H : Type} {enc : TypeId × Value → H} {w : World} {base : Nat} {spare : Nat → Bool} {held : Bool}
theorem one_of {l : List Value} {off : Nat} (h : off < l.length) : (l.drop off).take 1 = [l[off]] := by
  rw [List.drop_eq_getElem_cons h]; rfl
theorem int_field {n off : Nat} {l : List Value} {y : Option (DataW H × List MemPlace)} (h : DataW.trod enc Try.prog w base spare held n 3 ((l.drop off).take (Try.prog.cellsOf 3)) = y) (hy : y.isSome = true) (hl : off < l.length) :
    ∃ a, l[off]? = some (.int .i64 a) ∧ inI a := by
  obtain ⟨z, rfl⟩ := Option.isSome_iff_exists.1 hy
  rw [cI, one_of hl] at h
  obtain ⟨k, hk, _, hw⟩ := DataW.trod_int Try.underlying3 h
  simp at hk
  exact ⟨k, by rw [List.getElem?_eq_getElem hl, hk], bounds_i64 hw⟩
theorem u32_field {n off : Nat} {l : List Value} {y : Option (DataW H × List MemPlace)} (h : DataW.trod enc Try.prog w base spare held n 22 ((l.drop off).take (Try.prog.cellsOf 22)) = y) (hy : y.isSome = true) (hl : off < l.length) :
    ∃ a : Nat, l[off]? = some (.int .u32 a) ∧ inU a := by
  obtain ⟨z, rfl⟩ := Option.isSome_iff_exists.1 hy
  rw [cU, one_of hl] at h
  obtain ⟨k, hk, _, hw⟩ := DataW.trod_int Try.underlying22 h
  simp at hk
  have hb := bounds_u32 hw
  obtain ⟨m, rfl⟩ := Int.eq_ofNat_of_zero_le hb.1
  exact ⟨m, by rw [List.getElem?_eq_getElem hl, hk], by unfold inU; omega⟩
theorem some_of {ys : List (DataW H × List MemPlace)} {j n : Nat} (h : ys.length = n) (hj : j < n) : (ys[j]?).isSome = true := by
  rw [List.getElem?_eq_getElem (by omega)]; rfl
theorem list8 {l : List Value} {a0 a1 a2 a3 a4 a5 a6 a7 : Value} (hl : l.length = 8) (h0 : l[0]? = some a0) (h1 : l[1]? = some a1) (h2 : l[2]? = some a2) (h3 : l[3]? = some a3) (h4 : l[4]? = some a4)
    (h5 : l[5]? = some a5) (h6 : l[6]? = some a6) (h7 : l[7]? = some a7) : l = [a0, a1, a2, a3, a4, a5, a6, a7] := by
  match l, hl with
  | [b0, b1, b2, b3, b4, b5, b6, b7], _ =>
    simp at h0 h1 h2 h3 h4 h5 h6 h7
    subst h0 h1 h2 h3 h4 h5 h6 h7
    rfl
/-- A certificate, read. -/
theorem crt_of_trod {fuel : Nat} {l : List Value} {y : DataW H × List MemPlace} (h : DataW.trod enc Try.prog w base spare held fuel 24 l = some y) : ∃ c : Crt, l = crtL c ∧ c.wf := by
  obtain ⟨ys, n, _, _, hlen, hyl, hf⟩ := DataW.trod_struct Try.underlying24 h
  have hl : l.length = 8 := hlen.trans cC
  have hy : ys.length = 8 := hyl
  obtain ⟨a0, e0, w0⟩ := int_field (hf 0 _ rfl) (some_of hy (by decide)) (Nat.lt_of_lt_of_eq (by decide) hl.symm)
  obtain ⟨a1, e1, w1⟩ := int_field (hf 1 _ rfl) (some_of hy (by decide)) (Nat.lt_of_lt_of_eq (by decide) hl.symm)
  obtain ⟨a2, e2, w2⟩ := int_field (hf 2 _ rfl) (some_of hy (by decide)) (Nat.lt_of_lt_of_eq (by decide) hl.symm)
  obtain ⟨a3, e3, w3⟩ := int_field (hf 3 _ rfl) (some_of hy (by decide)) (Nat.lt_of_lt_of_eq (by decide) hl.symm)
  obtain ⟨a4, e4, w4⟩ := int_field (hf 4 _ rfl) (some_of hy (by decide)) (Nat.lt_of_lt_of_eq (by decide) hl.symm)
  obtain ⟨a5, e5, w5⟩ := int_field (hf 5 _ rfl) (some_of hy (by decide)) (Nat.lt_of_lt_of_eq (by decide) hl.symm)
  obtain ⟨a6, e6, w6⟩ := u32_field (hf 6 _ rfl) (some_of hy (by decide)) (Nat.lt_of_lt_of_eq (by decide) hl.symm)
  obtain ⟨a7, e7, w7⟩ := u32_field (hf 7 _ rfl) (some_of hy (by decide)) (Nat.lt_of_lt_of_eq (by decide) hl.symm)
  exact ⟨⟨a0, a1, a2, a3, a4, a5, a6, a7⟩, list8 hl e0 e1 e2 e3 e4 e5 e6 e7, ⟨w0, w1, w2, w3, w4, w5, w6, w7⟩⟩
end
/-- A certificate that came in by value. -/
theorem open_crt {H : Type} {enc : TypeId × Value → H} {W : World} {base : Nat} {v : Value} {d : DataW H} {ps : List MemPlace} (hval : Value.okWide Try.prog W .any base 24 v)
    (h : DataW.Trod enc Try.prog W 0 (fun _ => true) true 24 v d ps) : ∃ c : Crt, v = .agg (crtC c) ∧ c.wf := by
  obtain ⟨cs, rfl, _⟩ := okWide_struct Try.underlying24 hval
  obtain ⟨fuel, hf⟩ := h
  obtain ⟨c, hs, hw⟩ := crt_of_trod hf
  refine ⟨c, ?_, hw⟩
  have : cs = crtC c := Array.toList_inj.1 hs
  rw [this]
end Go.Proofs.Ytkjkkbionlmohaa
