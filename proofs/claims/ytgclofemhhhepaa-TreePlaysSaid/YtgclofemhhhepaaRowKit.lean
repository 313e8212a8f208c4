/-
  What each law's row needs besides its walk: the last step behind a call that makes memory.
-/
import Derived.Test.YtgclofemhhhepaaAlive
import Derived.Test.YtgclofemhhhepaaActs
import Derived.Test.YtgclofemhhhepaaStructs
import Derived.Deep.Strs
import Derived.Deep.Slices
import Derived.ProofKit
import Derived.OpenShut
import Derived.Carry
import Derived.ChangeMaps5
import Derived.Deep.DeepHandedRow
import Derived.Lib.LaidTab
import Derived.Stop.LaidErr
import Derived.ChangeSlices
set_option linter.unusedSimpArgs false
set_option linter.unusedVariables false
set_option maxRecDepth 10000
namespace Go.Proofs.Ytgclofemhhhepaa
open Go.ChangeShapes Go.WideShapes Go.ChangeAt Go.RowKit
open L3 (Blk Reads block_of_add add_of_add)

theorem own : ownKnob Try.prog.godebug = none := by kernel_rfl
theorem laidOut : laidOutB Try.prog = true := by kernel_rfl
section
variable {H : Type} {enc : TypeId × Value → H} {P : Program}
/-- The row's last step where of memory 'Below' alone is known. -/
theorem post_of_below {f : Func} {s : ChangeSpec} {apart fresh handsOn again : Bool} {W W' : World} {args : Array Value} {v : Value} {ds gs : List (DataW H)} {before pa pv : List MemPlace}
    (hW : DataW.Whole enc P f.params.toList s.vars apart W args.toList ds gs before)
    (hres : ∀ (b : Nat) (sp : Nat → Bool) (hd : Bool), DataW.TrodAll enc P W' b sp hd f.resultTypes.toList (v.resultList f.resultTypes.size) (s.fn H (ds ++ gs)).results [])
    (hargs : ∀ sp : Nat → Bool, (∀ p ∈ before, sp p.block = true) → DataW.TrodAll enc P W' 0 sp true f.params.toList args.toList (s.fn H (ds ++ gs)).args pa)
    (hvars : ∀ sp : Nat → Bool, (∀ p ∈ before, sp p.block = true) → DataW.TrodVars enc P W' sp s.vars (s.fn H (ds ++ gs)).vars pv)
    (hps : before = pa ++ pv) (hb : Below W.heap.size W W')
    (hok : ∀ (j : Nat) (t : TypeId) (r : Value), f.resultTypes[j]? = some t → (v.resultList f.resultTypes.size)[j]? = some r → Value.okWide P W' .any 0 t r) :
    s.post enc P f apart fresh handsOn again W args v W' := by
  have hlt : ∀ p ∈ before, p.block < W.heap.size := fun p hp => hW.lt p hp
  have hold : ∀ p ∈ before, (fun b => decide (b < W.heap.size)) p.block = true := fun p hp => by simpa using hlt p hp
  refine ⟨ds, gs, before, [], pa, pv, hW, hres _ _ _, hargs _ hold, hvars _ hold, World.keptBut_mono (fun p hp => ⟨hp, ?_⟩) (hb.frame (· ∈ before)), fun _ => ?_⟩
  · rw [hps, List.mem_append] at hp
    exact Or.inr hp
  · obtain ⟨_, _, _, _, _, hz, hn⟩ := hW
    refine ⟨hok, _, _, ([] ++ pa) ++ pv, ⟨[] ++ pa, pv, trodAll_append (hargs _ (fun _ _ => rfl)) (hres _ _ _), hvars _ (fun _ _ => rfl), rfl, ?_, ?_⟩, ?_⟩
    · intro b off hp
      have hin : MemPlace.cell b off ∈ before := by rw [hps]; simpa using hp
      rw [hb.frozen (hlt _ hin)]
      exact hz b off hin
    · intro ha
      have := hn ha
      rw [hps] at this
      simpa using this
    · intro p hp _
      rw [hps]
      simpa using hp
end

theorem cell_lt {w : World} {a : Addr} {v : Value} (h : w.cell? a = some v) : a.block < w.heap.size := by
  rcases Nat.lt_or_ge a.block w.heap.size with hlt | hge
  · exact hlt
  · have e : w.heap[a.block]? = none := Array.getElem?_eq_none hge
    simp [World.cell?, e] at h
/-- A slice of integers that came in, nil or not, reads as a list of numbers. -/
theorem open_words {H : Type} {enc : TypeId × Value → H} {W : World} {base : Nat} {v : Value} {d : DataW H} {ps : List MemPlace} {t e : TypeId} {k : IntKind} (ht : Try.prog.underlying t = some (.slice e)) (he : Try.prog.underlying e = some (.int k)) (hc : Try.prog.cellsOf e = 1) (hval : Value.okWide Try.prog W .any base t v)
    (h : DataW.Trod enc Try.prog W 0 (fun _ => true) true t v d ps) :
    ∃ (A : Option Addr) (cap : Nat) (zs : List Int), v = .slice A zs.length cap ∧ Reads W W.heap.size 1 A zs.length (zs.map (Value.int k)) ∧ zs.length ≤ maxLen ∧ zs.length ≤ cap ∧ ∀ z ∈ zs, (Lit.int k z).wf = true := by
  obtain ⟨a0, len, cap, rfl⟩ := okWide_slice ht hval
  obtain ⟨fuel, hf⟩ := h
  rcases open_ints ht he hc hf with ⟨hcs, hx⟩ | ⟨a, len', cap', zs, hcs, _, hl, hm, hz, hx, hcell, hwz⟩
  · simp [Value.cells] at hcs
    obtain ⟨rfl, rfl, rfl⟩ := hcs
    exact ⟨none, 0, [], rfl, Reads.none_, Nat.zero_le _, Nat.le_refl _, fun z hz => by cases hz⟩
  · simp [Value.cells] at hcs
    obtain ⟨rfl, rfl, rfl⟩ := hcs
    simp only [if_true] at hz
    have hlen : (zs.take len).length = len := by simp; omega
    refine ⟨some a, cap, zs.take len, by rw [hlen], ⟨by simp, fun h0 => ⟨a, rfl, ?_, fun j u hu => ?_⟩⟩, by omega, by omega, fun z hz => hwz z (List.mem_of_mem_take hz)⟩
    · rw [hlen] at h0
      have := cell_lt (hcell 0 (by omega))
      rwa [block_of_add] at this
    · simp only [List.getElem?_map, List.getElem?_take] at hu
      split at hu
      · rw [hcell j (by omega), List.getD_eq_getElem?_getD]
        cases hj : zs[j]? with
        | none => rw [hj] at hu; cases hu
        | some z => rw [hj] at hu; simpa using hu
      · cases hu
/-- A slice of bytes that came in, nil or not, reads as a list of bytes. -/
theorem open_bytes_word {H : Type} {enc : TypeId × Value → H} {W : World} {base : Nat} {v : Value} {d : DataW H} {ps : List MemPlace} (hval : Value.okWide Try.prog W .any base 48 v)
    (h : DataW.Trod enc Try.prog W 0 (fun _ => true) true 48 v d ps) :
    ∃ (A : Option Addr) (cap : Nat) (l : List UInt8), v = .slice A l.length cap ∧ Reads W W.heap.size 1 A l.length (Lib.byteCells l) ∧ l.length ≤ maxLen ∧ l.length ≤ cap := by
  obtain ⟨A, cap, zs, rfl, hr, hm, hc, hw⟩ := open_words Try.underlying48 Try.underlying5 (by kernel_rfl) hval h
  have e : Lib.byteCells (zs.map fun z => UInt8.ofNat z.toNat) = zs.map (Value.int .u8) := by
    unfold Lib.byteCells
    rw [List.map_map]
    refine List.map_congr_left fun z hz => ?_
    obtain ⟨j, hj, rfl⟩ := List.getElem_of_mem hz
    have hr := range_u8 hw j
    rw [List.getElem?_eq_getElem hj] at hr
    simp only [Option.getD_some] at hr
    simp only [Function.comp_apply, UInt8.toNat_ofNat']
    congr 1
    omega
  refine ⟨A, cap, zs.map fun z => UInt8.ofNat z.toNat, by simp, ?_, by simpa using hm, by simpa using hc⟩
  rw [e]; simpa using hr
/-- A block that came in by value: fourteen cells. -/
theorem open_blkA {H : Type} {enc : TypeId × Value → H} {W : World} {base : Nat} {v : Value} {d : DataW H} {ps : List MemPlace} (hval : Value.okWide Try.prog W .any base 39 v)
    (h : DataW.Trod enc Try.prog W 0 (fun _ => true) true 39 v d ps) : ∃ cs : Array Value, v = .agg cs ∧ cs.size = 14 := by
  obtain ⟨cs, rfl, hs⟩ := okWide_struct Try.underlying39 hval
  exact ⟨cs, rfl, hs.trans (by kernel_rfl)⟩
theorem open_acts {H : Type} {enc : TypeId × Value → H} {W : World} {base : Nat} {v : Value} {d : DataW H} {ps : List MemPlace} (hval : Value.okWide Try.prog W .any base 22 v)
    (h : DataW.Trod enc Try.prog W 0 (fun _ => true) true 22 v d ps) :
    ∃ (A : Option Addr) (len cap : Nat) (D : Nat → Actx), v = .slice A len cap ∧ Acts W A len D ∧ len ≤ maxLen := by
  obtain ⟨a0, len, cap, rfl⟩ := okWide_slice Try.underlying22 hval
  obtain ⟨fuel, hf⟩ := h
  rcases open_slice_fields Try.underlying22 Try.underlying32 (by kernel_rfl) (by kernel_rfl) hf with ⟨hcs, hx⟩ | ⟨a, len', cap', m, D, Pl, hcs, _, hl, hm, hmm, hx, hi⟩
  · simp [Value.cells] at hcs
    obtain ⟨rfl, rfl, rfl⟩ := hcs
    exact ⟨none, 0, 0, fun _ => ⟨0, 0, 0, 0⟩, rfl, fun i hi => absurd hi (by omega), Nat.zero_le _⟩
  · simp [Value.cells] at hcs
    obtain ⟨rfl, rfl, rfl⟩ := hcs
    simp only [if_true] at hmm
    subst hmm
    have each : ∀ i, i < len → ∃ x : Actx, W.cell? (a.add (i * 4)) = some (.int .i64 x.kind) ∧ W.cell? (a.add (i * 4 + 1)) = some (.int .i64 x.n) ∧ W.cell? (a.add (i * 4 + 2)) = some (.int .i64 x.rd) ∧ W.cell? (a.add (i * 4 + 3)) = some (.int .i64 x.par) ∧ x.fit := by
      intro i hil
      obtain ⟨ys, n, _, _, _, hfl⟩ := hi i (by omega)
      obtain ⟨v0, y0, hc0, _, ht0⟩ := hfl 0 _ rfl
      obtain ⟨v1, y1, hc1, _, ht1⟩ := hfl 1 _ rfl
      obtain ⟨v2, y2, hc2, _, ht2⟩ := hfl 2 _ rfl
      obtain ⟨v3, y3, hc3, _, ht3⟩ := hfl 3 _ rfl
      obtain ⟨k, hk, _, hw0⟩ := DataW.trod_int Try.underlying3 ht0
      obtain ⟨n1, hn, _, hw1⟩ := DataW.trod_int Try.underlying3 ht1
      obtain ⟨n2, hn2, _, hw2⟩ := DataW.trod_int Try.underlying3 ht2
      obtain ⟨n3, hn3, _, hw3⟩ := DataW.trod_int Try.underlying3 ht3
      simp at hk hn hn2 hn3
      subst hk hn hn2 hn3
      exact ⟨⟨k, n1, n2, n3⟩, hc0, hc1, hc2, hc3, bounds_i64 hw0, bounds_i64 hw1, bounds_i64 hw2, bounds_i64 hw3⟩
    obtain ⟨F, hF⟩ := Deep.choose_lt each
    refine ⟨some a, len, m, F, rfl, fun i hil => ?_, by omega⟩
    obtain ⟨h0, h1, h2, h3, h4⟩ := hF i hil
    have hb := cell_lt h0
    rw [block_of_add] at hb
    exact ⟨a, rfl, hb, h0, h1, h2, h3, h4⟩
end Go.Proofs.Ytgclofemhhhepaa
