/-
  What each law's row needs besides its walk: the last step behind a call that makes memory; a transaction, transactions and calls that came in.
-/
import Derived.Test.YtohkjleppohinaaDoorAlive
import Derived.ProofKit
import Derived.OpenShut
import Derived.Carry
import Derived.ChangeMaps5
import Derived.Deep.DeepHandedRow
import Derived.Lib.LaidTab
import Derived.Stop.LaidErr
import Derived.ChangeSlices
import Derived.Deep.Slices
import Derived.Test.YtohkjleppohinaaDoorStructs
set_option linter.unusedSimpArgs false
set_option linter.unusedVariables false
set_option maxRecDepth 10000
namespace Go.Proofs.YtohkjleppohinaaDoor
open Go.ChangeShapes Go.WideShapes Go.ChangeAt Go.RowKit
open L3 (Reads block_of_add)

theorem own : ownKnob Tryd.prog.godebug = none := by kernel_rfl
section
variable {H : Type} {enc : TypeId × Value → H} {P : Program}
/-- The row's last step where of memory 'Below' alone is known. -/
theorem post_of_below {f : Func} {s : ChangeSpec} {apart fresh handsOn again : Bool} {W W' : World} {args : Array Value} {v : Value} {ds gs : List (DataW H)} {before pa pv : List MemPlace}
    (hW : DataW.Whole enc P f.params.toList s.vars apart W args.toList ds gs before)
    (hres : ∀ (b : Nat) (sp : Nat → Bool) (hd : Bool), DataW.TrodAll enc P W' b sp hd f.resultTypes.toList (v.resultList f.resultTypes.size) (s.fn H (ds ++ gs)).results [])
    (hargs : ∀ sp : Nat → Bool, (∀ p ∈ before, sp p.block = true) → DataW.TrodAll enc P W' 0 sp true f.params.toList args.toList (s.fn H (ds ++ gs)).args pa)
    (hvars : ∀ sp : Nat → Bool, (∀ p ∈ before, sp p.block = true) → DataW.TrodVars enc P W' sp s.vars (s.fn H (ds ++ gs)).vars pv)
    (hps : before = pa ++ pv) (hb : Below W.heap.size W W')
    (hok : ∀ (j : Nat) (t : TypeId) (r : Value), f.resultTypes[j]? = some t → (v.resultList f.resultTypes.size)[j]? = some r → Value.okWide P W' .any 0 t r) :
    s.post enc P f apart fresh handsOn again W args v W' := by
  have hlt : ∀ p ∈ before, p.block < W.heap.size := fun p hp => hW.lt p hp
  have hold : ∀ p ∈ before, (fun b => decide (b < W.heap.size)) p.block = true := fun p hp => by simpa using hlt p hp
  refine ⟨ds, gs, before, [], pa, pv, hW, hres _ _ _, hargs _ hold, hvars _ hold, World.keptBut_mono (fun p hp => ⟨hp, ?_⟩) (hb.frame (· ∈ before)), fun _ => ?_⟩
  · rw [hps, List.mem_append] at hp
    exact Or.inr hp
  · obtain ⟨_, _, _, _, _, hz, hn⟩ := hW
    refine ⟨hok, _, _, ([] ++ pa) ++ pv, ⟨[] ++ pa, pv, trodAll_append (hargs _ (fun _ _ => rfl)) (hres _ _ _), hvars _ (fun _ _ => rfl), rfl, ?_, ?_⟩, ?_⟩
    · intro b off hp
      have hin : MemPlace.cell b off ∈ before := by rw [hps]; simpa using hp
      rw [hb.frozen (hlt _ hin)]
      exact hz b off hin
    · intro ha
      have := hn ha
      rw [hps] at this
      simpa using this
    · intro p hp _
      rw [hps]
      simpa using hp
end

theorem cell_lt {w : World} {a : Addr} {v : Value} (h : w.cell? a = some v) : a.block < w.heap.size := by
  rcases Nat.lt_or_ge a.block w.heap.size with hlt | hge
  · exact hlt
  · have e : w.heap[a.block]? = none := Array.getElem?_eq_none hge
    simp [World.cell?, e] at h
/-- A slice of integers that came in, nil or not, reads as a list of numbers. -/
theorem open_words {H : Type} {enc : TypeId × Value → H} {W : World} {base : Nat} {v : Value} {d : DataW H} {ps : List MemPlace} {t e : TypeId} {k : IntKind} (ht : Tryd.prog.underlying t = some (.slice e)) (he : Tryd.prog.underlying e = some (.int k)) (hc : Tryd.prog.cellsOf e = 1) (hval : Value.okWide Tryd.prog W .any base t v)
    (h : DataW.Trod enc Tryd.prog W 0 (fun _ => true) true t v d ps) :
    ∃ (A : Option Addr) (cap : Nat) (zs : List Int), v = .slice A zs.length cap ∧ Reads W W.heap.size 1 A zs.length (zs.map (Value.int k)) ∧ zs.length ≤ maxLen ∧ zs.length ≤ cap ∧ ∀ z ∈ zs, (Lit.int k z).wf = true := by
  obtain ⟨a0, len, cap, rfl⟩ := okWide_slice ht hval
  obtain ⟨fuel, hf⟩ := h
  rcases open_ints ht he hc hf with ⟨hcs, hx⟩ | ⟨a, len', cap', zs, hcs, _, hl, hm, hz, hx, hcell, hwz⟩
  · simp [Value.cells] at hcs
    obtain ⟨rfl, rfl, rfl⟩ := hcs
    exact ⟨none, 0, [], rfl, Reads.none_, Nat.zero_le _, Nat.le_refl _, fun z hz => by cases hz⟩
  · simp [Value.cells] at hcs
    obtain ⟨rfl, rfl, rfl⟩ := hcs
    simp only [if_true] at hz
    have hlen : (zs.take len).length = len := by simp; omega
    refine ⟨some a, cap, zs.take len, by rw [hlen], ⟨by simp, fun h0 => ⟨a, rfl, ?_, fun j u hu => ?_⟩⟩, by omega, by omega, fun z hz => hwz z (List.mem_of_mem_take hz)⟩
    · rw [hlen] at h0
      have := cell_lt (hcell 0 (by omega))
      rwa [block_of_add] at this
    · simp only [List.getElem?_map, List.getElem?_take] at hu
      split at hu
      · rw [hcell j (by omega), List.getD_eq_getElem?_getD]
        cases hj : zs[j]? with
        | none => rw [hj] at hu; cases hu
        | some z => rw [hj] at hu; simpa using hu
      · cases hu
/-- A slice of bytes that came in, nil or not, reads as a list of bytes. -/
theorem open_bytes_word {H : Type} {enc : TypeId × Value → H} {W : World} {base : Nat} {v : Value} {d : DataW H} {ps : List MemPlace} (hval : Value.okWide Tryd.prog W .any base 74 v)
    (h : DataW.Trod enc Tryd.prog W 0 (fun _ => true) true 74 v d ps) :
    ∃ (A : Option Addr) (cap : Nat) (l : List UInt8), v = .slice A l.length cap ∧ Reads W W.heap.size 1 A l.length (Lib.byteCells l) ∧ l.length ≤ maxLen ∧ l.length ≤ cap := by
  obtain ⟨A, cap, zs, rfl, hr, hm, hc, hw⟩ := open_words Tryd.underlying74 Tryd.underlying5 (by kernel_rfl) hval h
  have e : Lib.byteCells (zs.map fun z => UInt8.ofNat z.toNat) = zs.map (Value.int .u8) := by
    unfold Lib.byteCells
    rw [List.map_map]
    refine List.map_congr_left fun z hz => ?_
    obtain ⟨j, hj, rfl⟩ := List.getElem_of_mem hz
    have hr := range_u8 hw j
    rw [List.getElem?_eq_getElem hj] at hr
    simp only [Option.getD_some] at hr
    simp only [Function.comp_apply, UInt8.toNat_ofNat']
    congr 1
    omega
  refine ⟨A, cap, zs.map fun z => UInt8.ofNat z.toNat, by simp, ?_, by simpa using hm, by simpa using hc⟩
  rw [e]; simpa using hr
section
variable {H : Type} {enc : TypeId × Value → H} {w : World} {base : Nat} {spare : Nat → Bool} {held : Bool}
theorem one_of {l : List Value} {off : Nat} (h : off < l.length) : (l.drop off).take 1 = [l[off]] := by
  rw [List.drop_eq_getElem_cons h]; rfl
theorem int_field {n off : Nat} {l : List Value} {y : Option (DataW H × List MemPlace)} (h : DataW.trod enc Tryd.prog w base spare held n 3 ((l.drop off).take (Tryd.prog.cellsOf 3)) = y) (hy : y.isSome = true) (hl : off < l.length) :
    ∃ a, l[off]? = some (.int .i64 a) ∧ inI a := by
  obtain ⟨z, rfl⟩ := Option.isSome_iff_exists.1 hy
  rw [cI, one_of hl] at h
  obtain ⟨k, hk, _, hw⟩ := DataW.trod_int Tryd.underlying3 h
  simp at hk
  exact ⟨k, by rw [List.getElem?_eq_getElem hl, hk], bounds_i64 hw⟩
theorem i64_field {n off : Nat} {l : List Value} {y : Option (DataW H × List MemPlace)} (h : DataW.trod enc Tryd.prog w base spare held n 2 ((l.drop off).take (Tryd.prog.cellsOf 2)) = y) (hy : y.isSome = true) (hl : off < l.length) :
    ∃ a, l[off]? = some (.int .i64 a) ∧ inI a := by
  obtain ⟨z, rfl⟩ := Option.isSome_iff_exists.1 hy
  rw [cI64, one_of hl] at h
  obtain ⟨k, hk, _, hw⟩ := DataW.trod_int Tryd.underlying2 h
  simp at hk
  exact ⟨k, by rw [List.getElem?_eq_getElem hl, hk], bounds_i64 hw⟩
theorem str_field {n off : Nat} {l : List Value} {y : Option (DataW H × List MemPlace)} (h : DataW.trod enc Tryd.prog w base spare held n 9 ((l.drop off).take (Tryd.prog.cellsOf 9)) = y) (hy : y.isSome = true) (hl : off < l.length) :
    ∃ a : List UInt8, l[off]? = some (.string (str a)) ∧ a.length ≤ maxLen := by
  obtain ⟨z, rfl⟩ := Option.isSome_iff_exists.1 hy
  rw [cS, one_of hl] at h
  obtain ⟨s, hk, _, hw⟩ := DataW.trod_string Tryd.underlying9 h
  simp at hk
  refine ⟨s.data.toList, by rw [List.getElem?_eq_getElem hl, hk, str_of], ?_⟩
  have := str_size s.data.toList
  rw [str_of] at this
  omega
theorem some_of {ys : List (DataW H × List MemPlace)} {j n : Nat} (h : ys.length = n) (hj : j < n) : (ys[j]?).isSome = true := by
  rw [List.getElem?_eq_getElem (by omega)]; rfl
theorem list7 {l : List Value} {a0 a1 a2 a3 a4 a5 a6 : Value} (hl : l.length = 7) (h0 : l[0]? = some a0) (h1 : l[1]? = some a1) (h2 : l[2]? = some a2) (h3 : l[3]? = some a3) (h4 : l[4]? = some a4)
    (h5 : l[5]? = some a5) (h6 : l[6]? = some a6) : l = [a0, a1, a2, a3, a4, a5, a6] := by
  match l, hl with
  | [b0, b1, b2, b3, b4, b5, b6], _ =>
    simp at h0 h1 h2 h3 h4 h5 h6
    subst h0 h1 h2 h3 h4 h5 h6
    rfl
/-- A transaction, read. -/
theorem tx_of_trod {fuel : Nat} {l : List Value} {y : DataW H × List MemPlace} (h : DataW.trod enc Tryd.prog w base spare held fuel 35 l = some y) : ∃ t : Txx, l = txL t ∧ t.wf maxLen := by
  obtain ⟨ys, n, _, _, hlen, hyl, hf⟩ := DataW.trod_struct Tryd.underlying35 h
  have hl : l.length = 7 := hlen.trans cX
  have hy : ys.length = 7 := hyl
  obtain ⟨a0, e0, w0⟩ := int_field (hf 0 _ rfl) (some_of hy (by decide)) (Nat.lt_of_lt_of_eq (by decide) hl.symm)
  obtain ⟨a1, e1, w1⟩ := str_field (hf 1 _ rfl) (some_of hy (by decide)) (Nat.lt_of_lt_of_eq (by decide) hl.symm)
  obtain ⟨a2, e2, w2⟩ := str_field (hf 2 _ rfl) (some_of hy (by decide)) (Nat.lt_of_lt_of_eq (by decide) hl.symm)
  obtain ⟨a3, e3, w3⟩ := str_field (hf 3 _ rfl) (some_of hy (by decide)) (Nat.lt_of_lt_of_eq (by decide) hl.symm)
  obtain ⟨a4, e4, w4⟩ := str_field (hf 4 _ rfl) (some_of hy (by decide)) (Nat.lt_of_lt_of_eq (by decide) hl.symm)
  obtain ⟨a5, e5, w5⟩ := i64_field (hf 5 _ rfl) (some_of hy (by decide)) (Nat.lt_of_lt_of_eq (by decide) hl.symm)
  obtain ⟨a6, e6, w6⟩ := i64_field (hf 6 _ rfl) (some_of hy (by decide)) (Nat.lt_of_lt_of_eq (by decide) hl.symm)
  exact ⟨⟨a0, a1, a2, a3, a4, a5, a6⟩, list7 hl e0 e1 e2 e3 e4 e5 e6, ⟨w0, w1, w2, w3, w4, w5, w6⟩⟩
end
/-- A transaction that came in by value. -/
theorem open_tx {H : Type} {enc : TypeId × Value → H} {W : World} {base : Nat} {v : Value} {d : DataW H} {ps : List MemPlace} (hval : Value.okWide Tryd.prog W .any base 35 v)
    (h : DataW.Trod enc Tryd.prog W 0 (fun _ => true) true 35 v d ps) : ∃ t : Txx, v = .agg (txC t) ∧ t.wf maxLen := by
  obtain ⟨cs, rfl, _⟩ := okWide_struct Tryd.underlying35 hval
  obtain ⟨fuel, hf⟩ := h
  obtain ⟨t, hs, hw⟩ := tx_of_trod hf
  refine ⟨t, ?_, hw⟩
  have : cs = txC t := Array.toList_inj.1 hs
  rw [this]
/-! Slices of structs -/
/-- In w a slice of n transactions at A. -/
def Txs (w : World) (A : Option Addr) (n : Nat) (D : Nat → Txx) : Prop :=
  ∀ i, i < n → ∃ ad, A = some ad ∧ ad.block < w.heap.size ∧ (∀ j u, (txL (D i))[j]? = some u → w.cell? ((ad.add (i * 7)).add j) = some u) ∧ (D i).wf maxLen
theorem Txs.kept {S : Nat → Prop} {w w' : World} {A : Option Addr} {n : Nat} {D : Nat → Txx} (h : Txs w A n D) (ht : L6.Turn S w w') (hs : ∀ ad, A = some ad → ¬ S ad.block) : Txs w' A n D := by
  intro i hi
  obtain ⟨ad, hA, hl, h0, hf⟩ := h i hi
  exact ⟨ad, hA, Nat.lt_of_lt_of_le hl ht.size, fun j u hj => ht.cell (h0 j u hj) (by rw [block_of_add, block_of_add]; exact hs ad hA), hf⟩
theorem Txs.below {w w' : World} {A : Option Addr} {n : Nat} {D : Nat → Txx} (h : Txs w A n D) (hb : Below w.heap.size w w') : Txs w' A n D := h.kept (S := fun _ => False) (L6.Turn.of_keep hb) (fun _ _ h => h)
/-- Transactions, read. -/
theorem txs_of_trod {H : Type} {enc : TypeId × Value → H} {W : World} {n : Nat} {v : Value} {y : DataW H × List MemPlace} (hf : DataW.trod enc Tryd.prog W 0 (fun _ => true) true n 28 [v] = some y) :
    ∃ (A : Option Addr) (len cap : Nat) (D : Nat → Txx), v = .slice A len cap ∧ Txs W A len D ∧ len ≤ maxLen := by
  rcases open_slice_fields Tryd.underlying28 Tryd.underlying35 (by kernel_rfl) (by kernel_rfl) hf with ⟨hcs, hx⟩ | ⟨a, len, cap, m, D, Pl, hcs, _, hl, hm, hmm, hx, hi⟩
  · injection hcs with hcs _
    subst hcs
    exact ⟨none, 0, 0, fun _ => zeroX, rfl, fun i hi => absurd hi (by omega), Nat.zero_le _⟩
  · injection hcs with hcs _
    subst hcs
    simp only [if_true] at hmm
    subst hmm
    have sof : ∀ {i j n : Nat} {v : Value} {y : DataW H × List MemPlace}, W.cell? (a.add (i * 7 + j)) = some v → DataW.trod enc Tryd.prog W 0 (fun _ => true) true n 9 [v] = some y → ∃ l : List UInt8, W.cell? (a.add (i * 7 + j)) = some (.string (str l)) ∧ l.length ≤ maxLen := fun {i j n v y} hc ht => by
      obtain ⟨s, hs, _, hw⟩ := DataW.trod_string Tryd.underlying9 ht
      simp at hs
      subst hs
      refine ⟨s.data.toList, by rw [str_of]; exact hc, ?_⟩
      have := str_size s.data.toList
      rw [str_of] at this
      omega
    have each : ∀ i, i < len → ∃ x : Txx, (∀ j u, (txL x)[j]? = some u → W.cell? ((a.add (i * 7)).add j) = some u) ∧ x.wf maxLen := by
      intro i hil
      obtain ⟨ys, n, _, _, _, hfl⟩ := hi i (by omega)
      obtain ⟨v0, y0, hc0, _, ht0⟩ := hfl 0 _ rfl
      obtain ⟨v1, y1, hc1, _, ht1⟩ := hfl 1 _ rfl
      obtain ⟨v2, y2, hc2, _, ht2⟩ := hfl 2 _ rfl
      obtain ⟨v3, y3, hc3, _, ht3⟩ := hfl 3 _ rfl
      obtain ⟨v4, y4, hc4, _, ht4⟩ := hfl 4 _ rfl
      obtain ⟨v5, y5, hc5, _, ht5⟩ := hfl 5 _ rfl
      obtain ⟨v6, y6, hc6, _, ht6⟩ := hfl 6 _ rfl
      obtain ⟨k, hk, _, hw0⟩ := DataW.trod_int Tryd.underlying3 ht0
      obtain ⟨l1, e1, w1⟩ := sof hc1 ht1
      obtain ⟨l2, e2, w2⟩ := sof hc2 ht2
      obtain ⟨l3, e3, w3⟩ := sof hc3 ht3
      obtain ⟨l4, e4, w4⟩ := sof hc4 ht4
      obtain ⟨k5, hk5, _, hw5⟩ := DataW.trod_int Tryd.underlying2 ht5
      obtain ⟨k6, hk6, _, hw6⟩ := DataW.trod_int Tryd.underlying2 ht6
      simp at hk hk5 hk6
      subst hk hk5 hk6
      refine ⟨⟨k, l1, l2, l3, l4, k5, k6⟩, fun j u hj => ?_, ⟨bounds_i64 hw0, w1, w2, w3, w4, bounds_i64 hw5, bounds_i64 hw6⟩⟩
      rw [L3.add_of_add]
      match j, hj with
      | 0, hj => injection hj with hj; subst hj; exact hc0
      | 1, hj => injection hj with hj; subst hj; exact e1
      | 2, hj => injection hj with hj; subst hj; exact e2
      | 3, hj => injection hj with hj; subst hj; exact e3
      | 4, hj => injection hj with hj; subst hj; exact e4
      | 5, hj => injection hj with hj; subst hj; exact hc5
      | 6, hj => injection hj with hj; subst hj; exact hc6
      | j + 7, hj => cases hj
    obtain ⟨F, hF⟩ := Deep.choose_lt each
    refine ⟨some a, len, _, F, rfl, fun i hil => ?_, by omega⟩
    obtain ⟨c0, hf⟩ := hF i hil
    have hb := cell_lt (c0 0 _ rfl)
    rw [block_of_add, block_of_add] at hb
    exact ⟨a, rfl, hb, c0, hf⟩
theorem open_txs {H : Type} {enc : TypeId × Value → H} {W : World} {base : Nat} {v : Value} {d : DataW H} {ps : List MemPlace} (hval : Value.okWide Tryd.prog W .any base 28 v)
    (h : DataW.Trod enc Tryd.prog W 0 (fun _ => true) true 28 v d ps) :
    ∃ (A : Option Addr) (len cap : Nat) (D : Nat → Txx), v = .slice A len cap ∧ Txs W A len D ∧ len ≤ maxLen := by
  obtain ⟨a0, len, cap, rfl⟩ := okWide_slice Tryd.underlying28 hval
  obtain ⟨fuel, hf⟩ := h
  exact txs_of_trod hf
/-! Calls -/
/-- A call: its kind, a number, transactions. -/
structure Pact where
  kind : Int
  n : Int
  A : Option Addr
  len : Nat
  cap : Nat
  D : Nat → Txx
instance : Inhabited Pact := ⟨⟨0, 0, none, 0, 0, fun _ => zeroX⟩⟩
def pactL (a : Pact) : List Value := [.int .i64 a.kind, .int .i64 a.n, .slice a.A a.len a.cap]
def pactC (a : Pact) : Array Value := #[.int .i64 a.kind, .int .i64 a.n, .slice a.A a.len a.cap]
/-- In w a slice of n calls at A. -/
def Pacts (w : World) (A : Option Addr) (n : Nat) (D : Nat → Pact) : Prop :=
  ∀ i, i < n → ∃ ad, A = some ad ∧ ad.block < w.heap.size ∧ (∀ j u, (pactL (D i))[j]? = some u → w.cell? ((ad.add (i * 3)).add j) = some u) ∧ Txs w (D i).A (D i).len (D i).D ∧ (D i).len ≤ maxLen ∧ inI (D i).n
theorem Pacts.below {w w' : World} {A : Option Addr} {n : Nat} {D : Nat → Pact} (h : Pacts w A n D) (hb : Below w.heap.size w w') : Pacts w' A n D := by
  intro i hi
  obtain ⟨ad, hA, hl, h0, ht, hf⟩ := h i hi
  exact ⟨ad, hA, Nat.lt_of_lt_of_le hl hb.size, fun j u hj => (hb.cell (p := (ad.add (i * 3)).add j) (by rw [block_of_add, block_of_add]; exact hl)).trans (h0 j u hj), ht.below hb, hf⟩
theorem open_pacts {H : Type} {enc : TypeId × Value → H} {W : World} {base : Nat} {v : Value} {d : DataW H} {ps : List MemPlace} (hval : Value.okWide Tryd.prog W .any base 22 v)
    (h : DataW.Trod enc Tryd.prog W 0 (fun _ => true) true 22 v d ps) :
    ∃ (A : Option Addr) (len cap : Nat) (D : Nat → Pact), v = .slice A len cap ∧ Pacts W A len D ∧ len ≤ maxLen := by
  obtain ⟨a0, len, cap, rfl⟩ := okWide_slice Tryd.underlying22 hval
  obtain ⟨fuel, hf⟩ := h
  rcases open_slice_fields Tryd.underlying22 Tryd.underlying32 (by kernel_rfl) (by kernel_rfl) hf with ⟨hcs, hx⟩ | ⟨a, len', cap', m, D, Pl, hcs, _, hl, hm, hmm, hx, hi⟩
  · simp [Value.cells] at hcs
    obtain ⟨rfl, rfl, rfl⟩ := hcs
    exact ⟨none, 0, 0, fun _ => default, rfl, fun i hi => absurd hi (by omega), Nat.zero_le _⟩
  · simp [Value.cells] at hcs
    obtain ⟨rfl, rfl, rfl⟩ := hcs
    simp only [if_true] at hmm
    subst hmm
    have each : ∀ i, i < len → ∃ x : Pact, (∀ j u, (pactL x)[j]? = some u → W.cell? ((a.add (i * 3)).add j) = some u) ∧ Txs W x.A x.len x.D ∧ x.len ≤ maxLen ∧ inI x.n := by
      intro i hil
      obtain ⟨ys, n, _, _, _, hfl⟩ := hi i (by omega)
      obtain ⟨v0, y0, hc0, _, ht0⟩ := hfl 0 _ rfl
      obtain ⟨v1, y1, hc1, _, ht1⟩ := hfl 1 _ rfl
      obtain ⟨v2, y2, hc2, _, ht2⟩ := hfl 2 _ rfl
      obtain ⟨k0, hk0, _, hw0⟩ := DataW.trod_int Tryd.underlying3 ht0
      obtain ⟨k1, hk1, _, hw1⟩ := DataW.trod_int Tryd.underlying3 ht1
      obtain ⟨A, l, c, F, rfl, hT, hml⟩ := txs_of_trod ht2
      simp at hk0 hk1
      subst hk0 hk1
      refine ⟨⟨k0, k1, A, l, c, F⟩, fun j u hj => ?_, hT, hml, bounds_i64 hw1⟩
      rw [L3.add_of_add]
      match j, hj with
      | 0, hj => injection hj with hj; subst hj; exact hc0
      | 1, hj => injection hj with hj; subst hj; exact hc1
      | 2, hj => injection hj with hj; subst hj; exact hc2
      | j + 3, hj => cases hj
    obtain ⟨F, hF⟩ := Deep.choose_lt each
    refine ⟨some a, len, _, F, rfl, fun i hil => ?_, by omega⟩
    obtain ⟨c0, hf⟩ := hF i hil
    have hb := cell_lt (c0 0 _ rfl)
    rw [block_of_add, block_of_add] at hb
    exact ⟨a, rfl, hb, c0, hf⟩
end Go.Proofs.YtohkjleppohinaaDoor
