/-
  What each law's row needs besides its walk: the last step behind a call that makes memory; a timeout and a block that came in.
-/
import Derived.Test.YtgmejaiifibfoaaGreatDoorB4
import Derived.Test.YtgmejaiifibfoaaGreatDoorB3
import Derived.ProofKit
import Derived.OpenShut
import Derived.Carry
import Derived.ChangeMaps5
import Derived.Deep.DeepHandedRow
import Derived.Lib.LaidTab
import Derived.Stop.LaidErr
import Derived.ChangeSlices
import Derived.Deep.Slices
set_option linter.unusedSimpArgs false
set_option linter.unusedVariables false
set_option maxRecDepth 10000
namespace Go.Proofs.YtgmejaiifibfoaaGreatDoor
open Go.ChangeShapes Go.WideShapes Go.ChangeAt Go.RowKit
open L3 (Reads block_of_add)

theorem own : ownKnob Tryz.prog.godebug = none := by kernel_rfl
section
variable {H : Type} {enc : TypeId × Value → H} {P : Program}
/-- The row's last step where of memory 'Below' alone is known. -/
theorem post_of_below {f : Func} {s : ChangeSpec} {apart fresh handsOn again : Bool} {W W' : World} {args : Array Value} {v : Value} {ds gs : List (DataW H)} {before pa pv : List MemPlace}
    (hW : DataW.Whole enc P f.params.toList s.vars apart W args.toList ds gs before)
    (hres : ∀ (b : Nat) (sp : Nat → Bool) (hd : Bool), DataW.TrodAll enc P W' b sp hd f.resultTypes.toList (v.resultList f.resultTypes.size) (s.fn H (ds ++ gs)).results [])
    (hargs : ∀ sp : Nat → Bool, (∀ p ∈ before, sp p.block = true) → DataW.TrodAll enc P W' 0 sp true f.params.toList args.toList (s.fn H (ds ++ gs)).args pa)
    (hvars : ∀ sp : Nat → Bool, (∀ p ∈ before, sp p.block = true) → DataW.TrodVars enc P W' sp s.vars (s.fn H (ds ++ gs)).vars pv)
    (hps : before = pa ++ pv) (hb : Below W.heap.size W W')
    (hok : ∀ (j : Nat) (t : TypeId) (r : Value), f.resultTypes[j]? = some t → (v.resultList f.resultTypes.size)[j]? = some r → Value.okWide P W' .any 0 t r) :
    s.post enc P f apart fresh handsOn again W args v W' := by
  have hlt : ∀ p ∈ before, p.block < W.heap.size := fun p hp => hW.lt p hp
  have hold : ∀ p ∈ before, (fun b => decide (b < W.heap.size)) p.block = true := fun p hp => by simpa using hlt p hp
  refine ⟨ds, gs, before, [], pa, pv, hW, hres _ _ _, hargs _ hold, hvars _ hold, World.keptBut_mono (fun p hp => ⟨hp, ?_⟩) (hb.frame (· ∈ before)), fun _ => ?_⟩
  · rw [hps, List.mem_append] at hp
    exact Or.inr hp
  · obtain ⟨_, _, _, _, _, hz, hn⟩ := hW
    refine ⟨hok, _, _, ([] ++ pa) ++ pv, ⟨[] ++ pa, pv, trodAll_append (hargs _ (fun _ _ => rfl)) (hres _ _ _), hvars _ (fun _ _ => rfl), rfl, ?_, ?_⟩, ?_⟩
    · intro b off hp
      have hin : MemPlace.cell b off ∈ before := by rw [hps]; simpa using hp
      rw [hb.frozen (hlt _ hin)]
      exact hz b off hin
    · intro ha
      have := hn ha
      rw [hps] at this
      simpa using this
    · intro p hp _
      rw [hps]
      simpa using hp
end

theorem cell_lt {w : World} {a : Addr} {v : Value} (h : w.cell? a = some v) : a.block < w.heap.size := by
  rcases Nat.lt_or_ge a.block w.heap.size with hlt | hge
  · exact hlt
  · have e : w.heap[a.block]? = none := Array.getElem?_eq_none hge
    simp [World.cell?, e] at h
/-- A slice of integers that came in, nil or not, reads as a list of numbers. -/
theorem open_words {H : Type} {enc : TypeId × Value → H} {W : World} {base : Nat} {v : Value} {d : DataW H} {ps : List MemPlace} {t e : TypeId} {k : IntKind} (ht : Tryz.prog.underlying t = some (.slice e)) (he : Tryz.prog.underlying e = some (.int k)) (hc : Tryz.prog.cellsOf e = 1) (hval : Value.okWide Tryz.prog W .any base t v)
    (h : DataW.Trod enc Tryz.prog W 0 (fun _ => true) true t v d ps) :
    ∃ (A : Option Addr) (cap : Nat) (zs : List Int), v = .slice A zs.length cap ∧ Reads W W.heap.size 1 A zs.length (zs.map (Value.int k)) ∧ zs.length ≤ maxLen ∧ zs.length ≤ cap ∧ ∀ z ∈ zs, (Lit.int k z).wf = true := by
  obtain ⟨a0, len, cap, rfl⟩ := okWide_slice ht hval
  obtain ⟨fuel, hf⟩ := h
  rcases open_ints ht he hc hf with ⟨hcs, hx⟩ | ⟨a, len', cap', zs, hcs, _, hl, hm, hz, hx, hcell, hwz⟩
  · simp [Value.cells] at hcs
    obtain ⟨rfl, rfl, rfl⟩ := hcs
    exact ⟨none, 0, [], rfl, Reads.none_, Nat.zero_le _, Nat.le_refl _, fun z hz => by cases hz⟩
  · simp [Value.cells] at hcs
    obtain ⟨rfl, rfl, rfl⟩ := hcs
    simp only [if_true] at hz
    have hlen : (zs.take len).length = len := by simp; omega
    refine ⟨some a, cap, zs.take len, by rw [hlen], ⟨by simp, fun h0 => ⟨a, rfl, ?_, fun j u hu => ?_⟩⟩, by omega, by omega, fun z hz => hwz z (List.mem_of_mem_take hz)⟩
    · rw [hlen] at h0
      have := cell_lt (hcell 0 (by omega))
      rwa [block_of_add] at this
    · simp only [List.getElem?_map, List.getElem?_take] at hu
      split at hu
      · rw [hcell j (by omega), List.getD_eq_getElem?_getD]
        cases hj : zs[j]? with
        | none => rw [hj] at hu; cases hu
        | some z => rw [hj] at hu; simpa using hu
      · cases hu
/-- A slice of bytes that came in, nil or not, reads as a list of bytes. -/
theorem open_bytes_word {H : Type} {enc : TypeId × Value → H} {W : World} {base : Nat} {v : Value} {d : DataW H} {ps : List MemPlace} (hval : Value.okWide Tryz.prog W .any base 52 v)
    (h : DataW.Trod enc Tryz.prog W 0 (fun _ => true) true 52 v d ps) :
    ∃ (A : Option Addr) (cap : Nat) (l : List UInt8), v = .slice A l.length cap ∧ Reads W W.heap.size 1 A l.length (Lib.byteCells l) ∧ l.length ≤ maxLen ∧ l.length ≤ cap := by
  obtain ⟨A, cap, zs, rfl, hr, hm, hc, hw⟩ := open_words Tryz.underlying52 Tryz.underlying5 (by kernel_rfl) hval h
  have e : Lib.byteCells (zs.map fun z => UInt8.ofNat z.toNat) = zs.map (Value.int .u8) := by
    unfold Lib.byteCells
    rw [List.map_map]
    refine List.map_congr_left fun z hz => ?_
    obtain ⟨j, hj, rfl⟩ := List.getElem_of_mem hz
    have hr := range_u8 hw j
    rw [List.getElem?_eq_getElem hj] at hr
    simp only [Option.getD_some] at hr
    simp only [Function.comp_apply, UInt8.toNat_ofNat']
    congr 1
    omega
  refine ⟨A, cap, zs.map fun z => UInt8.ofNat z.toNat, by simp, ?_, by simpa using hm, by simpa using hc⟩
  rw [e]; simpa using hr
section
variable {H : Type} {enc : TypeId × Value → H} {w : World} {base : Nat} {spare : Nat → Bool} {held : Bool}
theorem one_of {l : List Value} {off : Nat} (h : off < l.length) : (l.drop off).take 1 = [l[off]] := by
  rw [List.drop_eq_getElem_cons h]; rfl
theorem int_field {n off : Nat} {l : List Value} {y : Option (DataW H × List MemPlace)} (h : DataW.trod enc Tryz.prog w base spare held n 3 ((l.drop off).take (Tryz.prog.cellsOf 3)) = y) (hy : y.isSome = true) (hl : off < l.length) :
    ∃ a, l[off]? = some (.int .i64 a) ∧ inI a := by
  obtain ⟨z, rfl⟩ := Option.isSome_iff_exists.1 hy
  rw [cI, one_of hl] at h
  obtain ⟨k, hk, _, hw⟩ := DataW.trod_int Tryz.underlying3 h
  simp at hk
  exact ⟨k, by rw [List.getElem?_eq_getElem hl, hk], bounds_i64 hw⟩
theorem i64_field {n off : Nat} {l : List Value} {y : Option (DataW H × List MemPlace)} (h : DataW.trod enc Tryz.prog w base spare held n 2 ((l.drop off).take (Tryz.prog.cellsOf 2)) = y) (hy : y.isSome = true) (hl : off < l.length) :
    ∃ a, l[off]? = some (.int .i64 a) ∧ inI a := by
  obtain ⟨z, rfl⟩ := Option.isSome_iff_exists.1 hy
  rw [cI64, one_of hl] at h
  obtain ⟨k, hk, _, hw⟩ := DataW.trod_int Tryz.underlying2 h
  simp at hk
  exact ⟨k, by rw [List.getElem?_eq_getElem hl, hk], bounds_i64 hw⟩
theorem str_field {n off : Nat} {l : List Value} {y : Option (DataW H × List MemPlace)} (h : DataW.trod enc Tryz.prog w base spare held n 9 ((l.drop off).take (Tryz.prog.cellsOf 9)) = y) (hy : y.isSome = true) (hl : off < l.length) :
    ∃ a : List UInt8, l[off]? = some (.string (str a)) ∧ a.length ≤ maxLen := by
  obtain ⟨z, rfl⟩ := Option.isSome_iff_exists.1 hy
  rw [cS, one_of hl] at h
  obtain ⟨s, hk, _, hw⟩ := DataW.trod_string Tryz.underlying9 h
  simp at hk
  refine ⟨s.data.toList, by rw [List.getElem?_eq_getElem hl, hk, str_of], ?_⟩
  have := str_size s.data.toList
  rw [str_of] at this
  omega
theorem u32_field {n off : Nat} {l : List Value} {y : Option (DataW H × List MemPlace)} (h : DataW.trod enc Tryz.prog w base spare held n 22 ((l.drop off).take (Tryz.prog.cellsOf 22)) = y) (hy : y.isSome = true) (hl : off < l.length) :
    ∃ a : Nat, l[off]? = some (.int .u32 a) ∧ L11.inU a := by
  obtain ⟨z, rfl⟩ := Option.isSome_iff_exists.1 hy
  rw [L11.cU, one_of hl] at h
  obtain ⟨k, hk, _, hw⟩ := DataW.trod_int Tryz.underlying22 h
  simp at hk
  have hb := bounds_u32 hw
  obtain ⟨m, rfl⟩ := Int.eq_ofNat_of_zero_le hb.1
  exact ⟨m, by rw [List.getElem?_eq_getElem hl, hk], by unfold L11.inU; omega⟩
theorem some_of {ys : List (DataW H × List MemPlace)} {j n : Nat} (h : ys.length = n) (hj : j < n) : (ys[j]?).isSome = true := by
  rw [List.getElem?_eq_getElem (by omega)]; rfl
theorem list7 {l : List Value} {a0 a1 a2 a3 a4 a5 a6 : Value} (hl : l.length = 7) (h0 : l[0]? = some a0) (h1 : l[1]? = some a1) (h2 : l[2]? = some a2) (h3 : l[3]? = some a3) (h4 : l[4]? = some a4)
    (h5 : l[5]? = some a5) (h6 : l[6]? = some a6) : l = [a0, a1, a2, a3, a4, a5, a6] := by
  match l, hl with
  | [b0, b1, b2, b3, b4, b5, b6], _ =>
    simp at h0 h1 h2 h3 h4 h5 h6
    subst h0 h1 h2 h3 h4 h5 h6
    rfl
/-- A transaction, read. -/
theorem tx_of_trod {fuel : Nat} {l : List Value} {y : DataW H × List MemPlace} (h : DataW.trod enc Tryz.prog w base spare held fuel 32 l = some y) : ∃ t : Txx, l = txL t ∧ t.wf maxLen := by
  obtain ⟨ys, n, _, _, hlen, hyl, hf⟩ := DataW.trod_struct Tryz.underlying32 h
  have hl : l.length = 7 := hlen.trans cX
  have hy : ys.length = 7 := hyl
  obtain ⟨a0, e0, w0⟩ := int_field (hf 0 _ rfl) (some_of hy (by decide)) (Nat.lt_of_lt_of_eq (by decide) hl.symm)
  obtain ⟨a1, e1, w1⟩ := str_field (hf 1 _ rfl) (some_of hy (by decide)) (Nat.lt_of_lt_of_eq (by decide) hl.symm)
  obtain ⟨a2, e2, w2⟩ := str_field (hf 2 _ rfl) (some_of hy (by decide)) (Nat.lt_of_lt_of_eq (by decide) hl.symm)
  obtain ⟨a3, e3, w3⟩ := str_field (hf 3 _ rfl) (some_of hy (by decide)) (Nat.lt_of_lt_of_eq (by decide) hl.symm)
  obtain ⟨a4, e4, w4⟩ := str_field (hf 4 _ rfl) (some_of hy (by decide)) (Nat.lt_of_lt_of_eq (by decide) hl.symm)
  obtain ⟨a5, e5, w5⟩ := i64_field (hf 5 _ rfl) (some_of hy (by decide)) (Nat.lt_of_lt_of_eq (by decide) hl.symm)
  obtain ⟨a6, e6, w6⟩ := i64_field (hf 6 _ rfl) (some_of hy (by decide)) (Nat.lt_of_lt_of_eq (by decide) hl.symm)
  exact ⟨⟨a0, a1, a2, a3, a4, a5, a6⟩, list7 hl e0 e1 e2 e3 e4 e5 e6, ⟨w0, w1, w2, w3, w4, w5, w6⟩⟩
theorem list8 {l : List Value} {a0 a1 a2 a3 a4 a5 a6 a7 : Value} (hl : l.length = 8) (h0 : l[0]? = some a0) (h1 : l[1]? = some a1) (h2 : l[2]? = some a2) (h3 : l[3]? = some a3) (h4 : l[4]? = some a4)
    (h5 : l[5]? = some a5) (h6 : l[6]? = some a6) (h7 : l[7]? = some a7) : l = [a0, a1, a2, a3, a4, a5, a6, a7] := by
  match l, hl with
  | [b0, b1, b2, b3, b4, b5, b6, b7], _ =>
    simp at h0 h1 h2 h3 h4 h5 h6 h7
    subst h0 h1 h2 h3 h4 h5 h6 h7
    rfl
/-- A certificate, read. -/
theorem crt_of_trod {fuel : Nat} {l : List Value} {y : DataW H × List MemPlace} (h : DataW.trod enc Tryz.prog w base spare held fuel 24 l = some y) : ∃ c : L11.Crt, l = L11.crtL c ∧ c.wf := by
  obtain ⟨ys, n, _, _, hlen, hyl, hf⟩ := DataW.trod_struct Tryz.underlying24 h
  have hl : l.length = 8 := hlen.trans L11.cC
  have hy : ys.length = 8 := hyl
  obtain ⟨a0, e0, w0⟩ := int_field (hf 0 _ rfl) (some_of hy (by decide)) (Nat.lt_of_lt_of_eq (by decide) hl.symm)
  obtain ⟨a1, e1, w1⟩ := int_field (hf 1 _ rfl) (some_of hy (by decide)) (Nat.lt_of_lt_of_eq (by decide) hl.symm)
  obtain ⟨a2, e2, w2⟩ := int_field (hf 2 _ rfl) (some_of hy (by decide)) (Nat.lt_of_lt_of_eq (by decide) hl.symm)
  obtain ⟨a3, e3, w3⟩ := int_field (hf 3 _ rfl) (some_of hy (by decide)) (Nat.lt_of_lt_of_eq (by decide) hl.symm)
  obtain ⟨a4, e4, w4⟩ := int_field (hf 4 _ rfl) (some_of hy (by decide)) (Nat.lt_of_lt_of_eq (by decide) hl.symm)
  obtain ⟨a5, e5, w5⟩ := int_field (hf 5 _ rfl) (some_of hy (by decide)) (Nat.lt_of_lt_of_eq (by decide) hl.symm)
  obtain ⟨a6, e6, w6⟩ := u32_field (hf 6 _ rfl) (some_of hy (by decide)) (Nat.lt_of_lt_of_eq (by decide) hl.symm)
  obtain ⟨a7, e7, w7⟩ := u32_field (hf 7 _ rfl) (some_of hy (by decide)) (Nat.lt_of_lt_of_eq (by decide) hl.symm)
  exact ⟨⟨a0, a1, a2, a3, a4, a5, a6, a7⟩, list8 hl e0 e1 e2 e3 e4 e5 e6 e7, ⟨w0, w1, w2, w3, w4, w5, w6, w7⟩⟩
theorem tm_of_trod {fuel : Nat} {l : List Value} {y : DataW H × List MemPlace} (h : DataW.trod enc Tryz.prog w base spare held fuel 26 l = some y) : ∃ x : Tmo, l = tmL x ∧ x.wf := by
  obtain ⟨ys, n, _, _, hlen, hyl, hf⟩ := DataW.trod_struct Tryz.underlying26 h
  have hl : l.length = 10 := hlen.trans cT
  have hy : ys.length = 3 := hyl
  obtain ⟨k, e0, w0⟩ := int_field (hf 0 _ rfl) (some_of hy (by decide)) (Nat.lt_of_lt_of_eq (by decide) hl.symm)
  obtain ⟨v, e1, w1⟩ := int_field (hf 1 _ rfl) (some_of hy (by decide)) (Nat.lt_of_lt_of_eq (by decide) hl.symm)
  obtain ⟨z, hz⟩ := Option.isSome_iff_exists.1 (some_of (j := 2) hy (by decide))
  obtain ⟨s, hs, ws⟩ := crt_of_trod ((hf 2 _ rfl).trans hz)
  refine ⟨⟨k, v, s⟩, ?_, w0, w1, ws⟩
  match l, hl with
  | [b0, b1, b2, b3, b4, b5, b6, b7, b8, b9], _ =>
    simp at e0 e1
    subst e0 e1
    have h2 : List.take (Tryz.prog.cellsOf 24) [b2, b3, b4, b5, b6, b7, b8, b9] = L11.crtL s := hs
    rw [L11.cC] at h2
    exact congrArg (fun t => _ :: _ :: t) h2
end
/-- A slice of structs that came in, as a list. -/
theorem list_of_trod {H : Type} {enc : TypeId × Value → H} {W : World} {α : Type} [Inhabited α] {t e : TypeId} {f : α → List Value} {k : Nat} (Q : α → Prop) (ht : Tryz.prog.underlying t = some (.slice e)) (hk : Tryz.prog.cellsOf e = k) (hfk : ∀ x, (f x).length = k) (h0 : ∀ x, ∃ u, (f x)[0]? = some u)
    (each : ∀ (n : Nat) (cs' : List Value) (y : DataW H × List MemPlace), DataW.trod enc Tryz.prog W 0 (fun _ => true) true n e cs' = some y → ∃ x, cs' = f x ∧ Q x) {n : Nat} {v : Value} {y : DataW H × List MemPlace} (hf : DataW.trod enc Tryz.prog W 0 (fun _ => true) true n t [v] = some y) :
    ∃ (A : Option Addr) (cap : Nat) (L : List α), v = .slice A L.length cap ∧ Rd f k W A L ∧ (∀ x ∈ L, Q x) ∧ L.length ≤ maxLen := by
  rcases Deep.open_slice ht hf with ⟨hcs, hx⟩ | ⟨a, len, cap, m, n, D, Pl, hcs, _, hl, hm, hmm, hx, hi⟩
  · injection hcs with hcs _
    subst hcs
    exact ⟨none, 0, [], rfl, Rd.nil, (fun x hx => absurd hx List.not_mem_nil), Nat.zero_le _⟩
  · injection hcs with hcs _
    subst hcs
    simp only [if_true] at hmm
    subst hmm
    have each2 : ∀ i, i < len → ∃ x : α, (∀ j u, (f x)[j]? = some u → W.cell? ((a.add (i * k)).add j) = some u) ∧ Q x := by
      intro i hil
      obtain ⟨cs', hc, ht'⟩ := hi i (by omega)
      obtain ⟨_, hcl, hat⟩ := World.cells?_some hc
      obtain ⟨x, rfl, hfit⟩ := each _ _ _ ht'
      rw [hk] at hat
      refine ⟨x, fun j u hj => ?_, hfit⟩
      have hjk : j < k := by
        rcases Nat.lt_or_ge j k with h | h
        · exact h
        · rw [List.getElem?_eq_none (by rw [hfk]; exact h)] at hj; cases hj
      rw [hat j hjk]
      exact hj
    obtain ⟨F, hF⟩ := Deep.choose_lt each2
    refine ⟨some a, m, (List.range len).map F, by simp, fun i hi => ?_, fun x hx => ?_, by simp; omega⟩
    · have hil : i < len := by simpa using hi
      obtain ⟨h1, h2⟩ := hF i hil
      obtain ⟨u, hu⟩ := h0 (F i)
      have hb := cell_lt (h1 0 u hu)
      rw [block_of_add, block_of_add] at hb
      have e1 : ((List.range len).map F)[i] = F i := by simp
      rw [e1]
      exact ⟨a, rfl, hb, h1⟩
    · obtain ⟨i, hi, rfl⟩ := List.mem_map.1 hx
      exact (hF i (List.mem_range.1 hi)).2
/-- A block as it came in: its numbers fit; its lists and texts are of any size. -/
structure Blo.raw (b : Blo) : Prop where
  view : inI b.view
  round : inI b.round
  height : inI b.height
  author : inI b.author
  par : b.par.wf
  proof : ∀ t ∈ b.proof, t.wf
  txs : ∀ t ∈ b.txs, t.wf maxLen
  np : b.proof.length ≤ maxLen
  nt : b.txs.length ≤ maxLen
theorem tx_0 (x : Txx) : ∃ u, (txL x)[0]? = some u := ⟨_, rfl⟩
theorem tm_0 (x : Tmo) : ∃ u, (tmL x)[0]? = some u := ⟨_, rfl⟩
theorem cB : Tryz.prog.cellsOf 30 = 14 := by kernel_rfl
theorem cST : Tryz.prog.cellsOf 27 = 1 := by kernel_rfl
theorem cSX : Tryz.prog.cellsOf 28 = 1 := by kernel_rfl
theorem blk_of_trod {H : Type} {enc : TypeId × Value → H} {W : World} {fuel : Nat} {l : List Value} {y : DataW H × List MemPlace} (h : DataW.trod enc Tryz.prog W 0 (fun _ => true) true fuel 30 l = some y) :
    ∃ (b : Blo) (A : Option Addr) (c : Nat) (B : Option Addr) (d : Nat), l = (bloC b (.slice A b.proof.length c) (.slice B b.txs.length d)).toList ∧ Rd tmL 10 W A b.proof ∧ Rd txL 7 W B b.txs ∧ b.raw := by
  obtain ⟨ys, n, _, _, hlen, hyl, hf⟩ := DataW.trod_struct Tryz.underlying30 h
  have hl : l.length = 14 := hlen.trans cB
  have hy : ys.length = 7 := hyl
  obtain ⟨a0, e0, w0⟩ := int_field (hf 0 _ rfl) (some_of hy (by decide)) (Nat.lt_of_lt_of_eq (by decide) hl.symm)
  obtain ⟨a1, e1, w1⟩ := int_field (hf 1 _ rfl) (some_of hy (by decide)) (Nat.lt_of_lt_of_eq (by decide) hl.symm)
  obtain ⟨a2, e2, w2⟩ := int_field (hf 2 _ rfl) (some_of hy (by decide)) (Nat.lt_of_lt_of_eq (by decide) hl.symm)
  obtain ⟨a3, e3, w3⟩ := int_field (hf 3 _ rfl) (some_of hy (by decide)) (Nat.lt_of_lt_of_eq (by decide) hl.symm)
  obtain ⟨z, hz⟩ := Option.isSome_iff_exists.1 (some_of (j := 4) hy (by decide))
  obtain ⟨s, hs, ws⟩ := crt_of_trod ((hf 4 _ rfl).trans hz)
  obtain ⟨z5, hz5⟩ := Option.isSome_iff_exists.1 (some_of (j := 5) hy (by decide))
  obtain ⟨z6, hz6⟩ := Option.isSome_iff_exists.1 (some_of (j := 6) hy (by decide))
  have h5 := (hf 5 _ rfl).trans hz5
  have h6 := (hf 6 _ rfl).trans hz6
  match l, hl with
  | [b0, b1, b2, b3, b4, b5, b6, b7, b8, b9, b10, b11, b12, b13], _ =>
    simp at e0 e1 e2 e3
    subst e0 e1 e2 e3
    have h2 : List.take (Tryz.prog.cellsOf 24) [b4, b5, b6, b7, b8, b9, b10, b11, b12, b13] = L11.crtL s := hs
    rw [L11.cC] at h2
    have h5' : DataW.trod enc Tryz.prog W 0 (fun _ => true) true n 27 (List.take (Tryz.prog.cellsOf 27) [b12, b13]) = some z5 := h5
    have h6' : DataW.trod enc Tryz.prog W 0 (fun _ => true) true n 28 (List.take (Tryz.prog.cellsOf 28) [b13]) = some z6 := h6
    rw [cST] at h5'
    rw [cSX] at h6'
    obtain ⟨A, c, L, rfl, r1, q1, m1⟩ := list_of_trod (W := W) (f := tmL) (k := 10) (fun t : Tmo => t.wf) Tryz.underlying27 cT (fun _ => rfl) tm_0 (fun n cs' y h => tm_of_trod h) h5'
    obtain ⟨B, d, X, rfl, r2, q2, m2⟩ := list_of_trod (W := W) (f := txL) (k := 7) (fun t : Txx => t.wf maxLen) Tryz.underlying28 cX (fun _ => rfl) tx_0 (fun n cs' y h => tx_of_trod h) h6'
    refine ⟨⟨a0, a1, a2, a3, s, L, X⟩, A, c, B, d, ?_, r1, r2, ⟨w0, w1, w2, w3, ws, q1, q2, m1, m2⟩⟩
    have h3 : [b4, b5, b6, b7, b8, b9, b10, b11] = L11.crtL s := h2
    injection h3 with i0 h3
    injection h3 with i1 h3
    injection h3 with i2 h3
    injection h3 with i3 h3
    injection h3 with i4 h3
    injection h3 with i5 h3
    injection h3 with i6 h3
    injection h3 with i7 _
    subst i0 i1 i2 i3 i4 i5 i6 i7
    rfl
/-- A timeout that came in by value. -/
theorem open_tmo {H : Type} {enc : TypeId × Value → H} {W : World} {base : Nat} {v : Value} {d : DataW H} {ps : List MemPlace} (hval : Value.okWide Tryz.prog W .any base 26 v)
    (h : DataW.Trod enc Tryz.prog W 0 (fun _ => true) true 26 v d ps) : ∃ t : Tmo, v = .agg (tmC t) ∧ t.wf := by
  obtain ⟨cs, rfl, _⟩ := okWide_struct Tryz.underlying26 hval
  obtain ⟨fuel, hf⟩ := h
  obtain ⟨t, hs, hw⟩ := tm_of_trod hf
  refine ⟨t, ?_, hw⟩
  have : cs = tmC t := Array.toList_inj.1 hs
  rw [this]
/-- A block that came in by value. -/
theorem open_blk {H : Type} {enc : TypeId × Value → H} {W : World} {base : Nat} {v : Value} {d : DataW H} {ps : List MemPlace} (hval : Value.okWide Tryz.prog W .any base 30 v)
    (h : DataW.Trod enc Tryz.prog W 0 (fun _ => true) true 30 v d ps) : ∃ (b : Blo) (A : Option Addr) (c : Nat) (B : Option Addr) (e : Nat), v = .agg (bloC b (.slice A b.proof.length c) (.slice B b.txs.length e)) ∧ Rd tmL 10 W A b.proof ∧ Rd txL 7 W B b.txs ∧ b.raw := by
  obtain ⟨cs, rfl, _⟩ := okWide_struct Tryz.underlying30 hval
  obtain ⟨fuel, hf⟩ := h
  obtain ⟨b, A, c, B, e, hs, r1, r2, hw⟩ := blk_of_trod hf
  refine ⟨b, A, c, B, e, ?_, r1, r2, hw⟩
  have : cs = bloC b (.slice A b.proof.length c) (.slice B b.txs.length e) := Array.toList_inj.1 hs
  rw [this]
end Go.Proofs.YtgmejaiifibfoaaGreatDoor
