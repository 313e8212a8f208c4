/-
  Blocks as the statements have them, as values and in maps by number; a tree in memory.
-/
import Derived.Test.YtgclofemhhhepaaTre
import Derived.Test.YtgclofemhhhepaaL6Foot
import Derived.Test.YtgclofemhhhepaaParts
import Derived.Maps.RangeWalk
import Derived.Maps.OwnSet
import Derived.Lib.SlKeysI
import Derived.Lib.Hide
import Derived.IntWalk
import Derived.WalkArith
set_option linter.unusedSimpArgs false
set_option linter.unusedVariables false
set_option maxRecDepth 10000
namespace Go.Proofs.Ytgclofemhhhepaa
open Go.RowKit Go.Maps Go.Lib
open L3 (Blk Reads)
open L6 (Turn moreB fresh From In)

/-- What a call hands back, where nothing that was there has turned. -/
def gives (v : Value) (w : World) (e : Ending) (w' : World) : Prop := e = .returned v ∧ Below w.heap.size w w'
theorem nxt {a b c : World} (h : Below a.heap.size a b) (k : Below b.heap.size b c) : Below a.heap.size a c := h.trans (k.mono h.size)

/-! Values -/
def blC (b : Bl) : Array Value := #[.int .i64 b.v, .int .i64 b.rd, .int .i64 0, .int .i64 0, .int .i64 0, .int .i64 b.p, .int .i64 0, .int .i64 b.pr, .int .i64 0, .int .i64 0, .int .u32 0, .int .u32 0, .slice none 0 0, .slice none 0 0]
theorem blC_ones (b : Bl) : (blC b).all (·.oneCell') = true := by kernel_rfl
def zeroBl : Bl := ⟨0, 0, 0, 0⟩
theorem blInfo : (Try.prog.info? 39).map (·.size) = some 14 := by kernel_rfl
theorem zeroBlk (w : World) : (zeroValue 39).run Try.prog w = .ok (.agg (blC zeroBl)) w := by kernel_rfl
theorem blC_inj {x y : Bl} (h : blC x = blC y) : x = y := by
  obtain ⟨a, b, c, d⟩ := x
  obtain ⟨e, f, g, i⟩ := y
  simp only [blC, Array.mk.injEq, List.cons.injEq, Value.int.injEq, true_and, and_true] at h
  obtain ⟨rfl, rfl, rfl, rfl⟩ := h
  rfl
def blD (b : Bl) : DataW Unit := .agg [.lit (.int .i64 b.v), .lit (.int .i64 b.rd), .lit (.int .i64 b.p), .lit (.int .i64 b.pr)]
theorem blD_inj {x y : Bl} (h : blD x = blD y) : x = y := by
  obtain ⟨a, b, c, d⟩ := x
  obtain ⟨e, f, g, i⟩ := y
  simp only [blD, DataW.agg.injEq, List.cons.injEq, DataW.lit.injEq, Lit.int.injEq, true_and, and_true] at h
  obtain ⟨rfl, rfl, rfl, rfl⟩ := h
  rfl
open Classical in
/-- How a block in a map reads. -/
noncomputable def blElem (v : Value) : Option (DataW Unit × List MemPlace) := if h : ∃ b, v = .agg (blC b) then some (blD h.choose, []) else none
theorem blElem_mk (b : Bl) : blElem (.agg (blC b)) = some (blD b, []) := by
  have hex : ∃ c, Value.agg (blC b) = .agg (blC c) := ⟨b, rfl⟩
  unfold blElem
  rw [dif_pos hex]
  have := blC_inj (Value.agg.inj hex.choose_spec)
  rw [← this]
theorem blElem_inv {v : Value} {z : DataW Unit × List MemPlace} (h : blElem v = some z) : ∃ b, v = .agg (blC b) ∧ z = (blD b, []) := by
  unfold blElem at h
  split at h
  · rename_i hex
    exact ⟨_, hex.choose_spec, (Option.some.inj h).symm⟩
  · cases h
theorem bl_is {v : Value} {ps : List MemPlace} {x : DataW Unit} {b : Bl} (hv : blElem v = some (x, ps)) (hat : x = blD b) : v = .agg (blC b) := by
  obtain ⟨q, rfl, hz⟩ := blElem_inv hv
  have h1 : x = blD q := congrArg Prod.fst hz
  rw [hat] at h1
  rw [blD_inj h1]

/-! Numbers as keys -/
theorem inI.lit {n : Int} (h : inI n) : (Lit.int .i64 n).wf = true := WalkArith.wf_i64 h
def keyI (u : Int) : Lit := .int .i64 u
theorem kdI : Keyed Try.prog 3 := int_keyed Try.underlying3
theorem key_at {u : Int} (h : inI u) : keyOf Try.prog 3 (.int .i64 u) = some (keyI u) := keyOf_int_mk Try.underlying3 h.lit
theorem keyI_key {u : Int} (h : inI u) : WideAt.IsKeyLit (keyI u) := kdI.key (key_at h)
theorem keyI_ne {u v : Int} (h : u ≠ v) : keyI u ≠ keyI v := fun e => h (by simpa [keyI] using e)
theorem sameKey_ii (a b : Int) : (keyI a).sameKey (keyI b) = decide (a = b) := by simp [keyI, Lit.sameKey]
theorem wf_inI {n : Int} (h : (Lit.int .i64 n).wf = true) : inI n := by
  unfold Lit.wf at h
  simp only [Bool.and_eq_true, decide_eq_true_eq] at h
  exact h

/-! What a map's datum tells -/
section
variable {β : Type} {dat : β → DataW Unit} {D : DataW Unit} {f : Int → Option β}
def FitsI (dat : β → DataW Unit) (D : DataW Unit) (f : Int → Option β) : Prop :=
  ∀ x, inI x → Maps.has D (keyI x) = (f x).isSome ∧ ∀ y, f x = some y → ∀ z, D.atKey (keyI x) z = dat y
theorem FitsI.nil : FitsI dat (.map []) (fun _ => none) := fun x _ => ⟨rfl, fun y h => by cases h⟩
theorem FitsI.congr {g : Int → Option β} (h : FitsI dat D f) (hg : ∀ x, inI x → f x = g x) : FitsI dat D g := fun x hx => by rw [← hg x hx]; exact h x hx
theorem FitsI.put (h : FitsI dat D f) (hm : IsMap D) {x : Int} (hk : inI x) (y : β) : FitsI dat (D.put (keyI x) (dat y)) (fun z => if z = x then some y else f z) := by
  intro z hz
  dsimp only
  by_cases he : z = x
  · subst he
    rw [has_put_same hm (keyI_key hk), if_pos rfl]
    refine ⟨rfl, fun u hu w => ?_⟩
    injection hu with hu
    rw [atKey_put_same hm (keyI_key hk), hu]
  · rw [has_put_other (keyI_ne he), if_neg he]
    refine ⟨(h z hz).1, fun u hu w => ?_⟩
    rw [atKey_put_other (keyI_ne he)]
    exact (h z hz).2 u hu w
theorem FitsI.look (h : FitsI dat D f) {x : Int} (hx : inI x) (z0 : β) : D.atKey (keyI x) (dat z0) = dat ((f x).getD z0) := by
  obtain ⟨h1, h2⟩ := h x hx
  cases hf : f x with
  | none => rw [hf] at h1; rw [atKey_of_not_has h1]; rfl
  | some y => rw [h2 y hf]; rfl
theorem FitsI.del (h : FitsI dat D f) {x : Int} (hk : inI x) : FitsI dat (D.del (keyI x)) (fun z => if z = x then none else f z) := by
  intro z hz
  dsimp only
  by_cases he : z = x
  · subst he
    rw [has_del_same, if_pos rfl]
    exact ⟨rfl, fun u hu => by cases hu⟩
  · rw [has_del_other (keyI_ne he), if_neg he]
    refine ⟨(h z hz).1, fun u hu w => ?_⟩
    rw [atKey_del_other (keyI_ne he)]
    exact (h z hz).2 u hu w
end
/-- The keys of a map by numbers, each once. -/
theorem keys_of {β : Type} {dat : β → DataW Unit} {w : World} {R : Value → Option (DataW Unit × List MemPlace)} {b n : Nat} {D : DataW Unit} {f : Int → Option β} (hown : w.ownsMap Try.prog 3 R b n D) (hf : FitsI dat D f) :
    (intKeys D).Nodup ∧ (∀ x ∈ intKeys D, inI x) ∧ (intKeys D).length = Maps.size D ∧ ∀ x, inI x → (x ∈ intKeys D ↔ (f x).isSome = true) := by
  obtain ⟨es, rfl, hap, hkeys⟩ := hown.entries kdI
  obtain ⟨es', he, hk⟩ := hown.keysOf
  obtain rfl : es = es' := by injection he
  have hint : ∀ p ∈ es, ∃ x, p.1 = keyI x ∧ inI x := fun p hp => by
    obtain ⟨key, hkey⟩ := hk p hp
    obtain ⟨x, hx, e, hw⟩ := Maps.keyOf_int_inv Try.underlying3 hkey
    exact ⟨x, e, wf_inI hw⟩
  have hnd : (intKeys (.map es)).Nodup := by
    show (es.map _).Nodup
    refine List.pairwise_map.2 (hap.imp_of_mem fun {p q} hp hq hne e => hne ?_)
    obtain ⟨a, ha, _⟩ := hint p hp
    obtain ⟨c, hc, _⟩ := hint q hq
    rw [ha, hc] at e ⊢
    exact congrArg keyI e
  refine ⟨hnd, fun x hx => ?_, by show (es.map _).length = _; rw [List.length_map]; rfl, fun x hx => ?_⟩
  · obtain ⟨p, hp, rfl⟩ := List.mem_map.1 (show x ∈ es.map _ from hx)
    obtain ⟨a, ha, hi⟩ := hint p hp
    rw [ha]; exact hi
  · rw [← (hf x hx).1, has_eq, List.any_eq_true]
    show x ∈ es.map _ ↔ _
    rw [List.mem_map]
    constructor
    · rintro ⟨p, hp, rfl⟩
      obtain ⟨a, ha, _⟩ := hint p hp
      refine ⟨p, hp, ?_⟩
      rw [ha, sameKey_ii]
      exact decide_eq_true rfl
    · rintro ⟨p, hp, hs⟩
      obtain ⟨a, ha, _⟩ := hint p hp
      refine ⟨p, hp, ?_⟩
      rw [ha, sameKey_ii, decide_eq_true_eq] at hs
      rw [ha, hs]; rfl
/-- A map has no more entries than are told. -/
theorem own_tight {w : World} {R : Value → Option (DataW Unit × List MemPlace)} {b n m : Nat} {D : DataW Unit} (h : w.ownsMap Try.prog 3 R b n D) (hm : Maps.size D ≤ m) : w.ownsMap Try.prog 3 R b m D := by
  obtain ⟨es, cl, hb, F, hs, rfl⟩ := h
  refine ⟨es, cl, hb, F, ?_, rfl⟩
  have : es.size = Maps.size (.map ((es.toList.map (WideElems.rg Try.prog 3 R)).foldr DataW.insert [])) := (length_read es).symm
  omega

/-! The two maps of a tree -/
def inF (L : List Ent) (x : Int) : Option Bl := (L.find? fun e => decide (e.n = x) && e.isin).map Ent.b
def outF (L : List Ent) (x : Int) : Option Bl := (L.find? fun e => decide (e.n = x) && !e.isin).map Ent.b
theorem find_one {L : List Ent} (h : (L.map (·.n)).Nodup) {q : Ent → Bool} {e : Ent} (he : e ∈ L) (hq : q e = true) : (L.find? fun f => decide (f.n = e.n) && q f) = some e := by
  cases hf : L.find? fun f => decide (f.n = e.n) && q f with
  | none =>
    have := List.find?_eq_none.1 hf e he
    simp [hq] at this
  | some x =>
    have h1 := List.find?_some hf
    have h2 := List.mem_of_find?_eq_some hf
    simp only [Bool.and_eq_true, decide_eq_true_eq] at h1
    rw [one_eq h h2 he h1.1]
theorem inF_some {L : List Ent} (h : (L.map (·.n)).Nodup) {e : Ent} (he : e ∈ L) (hi : e.isin = true) : inF L e.n = some e.b := by unfold inF; rw [find_one h he hi]; rfl
theorem outF_some {L : List Ent} (h : (L.map (·.n)).Nodup) {e : Ent} (he : e ∈ L) (hi : e.isin = false) : outF L e.n = some e.b := by unfold outF; rw [find_one (q := fun e => !e.isin) h he (by simp [hi])]; rfl
theorem inF_is {L : List Ent} {x : Int} {b : Bl} (h : inF L x = some b) : ∃ e ∈ L, e.n = x ∧ e.isin = true ∧ e.b = b := by
  unfold inF at h
  cases hf : L.find? fun f => decide (f.n = x) && f.isin with
  | none => rw [hf] at h; cases h
  | some e =>
    rw [hf] at h
    have h1 := List.find?_some hf
    simp only [Bool.and_eq_true, decide_eq_true_eq] at h1
    exact ⟨e, List.mem_of_find?_eq_some hf, h1.1, h1.2, Option.some.inj h⟩
theorem outF_is {L : List Ent} {x : Int} {b : Bl} (h : outF L x = some b) : ∃ e ∈ L, e.n = x ∧ e.isin = false ∧ e.b = b := by
  unfold outF at h
  cases hf : L.find? fun f => decide (f.n = x) && !f.isin with
  | none => rw [hf] at h; cases h
  | some e =>
    rw [hf] at h
    have h1 := List.find?_some hf
    simp only [Bool.and_eq_true, decide_eq_true_eq, Bool.not_eq_true'] at h1
    exact ⟨e, List.mem_of_find?_eq_some hf, h1.1, h1.2, Option.some.inj h⟩
theorem inF_iff {L : List Ent} (h : (L.map (·.n)).Nodup) {x : Int} {b : Bl} : inF L x = some b ↔ ∃ e ∈ L, e.n = x ∧ e.isin = true ∧ e.b = b :=
  ⟨inF_is, fun ⟨e, he, h1, h2, h3⟩ => by rw [← h1, ← h3]; exact inF_some h he h2⟩
theorem outF_iff {L : List Ent} (h : (L.map (·.n)).Nodup) {x : Int} {b : Bl} : outF L x = some b ↔ ∃ e ∈ L, e.n = x ∧ e.isin = false ∧ e.b = b :=
  ⟨outF_is, fun ⟨e, he, h1, h2, h3⟩ => by rw [← h1, ← h3]; exact outF_some h he h2⟩
theorem inF_isSome {L : List Ent} (h : (L.map (·.n)).Nodup) {x : Int} : (inF L x).isSome = true ↔ ins L x := by
  rw [Option.isSome_iff_exists]
  exact ⟨fun ⟨b, hb⟩ => by obtain ⟨e, he, h1, h2, _⟩ := inF_is hb; exact ⟨e, he, h1, h2⟩, fun ⟨e, he, h1, h2⟩ => ⟨e.b, (inF_iff h).2 ⟨e, he, h1, h2, rfl⟩⟩⟩
theorem outF_isSome {L : List Ent} (h : (L.map (·.n)).Nodup) {x : Int} : (outF L x).isSome = true ↔ ∃ e ∈ L, e.n = x ∧ e.isin = false := by
  rw [Option.isSome_iff_exists]
  exact ⟨fun ⟨b, hb⟩ => by obtain ⟨e, he, h1, h2, _⟩ := outF_is hb; exact ⟨e, he, h1, h2⟩, fun ⟨e, he, h1, h2⟩ => ⟨e.b, (outF_iff h).2 ⟨e, he, h1, h2, rfl⟩⟩⟩
theorem opt_ext {α : Type} {a b : Option α} (h : ∀ x, a = some x ↔ b = some x) : a = b := by
  cases a with
  | none => cases b with
    | none => rfl
    | some y => exact absurd ((h y).2 rfl) (by simp)
  | some x => exact ((h x).1 rfl).symm
/-- How many stand in a map. -/
theorem map_size {w : World} {b n : Nat} {D : DataW Unit} {f : Int → Option Bl} (hown : w.ownsMap Try.prog 3 blElem b n D) (hf : FitsI blD D f) {ks : List Int} (hn : ks.Nodup) (hi : ∀ x ∈ ks, inI x) (hk : ∀ x, inI x → (x ∈ ks ↔ (f x).isSome = true)) : Maps.size D = ks.length := by
  obtain ⟨h1, h2, h3, h4⟩ := keys_of hown hf
  rw [← h3]
  refine List.Perm.length_eq ((List.perm_ext_iff_of_nodup h1 hn).2 fun x => ?_)
  constructor
  · intro hx; exact (hk x (h2 x hx)).2 ((h4 x (h2 x hx)).1 hx)
  · intro hx; exact (h4 x (hi x hx)).2 ((hk x (hi x hx)).1 hx)
def inN (L : List Ent) : List Int := (L.filter (·.isin)).map (·.n)
def outN (L : List Ent) : List Int := (L.filter (fun e => !e.isin)).map (·.n)
theorem nodup_sub {L : List Ent} (h : (L.map (·.n)).Nodup) (q : Ent → Bool) : ((L.filter q).map (·.n)).Nodup := h.sublist (List.filter_sublist.map _)
theorem inN_mem {L : List Ent} {x : Int} : x ∈ inN L ↔ ins L x := by
  unfold inN ins
  simp only [List.mem_map, List.mem_filter]
  exact ⟨fun ⟨e, ⟨h1, h2⟩, h3⟩ => ⟨e, h1, h3, h2⟩, fun ⟨e, h1, h3, h2⟩ => ⟨e, ⟨h1, h2⟩, h3⟩⟩
theorem outN_mem {L : List Ent} {x : Int} : x ∈ outN L ↔ ∃ e ∈ L, e.n = x ∧ e.isin = false := by
  unfold outN
  simp only [List.mem_map, List.mem_filter, Bool.not_eq_true']
  exact ⟨fun ⟨e, ⟨h1, h2⟩, h3⟩ => ⟨e, h1, h3, h2⟩, fun ⟨e, h1, h3, h2⟩ => ⟨e, ⟨h1, h2⟩, h3⟩⟩
theorem orph_len (L : List Ent) : (outN L).length = orph L := by unfold outN orph; rw [List.length_map]
theorem in_len (L : List Ent) : (inN L).length + orph L = L.length := by
  unfold inN orph
  rw [List.length_map]
  induction L with
  | nil => rfl
  | cons e L ih => cases h : e.isin <;> simp [h] <;> omega

/-- In w the struct in block g is a tree with these blocks in its maps; its own blocks lie in S. -/
def Tm (w : World) (S : Nat → Prop) (g bb bo : Nat) (most root round : Int) (L : List Ent) : Prop :=
  ∃ DB DO, Blk w g 66 #[.int .i64 most, .int .i64 root, .int .i64 round, .map (some bb), .map (some bo)] ∧ w.ownsMap Try.prog 3 blElem bb L.length DB ∧ w.ownsMap Try.prog 3 blElem bo L.length DO ∧
    FitsI blD DB (inF L) ∧ FitsI blD DO (outF L) ∧ S g ∧ S bb ∧ S bo ∧ bb ≠ bo
def Tr (w : World) (S : Nat → Prop) (g : Nat) (s : TS) : Prop := ∃ bb bo, Tm w S g bb bo s.most s.root s.round s.L
section
variable {w w' : World} {S S' T : Nat → Prop} {g bb bo : Nat} {most root round : Int} {L : List Ent} {s : TS}
theorem Tm.lt (h : Tm w S g bb bo most root round L) : g < w.heap.size := by obtain ⟨_, _, hb, _⟩ := h; exact hb.lt
theorem Tm.mem (h : Tm w S g bb bo most root round L) : S g ∧ S bb ∧ S bo := by obtain ⟨_, _, _, _, _, _, _, h1, h2, h3, _⟩ := h; exact ⟨h1, h2, h3⟩
theorem Tm.mono (h : Tm w S g bb bo most root round L) (hs : ∀ k, k < w.heap.size → S k → S' k) : Tm w S' g bb bo most root round L := by
  obtain ⟨DB, DO, hb, h1, h2, h3, h4, h5, h6, h7, h8⟩ := h
  exact ⟨DB, DO, hb, h1, h2, h3, h4, hs _ hb.lt h5, hs _ h1.lt h6, hs _ h2.lt h7, h8⟩
/-- What turns other blocks alone leaves a tree as it is. -/
theorem Tm.kept (h : Tm w S g bb bo most root round L) (ht : Turn T w w') (hd : ∀ k, k < w.heap.size → S k → ¬ T k) : Tm w' S g bb bo most root round L := by
  obtain ⟨DB, DO, hb, h1, h2, h3, h4, h5, h6, h7, h8⟩ := h
  exact ⟨DB, DO, ht.blk hb (hd _ hb.lt h5), ht.map h1 (hd _ h1.lt h6), ht.map h2 (hd _ h2.lt h7), h3, h4, h5, h6, h7, h8⟩
theorem Tm.below (h : Tm w S g bb bo most root round L) (hb : Below w.heap.size w w') : Tm w' S g bb bo most root round L := h.kept (Turn.of_keep (S := fun _ => False) hb) (fun _ _ _ h => h)
theorem Tr.lt (h : Tr w S g s) : g < w.heap.size := by obtain ⟨_, _, h⟩ := h; exact h.lt
theorem Tr.mono (h : Tr w S g s) (hs : ∀ k, k < w.heap.size → S k → S' k) : Tr w S' g s := by obtain ⟨bb, bo, h⟩ := h; exact ⟨bb, bo, h.mono hs⟩
theorem Tr.kept (h : Tr w S g s) (ht : Turn T w w') (hd : ∀ k, k < w.heap.size → S k → ¬ T k) : Tr w' S g s := by obtain ⟨bb, bo, h⟩ := h; exact ⟨bb, bo, h.kept ht hd⟩
theorem Tr.below (h : Tr w S g s) (hb : Below w.heap.size w w') : Tr w' S g s := by obtain ⟨bb, bo, h⟩ := h; exact ⟨bb, bo, h.below hb⟩
theorem Tr.same (h : Tr w S g s) : Tr w (moreB S w w') g s := h.mono fun _ _ => .inl
end

/-! Look-ups -/
section
variable {ops : Array Oper} {rest : List Oper} {o : Oper} {a : Act} {Q : Exit → Act → World → Prop}
/-- 'blocks[n]'. -/
theorem wpList_look_bl (w : World) (hg : o.guard = none) (m x : Operand) (hop : o.op = Op.lookup 64 m x false) (b n : Nat) (D : DataW Unit) (hm : a.eval m = .map (some b)) (hown : w.ownsMap Try.prog 3 blElem b n D)
    (k : Int) (hx : a.eval x = .int .i64 k) (hk : inI k) (y : Bl) (hat : D.atKey (keyI k) (blD zeroBl) = blD y)
    (h : wpList Try.prog ops Q rest (a.put o.dst (.agg (blC y))) w) : wpList Try.prog ops Q (o :: rest) a w := by
  refine wpList_plain hg fun K' hK' => ?_
  obtain ⟨v, ps, hrun, hv⟩ := hown.lookup kdI Try.underlying64 (zeroBlk w) (blElem_mk zeroBl) (key_at hk)
  obtain rfl := bl_is hv hat
  unfold Oper.wp
  simp [execOp, hop, hm, hx, hrun, Result.andThen]
  exact hK' _ _ h
/-- 'b, there := blocks[n]'. -/
theorem wpList_look_bl_ok (w : World) (hg : o.guard = none) (m x : Operand) (hop : o.op = Op.lookup 64 m x true) (b n : Nat) (D : DataW Unit) (hm : a.eval m = .map (some b)) (hown : w.ownsMap Try.prog 3 blElem b n D)
    (k : Int) (hx : a.eval x = .int .i64 k) (hk : inI k) (y : Bl) (r : Bool) (hat : D.atKey (keyI k) (blD zeroBl) = blD y) (hh : Maps.has D (keyI k) = r)
    (h : wpList Try.prog ops Q rest (a.put o.dst (.tuple #[.agg (blC y), .bool r])) w) : wpList Try.prog ops Q (o :: rest) a w :=
  wpList_lookup_own_ok w hg m x 64 hop 3 39 kdI Try.underlying64 blElem (zeroBlk w) (blD zeroBl) [] (blElem_mk zeroBl) b n D hm hown _ (keyI k) hx (key_at hk) (fun v ps hv => by
    obtain rfl := bl_is hv hat
    rw [hh]
    exact h)
end
end Go.Proofs.Ytgclofemhhhepaa
