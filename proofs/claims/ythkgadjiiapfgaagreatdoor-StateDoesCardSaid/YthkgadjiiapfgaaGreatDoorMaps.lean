/-
  Accounts and values as they stand in maps: their elements, their keys, and what a map's datum tells of them.
-/
import Derived.Test.YthkgadjiiapfgaaGreatDoorCheckT
import Derived.Test.YthkgadjiiapfgaaGreatDoorNew
import Derived.Sort.KeysCollected
import Derived.Lib.SlMapFilter
set_option linter.unusedSimpArgs false
set_option linter.unusedVariables false
set_option maxRecDepth 10000
namespace Go.Proofs.YthkgadjiiapfgaaGreatDoor
open Go.RowKit Go.Maps Go.Lib

/-! Elements -/
def accV (p : Int × Int) : Value := .agg #[.int .i64 p.1, .int .i64 p.2]
def entV (l : List UInt8) : Value := .agg #[.string (str l)]
def accD (p : Int × Int) : DataW Unit := .agg [.lit (.int .i64 p.1), .lit (.int .i64 p.2)]
def entD (l : List UInt8) : DataW Unit := .agg [.lit (.string l)]
/-- How an account reads. -/
def accElem (v : Value) : Option (DataW Unit × List MemPlace) :=
  match v with
  | .agg xs => (match xs.toList with | [.int .i64 a, .int .i64 b] => some (accD (a, b), []) | _ => none)
  | _ => none
/-- How a key's value reads. -/
def entElem (v : Value) : Option (DataW Unit × List MemPlace) :=
  match v with
  | .agg xs => (match xs.toList with | [.string s] => some (entD s.data.toList, []) | _ => none)
  | _ => none
theorem accElem_mk (p : Int × Int) : accElem (accV p) = some (accD p, []) := rfl
theorem entElem_mk (l : List UInt8) : entElem (entV l) = some (entD l, []) := rfl
theorem accElem_inv {v : Value} {z : DataW Unit × List MemPlace} (h : accElem v = some z) : ∃ p, v = accV p ∧ z = (accD p, []) := by
  cases v with
  | agg xs =>
    obtain ⟨l⟩ := xs
    match l, h with
    | [.int .i64 a, .int .i64 b], h => exact ⟨(a, b), rfl, (Option.some.inj h).symm⟩
  | _ => simp [accElem] at h
theorem entElem_inv {v : Value} {z : DataW Unit × List MemPlace} (h : entElem v = some z) : ∃ l, v = entV l ∧ z = (entD l, []) := by
  cases v with
  | agg xs =>
    obtain ⟨l⟩ := xs
    match l, h with
    | [.string s], h => exact ⟨s.data.toList, by unfold entV; rw [str_of], (Option.some.inj h).symm⟩
  | _ => simp [entElem] at h
theorem accD_inj {p q : Int × Int} (h : accD p = accD q) : p = q := by
  unfold accD at h
  simp only [DataW.agg.injEq, List.cons.injEq, DataW.lit.injEq, Lit.int.injEq, true_and, and_true] at h
  exact Prod.ext h.1 h.2
theorem entD_inj {p q : List UInt8} (h : entD p = entD q) : p = q := by
  unfold entD at h
  simpa only [DataW.agg.injEq, List.cons.injEq, DataW.lit.injEq, Lit.string.injEq, and_true] using h

/-! Keys -/
theorem kdN : Keyed Tryz.prog 9 := string_keyed Tryz.underlying9
theorem keyN {l : List UInt8} (h : l.length ≤ maxLen) : keyOf Tryz.prog 9 (.string (str l)) = some (.string l) := by
  simp only [keyOf, mapKey, Tryz.underlying9]
  rw [if_pos (by rw [str_size]; exact h), str_list]
theorem keyN_inv {key : Value} {kl : Lit} (h : keyOf Tryz.prog 9 key = some kl) : ∃ l : List UInt8, l.length ≤ maxLen ∧ key = .string (str l) ∧ kl = .string l := by
  obtain ⟨x, h1, h2, h3⟩ := Maps.keyOf_str Tryz.underlying9 h
  exact ⟨x, h3, h1, h2⟩
/-- Somebody's key. -/
abbrev Plc := List UInt8 × List UInt8
def plcC (p : Plc) : Array Value := #[.string (str p.1), .string (str p.2)]
def plcL (p : Plc) : List Value := [.string (str p.1), .string (str p.2)]
def okP (p : Plc) : Prop := p.1.length ≤ maxLen ∧ p.2.length ≤ maxLen
def okN (l : List UInt8) : Prop := l.length ≤ maxLen
def kbP (p : Plc) : List UInt8 := keyBytes [.string p.1, .string p.2]
theorem kdP : Keyed Tryz.prog 68 := Keyed.of_law (deep_law_laid laidOut (m := 3) (by omega) (of_decide_eq_true (by kernel_rfl)) (by kernel_rfl) (by kernel_rfl))
theorem cP : Tryz.prog.cellsOf 68 = 2 := by kernel_rfl
theorem kl_place (d : Nat) (p : Plc) (h : okP p) : Tryz.prog.keyLits (d + 2) 68 (plcL p) = some [.string p.1, .string p.2] := by
  unfold Program.keyLits
  simp only [Tryz.underlying68]
  rw [if_pos ⟨cP.symm ▸ rfl, by kernel_rfl⟩]
  simp only [cS, plcL, List.mapM_cons, List.mapM_nil, List.drop_zero, List.drop_succ_cons, List.take_succ_cons, List.take_zero, kl_str d h.1, kl_str d h.2]
  rfl
theorem keyP {p : Plc} (h : okP p) : keyOf Tryz.prog 68 (.agg (plcC p)) = some (.string (kbP p)) := by
  have hkt : Tryz.prog.keyType 68 = true := by kernel_rfl
  have hf : (Value.agg (plcC p)).formed Tryz.prog 68 = true := by kernel_rfl
  have hsz : 1 ≤ Tryz.prog.types.size := of_decide_eq_true (by kernel_rfl)
  have hl := kl_place (Tryz.prog.types.size - 1) p h
  rw [show Tryz.prog.types.size - 1 + 2 = Tryz.prog.types.size + 1 by omega] at hl
  unfold keyOf
  simp only [Tryz.underlying68, hkt, hf, Bool.and_self, if_true, Value.cells, show (plcC p).toList = plcL p from rfl, hl, Option.map_some]
  rfl
theorem kl_str_inv {d : Nat} {v : List Value} {l : List Lit} (h : Tryz.prog.keyLits d 9 v = some l) : ∃ x : List UInt8, x.length ≤ maxLen ∧ v = [.string (str x)] := by
  cases d with
  | zero => simp [Program.keyLits] at h
  | succ d =>
    unfold Program.keyLits at h
    simp only [Tryz.underlying9] at h
    match v, h with
    | [.string s], h =>
      simp only at h
      split at h
      · rename_i hs
        exact ⟨s.data.toList, by rw [← Lib.size_eq]; exact hs, by rw [str_of]⟩
      · cases h
theorem keyP_inv {key : Value} {kl : Lit} (h : keyOf Tryz.prog 68 key = some kl) : ∃ p : Plc, okP p ∧ key = .agg (plcC p) ∧ kl = .string (kbP p) := by
  have h0 := h
  unfold keyOf at h
  simp only [Tryz.underlying68] at h
  split at h
  · rename_i hc
    rw [Bool.and_eq_true] at hc
    have hf := hc.2
    cases key with
    | agg cs =>
      obtain ⟨l⟩ := cs
      have hl : l.length = 2 := by
        simp only [Value.formed, Tryz.underlying68, cP] at hf
        simpa using hf
      match l, hl with
      | [a, b], _ =>
        cases hk : Tryz.prog.keyLits (Tryz.prog.types.size + 1) 68 (Value.agg #[a, b]).cells.toList with
        | none => rw [hk] at h; cases h
        | some ls =>
          unfold Program.keyLits at hk
          simp only [Tryz.underlying68] at hk
          split at hk
          · simp only [cS, Value.cells, List.mapM_cons, List.mapM_nil, List.drop_zero, List.drop_succ_cons, List.take_succ_cons, List.take_zero] at hk
            cases h1 : Tryz.prog.keyLits Tryz.prog.types.size 9 [a] with
            | none => rw [h1] at hk; simp at hk
            | some l1 =>
              cases h2 : Tryz.prog.keyLits Tryz.prog.types.size 9 [b] with
              | none => rw [h1, h2] at hk; simp at hk
              | some l2 =>
                obtain ⟨x, hx, ex⟩ := kl_str_inv h1
                obtain ⟨y, hy, ey⟩ := kl_str_inv h2
                obtain rfl : a = .string (str x) := by injection ex
                obtain rfl : b = .string (str y) := by injection ey
                have := keyP (p := (x, y)) ⟨hx, hy⟩
                refine ⟨(x, y), ⟨hx, hy⟩, rfl, ?_⟩
                have e := h0.symm.trans this
                exact Option.some.inj e
          · cases hk
    | _ => simp [Value.formed, Tryz.underlying68] at hf
  · cases h
theorem plcC_inj {p q : Plc} (h : plcC p = plcC q) : p = q := by
  unfold plcC at h
  simp only [Array.mk.injEq, List.cons.injEq, Value.string.injEq, and_true] at h
  exact Prod.ext (str_inj h.1) (str_inj h.2)
theorem kbP_inj {p q : Plc} (hp : okP p) (hq : okP q) (h : kbP p = kbP q) : p = q := by
  have h1 := keyP hp
  rw [h] at h1
  exact plcC_inj (Value.agg.inj (kdP.inj h1 (keyP hq)))

/-! What a datum tells -/
section
variable {α β : Type} {ok : α → Prop} {kb : α → List UInt8} {dat : β → DataW Unit} {D : DataW Unit} {f : α → Option β}
/-- It tells f. -/
def Fits (ok : α → Prop) (kb : α → List UInt8) (dat : β → DataW Unit) (D : DataW Unit) (f : α → Option β) : Prop :=
  ∀ x, ok x → Maps.has D (.string (kb x)) = (f x).isSome ∧ ∀ y, f x = some y → ∀ z, D.atKey (.string (kb x)) z = dat y
theorem Fits.nil : Fits ok kb dat (.map []) (fun _ => none) := fun x _ => ⟨rfl, fun y h => by cases h⟩
theorem Fits.congr {g : α → Option β} (h : Fits ok kb dat D f) (hg : ∀ x, ok x → f x = g x) : Fits ok kb dat D g := fun x hx => by rw [← hg x hx]; exact h x hx
theorem key_str (b : List UInt8) : WideAt.IsKeyLit (.string b) := by simp [WideAt.IsKeyLit]
theorem Fits.put [DecidableEq α] (h : Fits ok kb dat D f) (hm : IsMap D) (inj : ∀ x y, ok x → ok y → kb x = kb y → x = y) {x : α} (hk : ok x) (y : β) :
    Fits ok kb dat (D.put (.string (kb x)) (dat y)) (fun z => if z = x then some y else f z) := by
  intro z hz
  dsimp only
  by_cases he : z = x
  · subst he
    rw [has_put_same hm (key_str _), if_pos rfl]
    refine ⟨rfl, fun u hu w => ?_⟩
    injection hu with hu
    rw [atKey_put_same hm (key_str _), hu]
  · have hne : (Lit.string (kb z)) ≠ .string (kb x) := fun e => he (inj z x hz hk (by injection e))
    rw [has_put_other hne, if_neg he]
    refine ⟨(h z hz).1, fun u hu w => ?_⟩
    rw [atKey_put_other hne]
    exact (h z hz).2 u hu w
theorem Fits.look (h : Fits ok kb dat D f) {x : α} (hx : ok x) (z0 : β) : D.atKey (.string (kb x)) (dat z0) = dat ((f x).getD z0) := by
  obtain ⟨h1, h2⟩ := h x hx
  cases hf : f x with
  | none => rw [hf] at h1; rw [atKey_of_not_has h1]; rfl
  | some y => rw [h2 y hf]; rfl
theorem Fits.del (h : Fits ok kb dat D f) [DecidableEq α] (inj : ∀ x y, ok x → ok y → kb x = kb y → x = y) {x : α} (hk : ok x) :
    Fits ok kb dat (D.del (.string (kb x))) (fun z => if z = x then none else f z) := by
  intro z hz
  dsimp only
  by_cases he : z = x
  · subst he
    rw [has_del_same, if_pos rfl]
    exact ⟨rfl, fun u hu => by cases hu⟩
  · have hne : (Lit.string (kb z)) ≠ .string (kb x) := fun e => he (inj z x hz hk (by injection e))
    rw [has_del_other hne, if_neg he]
    refine ⟨(h z hz).1, fun u hu w => ?_⟩
    rw [atKey_del_other hne]
    exact (h z hz).2 u hu w
theorem same_str (a b : List UInt8) : (Lit.string a).sameKey (.string b) = decide (a = b) := by
  rw [Bool.eq_iff_iff, decide_eq_true_eq]
  exact ⟨fun h => by have := WideAt.sameKey_eq h; injection this, fun h => by subst h; simp [Lit.sameKey]⟩
theorem find_filter : ∀ {es : List (Lit × DataW Unit)} {p : Lit × DataW Unit → Bool} {b : List UInt8} {q : Lit × DataW Unit}, es.Pairwise (fun p q => p.1 ≠ q.1) → es.find? (fun r => r.1.sameKey (.string b)) = some q →
    (es.filter p).find? (fun r => r.1.sameKey (.string b)) = if p q = true then some q else none
  | [], _, _, _, _, h => by cases h
  | e :: es, p, b, q, hp, h => by
    have hc := List.pairwise_cons.1 hp
    rw [List.find?_cons] at h
    cases hs : e.1.sameKey (.string b) with
    | true =>
      rw [hs] at h
      injection h with h
      subst h
      by_cases hpe : p e = true
      · rw [List.filter_cons_of_pos hpe, List.find?_cons, hs, if_pos hpe]
      · rw [List.filter_cons_of_neg hpe, if_neg hpe, List.find?_eq_none]
        intro r hr hrs
        have e1 := WideAt.sameKey_eq hs
        have e2 := WideAt.sameKey_eq hrs
        exact hc.1 r (List.mem_filter.1 hr).1 (e1.trans e2.symm)
    | false =>
      rw [hs] at h
      have ih := find_filter (p := p) hc.2 h
      by_cases hpe : p e = true
      · rw [List.filter_cons_of_pos hpe, List.find?_cons, hs]; exact ih
      · rw [List.filter_cons_of_neg hpe]; exact ih
theorem find_none_filter {es : List (Lit × DataW Unit)} {p : Lit × DataW Unit → Bool} {b : List UInt8} (h : es.find? (fun r => r.1.sameKey (.string b)) = none) : (es.filter p).find? (fun r => r.1.sameKey (.string b)) = none := by
  rw [List.find?_eq_none] at h ⊢
  exact fun r hr => h r (List.mem_filter.1 hr).1
theorem has_find (es : List (Lit × DataW Unit)) (kl : Lit) : Maps.has (.map es) kl = (es.find? (fun r => r.1.sameKey kl)).isSome := by rw [has_eq, List.isSome_find?]
/-- What is left, where some are struck. -/
theorem Fits.strike {es : List (Lit × DataW Unit)} (h : Fits ok kb dat (.map es) f) (hp : es.Pairwise (fun p q => p.1 ≠ q.1)) (pd : Lit → DataW Unit → Bool) (g : β → Bool) (hg : ∀ x y, ok x → pd (.string (kb x)) (dat y) = g y) :
    Fits ok kb dat (deleteFuncD pd (.map es)) (fun z => (f z).filter (fun y => !g y)) := by
  intro x hx
  obtain ⟨h1, h2⟩ := h x hx
  unfold deleteFuncD
  dsimp only
  rw [has_find] at h1 ⊢
  cases hf : es.find? (fun r => r.1.sameKey (.string (kb x))) with
  | none =>
    rw [hf] at h1
    have : f x = none := by cases hfx : f x with
      | none => rfl
      | some y => rw [hfx] at h1; cases h1
    rw [find_none_filter hf, this]
    exact ⟨rfl, fun y hy => by cases hy⟩
  | some q =>
    rw [hf] at h1
    cases hfx : f x with
    | none => rw [hfx] at h1; cases h1
    | some y =>
      have hq := h2 y hfx (.map [])
      unfold DataW.atKey at hq
      simp only [hf] at hq
      have hk : q.1 = .string (kb x) := WideAt.sameKey_eq (by have := List.find?_some hf; simpa using this)
      have hpq : pd q.1 q.2 = g y := by rw [hk, hq]; exact hg x y hx
      rw [find_filter hp hf, hpq]
      cases hgy : g y with
      | true => simp [Option.filter, hgy]
      | false =>
        refine ⟨by simp [Option.filter, hgy], fun u hu z => ?_⟩
        simp [Option.filter, hgy] at hu
        subst hu
        unfold DataW.atKey
        simp only [find_filter hp hf, hpq, hgy, Bool.not_false, if_true]
        exact hq

/-! Keys that a range gave -/
/-- These are f's, each once. -/
def Listed (ok : α → Prop) (f : α → Option β) (ss : List α) : Prop := ss.Nodup ∧ (∀ x ∈ ss, ok x) ∧ ∀ x, ok x → (x ∈ ss ↔ (f x).isSome = true)
theorem listed_of (h : Fits ok kb dat D f) (inj : ∀ x y, ok x → ok y → kb x = kb y → x = y) {left : Lit → Bool} {ss : List α} (hc : Collected D left (ss.map kb)) (ho : ∀ x ∈ ss, ok x) (hl : ∀ kl, left kl = false) : Listed ok f ss := by
  refine ⟨List.Pairwise.of_map kb (fun a b hn e => hn (by rw [e])) hc.1, ho, fun x hx => ?_⟩
  rw [← (h x hx).1]
  constructor
  · intro hm; exact ((hc.2 (kb x)).1 (List.mem_map_of_mem hm)).1
  · intro hh
    obtain ⟨y, hy, e⟩ := List.mem_map.1 ((hc.2 (kb x)).2 ⟨hh, hl _⟩)
    rw [← inj y x (ho y hy) hx e]; exact hy
theorem Listed.perm {ss zs : List α} (h : Listed ok f ss) (hp : zs.Perm ss) : Listed ok f zs :=
  ⟨hp.nodup_iff.2 h.1, fun x hx => h.2.1 x (hp.mem_iff.1 hx), fun x hx => (hp.mem_iff).trans (h.2.2 x hx)⟩
end
end Go.Proofs.YthkgadjiiapfgaaGreatDoor
