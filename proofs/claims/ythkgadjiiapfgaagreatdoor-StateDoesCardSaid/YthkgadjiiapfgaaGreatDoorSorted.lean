/-
  Rows of names and of places, sorted by the code's orders.
-/
import Derived.Test.YthkgadjiiapfgaaGreatDoorOrd
import Derived.Sort.OwnSorted
import Derived.Shelf.SlSortCmp.NoneTotal
set_option linter.unusedSimpArgs false
set_option linter.unusedVariables false
set_option maxRecDepth 10000
namespace Go.Proofs.YthkgadjiiapfgaaGreatDoor
open Go.RowKit Go.Maps Go.Lib
open L2 (less nums chk Tab)
open L6 (Turn)

/-- A world that grew and drew on. -/
theorem belD_grow {w w' : World} (h : BelD w w') : ∃ q os, w' = Go.Sort.grow (w.drewN q) os := by
  obtain ⟨hb, hd⟩ := h
  refine ⟨w'.drawn - w.drawn, w'.heap.extract w.heap.size w'.heap.size, ?_⟩
  have hheap : w'.heap = w.heap ++ w'.heap.extract w.heap.size w'.heap.size := by
    apply Array.ext_getElem?
    intro k
    rw [Array.getElem?_append]
    split
    · next hk => exact hb.block k hk
    · next hk =>
      rw [Array.getElem?_extract]
      have e : w.heap.size + (k - w.heap.size) = k := by omega
      rw [e]
      split
      · rfl
      · next hn => rw [Array.getElem?_eq_none (by omega)]
  have h1 := hb.os
  have h2 := hb.tape
  have h3 := hb.output
  cases w' with
  | mk heap tape drawn os output =>
    unfold Go.Sort.grow World.drewN
    simp only at hheap hd h1 h2 h3 ⊢
    rw [← hheap, h1, h2, h3]
    congr 1
    omega
section
variable {γ : Type} [Inhabited γ] {enc : γ → Value} {w : World} {g n : Nat} {os : Array Obj} {cur : Array Value} {e : TypeId} {fr : Nat × Nat} {d : Array γ}
theorem heap_put (hb : w.heap[g]? = some (.cells cur e fr)) : (Go.Sort.grow (Go.Sort.putRow enc (Go.Sort.ahead w n) g 0 d) os).heap[g]? = some (.cells (Go.Sort.putCells enc 0 d cur) e fr) := by
  have hg : g < w.heap.size := (Array.getElem?_eq_some_iff.1 hb).1
  rw [Go.Sort.heap_grow_old _ _ (by simpa using hg)]
  simp [Go.Sort.putRow, Go.Sort.mapBlock, Go.Sort.ahead, Array.getElem?_modify, hb, Go.Sort.onCells]
theorem turn_put : Turn (fun k => k = g) w (Go.Sort.grow (Go.Sort.putRow enc (Go.Sort.ahead w n) g 0 d) os) := by
  refine ⟨rfl, rfl, rfl, by simp, fun k hk hne => ?_⟩
  rw [Go.Sort.heap_grow_old _ _ (by simpa using hk)]
  have : g ≠ k := fun e => hne e.symm
  simp [Go.Sort.putRow, Go.Sort.mapBlock, Go.Sort.ahead, Array.getElem?_modify, this]
theorem take_put (h : d.size ≤ cur.size) : (Go.Sort.putCells enc 0 d cur).toList.take d.size = d.toList.map enc := by
  apply List.ext_getElem?
  intro j
  by_cases hj : j < d.size
  · rw [List.getElem?_take_of_lt hj, Array.getElem?_toList]
    simp [Go.Sort.putCells, hj, show j < cur.size by omega]
  · rw [List.getElem?_take_eq_none (by omega), List.getElem?_eq_none (by simp; omega)]
theorem holds_put (hb : w.heap[g]? = some (.cells cur e (0, 0))) (ht : cur.toList.take d.size = d.toList.map enc) : Go.Sort.Holds enc w g 0 d := by
  intro j hj
  refine ⟨?_, by simp [World.frozen?, hb]⟩
  have h1 : (cur.toList.take d.size)[j]? = (d.toList.map enc)[j]? := by rw [ht]
  rw [List.getElem?_take_of_lt hj] at h1
  simp only [World.cell?, hb, Nat.zero_add]
  simp only [Option.isSome_none, Bool.false_eq_true, if_false]
  rw [← Array.getElem?_toList, h1]
  simp [hj]
end
theorem flat_get {α β : Type} {f : α → List β} {k : Nat} (hk : ∀ x, (f x).length = k) : ∀ {L : List α} {i c : Nat} (hi : i < L.length), c < k → (L.flatMap f)[i * k + c]? = (f L[i])[c]?
  | [], i, c, hi, _ => by simp at hi
  | a :: L, 0, c, _, hc => by
    rw [List.flatMap_cons, Nat.zero_mul, Nat.zero_add, List.getElem?_append_left (by rw [hk]; exact hc)]; rfl
  | a :: L, i + 1, c, hi, hc => by
    have hi' : i < L.length := by simpa using hi
    rw [List.flatMap_cons, List.getElem?_append_right (by rw [hk, Nat.add_mul]; omega), hk]
    have e : (i + 1) * k + c - k = i * k + c := by rw [Nat.add_mul]; omega
    rw [e, flat_get hk hi' hc]; rfl
theorem flat_len {α β : Type} {f : α → List β} {k : Nat} (hk : ∀ x, (f x).length = k) (L : List α) : (L.flatMap f).length = L.length * k := by
  induction L with
  | nil => simp
  | cons a L ih => rw [List.flatMap_cons, List.length_append, hk, ih, List.length_cons, Nat.add_mul]; omega
theorem flatK_list {α : Type} [Inhabited α] (enc : α → List Value) {k : Nat} (hk : ∀ x, (enc x).length = k) (d : Array α) : (Go.Sort.flatK enc k d).toList = d.toList.flatMap enc := by
  apply List.ext_getElem?
  intro t
  by_cases ht : t < d.size * k
  · have k0 : 0 < k := Nat.pos_of_ne_zero (fun h => by subst h; simp at ht)
    have hq : t / k < d.size := Nat.div_lt_of_lt_mul (by rw [Nat.mul_comm]; exact ht)
    have hm := Nat.mod_lt t k0
    have e : t = t / k * k + t % k := by have := Nat.div_add_mod t k; rw [Nat.mul_comm] at this; exact this.symm
    rw [Array.getElem?_toList]
    have h1 : t < (Go.Sort.flatK enc k d).size := by rw [Go.Sort.size_flatK]; exact ht
    rw [Array.getElem?_eq_getElem h1, ← getElem!_pos _ t h1, Go.Sort.get_flatK enc k d t ht]
    have h2 := flat_get (f := enc) hk (L := d.toList) (i := t / k) (c := t % k) (by simpa using hq) hm
    rw [← e] at h2
    rw [h2, getElem!_pos d (t / k) hq]
    have hl : t % k < (enc d[t / k]).length := by rw [hk]; exact hm
    rw [getElem!_pos (enc d[t / k]) (t % k) hl]
    simp [hl]
  · rw [List.getElem?_eq_none (by simp; omega), List.getElem?_eq_none (by rw [flat_len hk]; simpa using ht)]
theorem ins_map {κ α β : Type} (lt : κ → κ → Bool) (f : β → κ) (h : α → β) (x : α) : ∀ L : List α, (ins lt (fun y => f (h y)) x L).map h = ins lt f (h x) (L.map h)
  | [] => rfl
  | y :: L => by
    unfold ins
    rw [List.map_cons]
    dsimp only
    split
    · rfl
    · rw [List.map_cons, ins_map lt f h x L]
theorem isort_map {κ α β : Type} (lt : κ → κ → Bool) (f : β → κ) (h : α → β) (L : List α) : (isort lt (fun y => f (h y)) L).map h = isort lt f (L.map h) := by
  induction L with
  | nil => rfl
  | cons y L ih =>
    show (ins lt (fun y => f (h y)) y (isort lt (fun y => f (h y)) L)).map h = ins lt f (h y) (isort lt f (L.map h))
    rw [ins_map, ih]

/-! Names -/
abbrev Nm := { l : List UInt8 // chk l = true }
instance : Inhabited Nm := ⟨⟨[97], by kernel_rfl⟩⟩
def encN (x : Nm) : Value := .string (str x.1)
theorem order_enters : ∀ args w, (callFunc 37 args).run Tryz.prog w = .ok (.enter 37 args) w := enters_of Tryz.func37 (by kernel_rfl) rfl
theorem cmp_names {w0 w : World} (hb0 : Below w0.heap.size w0 w) (hT : Tab w0) {g : Nat} (hg : w0.heap.size ≤ g) (size : Nat) :
    Go.Proofs.CmpLays1 Tryz.prog 37 #[] encN (fun x y : Nm => cfO less x.1 y.1) g 0 size w := by
  intro m os dk _ x y
  have hb : Below w0.heap.size w0 (Go.Proofs.sortWorld encN w g 0 m dk os) := L6.nxtT hb0 (turn_put (enc := encN) (w := w) (g := g) (n := m) (os := os) (d := dk)) (fun k (hk : k = g) => by omega)
  have hx := name_size x.2
  have hy := name_size y.2
  refine (order_d (str x.1) (str y.1) _ (by rw [str_size]; omega) (by rw [str_size]; omega) (hT.kept hb) (chk_low x.2) (chk_low y.2)).mono ?_
  rintro e w' ⟨rfl, hd⟩
  exact ⟨rfl, belD_grow hd⟩
theorem attach_val {α : Type} {p : α → Prop} {L : List α} (h : ∀ x ∈ L, p x) : (L.attachWith p h).map Subtype.val = L := by simp
theorem sort_names {w0 w : World} (hb0 : Below w0.heap.size w0 w) (hT : Tab w0) {v : Value} {ss : List (List UInt8)} (hr : w.ownsRow w0.heap.size 9 1 v ss.length (ss.map encStr)) (hok : ∀ x ∈ ss, chk x = true) (hn : ss.Nodup) (hsz : ss.length < 4611686018427387904) :
    Calls Tryz.prog 56 #[v, .func (.func 37) #[] #[]] w fun e w' =>
      e = .returned (.tuple #[]) ∧ w'.ownsRow w0.heap.size 9 1 v ss.length ((isort less id ss).map encStr) ∧ Below w0.heap.size w0 w' := by
  have hr' := hr
  rcases hr.2 with ⟨rfl, h0⟩ | ⟨g, cap, cur, rfl, hg, hh, h1, h2, h3, h4⟩
  · have : ss = [] := List.eq_nil_of_length_eq_zero h0
    subst this
    have hc := Go.Proofs.AnyF.slices_SortFunc_none { Tryz.sortA with } none 0 (.func (.func 37) #[] #[]) w
    change Calls Tryz.prog 56 _ _ _ at hc
    refine hc.mono ?_
    rintro e w' ⟨rfl, rfl⟩
    exact ⟨rfl, hr', hb0⟩
  · obtain ⟨L, hL⟩ : ∃ L : List Nm, L.map Subtype.val = ss := ⟨ss.attachWith _ hok, attach_val hok⟩
    have hlen : ss.length = L.length := by rw [← hL]; simp
    have hmap : ss.map encStr = L.map encN := by rw [← hL, List.map_map]; rfl
    have hap : Apart (Subtype.val (p := fun l => chk l = true)) L.toArray.toList := by
      rw [← hL] at hn
      exact List.pairwise_map.1 hn
    have hH : Go.Sort.Holds encN w g 0 L.toArray := holds_put hh (by rw [hmap, hlen, Nat.mul_one] at h4; simpa using h4)
    have hc := Go.Proofs.Any.slices_SortFunc Tryz.sortA encN (fun x => rfl) (fun x y : Nm => cfO less x.1 y.1) (swoO lessOrd Subtype.val) 37 #[] g 0 cap L.toArray w order_enters (cmp_names hb0 hT hg _) hH (Array.getElem?_eq_some_iff.1 hh).1 (by simp; omega)
    change Calls Tryz.prog 56 _ _ _ at hc
    rw [show L.toArray.size = ss.length by simp [hlen]] at hc
    refine hc.mono ?_
    rintro e w' ⟨rfl, d', k, os, hp, hs, rfl⟩
    rw [show ss.length = L.toArray.size by simp [hlen]] at hp hs
    have hd : d'.toList = isort less Subtype.val L := sorted_isort lessOrd Subtype.val hap hp hs
    have hds : d'.size = ss.length := by rw [hp.1]; simp [hlen]
    have hm : (isort less id ss).map encStr = d'.toList.map encN := by
      rw [hd, ← hL, ← isort_map less id (fun x : Nm => x.1) L, List.map_map]; rfl
    refine ⟨rfl, ⟨?_, .inr ⟨g, cap, _, rfl, hg, heap_put hh, h1, h2, ?_, ?_⟩⟩, L6.nxtT hb0 turn_put (fun k (hk : k = g) => by omega)⟩
    · rw [hm]; simp [hds]
    · simp [Go.Sort.putCells, h3]
    · rw [hm, Nat.mul_one, ← hds]
      exact take_put (by rw [hds, h3]; omega)

/-! Places -/
abbrev Pl := { p : Plc // chk p.1 = true ∧ chk p.2 = true }
instance : Inhabited Pl := ⟨⟨([97], [97]), by kernel_rfl, by kernel_rfl⟩⟩
def encP (x : Pl) : List Value := plcL x.1
theorem encP_len (x : Pl) : (encP x).length = 2 := rfl
theorem orderP_enters : ∀ args w, (callFunc 42 args).run Tryz.prog w = .ok (.enter 42 args) w := enters_of Tryz.func42 (by kernel_rfl) rfl
theorem cmp_places {w0 w : World} (hb0 : Below w0.heap.size w0 w) (hT : Tab w0) {g : Nat} (hg : w0.heap.size ≤ g) (size : Nat) :
    Go.Proofs.CmpLays Tryz.prog 42 #[] encP 2 (fun x y : Pl => cfO (lt2 less) x.1 y.1) g 0 size w := by
  intro m os dk _ x y
  have hb : Below w0.heap.size w0 (Go.Proofs.sortWorldK encP 2 w g 0 m dk os) := L6.nxtT hb0 (turn_put (enc := id) (w := w) (g := g) (n := m) (os := os) (d := Go.Sort.flatK encP 2 dk)) (fun k (hk : k = g) => by omega)
  have hx1 := name_size x.2.1
  have hx2 := name_size x.2.2
  have hy1 := name_size y.2.1
  have hy2 := name_size y.2.2
  refine (orderP_d x.1 y.1 _ (by omega) (by omega) (by omega) (by omega) (hT.kept hb) (chk_low x.2.1) (chk_low x.2.2) (chk_low y.2.1) (chk_low y.2.2)).mono ?_
  rintro e w' ⟨rfl, hd⟩
  exact ⟨rfl, belD_grow hd⟩
theorem agg_place (w : World) : (isAgg 68).run Tryz.prog w = .ok true w := by kernel_rfl
theorem size_place (w : World) : (Go.sizeOf 68).run Tryz.prog w = .ok 2 w := by kernel_rfl
theorem sort_places {w0 w : World} (hb0 : Below w0.heap.size w0 w) (hT : Tab w0) {v : Value} {ss : List Plc} (hr : w.ownsRow w0.heap.size 68 2 v ss.length (ss.flatMap plcL)) (hok : ∀ x ∈ ss, chk x.1 = true ∧ chk x.2 = true) (hn : ss.Nodup) (hsz : ss.length < 4611686018427387904) :
    Calls Tryz.prog 62 #[v, .func (.func 42) #[] #[]] w fun e w' =>
      e = .returned (.tuple #[]) ∧ w'.ownsRow w0.heap.size 68 2 v ss.length ((isort (lt2 less) id ss).flatMap plcL) ∧ Below w0.heap.size w0 w' := by
  have hr' := hr
  rcases hr.2 with ⟨rfl, h0⟩ | ⟨g, cap, cur, rfl, hg, hh, h1, h2, h3, h4⟩
  · have : ss = [] := List.eq_nil_of_length_eq_zero h0
    subst this
    have hc := Go.Proofs.AnyF.slices_SortFunc_none Tryz.sortB none 0 (.func (.func 42) #[] #[]) w
    change Calls Tryz.prog 62 _ _ _ at hc
    refine hc.mono ?_
    rintro e w' ⟨rfl, rfl⟩
    exact ⟨rfl, hr', hb0⟩
  · obtain ⟨L, hL⟩ : ∃ L : List Pl, L.map Subtype.val = ss := ⟨ss.attachWith _ hok, attach_val hok⟩
    have hlen : ss.length = L.length := by rw [← hL]; simp
    have hmap : ss.flatMap plcL = L.flatMap encP := by rw [← hL, List.flatMap_map]; rfl
    have hap : Apart (Subtype.val (p := fun p : Plc => chk p.1 = true ∧ chk p.2 = true)) L.toArray.toList := by
      rw [← hL] at hn
      exact List.pairwise_map.1 hn
    have hfl : (Go.Sort.flatK encP 2 L.toArray).toList = L.flatMap encP := flatK_list encP encP_len L.toArray
    have hfs : (Go.Sort.flatK encP 2 L.toArray).size = ss.length * 2 := by rw [Go.Sort.size_flatK]; simp [hlen]
    have hH : Go.Sort.HoldsK encP 2 w g 0 L.toArray := holds_put (enc := id) hh (by rw [hfs, h4, hmap, hfl]; simp)
    have hc := Go.Proofs.AnyQ.slices_SortFunc Tryz.sortB 2 agg_place size_place encP encP_len (fun x v hv => by simp [encP, plcL] at hv; rcases hv with rfl | rfl <;> rfl) (fun x y : Pl => cfO (lt2 less) x.1 y.1) (swoO (ordered2 lessOrd) Subtype.val) 42 #[] g 0 cap L.toArray w orderP_enters (cmp_places hb0 hT hg _) hH (Array.getElem?_eq_some_iff.1 hh).1 (by simp; omega)
    change Calls Tryz.prog 62 _ _ _ at hc
    rw [show L.toArray.size = ss.length by simp [hlen]] at hc
    refine hc.mono ?_
    rintro e w' ⟨rfl, d', k, os, hp, hs, rfl⟩
    rw [show ss.length = L.toArray.size by simp [hlen]] at hp hs
    have hd : d'.toList = isort (lt2 less) Subtype.val L := sorted_isort (ordered2 lessOrd) Subtype.val hap hp hs
    have hds : d'.size = ss.length := by rw [hp.1]; simp [hlen]
    have hm : (isort (lt2 less) id ss).flatMap plcL = d'.toList.flatMap encP := by
      rw [hd, ← hL, ← isort_map (lt2 less) id (fun x : Pl => x.1) L, List.flatMap_map]; rfl
    have hf2 : (Go.Sort.flatK encP 2 d').toList = d'.toList.flatMap encP := flatK_list encP encP_len d'
    have hfs2 : (Go.Sort.flatK encP 2 d').size = ss.length * 2 := by rw [Go.Sort.size_flatK, hds]
    refine ⟨rfl, ⟨?_, .inr ⟨g, cap, _, rfl, hg, heap_put (enc := id) hh, h1, h2, ?_, ?_⟩⟩, L6.nxtT hb0 (turn_put (enc := id)) (fun k (hk : k = g) => by omega)⟩
    · rw [hm, flat_len encP_len]; simp [hds]
    · simp [Go.Sort.putCells, h3]
    · rw [hm, ← hf2, ← hfs2, take_put (enc := id) (by rw [hfs2, h3]; omega)]
      simp
end Go.Proofs.YthkgadjiiapfgaaGreatDoor
