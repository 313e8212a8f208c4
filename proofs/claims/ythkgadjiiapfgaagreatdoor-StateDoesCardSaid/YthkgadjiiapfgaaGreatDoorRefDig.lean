/-
  The document's: the text of all.
-/
import Derived.Test.YthkgadjiiapfgaaGreatDoorRefDo
import Derived.Test.YthkgadjiiapfgaaGreatDoorDig
set_option linter.unusedSimpArgs false
set_option linter.unusedVariables false
set_option maxRecDepth 10000
namespace Go.Proofs.YthkgadjiiapfgaaGreatDoor
open Go.RowKit Go.Maps Go.Lib
open L2 (less)
open L3 (Blk Reads block_of_add add_of_add)
open L6 (Turn moreB fresh From In)

theorem sel_step {κ α : Type} [Inhabited α] (lt : κ → κ → Bool) (f : α → κ) {L : List α} (h : L.length ≠ 0) :
    sel lt f L.length L = L.getD (leastTo lt f L (L.length - 1)) default :: sel lt f (L.eraseIdx (leastTo lt f L (L.length - 1))).length (L.eraseIdx (leastTo lt f L (L.length - 1))) := by
  have hle := leastTo_le (lt := lt) (f := f) L (L.length - 1)
  have e : (L.eraseIdx (leastTo lt f L (L.length - 1))).length = L.length - 1 := by rw [List.length_eraseIdx, if_pos (by omega)]
  rw [e]
  obtain ⟨n, hn⟩ : ∃ n, L.length = n + 1 := ⟨L.length - 1, by omega⟩
  have e2 : L.length - 1 = n := by omega
  rw [e2]
  conv => lhs; rw [hn]
  unfold sel
  rw [if_neg h, e2]
  cases n <;> rfl
theorem getD_at {α : Type} [Inhabited α] {L : List α} {i : Nat} (h : i < L.length) : L.getD i default = L[i] := by rw [List.getD_eq_getElem?_getD, List.getElem?_eq_getElem h]; rfl
/-- A row without cells. -/
theorem row_empty (w : World) (e : TypeId) (size : Nat) {base : Nat} (hb : base ≤ w.heap.size) : (w.alloc (.cells #[] e)).ownsRow base e size (.slice (some ⟨w.heap.size, 0, none⟩) 0 0) 0 [] :=
  ⟨by simp, .inr ⟨w.heap.size, 0, #[], rfl, hb, Blk.new w e #[], Nat.le_refl _, Nat.zero_le _, by simp, by simp⟩⟩
theorem Rd.of_row2 {α : Type} {f : α → List Value} {k : Nat} {w : World} {L : List α} (hf : ∀ x, (f x).length = k) {base : Nat} {e : TypeId} {v : Value} (hr : w.ownsRow base e k v L.length (L.flatMap f)) :
    ∃ A c, v = .slice A L.length c ∧ L.length ≤ c ∧ Rd f k w A L ∧ ∀ ad, A = some ad → base ≤ ad.block ∧ ad.block < w.heap.size := by
  obtain ⟨A, c, rfl, hc, hrd⟩ := L6.row_reads hr
  refine ⟨A, c, rfl, hc, Rd.of_reads hf hrd (Nat.le_refl _), fun ad hA => ?_⟩
  subst hA
  exact hr.lt ad.block rfl
theorem none_acc (w : World) : (Instr.buildSlice 31 0 #[]).run Tryz.prog w = .ok (.slice (some ⟨w.heap.size, 0, none⟩) 0 0) (w.alloc (.cells #[] 64)) := by kernel_rfl
theorem none_vl (w : World) : (Instr.buildSlice 32 0 #[]).run Tryz.prog w = .ok (.slice (some ⟨w.heap.size, 0, none⟩) 0 0) (w.alloc (.cells #[] 73)) := by kernel_rfl
/-- Two texts at two places, and what stands below. -/
def hold2 (w : World) (p q : Addr) (x y : List UInt8) (W : World) : Prop := W.cell? p = some (.string (str x)) ∧ W.cell? q = some (.string (str y)) ∧ Below w.heap.size w W
theorem hold2.below {w : World} {p q : Addr} {x y : List UInt8} {W W' : World} (h : hold2 w p q x y W) (hb : Below W.heap.size W W') : hold2 w p q x y W' :=
  ⟨(hb.cell (p := p) (L2.cell_in h.1)).trans h.1, (hb.cell (p := q) (L2.cell_in h.2.1)).trans h.2.1, nxt h.2.2 hb⟩
theorem c_refless (x y : List UInt8) (w : World) (hx : x.length ≤ 1000) (hy : y.length ≤ 1000) {r : Bool} (hr : Hid (r = less x y)) : Calls Tryz.prog 53 #[.string (str x), .string (str y)] w (gives (.bool r) w) := by
  have := L2.refless_any (str x) (str y) w (by rw [str_size]; omega) (by rw [str_size]; omega)
  rw [str_list, str_list, ← hr.out] at this
  exact this
/-- An account at a place, and what stands below. -/
def hold3 (w : World) (p : Addr) (x : List UInt8) (i j : Int) (W : World) : Prop := W.cell? p = some (.string (str x)) ∧ W.cell? ⟨p.block, p.off + 1, none⟩ = some (.int .i64 i) ∧ W.cell? ⟨p.block, p.off + 2, none⟩ = some (.int .i64 j) ∧ Below w.heap.size w W
theorem hold3.below {w : World} {p : Addr} {x : List UInt8} {i j : Int} {W W' : World} (h : hold3 w p x i j W) (hb : Below W.heap.size W W') : hold3 w p x i j W' :=
  ⟨(hb.cell (p := p) (L2.cell_in h.1)).trans h.1, (hb.cell (p := ⟨p.block, p.off + 1, none⟩) (L2.cell_in h.2.1)).trans h.2.1, (hb.cell (p := ⟨p.block, p.off + 2, none⟩) (L2.cell_in h.2.2.1)).trans h.2.2.1, nxt h.2.2.2 hb⟩
theorem ref_itoa (n : Int) (w : World) (h0 : 0 ≤ n) (h1 : n ≤ 4611686018427387904) : Calls Tryz.prog 54 #[.int .i64 n] w (gives (.string (str (itoa n))) w) :=
  (L1.refprint_any n w (by omega) (by omega)).mono fun _ _ h => h
/-- What stands while a list is taken apart: the state's box, the list in a row behind it. -/
structure DgAt {α : Type} (f : α → List Value) (w : World) (m : Array Value) (A : Option Addr) (L : List α) (wr : World) : Prop where
  st : Blk wr w.heap.size 34 m
  rd : Rd f 3 wr A L
  of : ∀ ad, A = some ad → w.heap.size + 1 ≤ ad.block
  bw : Below w.heap.size w wr
  sz : w.heap.size + 1 ≤ wr.heap.size
theorem DgAt.below {α : Type} {f : α → List Value} {w wr wr' : World} {m : Array Value} {A : Option Addr} {L : List α} (h : DgAt f w m A L wr) (hb : Below wr.heap.size wr wr') : DgAt f w m A L wr' :=
  ⟨h.st.below hb h.st.lt, h.rd.below hb, h.of, nxt h.bw hb, Nat.le_trans h.sz hb.size⟩
theorem DgAt.drewN {α : Type} {f : α → List Value} {w wr : World} {m : Array Value} {A : Option Addr} {L : List α} (h : DgAt f w m A L wr) (n : Nat) : DgAt f w m A L (wr.drewN n) :=
  ⟨h.st, h.rd, h.of, L6.below_drewN h.bw n, h.sz⟩
theorem DgAt.next {α : Type} {f : α → List Value} {w wr wr' : World} {m : Array Value} {A A' : Option Addr} {L L' : List α} (h : DgAt f w m A L wr) (ht : Turn (fun k => wr.heap.size ≤ k) wr wr') (hr : Rd f 3 wr' A' L') (ho : ∀ ad, A' = some ad → w.heap.size + 1 ≤ ad.block) : DgAt f w m A' L' wr' :=
  ⟨ht.blk h.st (Nat.not_le.2 h.st.lt), hr, ho, nxt h.bw (ht.below (fun i hi => hi) (Nat.le_refl _)), Nat.le_trans h.sz ht.size⟩
theorem adlt {α : Type} {f : α → List Value} {k j : Nat} {w : World} {ad : Addr} {L : List α} (h : Rd f k w (some ad) L) (hj : j < L.length) : ad.block < w.heap.size := by
  obtain ⟨ad2, e, hl, _⟩ := h j hj
  injection e with e
  rw [e]; exact hl
theorem exec_cutA {ev : Operand → Value} {o : Oper} {W : World} (x lo : Operand) (hop : o.op = Op.slice 31 x (some lo) none none) (ad : Addr) (n c j : Nat) (i : Int) (hi : i = (j : Int)) (hx : ev x = .slice (some ad) n c) (hlo : ev lo = .int .i64 i) (hj : j ≤ n) (hc : n ≤ c) {Y : Option Addr} (hY : Hid (Y = if c = j then some ad else (some ad).map (·.add (j * 3)))) :
    (execOp ev o).run Tryz.prog W = .ok (.value (.slice Y (n - j) (c - j))) W := by
  rw [hY.out]
  subst hi
  have h1 : (j : Int) ≤ n := by omega
  have h2 : (j : Int) ≤ c := by omega
  have h3 : (n : Int) ≤ c := by omega
  have h4 : ¬ ((j : Int) < 0) := by omega
  have e1 := accInfo
  simp [execOp, hop, hx, hlo, go_sem, Tryz.underlying31]
  intro h
  omega
/-- Two values at two places, and what stands below. -/
def hold6 (w : World) (p q : Addr) (x y : Vl) (W : World) : Prop := (∀ j u, (vlL x)[j]? = some u → W.cell? (p.add j) = some u) ∧ (∀ j u, (vlL y)[j]? = some u → W.cell? (q.add j) = some u) ∧ Below w.heap.size w W
theorem hold6.below {w : World} {p q : Addr} {x y : Vl} {W W' : World} (h : hold6 w p q x y W) (hb : Below W.heap.size W W') : hold6 w p q x y W' :=
  ⟨fun j u hj => (hb.cell (p := p.add j) (L2.cell_in (h.1 j u hj))).trans (h.1 j u hj), fun j u hj => (hb.cell (p := q.add j) (L2.cell_in (h.2.1 j u hj))).trans (h.2.1 j u hj), nxt h.2.2 hb⟩
theorem hold6.row {w : World} {p q : Addr} {x y : Vl} {W : World} (h : hold6 w p q x y W) {g : Nat} (cs : Array Value) (hp : p.block ≠ g) (hq : q.block ≠ g) (hg : w.heap.size ≤ g) : hold6 w p q x y (W.setRow g cs) :=
  ⟨fun j u hj => (turn_row W g cs).cell (h.1 j u hj) (by rw [block_of_add]; exact hp), fun j u hj => (turn_row W g cs).cell (h.2.1 j u hj) (by rw [block_of_add]; exact hq), below_setRow h.2.2 hg⟩
/-- What the loop over the values has written, and what is left of them. -/
structure LeftV (Z1 Z O : List UInt8) (L : List Vl) : Prop where
  text : Z1 ++ Z = O ++ ((sel (lt2 less) keyV L.length L).filter someV).flatMap lineV
  small : ∀ v ∈ L, v.who.length ≤ 1000 ∧ v.key.length ≤ 1000 ∧ v.val.length ≤ 1000
  few : L.length ≤ 100000
theorem LeftV.step {Z1 Z O : List UInt8} {L : List Vl} (h : LeftV Z1 Z O L) (h0 : L.length ≠ 0) {k : Nat} (hk : k = leastTo (lt2 less) keyV L (L.length - 1)) (hkl : k < L.length) {x : Vl} (hx : x = L[k]) :
    LeftV Z1 Z (O ++ if someV x = true then lineV x else []) (L.eraseIdx k) := by
  refine ⟨?_, fun a ha => h.small a (List.mem_of_mem_eraseIdx ha), Nat.le_trans (List.length_eraseIdx_le L k) h.few⟩
  have := h.text
  rw [sel_step (lt2 less) keyV h0, ← hk, getD_at hkl, ← hx] at this
  rw [this]
  by_cases hs : someV x = true
  · simp [hs]
  · simp [hs]
theorem LeftV.len {Z1 Z O : List UInt8} {L : List Vl} (h : LeftV Z1 Z O L) : O.length ≤ Z1.length + Z.length := by rw [← List.length_append, h.text, List.length_append]; omega
/-- A value at a place, and what stands below. -/
def hold3v (w : World) (p : Addr) (x : Vl) (W : World) : Prop := W.cell? p = some (.string (str x.who)) ∧ W.cell? ⟨p.block, p.off + 1, none⟩ = some (.string (str x.key)) ∧ W.cell? ⟨p.block, p.off + 2, none⟩ = some (.string (str x.val)) ∧ Below w.heap.size w W
theorem exec_cutV {ev : Operand → Value} {o : Oper} {W : World} (x lo : Operand) (hop : o.op = Op.slice 32 x (some lo) none none) (ad : Addr) (n c j : Nat) (i : Int) (hi : i = (j : Int)) (hx : ev x = .slice (some ad) n c) (hlo : ev lo = .int .i64 i) (hj : j ≤ n) (hc : n ≤ c) {Y : Option Addr} (hY : Hid (Y = if c = j then some ad else (some ad).map (·.add (j * 3)))) :
    (execOp ev o).run Tryz.prog W = .ok (.value (.slice Y (n - j) (c - j))) W := by
  rw [hY.out]
  subst hi
  have h1 : (j : Int) ≤ n := by omega
  have h2 : (j : Int) ≤ c := by omega
  have h3 : (n : Int) ≤ c := by omega
  have h4 : ¬ ((j : Int) < 0) := by omega
  have e1 := vlInfo
  simp [execOp, hop, hx, hlo, go_sem, Tryz.underlying32]
  intro h
  omega
/-- What the loop over the accounts has written, and what is left of them. -/
structure LeftA (Z O : List UInt8) (L : List Acc) : Prop where
  text : Z = O ++ ((sel less Acc.nm L.length L).filter someA).flatMap lineA
  small : ∀ a ∈ L, a.nm.length ≤ 1000 ∧ 0 ≤ a.am ∧ a.am ≤ 4611686018427387904 ∧ 0 ≤ a.no ∧ a.no ≤ 4611686018427387904
  few : L.length ≤ 100000
theorem LeftA.step {Z O : List UInt8} {L : List Acc} (h : LeftA Z O L) (h0 : L.length ≠ 0) {k : Nat} (hk : k = leastTo less Acc.nm L (L.length - 1)) (hkl : k < L.length) {x : Acc} (hx : x = L[k]) :
    LeftA Z (O ++ if someA x = true then lineA x else []) (L.eraseIdx k) := by
  refine ⟨?_, fun a ha => h.small a (List.mem_of_mem_eraseIdx ha), Nat.le_trans (List.length_eraseIdx_le L k) h.few⟩
  have := h.text
  rw [sel_step less Acc.nm h0, ← hk, getD_at hkl, ← hx] at this
  rw [this]
  by_cases hs : someA x = true
  · simp [hs]
  · simp [hs]
theorem LeftA.len {Z O : List UInt8} {L : List Acc} (h : LeftA Z O L) : O.length ≤ Z.length := by rw [h.text, List.length_append]; omega
theorem Rd.take {α : Type} {f : α → List Value} {k : Nat} {w : World} {A : Option Addr} {L : List α} (h : Rd f k w A L) (j : Nat) : Rd f k w A (L.take j) := fun i hi => by
  rw [List.length_take] at hi
  obtain ⟨ad, e, hl, hc⟩ := h i (by omega)
  exact ⟨ad, e, hl, by rw [List.getElem_take]; exact hc⟩
theorem Rd.cut {α : Type} {f : α → List Value} {k : Nat} {w : World} {A : Option Addr} {L : List α} (h : Rd f k w A L) {j cap : Nat} (hj : j ≤ L.length) (hc : L.length ≤ cap) :
    Rd f k w (if cap = j then A else A.map (·.add (j * k))) (L.drop j) := fun i hi => by
  rw [List.length_drop] at hi
  obtain ⟨ad, rfl, hl, hcell⟩ := h (j + i) (by omega)
  rw [if_neg (by omega)]
  refine ⟨ad.add (j * k), rfl, by rw [block_of_add]; exact hl, fun n u hu => ?_⟩
  rw [List.getElem_drop] at hu
  have := hcell n u hu
  simp only [add_of_add] at this ⊢
  rw [← Nat.add_mul]
  exact this
set_option maxHeartbeats 8000000 in
set_option maxRecDepth 100000 in
theorem refdig_any (A V : Option Addr) (ca cv : Nat) (s : Stt) (w : World) (h : Rm w A V s) (hs : Sane s) (hA : s.A.length ≤ 100000) (hV : s.V.length ≤ 100000) (hnm : ∀ a ∈ s.A, a.nm.length ≤ 1000) (hvl : ∀ v ∈ s.V, v.who.length ≤ 1000 ∧ v.key.length ≤ 1000 ∧ v.val.length ≤ 1000) (hlen : (digR less s).length ≤ 1000000000) :
    Calls Tryz.prog 29 #[.agg (mC A V s.A.length s.V.length ca cv)] w (gives (.string (str (digR less s))) w) := by
  obtain ⟨i0, hi, hz0, hz1, hz2⟩ := acc_parts
  obtain ⟨Z1, hZ1⟩ : ∃ Z, Z = ((sel less Acc.nm s.A.length s.A).filter someA).flatMap lineA := ⟨_, rfl⟩
  obtain ⟨Z2, hZ2⟩ : ∃ Z, Z = ((sel (lt2 less) keyV s.V.length s.V).filter someV).flatMap lineV := ⟨_, rfl⟩
  have hZ : digR less s = Z1 ++ Z2 := by rw [hZ1, hZ2]; rfl
  rw [hZ] at hlen ⊢
  rw [List.length_append] at hlen
  have HL : LeftA Z1 [] s.A := ⟨by rw [hZ1]; rfl, fun a ha => ⟨hnm a ha, (hs.full a ha).1, Int.le_trans (hs.full.mem_le ha) hs.low, (hs.full a ha).2, hs.nonce a ha⟩, hA⟩
  have HZ2 := Lib.hid hZ2
  clear hZ hZ1 hZ2 hs hnm
  go_enter Tryz.func29, Tryz.ntmps29
  go_upto_region 1 with (fail)
  obtain ⟨W, hW⟩ : ∃ W, W = w.alloc (.cells (mC A V s.A.length s.V.length ca cv) 34) := ⟨_, rfl⟩
  have ks : Blk W w.heap.size 34 (mC A V s.A.length s.V.length ca cv) := by rw [hW]; exact Blk.new _ _ _
  have hbW : Below w.heap.size w W := by rw [hW]; exact (Below.refl _ _).alloc (Nat.le_refl _) _
  have hsz : W.heap.size = w.heap.size + 1 := by rw [hW]; simp
  rw [← hW]
  clear hW
  have c0 : (W.alloc (.cells #[] 64)).cell? ⟨w.heap.size, 0, none⟩ = some (.slice A s.A.length ca) := (ks.alloc _).cell 0
  have hrow0 := row_empty W 64 3 (base := w.heap.size + 1) (by omega)
  have hrdA := ((h.1.below hbW).below ((Below.refl _ W).alloc (Nat.le_refl _) (.cells #[] 64))).reads accL_len
  have HSz := Lib.hid hsz
  clear hsz
  go_wp2_with (first
    | (refine wpList_buildSlice rfl _ _ _ rfl #[] rfl (none_acc _) ?_)
    | (at_builtin; refine L3.wpList_append_any _ rfl (.tmp 12) (.tmp 14) 31 rfl (w.heap.size + 1) 64 i0 _ 3 32 Tryz.underlying31 hi hz0 hz1 hz2 rfl (by decide) (.slice (some ⟨W.heap.size, 0, none⟩) 0 0) 0 [] rfl hrow0 (W.alloc (.cells #[] 64)).heap.size A s.A.length ca (s.A.flatMap accL) rfl hrdA (by intro u hu; obtain ⟨x, _, hx⟩ := List.mem_flatMap.1 hu; exact one_accL x u hx) (by unfold maxLen; omega) (by omega) (by have := HSz.out; simp; omega) ?_
       intro v1 w1 hrow1 hg1 hat1)
    | go_in)
  have ht1 : Turn (fun k => w.heap.size + 1 ≤ k) (W.alloc (.cells #[] 64)) w1 := Turn.of_grown hg1 (fun g e => by simp only [Value.ownBlock, Option.some.injEq] at e; have := HSz.out; omega)
  obtain ⟨A1, c1, rfl, hAc1, hrd1, hof1⟩ := Rd.of_row2 (L := s.A) accL_len (by simpa using hrow1)
  have hD1 : DgAt accL w (mC A V s.A.length s.V.length ca cv) A1 s.A w1 := ⟨ht1.blk (ks.alloc _) (by omega), hrd1, fun ad e => (hof1 ad e).1, (hbW.alloc hbW.size _).trans (ht1.below (B := w.heap.size) (fun i hi => by omega) (by have := HSz.out; simp; omega)), Nat.le_trans (by have := HSz.out; simp; omega) ht1.size⟩
  clear hrow1 hg1 hat1 ht1 hrd1 hof1 hrow0 hrdA c0 ks hbW
  go_loopw [3, 4] (fun o l wr => ∃ (L : List Acc) (O : List UInt8) (B : Option Addr) (c : Nat), o = .string (str O) ∧ l = .slice B L.length c ∧ L.length ≤ c ∧ DgAt accL w (mC A V s.A.length s.V.length ca cv) B L wr ∧ Hid (LeftA Z1 O L))
    (fun _ l _ => match l with | .slice _ n _ => n | _ => 0)
  case atStart => exact ⟨s.A, [], A1, c1, rfl, by simp, hAc1, hD1, Lib.hid HL⟩
  case round =>
    obtain ⟨L, O, B, c, rfl, rfl, hLc, hD, HLA⟩ := hrel
    by_cases h0 : L.length = 0
    · obtain ⟨iv, hiv, hv0, hv1, hv2⟩ := vl_parts
      have hL0 : L = [] := List.eq_nil_of_length_eq_zero h0
      have hO : O = Z1 := by have := HLA.out.text; rw [hL0] at this; rw [this]; simp [sel]
      have HLV : LeftV Z1 Z2 O s.V := ⟨by rw [hO, HZ2.out], hvl, hV⟩
      have hrdV := h.2.below hD.bw
      obtain ⟨wv, hwv⟩ : ∃ wv, wv = wr := ⟨_, rfl⟩
      rw [← hwv] at hD hrdV
      rw [← hwv]
      have ks := hD.st
      have hbV := hD.bw
      have hsV := hD.sz
      clear hO hL0 HLA HL hD1
      have c1 : (wv.alloc (.cells #[] 73)).cell? ⟨w.heap.size, 1, none⟩ = some (.slice V s.V.length cv) := (ks.alloc _).cell 1
      have hrow0 := row_empty wv 73 3 (base := w.heap.size + 1) hsV
      have hrd := (hrdV.below ((Below.refl _ wv).alloc (Nat.le_refl _) (.cells #[] 73))).reads vlL_len
      clear hwv
      go_wp2_with (first
        | (refine wpList_buildSlice rfl _ _ _ rfl #[] rfl (none_vl _) ?_)
        | (at_builtin; refine L3.wpList_append_any _ rfl (.tmp 85) (.tmp 87) 32 rfl (w.heap.size + 1) 73 iv _ 3 48 Tryz.underlying32 hiv hv0 hv1 hv2 rfl (by decide) (.slice (some ⟨wv.heap.size, 0, none⟩) 0 0) 0 [] rfl hrow0 (wv.alloc (.cells #[] 73)).heap.size V s.V.length cv (s.V.flatMap vlL) rfl hrd (by intro u hu; obtain ⟨x, _, hx⟩ := List.mem_flatMap.1 hu; exact one_vlL x u hx) (by unfold maxLen; omega) (by omega) (by simp only [World.size_alloc]; exact Nat.le_succ_of_le hsV) ?_
           intro v1 w2 hrow1 hg1 hat1)
        | go_in)
      have ht1 : Turn (fun k => w.heap.size + 1 ≤ k) (wv.alloc (.cells #[] 73)) w2 := Turn.of_grown hg1 (fun g e => by simp only [Value.ownBlock, Option.some.injEq] at e; omega)
      obtain ⟨V1, c2, rfl, hVc1, hrd1, hof1⟩ := Rd.of_row2 (L := s.V) vlL_len (by simpa using hrow1)
      have hE1 : DgAt vlL w (mC A V s.A.length s.V.length ca cv) V1 s.V w2 := ⟨ht1.blk (ks.alloc _) (by omega), hrd1, fun ad e => (hof1 ad e).1, (hbV.alloc hbV.size _).trans (ht1.below (B := w.heap.size) (fun i hi => by omega) (by simp; omega)), Nat.le_trans (by simp; omega) ht1.size⟩
      clear hrow1 hg1 hat1 ht1 hrd1 hof1 hrow0 hrd c1 ks hbV hD hrdV
      go_loopw [3, 7] (fun o l wr => ∃ (L : List Vl) (O : List UInt8) (B : Option Addr) (c : Nat), o = .string (str O) ∧ l = .slice B L.length c ∧ L.length ≤ c ∧ DgAt vlL w (mC A V s.A.length s.V.length ca cv) B L wr ∧ Hid (LeftV Z1 Z2 O L))
        (fun _ l _ => match l with | .slice _ n _ => n | _ => 0)
      case atStart => exact ⟨s.V, O, V1, c2, rfl, by simp, hVc1, hE1, Lib.hid HLV⟩
      case round =>
        clear hE1 HLV h0 hLc
        obtain ⟨L, O, B, c, rfl, rfl, hLc, hD, HLA⟩ := hrel
        by_cases h0 : L.length = 0
        · have hL0 : L = [] := List.eq_nil_of_length_eq_zero h0
          have hO : O = Z1 ++ Z2 := by have := HLA.out.text; rw [hL0] at this; rw [this]; simp [sel]
          subst hO
          go_wp2
          go_ret
          exact ⟨rfl, hD.bw⟩
        · have hpos : 0 < L.length := by omega
          have hLf : L.length ≤ 100000 := HLA.out.few
          obtain ⟨wo, hwo⟩ : ∃ wo, wo = wr := ⟨_, rfl⟩
          subst hwo
          go_wp2
          go_loopw [8, 9] (fun k i wr => ∃ j : Nat, k = .int .i64 (leastTo (lt2 less) keyV L j : Nat) ∧ i = .int .i64 ((j + 1 : Nat) : Int) ∧ j < L.length ∧ Below wo.heap.size wo wr)
            (fun _ i _ => L.length + 1 - (intOf i).toNat)
          case atStart => exact ⟨0, rfl, rfl, hpos, Below.refl _ _⟩
          case round =>
            obtain ⟨j, rfl, rfl, hj, hbr⟩ := hrel
            have hDr := hD.below hbr
            by_cases hlt : j + 1 < L.length
            · have hle := leastTo_le (lt := lt2 less) (f := keyV) L j
              obtain ⟨ad, hade, hadl, hc1⟩ := hDr.rd (j + 1) hlt
              obtain ⟨ad2, hade2, hadl2, hc2⟩ := hDr.rd (leastTo (lt2 less) keyV L j) (by omega)
              subst hade
              injection hade2 with hade2
              subst hade2
              obtain ⟨k, hk⟩ : ∃ k, k = leastTo (lt2 less) keyV L j := ⟨_, rfl⟩
              have hnext : leastTo (lt2 less) keyV L (j + 1) = if lt2 less (keyV (L.getD (j + 1) default)) (keyV (L.getD k default)) = true then j + 1 else k := by rw [hk]; rfl
              rw [getD_at hlt, getD_at (show k < L.length by omega)] at hnext
              obtain ⟨x, hx⟩ : ∃ x, x = L[j + 1] := ⟨_, rfl⟩
              obtain ⟨y, hy⟩ : ∃ y, y = L[k] := ⟨_, rfl⟩
              rw [← hx, ← hy] at hnext
              have hxs := (HLA.out.small x (by rw [hx]; exact List.getElem_mem _))
              have hys := (HLA.out.small y (by rw [hy]; exact List.getElem_mem _))
              have hcx : ∀ jj u, (vlL x)[jj]? = some u → wr.cell? ((ad.add ((j + 1) * 3)).add jj) = some u := by rw [hx]; exact hc1
              have hcy : ∀ jj u, (vlL y)[jj]? = some u → wr.cell? ((ad.add (k * 3)).add jj) = some u := by rw [hy]; simp only [hk]; exact hc2
              have HN := Lib.hid hnext
              have hkl : k < L.length := by omega
              have HK := Lib.hid hk
              have HX := Lib.hid hxs
              have HY := Lib.hid hys
              rw [← hk]
              clear hnext hk hx hy hc1 hc2 hle hxs hys
              go_upto_region 19 with (fail)
              have hS : hold6 wo (ad.add ((j + 1) * 3)) (ad.add (k * 3)) x y wr.drew := ⟨hcx, hcy, hbr.drew⟩
              clear hcx hcy
              refine wp_region_K (hold6 wo (ad.add ((j + 1) * 3)) (ad.add (k * 3)) x y) [0, 1, 2, 3, 4, 5, 6, 7] (by kernel_rfl) ?_
              refine wpK_quiet (f := 4) (by kernel_rfl) (fun _ x _ _ _ h => by cases x <;> exact h) hS [0, 1, 2, 3, 4, 5, 6, 7] _ _ (by kernel_rfl) (by kernel_rfl) (by kernel_rfl) ?_
              have ne : Nonempty (WorldIn (hold6 wo (ad.add ((j + 1) * 3)) (ad.add (k * 3)) x y)) := ⟨⟨_, hS⟩⟩
              conv => arg 5; simp [pick]
              iterate 3 go_big_quiet_step (fail)
              refine wpQuiet_cells rfl _ _ rfl (ad.add ((j + 1) * 3)) rfl (vlL x) _ (fun y => y.h.1) Tryz.underlying73 rfl vlInfo ?_
              conv => arg 6; simp only [Act.put, List.setIfInBounds_toArray, List.set_cons_zero, List.set_cons_succ]
              iterate 3 go_big_quiet_step (fail)
              refine wpQuiet_cells rfl _ _ rfl (ad.add (k * 3)) rfl (vlL y) _ (fun y => y.h.2.1) Tryz.underlying73 rfl vlInfo ?_
              conv => arg 6; simp only [Act.put, List.setIfInBounds_toArray, List.set_cons_zero, List.set_cons_succ]
              refine wpQuiet_nil ?_
              obtain ⟨w3, hw3⟩ : ∃ w3, w3 = wr.drew := ⟨_, rfl⟩
              rw [← hw3] at hS ⊢
              have hlo3 : wo.heap.size ≤ w3.heap.size := hS.2.2.size
              clear hw3 ne
              refine wpK_two 8 9 (by kernel_rfl) rfl rfl ?_ ?_
              · go_wp2
                obtain ⟨w4, hw4⟩ : ∃ w4, w4 = w3.alloc (.cells #[.string ⟨#[]⟩, .string ⟨#[]⟩, .string ⟨#[]⟩] 73) := ⟨_, rfl⟩
                have k1 : Blk w4 w3.heap.size 73 #[.string ⟨#[]⟩, .string ⟨#[]⟩, .string ⟨#[]⟩] := by rw [hw4]; exact Blk.new _ _ _
                have hb4 : Below w3.heap.size w3 w4 := by rw [hw4]; exact (Below.refl _ _).alloc (Nat.le_refl _) _
                have hs4 : w4.heap.size = w3.heap.size + 1 := by rw [hw4]; simp
                rw [← hw4]
                refine stepQ.mk ⟨fun _ => hS.below hb4, ?_⟩
                refine wpK_step 9 (by kernel_rfl) rfl ?_
                clear hw4
                obtain ⟨g1, hg1⟩ : ∃ g1, g1 = w3.heap.size := ⟨_, rfl⟩
                have hgl1 : wo.heap.size ≤ g1 := by omega
                rw [← hg1] at k1 hs4
                rw [← hg1]
                have HS4 := Lib.hid hs4
                clear hs4 hg1
                go_wp2
                obtain ⟨w5, hw5⟩ : ∃ w5, w5 = w4.alloc (.cells #[.string ⟨#[]⟩, .string ⟨#[]⟩, .string ⟨#[]⟩] 73) := ⟨_, rfl⟩
                have k2 : Blk w5 w4.heap.size 73 #[.string ⟨#[]⟩, .string ⟨#[]⟩, .string ⟨#[]⟩] := by rw [hw5]; exact Blk.new _ _ _
                have k1b : Blk w5 g1 73 #[.string ⟨#[]⟩, .string ⟨#[]⟩, .string ⟨#[]⟩] := by rw [hw5]; exact k1.alloc _
                have hb5 : Below w4.heap.size w4 w5 := by rw [hw5]; exact (Below.refl _ _).alloc (Nat.le_refl _) _
                rw [← hw5]
                have hS5 := (hS.below hb4).below hb5
                refine stepQ.mk ⟨fun _ => hS5, ?_⟩
                obtain ⟨g2, hg2⟩ : ∃ g2, g2 = w4.heap.size := ⟨_, rfl⟩
                have hs4 := HS4.out
                have hgl2 : wo.heap.size ≤ g2 := by omega
                have hgn : g1 ≠ g2 := by omega
                rw [← hg2] at k2
                rw [← hg2]
                have hbo5 := hS5.2.2
                have hadb : ad.block < wo.heap.size := adlt hD.rd hlt
                clear hw5 hg2 hs4 k1 hS hb4 hb5 hlo3
                refine wpK_step 10 (by kernel_rfl) rfl ?_
                refine wpList_store_row rfl _ _ _ rfl g1 (vlC x) rfl rfl _ _ k1b vlInfo rfl (vlC_ones _) ?_
                go_wp2
                refine stepQ.mk ⟨fun _ => hS5.row _ (by rw [block_of_add]; omega) (by rw [block_of_add]; omega) (by omega), ?_⟩
                refine wpK_seq [11] _ _ _ (by kernel_rfl) ?_
                conv => arg 4; simp [pick]
                refine wpList_store_row rfl _ _ _ rfl g2 (vlC y) rfl rfl _ _ ((turn_row w5 g1 (vlC x)).blk k2 (by omega)) vlInfo rfl (vlC_ones _) ?_
                go_upto_region 20 with (fail)
                (try simp only [Act.put])
                have kx : Blk ((w5.setRow g1 (vlC x)).setRow g2 (vlC y)) g1 73 (vlC x) := (turn_row (w5.setRow g1 (vlC x)) g2 (vlC y)).blk (blk_setRow k1b) (by omega)
                have ky : Blk ((w5.setRow g1 (vlC x)).setRow g2 (vlC y)) g2 73 (vlC y) := blk_setRow ((turn_row w5 g1 (vlC x)).blk k2 (by omega))
                have hb7 : Below wo.heap.size wo ((w5.setRow g1 (vlC x)).setRow g2 (vlC y)) := below_setRow (below_setRow hbo5 (by omega)) (by omega)
                obtain ⟨w7, hw7⟩ : ∃ w7, w7 = (w5.setRow g1 (vlC x)).setRow g2 (vlC y) := ⟨_, rfl⟩
                rw [← hw7] at kx ky hb7
                rw [← hw7]
                clear hw7 hS5 hadb k1b k2 hgl1 hgl2 hbo5
                obtain ⟨ga, hga⟩ : ∃ ga, ga = g1 := ⟨_, rfl⟩
                obtain ⟨gb, hgb⟩ : ∃ gb, gb = g2 := ⟨_, rfl⟩
                rw [← hga] at kx hgn
                rw [← hgb] at ky hgn
                rw [← hga, ← hgb]
                clear hga hgb
                have hkle : k ≤ L.length := by omega
                obtain ⟨r1, hr1⟩ : ∃ r, r = less x.who y.who := ⟨_, rfl⟩
                obtain ⟨r2, hr2⟩ : ∃ r, r = less x.key y.key := ⟨_, rfl⟩
                have HR1 := Lib.hid hr1
                have HR2 := Lib.hid hr2
                have hl2 : lt2 less (keyV x) (keyV y) = (r1 || (decide (x.who = y.who) && r2)) := by rw [hr1, hr2]; rfl
                clear hr1 hr2
                have x0 : w7.cell? ⟨ga, 0, none⟩ = some (.string (str x.who)) := kx.cell 0
                have y0 : w7.cell? ⟨gb, 0, none⟩ = some (.string (str y.who)) := ky.cell 0
                cases r1
                · by_cases hw : x.who = y.who
                  · have e1 := str_eq hw
                    rw [decide_eq_true hw] at hl2
                    cases r2
                    · have HT : Hid (lt2 less (keyV x) (keyV y) = false) := Lib.hid (by rw [hl2]; rfl)
                      clear hw hl2
                      go_wp2_with (first
                        | (go_at_call 53; (with_reducible refine (c_refless x.who y.who _ HX.out.1 HY.out.1 HR1).mono ?_); unfold gives; rintro e w8 ⟨rfl, hb8⟩
                           have x0b : w8.cell? ⟨ga, 0, none⟩ = some (.string (str x.who)) := (kx.below hb8 kx.lt).cell 0
                           have y0b : w8.cell? ⟨gb, 0, none⟩ = some (.string (str y.who)) := (ky.below hb8 ky.lt).cell 0
                           have x1b : w8.cell? ⟨ga, 1, none⟩ = some (.string (str x.key)) := (kx.below hb8 kx.lt).cell 1
                           have y1b : w8.cell? ⟨gb, 1, none⟩ = some (.string (str y.key)) := (ky.below hb8 ky.lt).cell 1)
                        | (go_at_call 53; (with_reducible refine (c_refless x.key y.key _ HX.out.2.1 HY.out.2.1 HR2).mono ?_); unfold gives; rintro e w9 ⟨rfl, hb9⟩)
                        | go_in)
                      go_roundw
                      case rel => exact ⟨j + 1, by rw [HN.out, if_neg (by rw [HT.out]; decide)], by go_num, hlt, nxt (nxt hb7 hb8) hb9⟩
                      case measure => simp [intOf]; omega
                    · have HT : Hid (lt2 less (keyV x) (keyV y) = true) := Lib.hid (by rw [hl2]; rfl)
                      clear hw hl2
                      go_wp2_with (first
                        | (go_at_call 53; (with_reducible refine (c_refless x.who y.who _ HX.out.1 HY.out.1 HR1).mono ?_); unfold gives; rintro e w8 ⟨rfl, hb8⟩
                           have x0b : w8.cell? ⟨ga, 0, none⟩ = some (.string (str x.who)) := (kx.below hb8 kx.lt).cell 0
                           have y0b : w8.cell? ⟨gb, 0, none⟩ = some (.string (str y.who)) := (ky.below hb8 ky.lt).cell 0
                           have x1b : w8.cell? ⟨ga, 1, none⟩ = some (.string (str x.key)) := (kx.below hb8 kx.lt).cell 1
                           have y1b : w8.cell? ⟨gb, 1, none⟩ = some (.string (str y.key)) := (ky.below hb8 ky.lt).cell 1)
                        | (go_at_call 53; (with_reducible refine (c_refless x.key y.key _ HX.out.2.1 HY.out.2.1 HR2).mono ?_); unfold gives; rintro e w9 ⟨rfl, hb9⟩)
                        | go_in)
                      go_roundw
                      case rel => exact ⟨j + 1, by rw [HN.out, if_pos HT.out]; first | done | rfl | simp, by go_num, hlt, nxt (nxt hb7 hb8) hb9⟩
                      case measure => simp [intOf]; omega
                  · have e1 := str_ne hw
                    rw [decide_eq_false hw] at hl2
                    have HT : Hid (lt2 less (keyV x) (keyV y) = false) := Lib.hid (by rw [hl2]; rfl)
                    clear hw hl2
                    go_wp2_with (first
                      | (go_at_call 53; (with_reducible refine (c_refless x.who y.who _ HX.out.1 HY.out.1 HR1).mono ?_); unfold gives; rintro e w8 ⟨rfl, hb8⟩
                         have x0b : w8.cell? ⟨ga, 0, none⟩ = some (.string (str x.who)) := (kx.below hb8 kx.lt).cell 0
                         have y0b : w8.cell? ⟨gb, 0, none⟩ = some (.string (str y.who)) := (ky.below hb8 ky.lt).cell 0
                         have x1b : w8.cell? ⟨ga, 1, none⟩ = some (.string (str x.key)) := (kx.below hb8 kx.lt).cell 1
                         have y1b : w8.cell? ⟨gb, 1, none⟩ = some (.string (str y.key)) := (ky.below hb8 ky.lt).cell 1)
                      | go_in)
                    go_roundw
                    case rel => exact ⟨j + 1, by rw [HN.out, if_neg (by rw [HT.out]; decide)], by go_num, hlt, nxt hb7 hb8⟩
                    case measure => simp [intOf]; omega
                · have HT : Hid (lt2 less (keyV x) (keyV y) = true) := Lib.hid (by rw [hl2]; rfl)
                  clear hl2
                  go_wp2_with (first
                    | (go_at_call 53; (with_reducible refine (c_refless x.who y.who _ HX.out.1 HY.out.1 HR1).mono ?_); unfold gives; rintro e w8 ⟨rfl, hb8⟩)
                    | go_in)
                  go_roundw
                  case rel => exact ⟨j + 1, by rw [HN.out, if_pos HT.out]; first | done | rfl | simp, by go_num, hlt, nxt hb7 hb8⟩
                  case measure => simp [intOf]; omega
              · go_wp2
                obtain ⟨w4, hw4⟩ : ∃ w4, w4 = w3.alloc (.cells #[.string ⟨#[]⟩, .string ⟨#[]⟩, .string ⟨#[]⟩] 73) := ⟨_, rfl⟩
                have k1 : Blk w4 w3.heap.size 73 #[.string ⟨#[]⟩, .string ⟨#[]⟩, .string ⟨#[]⟩] := by rw [hw4]; exact Blk.new _ _ _
                have hb4 : Below w3.heap.size w3 w4 := by rw [hw4]; exact (Below.refl _ _).alloc (Nat.le_refl _) _
                have hs4 : w4.heap.size = w3.heap.size + 1 := by rw [hw4]; simp
                rw [← hw4]
                refine stepQ.mk ⟨fun _ => hS.below hb4, ?_⟩
                refine wpK_step 8 (by kernel_rfl) rfl ?_
                clear hw4
                obtain ⟨g1, hg1⟩ : ∃ g1, g1 = w3.heap.size := ⟨_, rfl⟩
                have hgl1 : wo.heap.size ≤ g1 := by omega
                rw [← hg1] at k1 hs4
                rw [← hg1]
                have HS4 := Lib.hid hs4
                clear hs4 hg1
                go_wp2
                obtain ⟨w5, hw5⟩ : ∃ w5, w5 = w4.alloc (.cells #[.string ⟨#[]⟩, .string ⟨#[]⟩, .string ⟨#[]⟩] 73) := ⟨_, rfl⟩
                have k2 : Blk w5 w4.heap.size 73 #[.string ⟨#[]⟩, .string ⟨#[]⟩, .string ⟨#[]⟩] := by rw [hw5]; exact Blk.new _ _ _
                have k1b : Blk w5 g1 73 #[.string ⟨#[]⟩, .string ⟨#[]⟩, .string ⟨#[]⟩] := by rw [hw5]; exact k1.alloc _
                have hb5 : Below w4.heap.size w4 w5 := by rw [hw5]; exact (Below.refl _ _).alloc (Nat.le_refl _) _
                rw [← hw5]
                have hS5 := (hS.below hb4).below hb5
                refine stepQ.mk ⟨fun _ => hS5, ?_⟩
                obtain ⟨g2, hg2⟩ : ∃ g2, g2 = w4.heap.size := ⟨_, rfl⟩
                have hs4 := HS4.out
                have hgl2 : wo.heap.size ≤ g2 := by omega
                have hgn : g1 ≠ g2 := by omega
                rw [← hg2] at k2
                rw [← hg2]
                have hbo5 := hS5.2.2
                have hadb : ad.block < wo.heap.size := adlt hD.rd hlt
                clear hw5 hg2 hs4 k1 hS hb4 hb5 hlo3
                refine wpK_step 10 (by kernel_rfl) rfl ?_
                refine wpList_store_row rfl _ _ _ rfl g2 (vlC x) rfl rfl _ _ k2 vlInfo rfl (vlC_ones _) ?_
                go_wp2
                refine stepQ.mk ⟨fun _ => hS5.row _ (by rw [block_of_add]; omega) (by rw [block_of_add]; omega) (by omega), ?_⟩
                refine wpK_seq [11] _ _ _ (by kernel_rfl) ?_
                conv => arg 4; simp [pick]
                refine wpList_store_row rfl _ _ _ rfl g1 (vlC y) rfl rfl _ _ ((turn_row w5 g2 (vlC x)).blk k1b (by omega)) vlInfo rfl (vlC_ones _) ?_
                go_upto_region 20 with (fail)
                (try simp only [Act.put])
                have kx : Blk ((w5.setRow g2 (vlC x)).setRow g1 (vlC y)) g2 73 (vlC x) := (turn_row (w5.setRow g2 (vlC x)) g1 (vlC y)).blk (blk_setRow k2) (by omega)
                have ky : Blk ((w5.setRow g2 (vlC x)).setRow g1 (vlC y)) g1 73 (vlC y) := blk_setRow ((turn_row w5 g2 (vlC x)).blk k1b (by omega))
                have hb7 : Below wo.heap.size wo ((w5.setRow g2 (vlC x)).setRow g1 (vlC y)) := below_setRow (below_setRow hbo5 (by omega)) (by omega)
                obtain ⟨w7, hw7⟩ : ∃ w7, w7 = (w5.setRow g2 (vlC x)).setRow g1 (vlC y) := ⟨_, rfl⟩
                rw [← hw7] at kx ky hb7
                rw [← hw7]
                clear hw7 hS5 hadb k1b k2 hgl1 hgl2 hbo5
                obtain ⟨ga, hga⟩ : ∃ ga, ga = g2 := ⟨_, rfl⟩
                obtain ⟨gb, hgb⟩ : ∃ gb, gb = g1 := ⟨_, rfl⟩
                rw [← hga] at kx hgn
                rw [← hgb] at ky hgn
                rw [← hga, ← hgb]
                clear hga hgb
                have hkle : k ≤ L.length := by omega
                obtain ⟨r1, hr1⟩ : ∃ r, r = less x.who y.who := ⟨_, rfl⟩
                obtain ⟨r2, hr2⟩ : ∃ r, r = less x.key y.key := ⟨_, rfl⟩
                have HR1 := Lib.hid hr1
                have HR2 := Lib.hid hr2
                have hl2 : lt2 less (keyV x) (keyV y) = (r1 || (decide (x.who = y.who) && r2)) := by rw [hr1, hr2]; rfl
                clear hr1 hr2
                have x0 : w7.cell? ⟨ga, 0, none⟩ = some (.string (str x.who)) := kx.cell 0
                have y0 : w7.cell? ⟨gb, 0, none⟩ = some (.string (str y.who)) := ky.cell 0
                cases r1
                · by_cases hw : x.who = y.who
                  · have e1 := str_eq hw
                    rw [decide_eq_true hw] at hl2
                    cases r2
                    · have HT : Hid (lt2 less (keyV x) (keyV y) = false) := Lib.hid (by rw [hl2]; rfl)
                      clear hw hl2
                      go_wp2_with (first
                        | (go_at_call 53; (with_reducible refine (c_refless x.who y.who _ HX.out.1 HY.out.1 HR1).mono ?_); unfold gives; rintro e w8 ⟨rfl, hb8⟩
                           have x0b : w8.cell? ⟨ga, 0, none⟩ = some (.string (str x.who)) := (kx.below hb8 kx.lt).cell 0
                           have y0b : w8.cell? ⟨gb, 0, none⟩ = some (.string (str y.who)) := (ky.below hb8 ky.lt).cell 0
                           have x1b : w8.cell? ⟨ga, 1, none⟩ = some (.string (str x.key)) := (kx.below hb8 kx.lt).cell 1
                           have y1b : w8.cell? ⟨gb, 1, none⟩ = some (.string (str y.key)) := (ky.below hb8 ky.lt).cell 1)
                        | (go_at_call 53; (with_reducible refine (c_refless x.key y.key _ HX.out.2.1 HY.out.2.1 HR2).mono ?_); unfold gives; rintro e w9 ⟨rfl, hb9⟩)
                        | go_in)
                      go_roundw
                      case rel => exact ⟨j + 1, by rw [HN.out, if_neg (by rw [HT.out]; decide)], by go_num, hlt, nxt (nxt hb7 hb8) hb9⟩
                      case measure => simp [intOf]; omega
                    · have HT : Hid (lt2 less (keyV x) (keyV y) = true) := Lib.hid (by rw [hl2]; rfl)
                      clear hw hl2
                      go_wp2_with (first
                        | (go_at_call 53; (with_reducible refine (c_refless x.who y.who _ HX.out.1 HY.out.1 HR1).mono ?_); unfold gives; rintro e w8 ⟨rfl, hb8⟩
                           have x0b : w8.cell? ⟨ga, 0, none⟩ = some (.string (str x.who)) := (kx.below hb8 kx.lt).cell 0
                           have y0b : w8.cell? ⟨gb, 0, none⟩ = some (.string (str y.who)) := (ky.below hb8 ky.lt).cell 0
                           have x1b : w8.cell? ⟨ga, 1, none⟩ = some (.string (str x.key)) := (kx.below hb8 kx.lt).cell 1
                           have y1b : w8.cell? ⟨gb, 1, none⟩ = some (.string (str y.key)) := (ky.below hb8 ky.lt).cell 1)
                        | (go_at_call 53; (with_reducible refine (c_refless x.key y.key _ HX.out.2.1 HY.out.2.1 HR2).mono ?_); unfold gives; rintro e w9 ⟨rfl, hb9⟩)
                        | go_in)
                      go_roundw
                      case rel => exact ⟨j + 1, by rw [HN.out, if_pos HT.out]; first | done | rfl | simp, by go_num, hlt, nxt (nxt hb7 hb8) hb9⟩
                      case measure => simp [intOf]; omega
                  · have e1 := str_ne hw
                    rw [decide_eq_false hw] at hl2
                    have HT : Hid (lt2 less (keyV x) (keyV y) = false) := Lib.hid (by rw [hl2]; rfl)
                    clear hw hl2
                    go_wp2_with (first
                      | (go_at_call 53; (with_reducible refine (c_refless x.who y.who _ HX.out.1 HY.out.1 HR1).mono ?_); unfold gives; rintro e w8 ⟨rfl, hb8⟩
                         have x0b : w8.cell? ⟨ga, 0, none⟩ = some (.string (str x.who)) := (kx.below hb8 kx.lt).cell 0
                         have y0b : w8.cell? ⟨gb, 0, none⟩ = some (.string (str y.who)) := (ky.below hb8 ky.lt).cell 0
                         have x1b : w8.cell? ⟨ga, 1, none⟩ = some (.string (str x.key)) := (kx.below hb8 kx.lt).cell 1
                         have y1b : w8.cell? ⟨gb, 1, none⟩ = some (.string (str y.key)) := (ky.below hb8 ky.lt).cell 1)
                      | go_in)
                    go_roundw
                    case rel => exact ⟨j + 1, by rw [HN.out, if_neg (by rw [HT.out]; decide)], by go_num, hlt, nxt hb7 hb8⟩
                    case measure => simp [intOf]; omega
                · have HT : Hid (lt2 less (keyV x) (keyV y) = true) := Lib.hid (by rw [hl2]; rfl)
                  clear hl2
                  go_wp2_with (first
                    | (go_at_call 53; (with_reducible refine (c_refless x.who y.who _ HX.out.1 HY.out.1 HR1).mono ?_); unfold gives; rintro e w8 ⟨rfl, hb8⟩)
                    | go_in)
                  go_roundw
                  case rel => exact ⟨j + 1, by rw [HN.out, if_pos HT.out]; first | done | rfl | simp, by go_num, hlt, nxt hb7 hb8⟩
                  case measure => simp [intOf]; omega
            · obtain ⟨k, hk⟩ : ∃ k, k = leastTo (lt2 less) keyV L j := ⟨_, rfl⟩
              obtain hjl : j = L.length - 1 := by omega
              have hle := leastTo_le (lt := lt2 less) (f := keyV) L j
              have hkl : k < L.length := by omega
              rw [← hk]
              obtain ⟨x, hx⟩ : ∃ x, x = L[k] := ⟨_, rfl⟩
              have hstep := HLA.out.step h0 (by rw [← hjl]; exact hk) hkl hx
              obtain ⟨ad, hade, hadl, hc1⟩ := hDr.rd k hkl
              rw [← hx] at hc1
              obtain ⟨z1, z2, z3⟩ := HLA.out.small x (by rw [hx]; exact List.getElem_mem _)
              have hOl := HLA.out.len
              have HST := Lib.hid hstep
              subst hade
              have q0 : wr.cell? (ad.add (k * 3)) = some (.string (str x.who)) := by have := hc1 0 _ rfl; rwa [add_of_add] at this
              have q1 : wr.cell? ⟨(ad.add (k * 3)).block, (ad.add (k * 3)).off + 1, none⟩ = some (.string (str x.key)) := by have := hc1 1 _ rfl; rwa [add_of_add, add_off _ _ _ (by decide)] at this
              have q2 : wr.cell? ⟨(ad.add (k * 3)).block, (ad.add (k * 3)).off + 2, none⟩ = some (.string (str x.val)) := by have := hc1 2 _ rfl; rwa [add_of_add, add_off _ _ _ (by decide)] at this
              clear hk hle hx hstep hc1
              go_upto_region 22 with (fail)
              clear hlt hjl
              by_cases ha : x.val = []
              · have e1 : (str x.val).toList.isEmpty = true := by rw [ha, str_toList]; rfl
                have HO : Hid (LeftV Z1 Z2 O (L.eraseIdx k)) := Lib.hid (by have := HST.out; rw [if_neg (by unfold someV; simp [ha]), List.append_nil] at this; exact this)
                clear ha
                go_upto_region 24 with (fail)
                refine wp_region_K (fun X : World => Turn (fun k => wr.heap.size ≤ k) wr X) [1, 2, 3, 5, 6, 7, 8] (by kernel_rfl) ?_
                have T0 : Turn (fun k => wr.heap.size ≤ k) wr wr.drew := (Turn.refl _ _).drew
                refine wpK_quiet (f := 4) (by kernel_rfl) (fun _ x _ _ _ h => by cases x <;> exact h) T0 [1, 2, 3, 5, 6, 7, 8] _ _ (by kernel_rfl) (by kernel_rfl) (by kernel_rfl) ?_
                have ne : Nonempty (WorldIn (fun X : World => Turn (fun k => wr.heap.size ≤ k) wr X)) := ⟨⟨_, T0⟩⟩
                conv => arg 5; simp [pick]
                iterate 6 go_big_quiet_step (fail)
                obtain ⟨Y, hY⟩ : ∃ Y, Y = (if c = k + 1 then some ad else (some ad).map (·.add ((k + 1) * 3))) := ⟨_, rfl⟩
                have HY := Lib.hid hY
                refine wpQuiet_value rfl (fun y => exec_cutV _ _ rfl ad L.length c (k + 1) _ (by go_num) rfl rfl hkl hLc HY) ?_
                conv => arg 6; simp only [Act.put, List.setIfInBounds_toArray, List.set_cons_zero, List.set_cons_succ]
                refine wpQuiet_nil ?_
                have hds := hDr.sz
                have hrow1 := row_empty wr.drew 73 3 (base := w.heap.size + 1) hds
                have T1 := T0.alloc (.cells #[] 73)
                have hoff1 : Off (fun k => wr.heap.size ≤ k) (some ad) := fun ad' e hb => by injection e with e; rw [← e] at hb; exact absurd (adlt hDr.rd hkl) (Nat.not_lt.2 hb)
                have hrd1 := (hDr.rd.kept T1 hoff1)
                have hk1 : (L.take k).length = k := by rw [List.length_take]; omega
                have hr1 := (hrd1.take k).reads vlL_len
                rw [hk1] at hr1
                refine wpK_step 0 (by kernel_rfl) rfl ?_
                refine wpList_buildSlice rfl _ _ _ rfl #[] rfl (none_vl _) ?_
                go_wp2
                refine stepQ.mk ⟨fun _ => T1, ?_⟩
                refine wpK_step 4 (by kernel_rfl) rfl ?_
                refine L3.wpList_append_any _ rfl (.tmp 154) (.tmp 157) 32 rfl (w.heap.size + 1) 73 iv _ 3 48 Tryz.underlying32 hiv hv0 hv1 hv2 rfl (by decide) (.slice (some ⟨wr.drew.heap.size, 0, none⟩) 0 0) 0 [] rfl hrow1 (wr.drew.alloc (.cells #[] 73)).heap.size (some ad) k c ((L.take k).flatMap vlL) rfl hr1 (by intro u hu; obtain ⟨x, _, hx⟩ := List.mem_flatMap.1 hu; exact one_vlL x u hx) (by unfold maxLen; omega) (by omega) (by simp only [World.size_alloc]; exact Nat.le_succ_of_le hds) ?_
                intro v2 w2 hrow2 hg2 hat2
                have T2 := T1.grown hg2 (fun i e => by simp only [Value.ownBlock, Option.some.injEq] at e; exact .inl (Nat.le_of_eq e))
                have hrd2 := (hDr.rd.kept T2 hoff1)
                have hc2 := (hrd2.cut (j := k + 1) (cap := c) hkl hLc).reads vlL_len
                rw [List.length_drop, ← hY] at hc2
                clear hY
                go_wp2
                refine stepQ.mk ⟨fun _ => T2, ?_⟩
                refine wpK_step 9 (by kernel_rfl) rfl ?_
                refine L3.wpList_append_any _ rfl (.tmp 158) (.tmp 162) 32 rfl (w.heap.size + 1) 73 iv _ 3 48 Tryz.underlying32 hiv hv0 hv1 hv2 rfl (by decide) v2 (0 + k) ([] ++ (L.take k).flatMap vlL) rfl hrow2 w2.heap.size _ (L.length - (k + 1)) _ ((L.drop (k + 1)).flatMap vlL) rfl hc2 (by intro u hu; obtain ⟨x, _, hx⟩ := List.mem_flatMap.1 hu; exact one_vlL x u hx) (by unfold maxLen; omega) (by omega) (Nat.le_trans hds T2.size) ?_
                intro v3 w3 hrow3 hg3 hat3
                have T3 := T2.grown hg3 (fun i e => .inl (by
                  rcases hat2 with h | h
                  · rw [h] at e; simp only [Value.ownBlock, Option.some.injEq] at e; exact Nat.le_of_eq e
                  · rw [h] at e; simp only [Option.some.injEq, World.size_alloc] at e; rw [← e]; exact Nat.le_succ _))
                have hel : (L.eraseIdx k).length = 0 + k + (L.length - (k + 1)) := by rw [List.length_eraseIdx, if_pos hkl]; omega
                have hec : (L.eraseIdx k).flatMap vlL = [] ++ (L.take k).flatMap vlL ++ (L.drop (k + 1)).flatMap vlL := by rw [List.eraseIdx_eq_take_drop_succ, List.flatMap_append]; rfl
                rw [← hel, ← hec] at hrow3
                obtain ⟨A3, c3, rfl, hA3, hrd3, hof3⟩ := Rd.of_row2 vlL_len hrow3
                have hD3 := hDr.next T3 hrd3 (fun ad e => (hof3 ad e).1)
                have hle3 : (L.eraseIdx k).length < L.length := by omega
                obtain ⟨M, hM⟩ : ∃ M, M = L.eraseIdx k := ⟨_, rfl⟩
                rw [← hM] at hD3 hA3 HO hle3
                rw [← hM]
                clear hM hel hec hrow1 hrow2 hrow3 hrd1 hrd2 hc2 hr1 hk1 hg2 hg3 hat2 hat3 hrd3 hof3 T0 T1 T2
                go_wp2
                refine stepQ.mk ⟨fun _ => T3, ?_⟩
                refine wpK_seq [10] _ _ _ (by kernel_rfl) ?_
                conv => arg 4; simp [pick]
                go_wp2
                go_roundw
                case rel => exact ⟨M, O, A3, c3, rfl, rfl, hA3, hD3, HO⟩
                case measure => exact hle3
              · have e1 : (str x.val).toList.isEmpty = false := by rw [str_toList]; exact List.isEmpty_eq_false_iff.2 ha
                have HO0 : Hid (LeftV Z1 Z2 (O ++ lineV x) (L.eraseIdx k)) := Lib.hid (by have := HST.out; rw [if_pos (by unfold someV; simp [ha])] at this; exact this)
                clear ha
                go_upto_region 23 with (fail)
                have hla : lineV x = ((((x.who ++ [9]) ++ x.key) ++ [9]) ++ x.val) ++ [10] := by unfold lineV; simp
                obtain ⟨y1, hy1⟩ : ∃ y1, y1 = O ++ x.who := ⟨_, rfl⟩
                obtain ⟨y2, hy2⟩ : ∃ y2, y2 = y1 ++ [9] := ⟨_, rfl⟩
                obtain ⟨y3, hy3⟩ : ∃ y3, y3 = y2 ++ x.key := ⟨_, rfl⟩
                obtain ⟨y4, hy4⟩ : ∃ y4, y4 = y3 ++ [9] := ⟨_, rfl⟩
                obtain ⟨y5, hy5⟩ : ∃ y5, y5 = y4 ++ x.val := ⟨_, rfl⟩
                obtain ⟨y6, hy6⟩ : ∃ y6, y6 = y5 ++ [10] := ⟨_, rfl⟩
                have l1 : y1.length ≤ 2000000000 := by rw [hy1, List.length_append]; omega
                have l2 : y2.length ≤ 2000000100 := by rw [hy2]; simp; omega
                have l3 : y3.length ≤ 2000001200 := by rw [hy3, List.length_append]; omega
                have l4 : y4.length ≤ 2000001300 := by rw [hy4]; simp; omega
                have l5 : y5.length ≤ 2000002400 := by rw [hy5, List.length_append]; omega
                have HO : Hid (LeftV Z1 Z2 y6 (L.eraseIdx k)) := Lib.hid (by
                  have e : O ++ lineV x = y6 := by rw [hla, hy6, hy5, hy4, hy3, hy2, hy1]; simp
                  rw [← e]
                  exact HO0.out)
                have Y1 := Lib.hid hy1
                have Y2 := Lib.hid hy2
                have Y3 := Lib.hid hy3
                have Y4 := Lib.hid hy4
                have Y5 := Lib.hid hy5
                have Y6 := Lib.hid hy6
                clear hy1 hy2 hy3 hy4 hy5 hy6 hla HO0
                have hS : hold3v wr (ad.add (k * 3)) x wr.drew := ⟨q0, q1, q2, (Below.refl _ _).drew⟩
                clear q0 q1 q2
                refine wp_region_K (hold3v wr (ad.add (k * 3)) x) [0, 1, 2, 3, 4, 5, 6, 7, 8, 9, 10, 11, 12, 13, 14, 15, 16, 17, 18, 19, 20, 21] (by kernel_rfl) ?_
                refine wpK_quiet (f := 1) (by kernel_rfl) (fun _ x _ _ _ h => by cases x <;> exact h) hS [0, 1, 2, 3, 4, 5, 6, 7, 8, 9, 10, 11, 12, 13, 14, 15, 16, 17, 18, 19, 20, 21] _ _ (by kernel_rfl) (by kernel_rfl) (by kernel_rfl) ?_
                have ne : Nonempty (WorldIn (hold3v wr (ad.add (k * 3)) x)) := ⟨⟨_, hS⟩⟩
                have p0 := fun y : WorldIn (hold3v wr (ad.add (k * 3)) x) => y.h.1
                have p1 := fun y : WorldIn (hold3v wr (ad.add (k * 3)) x) => y.h.2.1
                have p2 := fun y : WorldIn (hold3v wr (ad.add (k * 3)) x) => y.h.2.2.1
                conv => arg 5; simp [pick]
                iterate 6 go_big_quiet_step (fail)
                refine wpQuiet_value rfl (fun y => exec_cat _ _ rfl O x.who Y1 rfl rfl (by omega)) ?_
                conv => arg 6; simp only [Act.put, List.setIfInBounds_toArray, List.set_cons_zero, List.set_cons_succ]
                refine wpQuiet_value rfl (fun y => exec_cat _ _ rfl y1 [9] Y2 rfl rfl (by simp; omega)) ?_
                conv => arg 6; simp only [Act.put, List.setIfInBounds_toArray, List.set_cons_zero, List.set_cons_succ]
                iterate 5 go_big_quiet_step (fail)
                refine wpQuiet_value rfl (fun y => exec_cat _ _ rfl y2 x.key Y3 rfl rfl (by omega)) ?_
                conv => arg 6; simp only [Act.put, List.setIfInBounds_toArray, List.set_cons_zero, List.set_cons_succ]
                refine wpQuiet_value rfl (fun y => exec_cat _ _ rfl y3 [9] Y4 rfl rfl (by simp; omega)) ?_
                conv => arg 6; simp only [Act.put, List.setIfInBounds_toArray, List.set_cons_zero, List.set_cons_succ]
                iterate 5 go_big_quiet_step (fail)
                refine wpQuiet_value rfl (fun y => exec_cat _ _ rfl y4 x.val Y5 rfl rfl (by omega)) ?_
                conv => arg 6; simp only [Act.put, List.setIfInBounds_toArray, List.set_cons_zero, List.set_cons_succ]
                refine wpQuiet_value rfl (fun y => exec_cat _ _ rfl y5 [10] Y6 rfl rfl (by simp; omega)) ?_
                conv => arg 6; simp only [Act.put, List.setIfInBounds_toArray, List.set_cons_zero, List.set_cons_succ]
                refine wpQuiet_nil ?_
                have hDr6 := hDr.below hS.2.2.2
                obtain ⟨w6, hw6⟩ : ∃ w6, w6 = wr.drew := ⟨_, rfl⟩
                rw [← hw6] at hDr6 ⊢
                clear hw6
                refine wpK_seq [22] _ _ _ (by kernel_rfl) ?_
                conv => arg 4; simp [pick]
                go_upto_region 24 with (fail)
                (try simp only [Act.put])
                clear hS p0 p1 p2 ne Y1 Y2 Y3 Y4 Y5 Y6 hD hDr hbr
                refine wp_region_K (fun X : World => Turn (fun k => w6.heap.size ≤ k) w6 X) [1, 2, 3, 5, 6, 7, 8] (by kernel_rfl) ?_
                have T0 : Turn (fun k => w6.heap.size ≤ k) w6 w6.drew := (Turn.refl _ _).drew
                refine wpK_quiet (f := 4) (by kernel_rfl) (fun _ x _ _ _ h => by cases x <;> exact h) T0 [1, 2, 3, 5, 6, 7, 8] _ _ (by kernel_rfl) (by kernel_rfl) (by kernel_rfl) ?_
                have ne : Nonempty (WorldIn (fun X : World => Turn (fun k => w6.heap.size ≤ k) w6 X)) := ⟨⟨_, T0⟩⟩
                conv => arg 5; simp [pick]
                iterate 6 go_big_quiet_step (fail)
                obtain ⟨Y, hY⟩ : ∃ Y, Y = (if c = k + 1 then some ad else (some ad).map (·.add ((k + 1) * 3))) := ⟨_, rfl⟩
                have HY := Lib.hid hY
                refine wpQuiet_value rfl (fun y => exec_cutV _ _ rfl ad L.length c (k + 1) _ (by go_num) rfl rfl hkl hLc HY) ?_
                conv => arg 6; simp only [Act.put, List.setIfInBounds_toArray, List.set_cons_zero, List.set_cons_succ]
                refine wpQuiet_nil ?_
                have hds := hDr6.sz
                have hrow1 := row_empty w6.drew 73 3 (base := w.heap.size + 1) hds
                have T1 := T0.alloc (.cells #[] 73)
                have hoff1 : Off (fun k => w6.heap.size ≤ k) (some ad) := fun ad' e hb => by injection e with e; rw [← e] at hb; exact absurd (adlt hDr6.rd hkl) (Nat.not_lt.2 hb)
                have hrd1 := (hDr6.rd.kept T1 hoff1)
                have hk1 : (L.take k).length = k := by rw [List.length_take]; omega
                have hr1 := (hrd1.take k).reads vlL_len
                rw [hk1] at hr1
                refine wpK_step 0 (by kernel_rfl) rfl ?_
                refine wpList_buildSlice rfl _ _ _ rfl #[] rfl (none_vl _) ?_
                go_wp2
                refine stepQ.mk ⟨fun _ => T1, ?_⟩
                refine wpK_step 4 (by kernel_rfl) rfl ?_
                refine L3.wpList_append_any _ rfl (.tmp 154) (.tmp 157) 32 rfl (w.heap.size + 1) 73 iv _ 3 48 Tryz.underlying32 hiv hv0 hv1 hv2 rfl (by decide) (.slice (some ⟨w6.drew.heap.size, 0, none⟩) 0 0) 0 [] rfl hrow1 (w6.drew.alloc (.cells #[] 73)).heap.size (some ad) k c ((L.take k).flatMap vlL) rfl hr1 (by intro u hu; obtain ⟨x, _, hx⟩ := List.mem_flatMap.1 hu; exact one_vlL x u hx) (by unfold maxLen; omega) (by omega) (by simp only [World.size_alloc]; exact Nat.le_succ_of_le hds) ?_
                intro v2 w2 hrow2 hg2 hat2
                have T2 := T1.grown hg2 (fun i e => by simp only [Value.ownBlock, Option.some.injEq] at e; exact .inl (Nat.le_of_eq e))
                have hrd2 := (hDr6.rd.kept T2 hoff1)
                have hc2 := (hrd2.cut (j := k + 1) (cap := c) hkl hLc).reads vlL_len
                rw [List.length_drop, ← hY] at hc2
                clear hY
                go_wp2
                refine stepQ.mk ⟨fun _ => T2, ?_⟩
                refine wpK_step 9 (by kernel_rfl) rfl ?_
                refine L3.wpList_append_any _ rfl (.tmp 158) (.tmp 162) 32 rfl (w.heap.size + 1) 73 iv _ 3 48 Tryz.underlying32 hiv hv0 hv1 hv2 rfl (by decide) v2 (0 + k) ([] ++ (L.take k).flatMap vlL) rfl hrow2 w2.heap.size _ (L.length - (k + 1)) _ ((L.drop (k + 1)).flatMap vlL) rfl hc2 (by intro u hu; obtain ⟨x, _, hx⟩ := List.mem_flatMap.1 hu; exact one_vlL x u hx) (by unfold maxLen; omega) (by omega) (Nat.le_trans hds T2.size) ?_
                intro v3 w3 hrow3 hg3 hat3
                have T3 := T2.grown hg3 (fun i e => .inl (by
                  rcases hat2 with h | h
                  · rw [h] at e; simp only [Value.ownBlock, Option.some.injEq] at e; exact Nat.le_of_eq e
                  · rw [h] at e; simp only [Option.some.injEq, World.size_alloc] at e; rw [← e]; exact Nat.le_succ _))
                have hel : (L.eraseIdx k).length = 0 + k + (L.length - (k + 1)) := by rw [List.length_eraseIdx, if_pos hkl]; omega
                have hec : (L.eraseIdx k).flatMap vlL = [] ++ (L.take k).flatMap vlL ++ (L.drop (k + 1)).flatMap vlL := by rw [List.eraseIdx_eq_take_drop_succ, List.flatMap_append]; rfl
                rw [← hel, ← hec] at hrow3
                obtain ⟨A3, c3, rfl, hA3, hrd3, hof3⟩ := Rd.of_row2 vlL_len hrow3
                have hD3 := hDr6.next T3 hrd3 (fun ad e => (hof3 ad e).1)
                have hle3 : (L.eraseIdx k).length < L.length := by omega
                obtain ⟨M, hM⟩ : ∃ M, M = L.eraseIdx k := ⟨_, rfl⟩
                rw [← hM] at hD3 hA3 HO hle3
                rw [← hM]
                clear hM hel hec hrow1 hrow2 hrow3 hrd1 hrd2 hc2 hr1 hk1 hg2 hg3 hat2 hat3 hrd3 hof3 T0 T1 T2
                go_wp2
                refine stepQ.mk ⟨fun _ => T3, ?_⟩
                refine wpK_seq [10] _ _ _ (by kernel_rfl) ?_
                conv => arg 4; simp [pick]
                go_wp2
                go_roundw
                case rel => exact ⟨M, y6, A3, c3, rfl, rfl, hA3, hD3, HO⟩
                case measure => exact hle3
    · have hpos : 0 < L.length := by omega
      have hLf : L.length ≤ 100000 := HLA.out.few
      obtain ⟨wo, hwo⟩ : ∃ wo, wo = wr := ⟨_, rfl⟩
      subst hwo
      go_wp2
      go_loopw [5, 6] (fun k i wr => ∃ j : Nat, k = .int .i64 (leastTo less Acc.nm L j : Nat) ∧ i = .int .i64 ((j + 1 : Nat) : Int) ∧ j < L.length ∧ Below wo.heap.size wo wr)
        (fun _ i _ => L.length + 1 - (intOf i).toNat)
      case atStart => exact ⟨0, rfl, rfl, hpos, Below.refl _ _⟩
      case round =>
        obtain ⟨j, rfl, rfl, hj, hbr⟩ := hrel
        have hDr := hD.below hbr
        by_cases hlt : j + 1 < L.length
        · have hle := leastTo_le (lt := less) (f := Acc.nm) L j
          obtain ⟨ad, hade, hadl, hc1⟩ := hDr.rd (j + 1) hlt
          obtain ⟨ad2, hade2, hadl2, hc2⟩ := hDr.rd (leastTo less Acc.nm L j) (by omega)
          subst hade
          injection hade2 with hade2
          subst hade2
          obtain ⟨k, hk⟩ : ∃ k, k = leastTo less Acc.nm L j := ⟨_, rfl⟩
          have hnext : leastTo less Acc.nm L (j + 1) = if less (L.getD (j + 1) default).nm (L.getD k default).nm = true then j + 1 else k := by rw [hk]; rfl
          rw [getD_at hlt, getD_at (show k < L.length by omega)] at hnext
          obtain ⟨x, hx⟩ : ∃ x, x = L[j + 1] := ⟨_, rfl⟩
          obtain ⟨y, hy⟩ : ∃ y, y = L[k] := ⟨_, rfl⟩
          rw [← hx, ← hy] at hnext
          have hxs := (HLA.out.small x (by rw [hx]; exact List.getElem_mem _)).1
          have hys := (HLA.out.small y (by rw [hy]; exact List.getElem_mem _)).1
          have q1 : wr.cell? (ad.add ((j + 1) * 3)) = some (.string (str x.nm)) := by have := hc1 0 _ (by rw [← hx]; rfl); rwa [add_of_add] at this
          have q2 : wr.cell? (ad.add (k * 3)) = some (.string (str y.nm)) := by have := hc2 0 (.string (str y.nm)) (by rw [hy]; simp only [hk]; rfl); rw [add_of_add, ← hk] at this; exact this
          obtain ⟨r, hr⟩ : ∃ r, r = less x.nm y.nm := ⟨_, rfl⟩
          rw [← hr] at hnext
          have HR := Lib.hid hr
          have HN := Lib.hid hnext
          have hkl : k < L.length := by omega
          have HK := Lib.hid hk
          rw [← hk]
          clear hr hnext hk hx hy hc1 hc2 hle
          go_upto_region 8 with (fail)
          have hS : hold2 wo (ad.add ((j + 1) * 3)) (ad.add (k * 3)) x.nm y.nm wr.drew := ⟨q1, q2, hbr.drew⟩
          clear q1 q2
          refine wp_region_K (hold2 wo (ad.add ((j + 1) * 3)) (ad.add (k * 3)) x.nm y.nm) [0, 1, 2, 3, 4, 5, 6, 7, 8, 9] (by kernel_rfl) ?_
          refine wpK_quiet (f := 1) (by kernel_rfl) (fun _ x _ _ _ h => by cases x <;> exact h) hS [0, 1, 2, 3, 4, 5, 6, 7, 8, 9] _ _ (by kernel_rfl) (by kernel_rfl) (by kernel_rfl) ?_
          have ne : Nonempty (WorldIn (hold2 wo (ad.add ((j + 1) * 3)) (ad.add (k * 3)) x.nm y.nm)) := ⟨⟨_, hS⟩⟩
          have p1 := fun y : WorldIn (hold2 wo (ad.add ((j + 1) * 3)) (ad.add (k * 3)) x.nm y.nm) => y.h.1
          have p2 := fun y : WorldIn (hold2 wo (ad.add ((j + 1) * 3)) (ad.add (k * 3)) x.nm y.nm) => y.h.2.1
          conv => arg 5; simp [pick]
          iterate 10 go_big_quiet_step (fail)
          refine wpQuiet_nil ?_
          refine wpK_step 10 (by kernel_rfl) rfl ?_
          go_wp2_with (go_at_call 53; refine (c_refless x.nm y.nm _ hxs hys HR).mono ?_; unfold gives; rintro e w5 ⟨rfl, hb5⟩)
          refine stepQ.mk ⟨fun _ => hS.below hb5, ?_⟩
          refine wpK_seq [] _ _ _ (by kernel_rfl) ?_
          conv => arg 4; simp [pick]
          have hb5 := (hS.below hb5).2.2
          have hkle : k ≤ L.length := by omega
          cases r
          · go_wp2
            go_roundw
            case rel => exact ⟨j + 1, by rw [HN.out, if_neg (by decide)], by go_num, hlt, hb5⟩
            case measure => simp [intOf]; omega
          · go_wp2
            go_roundw
            case rel => exact ⟨j + 1, by rw [HN.out, if_pos rfl]; first | done | rfl | simp, by go_num, hlt, hb5⟩
            case measure => simp [intOf]; omega
        · obtain ⟨k, hk⟩ : ∃ k, k = leastTo less Acc.nm L j := ⟨_, rfl⟩
          obtain hjl : j = L.length - 1 := by omega
          have hle := leastTo_le (lt := less) (f := Acc.nm) L j
          have hkl : k < L.length := by omega
          rw [← hk]
          obtain ⟨x, hx⟩ : ∃ x, x = L[k] := ⟨_, rfl⟩
          have hstep := HLA.out.step h0 (by rw [← hjl]; exact hk) hkl hx
          obtain ⟨ad, hade, hadl, hc1⟩ := hDr.rd k hkl
          rw [← hx] at hc1
          obtain ⟨z1, z2, z3, z4, z5⟩ := HLA.out.small x (by rw [hx]; exact List.getElem_mem _)
          have hOl := HLA.out.len
          have HST := Lib.hid hstep
          subst hade
          have q0 : wr.cell? (ad.add (k * 3)) = some (.string (str x.nm)) := by have := hc1 0 _ rfl; rwa [add_of_add] at this
          have q1 : wr.cell? ⟨(ad.add (k * 3)).block, (ad.add (k * 3)).off + 1, none⟩ = some (.int .i64 x.am) := by have := hc1 1 _ rfl; rwa [add_of_add, add_off _ _ _ (by decide)] at this
          have q2 : wr.cell? ⟨(ad.add (k * 3)).block, (ad.add (k * 3)).off + 2, none⟩ = some (.int .i64 x.no) := by have := hc1 2 _ rfl; rwa [add_of_add, add_off _ _ _ (by decide)] at this
          clear hk hle hx hstep hc1
          go_upto_region 10 with (fail)
          clear hlt hjl
          by_cases ha : x.am = 0
          · by_cases hn : x.no = 0
            · have e1 : (x.am != 0) = false := by rw [ha]; rfl
              have e2 : (x.no != 0) = false := by rw [hn]; rfl
              have HO : Hid (LeftA Z1 O (L.eraseIdx k)) := Lib.hid (by have := HST.out; rw [if_neg (by unfold someA; simp [ha, hn]), List.append_nil] at this; exact this)
              clear ha hn
              go_upto_region 12 with (fail)
              refine wp_region_K (fun X : World => Turn (fun k => wr.heap.size ≤ k) wr X) [1, 2, 3, 5, 6, 7, 8] (by kernel_rfl) ?_
              have T0 : Turn (fun k => wr.heap.size ≤ k) wr wr.drew := (Turn.refl _ _).drew
              refine wpK_quiet (f := 4) (by kernel_rfl) (fun _ x _ _ _ h => by cases x <;> exact h) T0 [1, 2, 3, 5, 6, 7, 8] _ _ (by kernel_rfl) (by kernel_rfl) (by kernel_rfl) ?_
              have ne : Nonempty (WorldIn (fun X : World => Turn (fun k => wr.heap.size ≤ k) wr X)) := ⟨⟨_, T0⟩⟩
              conv => arg 5; simp [pick]
              iterate 6 go_big_quiet_step (fail)
              obtain ⟨Y, hY⟩ : ∃ Y, Y = (if c = k + 1 then some ad else (some ad).map (·.add ((k + 1) * 3))) := ⟨_, rfl⟩
              have HY := Lib.hid hY
              refine wpQuiet_value rfl (fun y => exec_cutA _ _ rfl ad L.length c (k + 1) _ (by go_num) rfl rfl hkl hLc HY) ?_
              conv => arg 6; simp only [Act.put, List.setIfInBounds_toArray, List.set_cons_zero, List.set_cons_succ]
              refine wpQuiet_nil ?_
              have hds := hDr.sz
              have hrow1 := row_empty wr.drew 64 3 (base := w.heap.size + 1) hds
              have T1 := T0.alloc (.cells #[] 64)
              have hoff1 : Off (fun k => wr.heap.size ≤ k) (some ad) := fun ad' e hb => by injection e with e; rw [← e] at hb; exact absurd (adlt hDr.rd hkl) (Nat.not_lt.2 hb)
              have hrd1 := (hDr.rd.kept T1 hoff1)
              have hk1 : (L.take k).length = k := by rw [List.length_take]; omega
              have hr1 := (hrd1.take k).reads accL_len
              rw [hk1] at hr1
              refine wpK_step 0 (by kernel_rfl) rfl ?_
              refine wpList_buildSlice rfl _ _ _ rfl #[] rfl (none_acc _) ?_
              go_wp2
              refine stepQ.mk ⟨fun _ => T1, ?_⟩
              refine wpK_step 4 (by kernel_rfl) rfl ?_
              refine L3.wpList_append_any _ rfl (.tmp 75) (.tmp 78) 31 rfl (w.heap.size + 1) 64 i0 _ 3 32 Tryz.underlying31 hi hz0 hz1 hz2 rfl (by decide) (.slice (some ⟨wr.drew.heap.size, 0, none⟩) 0 0) 0 [] rfl hrow1 (wr.drew.alloc (.cells #[] 64)).heap.size (some ad) k c ((L.take k).flatMap accL) rfl hr1 (by intro u hu; obtain ⟨x, _, hx⟩ := List.mem_flatMap.1 hu; exact one_accL x u hx) (by unfold maxLen; omega) (by omega) (by simp only [World.size_alloc]; exact Nat.le_succ_of_le hds) ?_
              intro v2 w2 hrow2 hg2 hat2
              have T2 := T1.grown hg2 (fun i e => by simp only [Value.ownBlock, Option.some.injEq] at e; exact .inl (Nat.le_of_eq e))
              have hrd2 := (hDr.rd.kept T2 hoff1)
              have hc2 := (hrd2.cut (j := k + 1) (cap := c) hkl hLc).reads accL_len
              rw [List.length_drop, ← hY] at hc2
              clear hY
              go_wp2
              refine stepQ.mk ⟨fun _ => T2, ?_⟩
              refine wpK_step 9 (by kernel_rfl) rfl ?_
              refine L3.wpList_append_any _ rfl (.tmp 79) (.tmp 83) 31 rfl (w.heap.size + 1) 64 i0 _ 3 32 Tryz.underlying31 hi hz0 hz1 hz2 rfl (by decide) v2 (0 + k) ([] ++ (L.take k).flatMap accL) rfl hrow2 w2.heap.size _ (L.length - (k + 1)) _ ((L.drop (k + 1)).flatMap accL) rfl hc2 (by intro u hu; obtain ⟨x, _, hx⟩ := List.mem_flatMap.1 hu; exact one_accL x u hx) (by unfold maxLen; omega) (by omega) (Nat.le_trans hds T2.size) ?_
              intro v3 w3 hrow3 hg3 hat3
              have T3 := T2.grown hg3 (fun i e => .inl (by
                rcases hat2 with h | h
                · rw [h] at e; simp only [Value.ownBlock, Option.some.injEq] at e; exact Nat.le_of_eq e
                · rw [h] at e; simp only [Option.some.injEq, World.size_alloc] at e; rw [← e]; exact Nat.le_succ _))
              have hel : (L.eraseIdx k).length = 0 + k + (L.length - (k + 1)) := by rw [List.length_eraseIdx, if_pos hkl]; omega
              have hec : (L.eraseIdx k).flatMap accL = [] ++ (L.take k).flatMap accL ++ (L.drop (k + 1)).flatMap accL := by rw [List.eraseIdx_eq_take_drop_succ, List.flatMap_append]; rfl
              rw [← hel, ← hec] at hrow3
              obtain ⟨A3, c3, rfl, hA3, hrd3, hof3⟩ := Rd.of_row2 accL_len hrow3
              have hD3 := hDr.next T3 hrd3 (fun ad e => (hof3 ad e).1)
              have hle3 : (L.eraseIdx k).length < L.length := by omega
              obtain ⟨M, hM⟩ : ∃ M, M = L.eraseIdx k := ⟨_, rfl⟩
              rw [← hM] at hD3 hA3 HO hle3
              rw [← hM]
              clear hM hel hec hrow1 hrow2 hrow3 hrd1 hrd2 hc2 hr1 hk1 hg2 hg3 hat2 hat3 hrd3 hof3 T0 T1 T2
              go_wp2
              refine stepQ.mk ⟨fun _ => T3, ?_⟩
              refine wpK_seq [10] _ _ _ (by kernel_rfl) ?_
              conv => arg 4; simp [pick]
              go_wp2
              go_roundw
              case rel => exact ⟨M, O, A3, c3, rfl, rfl, hA3, hD3, HO⟩
              case measure => exact hle3
            · have e1 : (x.am != 0) = false := by rw [ha]; rfl
              have e2 : (x.no != 0) = true := by rw [bne_iff_ne]; exact hn
              have HO0 : Hid (LeftA Z1 (O ++ lineA x) (L.eraseIdx k)) := Lib.hid (by have := HST.out; rw [if_pos (by unfold someA; simp [hn])] at this; exact this)
              clear ha hn
              go_upto_region 11 with (fail)
              have hii := Lib.itoa_length_le x.am (by omega) (by omega)
              have hjj := Lib.itoa_length_le x.no (by omega) (by omega)
              have hI := fun W => ref_itoa x.am W z2 z3
              have hJ := fun W => ref_itoa x.no W z4 z5
              have hla : lineA x = ((((x.nm ++ [32]) ++ itoa x.am) ++ [32]) ++ itoa x.no) ++ [10] := by unfold lineA; simp
              obtain ⟨ti, hti⟩ : ∃ ti, ti = itoa x.am := ⟨_, rfl⟩
              obtain ⟨tj, htj⟩ : ∃ tj, tj = itoa x.no := ⟨_, rfl⟩
              rw [← hti] at hI hii hla
              rw [← htj] at hJ hjj hla
              obtain ⟨y1, hy1⟩ : ∃ y1, y1 = O ++ x.nm := ⟨_, rfl⟩
              obtain ⟨y2, hy2⟩ : ∃ y2, y2 = y1 ++ [32] := ⟨_, rfl⟩
              obtain ⟨y3, hy3⟩ : ∃ y3, y3 = y2 ++ ti := ⟨_, rfl⟩
              obtain ⟨y4, hy4⟩ : ∃ y4, y4 = y3 ++ [32] := ⟨_, rfl⟩
              obtain ⟨y5, hy5⟩ : ∃ y5, y5 = y4 ++ tj := ⟨_, rfl⟩
              obtain ⟨y6, hy6⟩ : ∃ y6, y6 = y5 ++ [10] := ⟨_, rfl⟩
              have l1 : y1.length ≤ 2000000000 := by rw [hy1, List.length_append]; omega
              have l2 : y2.length ≤ 2000000100 := by rw [hy2]; simp; omega
              have l3 : y3.length ≤ 2000000200 := by rw [hy3, List.length_append]; omega
              have l4 : y4.length ≤ 2000000300 := by rw [hy4]; simp; omega
              have l5 : y5.length ≤ 2000000400 := by rw [hy5, List.length_append]; omega
              have HO : Hid (LeftA Z1 y6 (L.eraseIdx k)) := Lib.hid (by
                have e : O ++ lineA x = y6 := by rw [hla, hy6, hy5, hy4, hy3, hy2, hy1]; simp
                rw [← e]
                exact HO0.out)
              have Y1 := Lib.hid hy1
              have Y2 := Lib.hid hy2
              have Y3 := Lib.hid hy3
              have Y4 := Lib.hid hy4
              have Y5 := Lib.hid hy5
              have Y6 := Lib.hid hy6
              have HI := Lib.hid hI
              have HJ := Lib.hid hJ
              clear hy1 hy2 hy3 hy4 hy5 hy6 hI hJ hti htj hla HO0
              have hS : hold3 wr (ad.add (k * 3)) x.nm x.am x.no wr.drew := ⟨q0, q1, q2, (Below.refl _ _).drew⟩
              clear q0 q1 q2
              refine wp_region_K (hold3 wr (ad.add (k * 3)) x.nm x.am x.no) [0, 1, 2, 3, 4, 5, 6, 7, 8, 9, 10, 11, 12, 14, 15, 16, 17, 18, 19, 20, 22, 23] (by kernel_rfl) ?_
              refine wpK_quiet (f := 7) (by kernel_rfl) (fun _ x _ _ _ h => by cases x <;> exact h) hS [0, 1, 2, 3, 4, 5, 6, 7, 8, 9, 10, 11, 12, 16, 17, 18, 19, 20] _ _ (by kernel_rfl) (by kernel_rfl) (by kernel_rfl) ?_
              have ne : Nonempty (WorldIn (hold3 wr (ad.add (k * 3)) x.nm x.am x.no)) := ⟨⟨_, hS⟩⟩
              have p0 := fun y : WorldIn (hold3 wr (ad.add (k * 3)) x.nm x.am x.no) => y.h.1
              have p1 := fun y : WorldIn (hold3 wr (ad.add (k * 3)) x.nm x.am x.no) => y.h.2.1
              have p2 := fun y : WorldIn (hold3 wr (ad.add (k * 3)) x.nm x.am x.no) => y.h.2.2.1
              conv => arg 5; simp [pick]
              iterate 6 go_big_quiet_step (fail)
              refine wpQuiet_value rfl (fun y => exec_cat _ _ rfl O x.nm Y1 rfl rfl (by omega)) ?_
              conv => arg 6; simp only [Act.put, List.setIfInBounds_toArray, List.set_cons_zero, List.set_cons_succ]
              refine wpQuiet_value rfl (fun y => exec_cat _ _ rfl y1 [32] Y2 rfl rfl (by simp; omega)) ?_
              conv => arg 6; simp only [Act.put, List.setIfInBounds_toArray, List.set_cons_zero, List.set_cons_succ]
              iterate 10 go_big_quiet_step (fail)
              refine wpQuiet_nil ?_
              refine wpK_step 13 (by kernel_rfl) rfl ?_
              go_wp2_with (go_at_call 54; refine (HI.out _).mono ?_; unfold gives; rintro e w5 ⟨rfl, hb5⟩)
              refine stepQ.mk ⟨fun _ => hS.below hb5, ?_⟩
              refine wpK_quiet (f := 4) (by kernel_rfl) (fun _ x _ _ _ h => by cases x <;> exact h) (hS.below hb5) [14, 15] _ _ (by kernel_rfl) (by kernel_rfl) (by kernel_rfl) ?_
              conv => arg 5; simp [pick]
              refine wpQuiet_value rfl (fun y => exec_cat _ _ rfl y2 ti Y3 rfl rfl (by omega)) ?_
              conv => arg 6; simp only [Act.put, List.setIfInBounds_toArray, List.set_cons_zero, List.set_cons_succ]
              refine wpQuiet_value rfl (fun y => exec_cat _ _ rfl y3 [32] Y4 rfl rfl (by simp; omega)) ?_
              conv => arg 6; simp only [Act.put, List.setIfInBounds_toArray, List.set_cons_zero, List.set_cons_succ]
              refine wpQuiet_nil ?_
              refine wpK_step 21 (by kernel_rfl) rfl ?_
              go_wp2_with (go_at_call 54; refine (HJ.out _).mono ?_; unfold gives; rintro e w6 ⟨rfl, hb6⟩)
              refine stepQ.mk ⟨fun _ => (hS.below hb5).below hb6, ?_⟩
              refine wpK_quiet (f := 1) (by kernel_rfl) (fun _ x _ _ _ h => by cases x <;> exact h) ((hS.below hb5).below hb6) [22, 23] _ _ (by kernel_rfl) (by kernel_rfl) (by kernel_rfl) ?_
              conv => arg 5; simp [pick]
              refine wpQuiet_value rfl (fun y => exec_cat _ _ rfl y4 tj Y5 rfl rfl (by omega)) ?_
              conv => arg 6; simp only [Act.put, List.setIfInBounds_toArray, List.set_cons_zero, List.set_cons_succ]
              refine wpQuiet_value rfl (fun y => exec_cat _ _ rfl y5 [10] Y6 rfl rfl (by simp; omega)) ?_
              conv => arg 6; simp only [Act.put, List.setIfInBounds_toArray, List.set_cons_zero, List.set_cons_succ]
              refine wpQuiet_nil ?_
              have hDr6 := hDr.below ((hS.below hb5).below hb6).2.2.2
              refine wpK_seq [24] _ _ _ (by kernel_rfl) ?_
              conv => arg 4; simp [pick]
              go_upto_region 12 with (fail)
              (try simp only [Act.put])
              clear hS p0 p1 p2 ne HI HJ Y1 Y2 Y3 Y4 Y5 Y6 hD hDr hbr
              refine wp_region_K (fun X : World => Turn (fun k => w6.heap.size ≤ k) w6 X) [1, 2, 3, 5, 6, 7, 8] (by kernel_rfl) ?_
              have T0 : Turn (fun k => w6.heap.size ≤ k) w6 w6.drew := (Turn.refl _ _).drew
              refine wpK_quiet (f := 4) (by kernel_rfl) (fun _ x _ _ _ h => by cases x <;> exact h) T0 [1, 2, 3, 5, 6, 7, 8] _ _ (by kernel_rfl) (by kernel_rfl) (by kernel_rfl) ?_
              have ne : Nonempty (WorldIn (fun X : World => Turn (fun k => w6.heap.size ≤ k) w6 X)) := ⟨⟨_, T0⟩⟩
              conv => arg 5; simp [pick]
              iterate 6 go_big_quiet_step (fail)
              obtain ⟨Y, hY⟩ : ∃ Y, Y = (if c = k + 1 then some ad else (some ad).map (·.add ((k + 1) * 3))) := ⟨_, rfl⟩
              have HY := Lib.hid hY
              refine wpQuiet_value rfl (fun y => exec_cutA _ _ rfl ad L.length c (k + 1) _ (by go_num) rfl rfl hkl hLc HY) ?_
              conv => arg 6; simp only [Act.put, List.setIfInBounds_toArray, List.set_cons_zero, List.set_cons_succ]
              refine wpQuiet_nil ?_
              have hds := hDr6.sz
              have hrow1 := row_empty w6.drew 64 3 (base := w.heap.size + 1) hds
              have T1 := T0.alloc (.cells #[] 64)
              have hoff1 : Off (fun k => w6.heap.size ≤ k) (some ad) := fun ad' e hb => by injection e with e; rw [← e] at hb; exact absurd (adlt hDr6.rd hkl) (Nat.not_lt.2 hb)
              have hrd1 := (hDr6.rd.kept T1 hoff1)
              have hk1 : (L.take k).length = k := by rw [List.length_take]; omega
              have hr1 := (hrd1.take k).reads accL_len
              rw [hk1] at hr1
              refine wpK_step 0 (by kernel_rfl) rfl ?_
              refine wpList_buildSlice rfl _ _ _ rfl #[] rfl (none_acc _) ?_
              go_wp2
              refine stepQ.mk ⟨fun _ => T1, ?_⟩
              refine wpK_step 4 (by kernel_rfl) rfl ?_
              refine L3.wpList_append_any _ rfl (.tmp 75) (.tmp 78) 31 rfl (w.heap.size + 1) 64 i0 _ 3 32 Tryz.underlying31 hi hz0 hz1 hz2 rfl (by decide) (.slice (some ⟨w6.drew.heap.size, 0, none⟩) 0 0) 0 [] rfl hrow1 (w6.drew.alloc (.cells #[] 64)).heap.size (some ad) k c ((L.take k).flatMap accL) rfl hr1 (by intro u hu; obtain ⟨x, _, hx⟩ := List.mem_flatMap.1 hu; exact one_accL x u hx) (by unfold maxLen; omega) (by omega) (by simp only [World.size_alloc]; exact Nat.le_succ_of_le hds) ?_
              intro v2 w2 hrow2 hg2 hat2
              have T2 := T1.grown hg2 (fun i e => by simp only [Value.ownBlock, Option.some.injEq] at e; exact .inl (Nat.le_of_eq e))
              have hrd2 := (hDr6.rd.kept T2 hoff1)
              have hc2 := (hrd2.cut (j := k + 1) (cap := c) hkl hLc).reads accL_len
              rw [List.length_drop, ← hY] at hc2
              clear hY
              go_wp2
              refine stepQ.mk ⟨fun _ => T2, ?_⟩
              refine wpK_step 9 (by kernel_rfl) rfl ?_
              refine L3.wpList_append_any _ rfl (.tmp 79) (.tmp 83) 31 rfl (w.heap.size + 1) 64 i0 _ 3 32 Tryz.underlying31 hi hz0 hz1 hz2 rfl (by decide) v2 (0 + k) ([] ++ (L.take k).flatMap accL) rfl hrow2 w2.heap.size _ (L.length - (k + 1)) _ ((L.drop (k + 1)).flatMap accL) rfl hc2 (by intro u hu; obtain ⟨x, _, hx⟩ := List.mem_flatMap.1 hu; exact one_accL x u hx) (by unfold maxLen; omega) (by omega) (Nat.le_trans hds T2.size) ?_
              intro v3 w3 hrow3 hg3 hat3
              have T3 := T2.grown hg3 (fun i e => .inl (by
                rcases hat2 with h | h
                · rw [h] at e; simp only [Value.ownBlock, Option.some.injEq] at e; exact Nat.le_of_eq e
                · rw [h] at e; simp only [Option.some.injEq, World.size_alloc] at e; rw [← e]; exact Nat.le_succ _))
              have hel : (L.eraseIdx k).length = 0 + k + (L.length - (k + 1)) := by rw [List.length_eraseIdx, if_pos hkl]; omega
              have hec : (L.eraseIdx k).flatMap accL = [] ++ (L.take k).flatMap accL ++ (L.drop (k + 1)).flatMap accL := by rw [List.eraseIdx_eq_take_drop_succ, List.flatMap_append]; rfl
              rw [← hel, ← hec] at hrow3
              obtain ⟨A3, c3, rfl, hA3, hrd3, hof3⟩ := Rd.of_row2 accL_len hrow3
              have hD3 := hDr6.next T3 hrd3 (fun ad e => (hof3 ad e).1)
              have hle3 : (L.eraseIdx k).length < L.length := by omega
              obtain ⟨M, hM⟩ : ∃ M, M = L.eraseIdx k := ⟨_, rfl⟩
              rw [← hM] at hD3 hA3 HO hle3
              rw [← hM]
              clear hM hel hec hrow1 hrow2 hrow3 hrd1 hrd2 hc2 hr1 hk1 hg2 hg3 hat2 hat3 hrd3 hof3 T0 T1 T2
              go_wp2
              refine stepQ.mk ⟨fun _ => T3, ?_⟩
              refine wpK_seq [10] _ _ _ (by kernel_rfl) ?_
              conv => arg 4; simp [pick]
              go_wp2
              go_roundw
              case rel => exact ⟨M, y6, A3, c3, rfl, rfl, hA3, hD3, HO⟩
              case measure => exact hle3
          · have e1 : (x.am != 0) = true := by rw [bne_iff_ne]; exact ha
            have HO0 : Hid (LeftA Z1 (O ++ lineA x) (L.eraseIdx k)) := Lib.hid (by have := HST.out; rw [if_pos (by unfold someA; simp [ha])] at this; exact this)
            clear ha
            go_upto_region 11 with (fail)
            have hii := Lib.itoa_length_le x.am (by omega) (by omega)
            have hjj := Lib.itoa_length_le x.no (by omega) (by omega)
            have hI := fun W => ref_itoa x.am W z2 z3
            have hJ := fun W => ref_itoa x.no W z4 z5
            have hla : lineA x = ((((x.nm ++ [32]) ++ itoa x.am) ++ [32]) ++ itoa x.no) ++ [10] := by unfold lineA; simp
            obtain ⟨ti, hti⟩ : ∃ ti, ti = itoa x.am := ⟨_, rfl⟩
            obtain ⟨tj, htj⟩ : ∃ tj, tj = itoa x.no := ⟨_, rfl⟩
            rw [← hti] at hI hii hla
            rw [← htj] at hJ hjj hla
            obtain ⟨y1, hy1⟩ : ∃ y1, y1 = O ++ x.nm := ⟨_, rfl⟩
            obtain ⟨y2, hy2⟩ : ∃ y2, y2 = y1 ++ [32] := ⟨_, rfl⟩
            obtain ⟨y3, hy3⟩ : ∃ y3, y3 = y2 ++ ti := ⟨_, rfl⟩
            obtain ⟨y4, hy4⟩ : ∃ y4, y4 = y3 ++ [32] := ⟨_, rfl⟩
            obtain ⟨y5, hy5⟩ : ∃ y5, y5 = y4 ++ tj := ⟨_, rfl⟩
            obtain ⟨y6, hy6⟩ : ∃ y6, y6 = y5 ++ [10] := ⟨_, rfl⟩
            have l1 : y1.length ≤ 2000000000 := by rw [hy1, List.length_append]; omega
            have l2 : y2.length ≤ 2000000100 := by rw [hy2]; simp; omega
            have l3 : y3.length ≤ 2000000200 := by rw [hy3, List.length_append]; omega
            have l4 : y4.length ≤ 2000000300 := by rw [hy4]; simp; omega
            have l5 : y5.length ≤ 2000000400 := by rw [hy5, List.length_append]; omega
            have HO : Hid (LeftA Z1 y6 (L.eraseIdx k)) := Lib.hid (by
              have e : O ++ lineA x = y6 := by rw [hla, hy6, hy5, hy4, hy3, hy2, hy1]; simp
              rw [← e]
              exact HO0.out)
            have Y1 := Lib.hid hy1
            have Y2 := Lib.hid hy2
            have Y3 := Lib.hid hy3
            have Y4 := Lib.hid hy4
            have Y5 := Lib.hid hy5
            have Y6 := Lib.hid hy6
            have HI := Lib.hid hI
            have HJ := Lib.hid hJ
            clear hy1 hy2 hy3 hy4 hy5 hy6 hI hJ hti htj hla HO0
            have hS : hold3 wr (ad.add (k * 3)) x.nm x.am x.no wr.drew := ⟨q0, q1, q2, (Below.refl _ _).drew⟩
            clear q0 q1 q2
            refine wp_region_K (hold3 wr (ad.add (k * 3)) x.nm x.am x.no) [0, 1, 2, 3, 4, 5, 6, 7, 8, 9, 10, 11, 12, 14, 15, 16, 17, 18, 19, 20, 22, 23] (by kernel_rfl) ?_
            refine wpK_quiet (f := 7) (by kernel_rfl) (fun _ x _ _ _ h => by cases x <;> exact h) hS [0, 1, 2, 3, 4, 5, 6, 7, 8, 9, 10, 11, 12, 16, 17, 18, 19, 20] _ _ (by kernel_rfl) (by kernel_rfl) (by kernel_rfl) ?_
            have ne : Nonempty (WorldIn (hold3 wr (ad.add (k * 3)) x.nm x.am x.no)) := ⟨⟨_, hS⟩⟩
            have p0 := fun y : WorldIn (hold3 wr (ad.add (k * 3)) x.nm x.am x.no) => y.h.1
            have p1 := fun y : WorldIn (hold3 wr (ad.add (k * 3)) x.nm x.am x.no) => y.h.2.1
            have p2 := fun y : WorldIn (hold3 wr (ad.add (k * 3)) x.nm x.am x.no) => y.h.2.2.1
            conv => arg 5; simp [pick]
            iterate 6 go_big_quiet_step (fail)
            refine wpQuiet_value rfl (fun y => exec_cat _ _ rfl O x.nm Y1 rfl rfl (by omega)) ?_
            conv => arg 6; simp only [Act.put, List.setIfInBounds_toArray, List.set_cons_zero, List.set_cons_succ]
            refine wpQuiet_value rfl (fun y => exec_cat _ _ rfl y1 [32] Y2 rfl rfl (by simp; omega)) ?_
            conv => arg 6; simp only [Act.put, List.setIfInBounds_toArray, List.set_cons_zero, List.set_cons_succ]
            iterate 10 go_big_quiet_step (fail)
            refine wpQuiet_nil ?_
            refine wpK_step 13 (by kernel_rfl) rfl ?_
            go_wp2_with (go_at_call 54; refine (HI.out _).mono ?_; unfold gives; rintro e w5 ⟨rfl, hb5⟩)
            refine stepQ.mk ⟨fun _ => hS.below hb5, ?_⟩
            refine wpK_quiet (f := 4) (by kernel_rfl) (fun _ x _ _ _ h => by cases x <;> exact h) (hS.below hb5) [14, 15] _ _ (by kernel_rfl) (by kernel_rfl) (by kernel_rfl) ?_
            conv => arg 5; simp [pick]
            refine wpQuiet_value rfl (fun y => exec_cat _ _ rfl y2 ti Y3 rfl rfl (by omega)) ?_
            conv => arg 6; simp only [Act.put, List.setIfInBounds_toArray, List.set_cons_zero, List.set_cons_succ]
            refine wpQuiet_value rfl (fun y => exec_cat _ _ rfl y3 [32] Y4 rfl rfl (by simp; omega)) ?_
            conv => arg 6; simp only [Act.put, List.setIfInBounds_toArray, List.set_cons_zero, List.set_cons_succ]
            refine wpQuiet_nil ?_
            refine wpK_step 21 (by kernel_rfl) rfl ?_
            go_wp2_with (go_at_call 54; refine (HJ.out _).mono ?_; unfold gives; rintro e w6 ⟨rfl, hb6⟩)
            refine stepQ.mk ⟨fun _ => (hS.below hb5).below hb6, ?_⟩
            refine wpK_quiet (f := 1) (by kernel_rfl) (fun _ x _ _ _ h => by cases x <;> exact h) ((hS.below hb5).below hb6) [22, 23] _ _ (by kernel_rfl) (by kernel_rfl) (by kernel_rfl) ?_
            conv => arg 5; simp [pick]
            refine wpQuiet_value rfl (fun y => exec_cat _ _ rfl y4 tj Y5 rfl rfl (by omega)) ?_
            conv => arg 6; simp only [Act.put, List.setIfInBounds_toArray, List.set_cons_zero, List.set_cons_succ]
            refine wpQuiet_value rfl (fun y => exec_cat _ _ rfl y5 [10] Y6 rfl rfl (by simp; omega)) ?_
            conv => arg 6; simp only [Act.put, List.setIfInBounds_toArray, List.set_cons_zero, List.set_cons_succ]
            refine wpQuiet_nil ?_
            have hDr6 := hDr.below ((hS.below hb5).below hb6).2.2.2
            refine wpK_seq [24] _ _ _ (by kernel_rfl) ?_
            conv => arg 4; simp [pick]
            go_upto_region 12 with (fail)
            (try simp only [Act.put])
            clear hS p0 p1 p2 ne HI HJ Y1 Y2 Y3 Y4 Y5 Y6 hD hDr hbr
            refine wp_region_K (fun X : World => Turn (fun k => w6.heap.size ≤ k) w6 X) [1, 2, 3, 5, 6, 7, 8] (by kernel_rfl) ?_
            have T0 : Turn (fun k => w6.heap.size ≤ k) w6 w6.drew := (Turn.refl _ _).drew
            refine wpK_quiet (f := 4) (by kernel_rfl) (fun _ x _ _ _ h => by cases x <;> exact h) T0 [1, 2, 3, 5, 6, 7, 8] _ _ (by kernel_rfl) (by kernel_rfl) (by kernel_rfl) ?_
            have ne : Nonempty (WorldIn (fun X : World => Turn (fun k => w6.heap.size ≤ k) w6 X)) := ⟨⟨_, T0⟩⟩
            conv => arg 5; simp [pick]
            iterate 6 go_big_quiet_step (fail)
            obtain ⟨Y, hY⟩ : ∃ Y, Y = (if c = k + 1 then some ad else (some ad).map (·.add ((k + 1) * 3))) := ⟨_, rfl⟩
            have HY := Lib.hid hY
            refine wpQuiet_value rfl (fun y => exec_cutA _ _ rfl ad L.length c (k + 1) _ (by go_num) rfl rfl hkl hLc HY) ?_
            conv => arg 6; simp only [Act.put, List.setIfInBounds_toArray, List.set_cons_zero, List.set_cons_succ]
            refine wpQuiet_nil ?_
            have hds := hDr6.sz
            have hrow1 := row_empty w6.drew 64 3 (base := w.heap.size + 1) hds
            have T1 := T0.alloc (.cells #[] 64)
            have hoff1 : Off (fun k => w6.heap.size ≤ k) (some ad) := fun ad' e hb => by injection e with e; rw [← e] at hb; exact absurd (adlt hDr6.rd hkl) (Nat.not_lt.2 hb)
            have hrd1 := (hDr6.rd.kept T1 hoff1)
            have hk1 : (L.take k).length = k := by rw [List.length_take]; omega
            have hr1 := (hrd1.take k).reads accL_len
            rw [hk1] at hr1
            refine wpK_step 0 (by kernel_rfl) rfl ?_
            refine wpList_buildSlice rfl _ _ _ rfl #[] rfl (none_acc _) ?_
            go_wp2
            refine stepQ.mk ⟨fun _ => T1, ?_⟩
            refine wpK_step 4 (by kernel_rfl) rfl ?_
            refine L3.wpList_append_any _ rfl (.tmp 75) (.tmp 78) 31 rfl (w.heap.size + 1) 64 i0 _ 3 32 Tryz.underlying31 hi hz0 hz1 hz2 rfl (by decide) (.slice (some ⟨w6.drew.heap.size, 0, none⟩) 0 0) 0 [] rfl hrow1 (w6.drew.alloc (.cells #[] 64)).heap.size (some ad) k c ((L.take k).flatMap accL) rfl hr1 (by intro u hu; obtain ⟨x, _, hx⟩ := List.mem_flatMap.1 hu; exact one_accL x u hx) (by unfold maxLen; omega) (by omega) (by simp only [World.size_alloc]; exact Nat.le_succ_of_le hds) ?_
            intro v2 w2 hrow2 hg2 hat2
            have T2 := T1.grown hg2 (fun i e => by simp only [Value.ownBlock, Option.some.injEq] at e; exact .inl (Nat.le_of_eq e))
            have hrd2 := (hDr6.rd.kept T2 hoff1)
            have hc2 := (hrd2.cut (j := k + 1) (cap := c) hkl hLc).reads accL_len
            rw [List.length_drop, ← hY] at hc2
            clear hY
            go_wp2
            refine stepQ.mk ⟨fun _ => T2, ?_⟩
            refine wpK_step 9 (by kernel_rfl) rfl ?_
            refine L3.wpList_append_any _ rfl (.tmp 79) (.tmp 83) 31 rfl (w.heap.size + 1) 64 i0 _ 3 32 Tryz.underlying31 hi hz0 hz1 hz2 rfl (by decide) v2 (0 + k) ([] ++ (L.take k).flatMap accL) rfl hrow2 w2.heap.size _ (L.length - (k + 1)) _ ((L.drop (k + 1)).flatMap accL) rfl hc2 (by intro u hu; obtain ⟨x, _, hx⟩ := List.mem_flatMap.1 hu; exact one_accL x u hx) (by unfold maxLen; omega) (by omega) (Nat.le_trans hds T2.size) ?_
            intro v3 w3 hrow3 hg3 hat3
            have T3 := T2.grown hg3 (fun i e => .inl (by
              rcases hat2 with h | h
              · rw [h] at e; simp only [Value.ownBlock, Option.some.injEq] at e; exact Nat.le_of_eq e
              · rw [h] at e; simp only [Option.some.injEq, World.size_alloc] at e; rw [← e]; exact Nat.le_succ _))
            have hel : (L.eraseIdx k).length = 0 + k + (L.length - (k + 1)) := by rw [List.length_eraseIdx, if_pos hkl]; omega
            have hec : (L.eraseIdx k).flatMap accL = [] ++ (L.take k).flatMap accL ++ (L.drop (k + 1)).flatMap accL := by rw [List.eraseIdx_eq_take_drop_succ, List.flatMap_append]; rfl
            rw [← hel, ← hec] at hrow3
            obtain ⟨A3, c3, rfl, hA3, hrd3, hof3⟩ := Rd.of_row2 accL_len hrow3
            have hD3 := hDr6.next T3 hrd3 (fun ad e => (hof3 ad e).1)
            have hle3 : (L.eraseIdx k).length < L.length := by omega
            obtain ⟨M, hM⟩ : ∃ M, M = L.eraseIdx k := ⟨_, rfl⟩
            rw [← hM] at hD3 hA3 HO hle3
            rw [← hM]
            clear hM hel hec hrow1 hrow2 hrow3 hrd1 hrd2 hc2 hr1 hk1 hg2 hg3 hat2 hat3 hrd3 hof3 T0 T1 T2
            go_wp2
            refine stepQ.mk ⟨fun _ => T3, ?_⟩
            refine wpK_seq [10] _ _ _ (by kernel_rfl) ?_
            conv => arg 4; simp [pick]
            go_wp2
            go_roundw
            case rel => exact ⟨M, y6, A3, c3, rfl, rfl, hA3, hD3, HO⟩
            case measure => exact hle3
end Go.Proofs.YthkgadjiiapfgaaGreatDoor
