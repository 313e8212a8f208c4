import Derived.Test.YtomaaidhmccngaaGreatDoorL6Foot
import Derived.Test.YtomaaidhmccngaaGreatDoorShelf
set_option linter.unusedSimpArgs false
set_option linter.unusedVariables false
set_option maxRecDepth 100000
set_option maxHeartbeats 16000000
namespace Go.Proofs.YtomaaidhmccngaaGreatDoor.L5
open Go.RowKit L3 L6
def idxFrom : Nat -> List ByteArray -> ByteArray -> Nat
 | _, [], _ => 0
 | k, x :: l, s => if x = s then k + 1 else idxFrom (k + 1) l s
def idx (L : List ByteArray) (s : ByteArray) : Nat := idxFrom 0 L s
theorem qfQ : ∀ (L : List ByteArray) (k : Nat) (s : ByteArray), idxFrom k L s <= k + L.length
 | [], k, s => by simp [idxFrom]
 | x :: l, k, s => by
   unfold idxFrom
   split
   ·simp
   ·have := qfQ l (k + 1) s
    simp; omega
theorem idx_le (L : List ByteArray) (s : ByteArray) : idx L s <= L.length := by have := qfQ L 0 s; unfold idx; omega
theorem qe7 : ∀ (L : List ByteArray) (k : Nat) (t s : ByteArray), idxFrom k (L ++ [t]) s = if idxFrom k L s = 0 then (if t = s then k + L.length + 1 else 0) else idxFrom k L s
 | [], k, t, s => by simp [idxFrom]
 | x :: l, k, t, s => by
   show (if x = s then k + 1 else idxFrom (k + 1) (l ++ [t]) s) = if (if x = s then k + 1 else idxFrom (k + 1) l s) = 0 then _ else (if x = s then k + 1 else idxFrom (k + 1) l s)
   by_cases h : x = s
   ·simp [h]
   ·rw [if_neg h, if_neg h, qe7 l (k + 1) t s]
    simp only [List.length_cons]
    rw [show k + 1 + l.length + 1 = k + (l.length + 1) + 1 by omega]
theorem idx_snoc (L : List ByteArray) (t s : ByteArray) : idx (L ++ [t]) s = if idx L s = 0 then (if t = s then L.length + 1 else 0) else idx L s := by
 unfold idx
 rw [qe7 L 0 t s, Nat.zero_add]
theorem qhu {L : List ByteArray} {k j : Nat} {s : ByteArray} (hk : k < L.length) : idxFrom j (L.drop k) s = if L[k] = s then j + 1 else idxFrom (j + 1) (L.drop (k + 1)) s := by
 rw [List.drop_eq_getElem_cons hk]; rfl
def enterL (L : List ByteArray) (s : ByteArray) : List ByteArray := if 65536 < s.size then L else if idx L s = 0 then L ++ [s] else L
def enterN (L : List ByteArray) (s : ByteArray) : Nat := if 65536 < s.size then 0 else if idx L s = 0 then L.length + 1 else idx L s
def enterE (s : ByteArray) : Nat := if 65536 < s.size then 2 else 0
theorem qkk (L : List ByteArray) (s : ByteArray) : L.length <= (enterL L s).length /\ (enterL L s).length <= L.length + 1 := by
 unfold enterL
 split
 ·omega
 ·split
  ·simp
  ·omega
theorem bytes_inj {s t : ByteArray} (h : s.data.toList = t.data.toList) : s = t := by
 obtain ⟨⟨a⟩⟩ := s
 obtain ⟨⟨b⟩⟩ := t
 simp at h
 rw [h]
def keyL (s : ByteArray) : Lit := .string s.data.toList
def numD (n : Nat) : DataW Unit := .lit (.int .i64 (n : Int))
theorem keyL_ne {s t : ByteArray} (h : s ≠ t) : keyL s ≠ keyL t := fun e => h (bytes_inj (by unfold keyL at e; injection e))
def Fits (D : DataW Unit) (L : List ByteArray) : Prop := ∀ s, Maps.has D (keyL s) = decide (0 < idx L s) /\ D.atKey (keyL s) (numD 0) = numD (idx L s)
theorem Fits.nil : Fits (.map []) [] := fun s => ⟨rfl, rfl⟩
theorem Fits.put {D : DataW Unit} {L : List ByteArray} {s : ByteArray} (h : Fits D L) (hm : Maps.IsMap D) (hs : idx L s = 0) : Fits (D.put (keyL s) (numD (L.length + 1))) (L ++ [s]) := by
 intro t
 rw [idx_snoc]
 by_cases e : s = t
 ·subst e
  rw [if_pos hs, if_pos rfl]
  exact ⟨by rw [Maps.has_put_same hm (by simp [keyL, WideAt.IsKeyLit])]; simp, Maps.atKey_put_same hm (by simp [keyL, WideAt.IsKeyLit]) _ _⟩
 ·have hne : keyL t ≠ keyL s := fun h' => keyL_ne e h'.symm
  have h' := h t
  rw [Maps.has_put_other hne, Maps.atKey_put_other hne]
  by_cases h0 : idx L t = 0
  ·rw [if_pos h0, if_neg e]; rw [h0] at h'; exact h'
  ·rw [if_neg h0]; exact h'
end Go.Proofs.YtomaaidhmccngaaGreatDoor.L5
namespace Go.Proofs.YtomaaidhmccngaaGreatDoor.L5
open Go.RowKit Go.Maps L3 L6
theorem strInfo : (Tryz.prog.info? 9).map (fun i => (i.zero, i.size, i.bytes)) = some (some (.string ⟨#[]⟩), 1, 16) := by kernel_rfl
theorem kd : Keyed Tryz.prog 9 := string_keyed Tryz.underlying9
theorem zeroInt (w : World) : (zeroValue 3).run Tryz.prog w = .ok (.int .i64 0) w := by kernel_rfl
def txt (L : List ByteArray) : List Value := L.map Value.string
theorem qjD (L : List ByteArray) (s : ByteArray) : txt (L ++ [s]) = txt L ++ [.string s] := by simp [txt]
theorem txt_one (L : List ByteArray) : ∀ u ∈ txt L, u.oneCell' = true := by
 intro u hu
 simp only [txt, List.mem_map] at hu
 obtain ⟨s, _, rfl⟩ := hu
 rfl
theorem num_wf {n : Nat} (h : n <= 9223372036854775807) : (Lit.int .i64 (n : Int)).wf = true := WalkArith.wf_i64 (by omega)
theorem qbC (w : World) (u : Value) (e : TypeId) : Reads (w.alloc (.cells #[u] e)) (w.heap.size + 1) 1 (some ⟨w.heap.size, 0, none⟩) 1 [u] := by
 refine ⟨rfl, fun _ => ⟨_, rfl, by simp, fun j v hj => ?_⟩⟩
 match j, hj with
 | 0, hj => simp at hj; subst hj; simp [Addr.add]
 | (j + 1), hj => simp at hj
def Bk (w : World) (S : Nat -> Prop) (g : Nat) (L : List ByteArray) : Prop :=
 ∃ b v D, Blk w g 150 #[.map (some b), v] /\ w.ownsMap Tryz.prog 9 (plainElem Tryz.prog 3) b L.length D /\ Fits D L /\ w.ownsRow 0 9 1 v L.length (txt L) /\
   S g /\ S b /\ (∀ k, v.ownBlock = some k -> S k)
theorem Bk.mono {w : World} {S S' : Nat -> Prop} {g : Nat} {L : List ByteArray} (h : Bk w S g L) (hs : ∀ k, k < w.heap.size -> S k -> S' k) : Bk w S' g L := by
 obtain ⟨b, v, D, hb, hm, hf, hr, h1, h2, h3⟩ := h
 exact ⟨b, v, D, hb, hm, hf, hr, hs _ hb.lt h1, hs _ hm.lt h2, fun k hk => hs _ (hr.lt k hk).2 (h3 k hk)⟩
theorem Bk.kept {w w' : World} {S T : Nat -> Prop} {g : Nat} {L : List ByteArray} (h : Bk w S g L) (ht : Turn T w w') (hd : ∀ k, k < w.heap.size -> S k -> ¬ T k) : Bk w' S g L := by
 obtain ⟨b, v, D, hb, hm, hf, hr, h1, h2, h3⟩ := h
 exact ⟨b, v, D, ht.blk hb (hd _ hb.lt h1), ht.map hm (hd _ hm.lt h2), hf, ht.row hr (fun k hk => hd _ (hr.lt k hk).2 (h3 k hk)), h1, h2, h3⟩
theorem qeE (s : ByteArray) (w : World) (hs : s.size <= 281474976710656) : Calls Tryz.prog 131 #[.string s] w fun e w' => e = .returned (.string s) /\ Below w.heap.size w w' := by
 go_enter Tryz.func131, Tryz.ntmps131
 go_wp2_with (go_at_call 160; refine (Tryz.stringslite_Clone s _ hs).mono ?_; rintro e w1 ⟨rfl, hb1⟩)
 go_ret
 exact ⟨rfl, hb1⟩
theorem qi0 (w : World) : Calls Tryz.prog 43 #[] w fun e w' => ∃ g, e = .returned (.pointer (some ⟨g, 0, none⟩)) /\ Bk w' (fresh w w') g [] /\ Below w.heap.size w w' := by
 have hmm := @run_makeMap Tryz.prog
 go_enter Tryz.func43, Tryz.ntmps43
 go_wp2
 go_ret
 have hs : (w.alloc (.map #[] 0)).heap.size = w.heap.size + 1 := by simp
 refine ⟨w.heap.size + 1, rfl, ⟨w.heap.size, .slice none 0 0, .map [], by rw [<- hs]; exact Blk.new _ _ _, (World.ownsMap_made w _ _ _).alloc _, Fits.nil, World.ownsRow_nil _ _ _ _, by simp [fresh] <;> omega, by simp [fresh] <;> omega, by simp [Value.ownBlock]⟩, ((Below.refl _ _).alloc (Nat.le_refl _) _).alloc (by simp) _⟩
theorem add_any (S : Nat -> Prop) (g : Nat) (L : List ByteArray) (s : ByteArray) (w : World) (h : Bk w S g L) (hs : s.size <= 65536) (hl : L.length <= 1000000000) (h0 : idx L s = 0) :
 Calls Tryz.prog 100 #[.pointer (some ⟨g, 0, none⟩), .string s] w fun e w' => e = .returned (.int .i64 ((L.length + 1 : Nat) : Int)) /\ Bk w' (moreB S w w') g (L ++ [s]) /\ Turn S w w' := by
 obtain ⟨b, v, D, hb, hm, hf, hr, h1, h2, h3⟩ := h
 obtain ⟨i0, hi, hz0, hz1, hz2⟩ := info_parts strInfo
 have HF := Lib.hid hf
 have H0 := Lib.hid h0
 obtain ⟨m, hm1⟩ := nm (L.length + 1)
 have hm2 : m <= 1000000001 := by omega
 have hgb := qcd hb hm
 have hvg := qa1 hr hb (by decide)
 have hvb := qds hr hm
 obtain ⟨A, c, rfl, hc, hrd⟩ := qav hr
 have HM := Lib.hid hm1
 rw [<- hm1]
 clear hf h0 hm1 hrd hc
 go_enter Tryz.func100, Tryz.ntmps100
 go_wp2_with (first
  | (go_at_call 131; refine (qeE s _ (by omega)).mono ?_; rintro e w1 ⟨rfl, hb1⟩; have hB1 := hb.below hb1 hb.lt; have c1 := hB1.cell 1; have f1 := hB1.frozen 1)
  | (at_builtin
     refine qao _ rfl (.tmp 13) (.tmp 15) 24 rfl 0 9 i0 _ 1 16 Tryz.underlying24 hi hz0 hz1 hz2 rfl (by decide) (.slice A L.length c) L.length (txt L) rfl
      ((Turn.of_keep (S := fun _ => False) (hb1.alloc hb1.size (.cells #[.string s] 9))).row hr (by simp)) (w1.heap.size + 1) (some ⟨w1.heap.size, 0, none⟩) 1 1 [.string s] rfl (qbC _ _ _) (by simp [Value.oneCell']) (by unfold maxLen; omega) (by omega) (Nat.zero_le _) ?_
     intro v2 w2 ho2 hg2 hat2
     rw [<- HM.out] at ho2
     have hB2 := (hB1.alloc (.cells #[.string s] 9)).grown hg2 (fun e => hvg e.symm)
     have hM2 := ((Turn.of_keep (S := fun _ => False) (hb1.alloc hb1.size (.cells #[.string s] 9))).map hm (by simp)).kept hg2 (fun e => hvb e.symm)
     obtain ⟨A2, c2, rfl, hc2, hrd2⟩ := qav ho2
     clear hc2 hrd2 c1 f1
     have c0 := hB2.cell 0
     have c1 := hB2.cell 1
     have f1 := hB2.frozen 1)
  | (at_mapUpdate
     refine wpList_mapUpdate_own _ rfl _ _ _ 148 rfl 9 3 kd Tryz.underlying148 _ b L.length D rfl (hM2.setCell (a := ⟨g, 1, none⟩) (fun e => hgb e.symm) _) (by unfold maxLen; omega) _ _ (keyL s) rfl rfl (Go.WideMaps.keyOf_string_mk Tryz.underlying9 (by unfold maxLen; omega)) (numD m) [] (plainElem_int Tryz.underlying3 (num_wf (by omega))) ?_
     intro w3 hm3 hg3)
  | go_in)
 go_ret
 have hl1 : L.length + 1 = (L ++ [s]).length := by simp
 have hbw : Below w.heap.size w (w1.alloc (.cells #[.string s] 9)) := hb1.alloc hb1.size _
 have hv2 : ∀ k, (Value.slice A2 m c2).ownBlock = some k -> S k ∨ w.heap.size <= k := by
  intro k hk
  rcases hat2 with e | e
  ·rw [e] at hk; exact .inl (h3 k hk)
  ·rw [e] at hk; simp at hk; have := hb1.size; right; omega
 have ht2 : Turn S w w2 := (Turn.of_keep hbw).grown hg2 (fun i e => .inl (h3 i e))
 have ht3 := (ht2.setCell (p := ⟨g, 1, none⟩) (.inl h1) (.slice A2 m c2)).grown hg3 (fun i e => by cases e; exact .inl h2)
 have hB3 := (hB2.set_ 1 (.slice A2 m c2)).grown hg3 (fun e => hgb (by simpa using e))
 have hR3 : (w2.setCell ⟨g, 1, none⟩ (.slice A2 m c2)).ownsRow 0 9 1 (.slice A2 m c2) m (txt L ++ [.string s]) :=
  ((Turn.refl (fun k => k = g) w2).setCell (.inl rfl) _).row ho2 (fun k hk e => qa1 ho2 hB2 (by decide) (by rw [hk, e]))
 have hM3 := qds hR3 (hM2.setCell (a := ⟨g, 1, none⟩) (fun e => hgb e.symm) (.slice A2 m c2))
 have hR4 := (Turn.of_grown (S := fun k => k = b) hg3 (fun i e => by cases e; rfl)).row hR3 (fun k hk e => hM3 (by rw [hk, e]))
 have hlt := hR4.lt
 refine ⟨rfl, ⟨b, .slice A2 m c2, D.put (keyL s) (numD m), by simpa using hB3, ?_, ?_, ?_, .inl h1, .inl h2, fun k hk => (hv2 k hk).imp id (fun h => ⟨h, (hlt k hk).2⟩)⟩, ht3⟩
 ·rw [<- hl1]; exact hm3
 ·rw [HM.out]; exact HF.out.put hm.isMap H0.out
 ·rw [<- hl1, qjD, <- HM.out]; exact hR4
theorem Bk.same {w : World} {S : Nat -> Prop} {g : Nat} {L : List ByteArray} (h : Bk w S g L) : Bk w (moreB S w w) g L := h.mono fun _ _ => .inl
theorem qhr {D : DataW Unit} {L : List ByteArray} {s : ByteArray} {c : Int} (h : Fits D L) (hc : D.atKey (keyL s) (.lit (.int .i64 0)) = .lit (.int .i64 c)) : c = (idx L s : Nat) := by
 have := (h s).2
 unfold numD at this
 simp only [Int.natCast_zero] at this
 rw [this] at hc
 injection hc with hc
 injection hc with _ hc
 exact hc.symm
theorem ql1 (S : Nat -> Prop) (g : Nat) (L : List ByteArray) (s : ByteArray) (w : World) (h : Bk w S g L) (hl : L.length <= 1000000000) :
 Calls Tryz.prog 30 #[.pointer (some ⟨g, 0, none⟩), .string s] w fun e w' => e = .returned (.tuple #[.int .i64 (enterN L s : Nat), .int .i64 (enterE s : Nat)]) /\ Bk w' (moreB S w w') g (enterL L s) /\ Turn S w w' := by
 have HB := Lib.hid h
 obtain ⟨b, v, D, hb, hm, hf, hr, h1, h2, h3⟩ := h
 have c0 := hb.cell 0
 have HF := Lib.hid hf
 clear hf
 by_cases hs : 65536 < s.size
 ·have e1 : enterN L s = 0 := by simp [enterN, hs]
  have e2 : enterE s = 2 := by simp [enterE, hs]
  have e3 : enterL L s = L := by simp [enterL, hs]
  rw [e1, e2, e3]
  go_enter Tryz.func30, Tryz.ntmps30
  go_wp2_with fail
  go_ret2
  exact ⟨rfl, HB.out.same, Turn.refl _ _⟩
 ·have hle : s.size <= 65536 := by omega
  have hh := (HF.out s).1
  by_cases h0 : idx L s = 0
  ·have hh' : Maps.has D (keyL s) = false := by rw [hh, h0]; rfl
   have e1 : enterN L s = L.length + 1 := by simp [enterN, hs, h0]
   have e2 : enterE s = 0 := by simp [enterE, hs]
   have e3 : enterL L s = L ++ [s] := by simp [enterL, hs, h0]
   rw [e1, e2, e3]
   have H0 := Lib.hid h0
   clear hh h0 e1 e2 e3
   go_enter Tryz.func30, Tryz.ntmps30
   go_wp2_with (first
    | (at_lookup
       refine wpList_lookup_own_ok_int _ rfl _ _ 148 rfl 9 3 .i64 kd Tryz.underlying148 Tryz.underlying3 (zeroInt _) b L.length D rfl hm _ (keyL s) rfl (WideMaps.keyOf_string_mk Tryz.underlying9 (by unfold maxLen; omega)) ?_
       intro c hat hwc)
    | (go_at_call 100; refine (add_any S g L s _ HB.out hle hl H0.out).mono ?_; rintro e w1 ⟨rfl, hp⟩)
    | go_in)
   go_ret2
   exact ⟨rfl, hp⟩
  ·have hh' : Maps.has D (keyL s) = true := by rw [hh]; simp; omega
   have e1 : enterN L s = idx L s := by simp [enterN, hs, h0]
   have e2 : enterE s = 0 := by simp [enterE, hs]
   have e3 : enterL L s = L := by simp [enterL, hs, h0]
   rw [e1, e2, e3]
   have H0 := Lib.hid h0
   clear hh h0 e1 e2 e3
   go_enter Tryz.func30, Tryz.ntmps30
   go_wp2_with (first
    | (at_lookup
       refine wpList_lookup_own_ok_int _ rfl _ _ 148 rfl 9 3 .i64 kd Tryz.underlying148 Tryz.underlying3 (zeroInt _) b L.length D rfl hm _ (keyL s) rfl (WideMaps.keyOf_string_mk Tryz.underlying9 (by unfold maxLen; omega)) ?_
       intro c hat hwc)
    | go_in)
   go_ret2
   have := qhr HF.out hat
   subst this
   exact ⟨rfl, HB.out.same, Turn.refl _ _⟩
def lookE (L : List ByteArray) (s : ByteArray) : Nat := if idx L s = 0 then 50 else 0
theorem look_any (S : Nat -> Prop) (g : Nat) (L : List ByteArray) (s : ByteArray) (w : World) (h : Bk w S g L) (hs : s.size <= 140737488351232) :
 Calls Tryz.prog 87 #[.pointer (some ⟨g, 0, none⟩), .string s] w fun e w' => e = .returned (.tuple #[.int .i64 (idx L s : Nat), .int .i64 (lookE L s : Nat)]) /\ w' = w := by
 obtain ⟨b, v, D, hb, hm, hf, hr, h1, h2, h3⟩ := h
 have c0 := hb.cell 0
 have HF := Lib.hid hf
 clear hf
 have hh := (HF.out s).1
 by_cases h0 : idx L s = 0
 ·have hh' : Maps.has D (keyL s) = false := by rw [hh, h0]; rfl
  have e2 : lookE L s = 50 := by simp [lookE, h0]
  rw [e2, h0]
  clear hh h0 e2
  go_enter Tryz.func87, Tryz.ntmps87
  go_wp2_with (first
   | (at_lookup
      refine wpList_lookup_own_ok_int _ rfl _ _ 148 rfl 9 3 .i64 kd Tryz.underlying148 Tryz.underlying3 (zeroInt _) b L.length D rfl hm _ (keyL s) rfl (WideMaps.keyOf_string_mk Tryz.underlying9 (by unfold maxLen; omega)) ?_
      intro c hat hwc)
   | go_in)
  go_ret2
  exact ⟨rfl, rfl⟩
 ·have hh' : Maps.has D (keyL s) = true := by rw [hh]; simp; omega
  have e2 : lookE L s = 0 := by simp [lookE, h0]
  rw [e2]
  clear hh h0 e2
  go_enter Tryz.func87, Tryz.ntmps87
  go_wp2_with (first
   | (at_lookup
      refine wpList_lookup_own_ok_int _ rfl _ _ 148 rfl 9 3 .i64 kd Tryz.underlying148 Tryz.underlying3 (zeroInt _) b L.length D rfl hm _ (keyL s) rfl (WideMaps.keyOf_string_mk Tryz.underlying9 (by unfold maxLen; omega)) ?_
      intro c hat hwc)
   | go_in)
  go_ret2
  have := qhr HF.out hat
  subst this
  exact ⟨rfl, rfl⟩
def contS (L : List ByteArray) (n : Int) : ByteArray := if n < 1 ∨ (L.length : Int) < n then ⟨#[]⟩ else L.getD (n.toNat - 1) ⟨#[]⟩
def contE (L : List ByteArray) (n : Int) : Nat := if n < 1 ∨ (L.length : Int) < n then 50 else 0
theorem qcE (S : Nat -> Prop) (g : Nat) (L : List ByteArray) (n : Int) (w : World) (h : Bk w S g L) (hsz : ∀ s ∈ L, s.size <= 65536) (hl : L.length <= 1000000000) :
 Calls Tryz.prog 80 #[.pointer (some ⟨g, 0, none⟩), .int .i64 n] w fun e w' => e = .returned (.tuple #[.string (contS L n), .int .i64 (contE L n : Nat)]) /\ Below w.heap.size w w' := by
 obtain ⟨b, v, D, hb, hm, hf, hr, h1, h2, h3⟩ := h
 obtain ⟨A, c, rfl, hc, hrd⟩ := qav hr
 have c1 := hb.cell 1
 clear hf hm hr h3
 by_cases hn1 : n < 1
 ·have e1 : contS L n = ⟨#[]⟩ := by simp [contS, hn1]
  have e2 : contE L n = 50 := by simp [contE, hn1]
  rw [e1, e2]
  clear e1 e2
  go_enter Tryz.func80, Tryz.ntmps80
  go_wp2_with fail
  go_ret2
  exact ⟨rfl, Below.refl _ _⟩
 ·by_cases hn2 : (L.length : Int) < n
  ·have e1 : contS L n = ⟨#[]⟩ := by simp [contS, hn2]
   have e2 : contE L n = 50 := by simp [contE, hn2]
   rw [e1, e2]
   clear e1 e2
   go_enter Tryz.func80, Tryz.ntmps80
   go_wp2_with fail
   go_ret2
   exact ⟨rfl, Below.refl _ _⟩
  ·obtain ⟨k, rfl⟩ : ∃ k : Nat, n = (k : Int) + 1 := ⟨(n - 1).toNat, by omega⟩
   have hk : k < L.length := by omega
   have e1 : contS L ((k : Int) + 1) = L[k] := by
    unfold contS
    rw [if_neg (by omega)]
    have : ((k : Int) + 1).toNat - 1 = k := by omega
    rw [this, List.getD_eq_getElem?_getD, List.getElem?_eq_getElem hk]; rfl
   have e2 : contE L ((k : Int) + 1) = 0 := by unfold contE; rw [if_neg (by omega)]
   have hz := hsz _ (List.getElem_mem hk)
   obtain ⟨ad, u, rfl, _, hx, hcl⟩ := hrd.at_ hk
   have hu : u = .string L[k] := by
    simp only [txt, List.getElem?_map, List.getElem?_eq_getElem hk, Option.map_some, Option.some.injEq] at hx
    exact hx.symm
   subst hu
   rw [e1, e2]
   obtain ⟨s, hs⟩ := nm (L[k])
   rw [<- hs] at hcl hz ⊢
   have hw : IntKind.i64.wrap (k : Int) = (k : Int) := IntWalk.i64_in _ (by omega)
   clear e1 e2 hx hs hrd
   go_enter Tryz.func80, Tryz.ntmps80
   go_wp2_with (go_at_call 131; refine (qeE s _ (by omega)).mono ?_; rintro e w1 ⟨rfl, hb1⟩)
   go_ret2
   exact ⟨rfl, hb1⟩
end Go.Proofs.YtomaaidhmccngaaGreatDoor.L5
namespace Go.Proofs.YtomaaidhmccngaaGreatDoor.L5
open Go.RowKit L3 L6
theorem qgx {s t : ByteArray} (h : s ≠ t) : ¬ s.toList = t.toList /\ (s.toList == t.toList) = false := by
 have : ¬ s.toList = t.toList := fun e => h (bytes_inj (by rw [<- Lib.toList_data, <- Lib.toList_data]; exact e))
 exact ⟨this, by simpa using this⟩
def Rf (w : World) (S : Nat -> Prop) (g : Nat) (L : List ByteArray) : Prop :=
 ∃ v, Blk w g 97 #[v] /\ w.ownsRow 0 9 1 v L.length (txt L) /\ S g /\ (∀ k, v.ownBlock = some k -> S k)
theorem Rf.lt {w : World} {S : Nat -> Prop} {g : Nat} {L : List ByteArray} (h : Rf w S g L) : g < w.heap.size := by obtain ⟨_, hb, _⟩ := h; exact hb.lt
theorem Rf.mono {w : World} {S S' : Nat -> Prop} {g : Nat} {L : List ByteArray} (h : Rf w S g L) (hs : ∀ k, k < w.heap.size -> S k -> S' k) : Rf w S' g L := by
 obtain ⟨v, hb, hr, h1, h3⟩ := h
 exact ⟨v, hb, hr, hs _ hb.lt h1, fun k hk => hs _ (hr.lt k hk).2 (h3 k hk)⟩
theorem Rf.kept {w w' : World} {S T : Nat -> Prop} {g : Nat} {L : List ByteArray} (h : Rf w S g L) (ht : Turn T w w') (hd : ∀ k, k < w.heap.size -> S k -> ¬ T k) : Rf w' S g L := by
 obtain ⟨v, hb, hr, h1, h3⟩ := h
 exact ⟨v, ht.blk hb (hd _ hb.lt h1), ht.row hr (fun k hk => hd _ (hr.lt k hk).2 (h3 k hk)), h1, h3⟩
theorem Rf.same {w : World} {S : Nat -> Prop} {g : Nat} {L : List ByteArray} (h : Rf w S g L) : Rf w (moreB S w w) g L := h.mono fun _ _ => .inl
theorem qfp (S : Nat -> Prop) (g : Nat) (L : List ByteArray) (s : ByteArray) (w : World) (h : Rf w S g L) (hl : L.length <= 1000000000) :
 Calls Tryz.prog 88 #[.pointer (some ⟨g, 0, none⟩), .string s] w fun e w' => e = .returned (.int .i64 (idx L s : Nat)) /\ w' = w := by
 obtain ⟨v, hb, hr, h1, h3⟩ := h
 obtain ⟨A, c, rfl, hc, hrd⟩ := qav hr
 have c0 := hb.cell 0
 clear hr h3
 go_enter Tryz.func88, Tryz.ntmps88
 go_wp2
 go_loop [5] (fun i => ∃ k : Nat, k <= L.length /\ i = .int .i64 k /\ idxFrom k (L.drop k) s = idx L s) (fun i => L.length - (RowKit.intOf i).toNat)
 case atStart => exact ⟨0, Nat.zero_le _, rfl, rfl⟩
 case round =>
  obtain ⟨k, hk, rfl, hi⟩ := hrel
  by_cases hlt : k < L.length
  ·rw [qhu hlt] at hi
   obtain ⟨ad, u, rfl, _, hx, hcl⟩ := hrd.at_ hlt
   have hu : u = .string L[k] := by
    simp only [txt, List.getElem?_map, List.getElem?_eq_getElem hlt, Option.map_some, Option.some.injEq] at hx
    exact hx.symm
   subst hu
   obtain ⟨t, ht⟩ := nm (L[k])
   rw [<- ht] at hcl hi
   by_cases he : t = s
   ·subst he
    rw [if_pos rfl] at hi
    have HI := Lib.hid hi
    clear hi hx ht
    go_wp2_with fail
    go_ret
    exact ⟨by rw [<- HI.out]; rfl, rfl⟩
   ·rw [if_neg he] at hi
    have HI := Lib.hid hi
    have he2 := qgx he
    have he3 := he2.1
    have he4 := he2.2
    clear hi hx ht he2 he
    go_wp2_with fail
    go_round
    case rel => exact ⟨k + 1, by omega, by go_num, HI.out⟩
    case measure => simp [RowKit.intOf]; omega
  ·have hkl : L.drop k = [] := List.drop_eq_nil_of_le (by omega)
   rw [hkl] at hi
   have hz : idx L s = 0 := hi.symm
   have HZ := Lib.hid hz
   clear hi hz hkl
   go_wp2_with fail
   go_ret
   exact ⟨by rw [HZ.out]; rfl, rfl⟩
theorem qf6 (S : Nat -> Prop) (g : Nat) (L : List ByteArray) (n : Int) (w : World) (h : Rf w S g L) (hl : L.length <= 1000000000) :
 Calls Tryz.prog 82 #[.pointer (some ⟨g, 0, none⟩), .int .i64 n] w fun e w' => e = .returned (.tuple #[.string (contS L n), .bool (decide (contE L n = 0))]) /\ w' = w := by
 obtain ⟨v, hb, hr, h1, h3⟩ := h
 obtain ⟨A, c, rfl, hc, hrd⟩ := qav hr
 have c0 := hb.cell 0
 clear hr h3
 go_enter Tryz.func82, Tryz.ntmps82
 go_wp2
 go_loop [6] (fun i => ∃ k : Nat, k <= L.length /\ i = .int .i64 k /\ (n < 1 ∨ (k : Int) < n)) (fun i => L.length - (RowKit.intOf i).toNat)
 case atStart => exact ⟨0, Nat.zero_le _, rfl, by omega⟩
 case round =>
  obtain ⟨k, hk, rfl, hi⟩ := hrel
  by_cases hlt : k < L.length
  ·by_cases he : n = (k : Int) + 1
   ·subst he
    obtain ⟨ad, u, rfl, _, hx, hcl⟩ := hrd.at_ hlt
    have hu : u = .string L[k] := by
     simp only [txt, List.getElem?_map, List.getElem?_eq_getElem hlt, Option.map_some, Option.some.injEq] at hx
     exact hx.symm
    subst hu
    have e1 : contS L ((k : Int) + 1) = L[k] := by
     unfold contS
     rw [if_neg (by omega)]
     have : ((k : Int) + 1).toNat - 1 = k := by omega
     rw [this, List.getD_eq_getElem?_getD, List.getElem?_eq_getElem hlt]; rfl
    have e2 : contE L ((k : Int) + 1) = 0 := by unfold contE; rw [if_neg (by omega)]
    have E1 := Lib.hid e1
    have E2 := Lib.hid e2
    clear hi hx e1 e2
    go_wp2_with fail
    go_ret2
    exact ⟨by rw [E1.out, E2.out]; rfl, rfl⟩
   ·have he2 : ((k : Int) + 1 == n) = false := by simp; omega
    have HI : Hid (n < 1 ∨ ((k + 1 : Nat) : Int) < n) := by show _ ∨ _; omega
    clear hi he
    go_wp2_with fail
    go_round
    case rel => exact ⟨k + 1, by omega, by go_num, HI.out⟩
    case measure => simp [RowKit.intOf]; omega
  ·have e1 : contS L n = ⟨#[]⟩ := by unfold contS; rw [if_pos (by omega)]
   have e2 : contE L n = 50 := by unfold contE; rw [if_pos (by omega)]
   have E1 := Lib.hid e1
   have E2 := Lib.hid e2
   clear hi e1 e2
   go_wp2_with fail
   go_ret2
   exact ⟨by rw [E1.out, E2.out]; rfl, rfl⟩
theorem qhC (S : Nat -> Prop) (g : Nat) (L : List ByteArray) (s : ByteArray) (w : World) (h : Rf w S g L) (hl : L.length <= 1000000000) :
 Calls Tryz.prog 45 #[.pointer (some ⟨g, 0, none⟩), .string s] w fun e w' => e = .returned (.tuple #[.int .i64 (enterN L s : Nat), .int .i64 (enterE s : Nat)]) /\ Rf w' (moreB S w w') g (enterL L s) /\ Turn S w w' := by
 have HB := Lib.hid h
 obtain ⟨v, hb, hr, h1, h3⟩ := h
 obtain ⟨i0, hi, hz0, hz1, hz2⟩ := info_parts strInfo
 obtain ⟨A, c, rfl, hc, hrd⟩ := qav hr
 have c0 := hb.cell 0
 have f0 := hb.frozen 0
 have HC := Lib.hid hc
 clear hc
 by_cases hs : 65536 < s.size
 ·have e1 : enterN L s = 0 := by simp [enterN, hs]
  have e2 : enterE s = 2 := by simp [enterE, hs]
  have e3 : enterL L s = L := by simp [enterL, hs]
  rw [e1, e2, e3]
  go_enter Tryz.func45, Tryz.ntmps45
  go_wp2_with fail
  go_ret2
  exact ⟨rfl, HB.out.same, Turn.refl _ _⟩
 ·by_cases h0 : idx L s = 0
  ·have e1 : enterN L s = L.length + 1 := by simp [enterN, hs, h0]
   have e2 : enterE s = 0 := by simp [enterE, hs]
   have e3 : enterL L s = L ++ [s] := by simp [enterL, hs, h0]
   rw [e1, e2, e3]
   have hk := qfp S g L s w HB.out hl
   rw [h0] at hk
   have HK := Lib.hid hk
   clear e1 e2 e3 h0 hk
   go_enter Tryz.func45, Tryz.ntmps45
   obtain ⟨m, hm1⟩ := nm (L.length + 1)
   have hm2 : m <= 1000000001 := by omega
   have HM := Lib.hid hm1
   rw [<- hm1]
   have hcA : (w.alloc (.cells #[] 9)).cell? ⟨g, 0, none⟩ = some (.slice A L.length c) := (hb.alloc _).cell 0
   have hglt := hb.lt
   clear hm1
   go_wp2_with (first
    | (go_at_call 88; refine HK.out.mono ?_; rintro e w1 ⟨rfl, rfl⟩)
    | (at_builtin
       refine qao _ rfl (.tmp 16) (.tmp 20) 24 rfl 0 9 i0 _ 1 16 Tryz.underlying24 hi hz0 hz1 hz2 rfl (by decide) (.slice (some ⟨w1.heap.size, 0, none⟩) 0 0) 0 [] rfl
        (World.ownsRow_made _ _ 0 (Nat.zero_le _) (by decide) rfl) w1.heap.size A L.length c (txt L) rfl (hrd.alloc (Nat.le_refl _) _) (txt_one L) (by unfold maxLen; omega) (by omega) (Nat.zero_le _) ?_
       intro v2 w2 ho2 hg2 hat2)
    | (at_builtin
       refine qao _ rfl (.tmp 21) (.tmp 23) 24 rfl 0 9 i0 _ 1 16 Tryz.underlying24 hi hz0 hz1 hz2 rfl (by decide) v2 (0 + L.length) ([] ++ txt L) rfl
        ((Turn.of_keep (S := fun _ => False) ((Below.refl _ _).alloc (Nat.le_refl _) (.cells #[.string s] 9))).row ho2 (by simp)) (w2.heap.size + 1) (some ⟨w2.heap.size, 0, none⟩) 1 1 [.string s] rfl (qbC _ _ _) (by simp [Value.oneCell']) (by unfold maxLen; omega) (by omega) (Nat.zero_le _) ?_
       intro v3 w3 ho3 hg3 hat3
       rw [show 0 + L.length + 1 = m by have := HM.out; omega] at ho3
       have hB2 := (hb.alloc (.cells #[] 9)).grown hg2 (by simp [Value.ownBlock]; omega)
       have hB3 := (hB2.alloc (.cells #[.string s] 9)).grown hg3 (fun e => qa1 ho2 hB2 (by decide) e.symm)
       obtain ⟨A3, cp3, rfl, hc3, hrd3⟩ := qav ho3
       have c3 := hB3.cell 0
       have f3 := hB3.frozen 0
       clear hc3 hrd3)
    | go_in)
   go_ret2
   have hl1 : L.length + 1 = (L ++ [s]).length := by simp
   have hat3' : ∀ i, v2.ownBlock = some i -> w1.heap.size <= i := by
    intro i hi
    rcases hat2 with e | e
    ·rw [e] at hi; simp [Value.ownBlock] at hi; omega
    ·rw [e] at hi; simp at hi; omega
   have hs2 : w1.heap.size <= w2.heap.size := by have := hg2.size; simp at this; omega
   have ht2 : Turn S w1 w2 := ((Turn.refl S w1).alloc _).grown hg2 (fun i e => by simp [Value.ownBlock] at e; right; omega)
   have ht3 : Turn S w1 w3 := (ht2.alloc (.cells #[.string s] 9)).grown hg3 (fun i e => .inr (hat3' i e))
   have hv3 : ∀ k, (Value.slice A3 m cp3).ownBlock = some k -> S k ∨ w1.heap.size <= k := by
    intro k hk
    rcases hat3 with e | e
    ·rw [e] at hk; exact .inr (hat3' k hk)
    ·rw [e] at hk; simp at hk; right; omega
   have hR3 := ((Turn.refl (fun k => k = g) w3).setCell (p := ⟨g, 0, none⟩) (.inl rfl) (.slice A3 m cp3)).row ho3 (fun k hk e => qa1 ho3 hB3 (by decide) (by rw [hk, e]))
   refine ⟨by first | rfl | (rw [HM.out]; rfl), ⟨.slice A3 m cp3, hB3.set_ 0 _, ?_, .inl h1, fun k hk => (hv3 k hk).imp id (fun h => ⟨h, (hR3.lt k hk).2⟩)⟩, ht3.setCell (.inl h1) _⟩
   rw [<- hl1, qjD, <- HM.out]
   simpa using hR3
  ·have e1 : enterN L s = idx L s := by simp [enterN, hs, h0]
   have e2 : enterE s = 0 := by simp [enterE, hs]
   have e3 : enterL L s = L := by simp [enterL, hs, h0]
   rw [e1, e2, e3]
   have hz : (((idx L s : Nat) : Int) == 0) = false := by simp; exact h0
   clear e1 e2 e3 h0
   obtain ⟨k, hk⟩ := nm (idx L s)
   have hq := qfp S g L s w HB.out hl
   rw [<- hk] at hz hq ⊢
   have HQ := Lib.hid hq
   clear hq hk
   go_enter Tryz.func45, Tryz.ntmps45
   go_wp2_with (first
    | (go_at_call 88; refine HQ.out.mono ?_; rintro e w1 ⟨rfl, rfl⟩)
    | go_in)
   go_ret2
   exact ⟨rfl, HB.out.same, Turn.refl _ _⟩
end Go.Proofs.YtomaaidhmccngaaGreatDoor.L5
