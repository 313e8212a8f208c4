/-
  What a book holds, and what each of its calls tells and leaves.
-/
import Derived.Test.YtiakbcmolgpnlaaNumbers
import Derived.Test.YtiakbcmolgpnlaaShelf
import Derived.Lib.Hide
import Derived.WalkKit
set_option linter.unusedSimpArgs false
set_option linter.unusedVariables false
namespace Go.Proofs.Ytiakbcmolgpnlaa
open Go.RowKit Go.Maps

theorem strInfo : (Try.prog.info? 9).map (fun i => (i.zero, i.size, i.bytes)) = some (some (.string ⟨#[]⟩), 1, 16) := by kernel_rfl
theorem kd : Keyed Try.prog 9 := string_keyed Try.underlying9
theorem zeroInt (w : World) : (zeroValue 3).run Try.prog w = .ok (.int .i64 0) w := by kernel_rfl
/-- Texts as a slice's cells. -/
def txt (L : List ByteArray) : List Value := L.map Value.string
theorem txt_len (L : List ByteArray) : (txt L).length = L.length := by simp [txt]
theorem txt_snoc (L : List ByteArray) (s : ByteArray) : txt (L ++ [s]) = txt L ++ [.string s] := by simp [txt]
theorem txt_one (L : List ByteArray) : ∀ u ∈ txt L, u.oneCell' = true := by
  intro u hu
  simp only [txt, List.mem_map] at hu
  obtain ⟨s, _, rfl⟩ := hu
  rfl
theorem num_wf {n : Nat} (h : n ≤ 9223372036854775807) : (Lit.int .i64 (n : Int)).wf = true := WalkArith.wf_i64 (by omega)

/-- A block of one cell, read as a slice. -/
theorem reads_one (w : World) (u : Value) (e : TypeId) : Reads (w.alloc (.cells #[u] e)) (w.heap.size + 1) 1 (some ⟨w.heap.size, 0, none⟩) 1 [u] := by
  refine ⟨rfl, fun _ => ⟨_, rfl, by simp, fun j v hj => ?_⟩⟩
  match j, hj with
  | 0, hj => simp at hj; subst hj; simp [Addr.add]
  | (j + 1), hj => simp at hj

/-- In w the struct in block g is a book of the contents L; all its blocks lie in S. -/
def Bk (w : World) (S : Nat → Prop) (g : Nat) (L : List ByteArray) : Prop :=
  ∃ b v D, Blk w g 49 #[.map (some b), v] ∧ w.ownsMap Try.prog 9 (plainElem Try.prog 3) b L.length D ∧ Fits D L ∧ w.ownsRow 0 9 1 v L.length (txt L) ∧
    S g ∧ S b ∧ (∀ k, v.ownBlock = some k → S k)
theorem Bk.lt {w : World} {S : Nat → Prop} {g : Nat} {L : List ByteArray} (h : Bk w S g L) : g < w.heap.size := by obtain ⟨_, _, _, hb, _⟩ := h; exact hb.lt
theorem Bk.mono {w : World} {S S' : Nat → Prop} {g : Nat} {L : List ByteArray} (h : Bk w S g L) (hs : ∀ k, k < w.heap.size → S k → S' k) : Bk w S' g L := by
  obtain ⟨b, v, D, hb, hm, hf, hr, h1, h2, h3⟩ := h
  exact ⟨b, v, D, hb, hm, hf, hr, hs _ hb.lt h1, hs _ hm.lt h2, fun k hk => hs _ (hr.lt k hk).2 (h3 k hk)⟩
/-- What turns other blocks alone leaves a book as it is. -/
theorem Bk.kept {w w' : World} {S T : Nat → Prop} {g : Nat} {L : List ByteArray} (h : Bk w S g L) (ht : Turn T w w') (hd : ∀ k, k < w.heap.size → S k → ¬ T k) : Bk w' S g L := by
  obtain ⟨b, v, D, hb, hm, hf, hr, h1, h2, h3⟩ := h
  exact ⟨b, v, D, ht.blk hb (hd _ hb.lt h1), ht.map hm (hd _ hm.lt h2), hf, ht.row hr (fun k hk => hd _ (hr.lt k hk).2 (h3 k hk)), h1, h2, h3⟩

set_option maxHeartbeats 1000000 in
set_option maxRecDepth 100000 in
theorem strclone_any (s : ByteArray) (w : World) (hs : s.size ≤ 281474976710656) : Calls Try.prog 16 #[.string s] w fun e w' => e = .returned (.string s) ∧ Below w.heap.size w w' := by
  go_enter Try.func16, Try.ntmps16
  go_wp2_with (go_at_call 17; refine (Try.stringslite_Clone s _ hs).mono ?_; rintro e w1 ⟨rfl, hb1⟩)
  go_ret
  exact ⟨rfl, hb1⟩

set_option maxHeartbeats 1000000 in
set_option maxRecDepth 100000 in
theorem new_any (w : World) : Calls Try.prog 7 #[] w fun e w' => ∃ g, e = .returned (.pointer (some ⟨g, 0, none⟩)) ∧ Bk w' (fresh w w') g [] ∧ Below w.heap.size w w' := by
  have hmm := @run_makeMap Try.prog
  go_enter Try.func7, Try.ntmps7
  go_wp2
  go_ret
  have hs : (w.alloc (.map #[] 0)).heap.size = w.heap.size + 1 := by simp
  refine ⟨w.heap.size + 1, rfl, ⟨w.heap.size, .slice none 0 0, .map [], by rw [← hs]; exact Blk.new _ _ _, (World.ownsMap_made w _ _ _).alloc _, Fits.nil, World.ownsRow_nil _ _ _ _, by simp [fresh] <;> omega, by simp [fresh] <;> omega, by simp [Value.ownBlock]⟩, ((Below.refl _ _).alloc (Nat.le_refl _) _).alloc (by simp) _⟩

set_option maxHeartbeats 1000000 in
set_option maxRecDepth 100000 in
theorem add_any (S : Nat → Prop) (g : Nat) (L : List ByteArray) (s : ByteArray) (w : World) (h : Bk w S g L) (hs : s.size ≤ 65536) (hl : L.length ≤ 1000000000) (h0 : idx L s = 0) :
    Calls Try.prog 15 #[.pointer (some ⟨g, 0, none⟩), .string s] w fun e w' => e = .returned (.int .i64 ((L.length + 1 : Nat) : Int)) ∧ Bk w' (moreB S w w') g (L ++ [s]) ∧ Turn S w w' := by
  obtain ⟨b, v, D, hb, hm, hf, hr, h1, h2, h3⟩ := h
  obtain ⟨i0, hi, hz0, hz1, hz2⟩ := info_parts strInfo
  have HF := Lib.hid hf
  have H0 := Lib.hid h0
  obtain ⟨m, hm1⟩ : ∃ m, m = L.length + 1 := ⟨_, rfl⟩
  have hm2 : m ≤ 1000000001 := by omega
  have hgb := blk_ne_map hb hm
  have hvg := own_blk_ne hr hb (by decide)
  have hvb := row_ne_map hr hm
  obtain ⟨A, c, rfl, hc, hrd⟩ := row_reads hr
  have HM := Lib.hid hm1
  rw [← hm1]
  clear hf h0 hm1 hrd hc
  go_enter Try.func15, Try.ntmps15
  go_wp2_with (first
    | (go_at_call 16; refine (strclone_any s _ (by omega)).mono ?_; rintro e w1 ⟨rfl, hb1⟩; have hB1 := hb.below hb1 hb.lt; have c1 := hB1.cell 1; have f1 := hB1.frozen 1)
    | (at_builtin
       refine wpList_append_any _ rfl (.tmp 13) (.tmp 15) 27 rfl 0 9 i0 _ 1 16 Try.underlying27 hi hz0 hz1 hz2 rfl (by decide) (.slice A L.length c) L.length (txt L) rfl
         ((Turn.of_keep (S := fun _ => False) (hb1.alloc hb1.size (.cells #[.string s] 9))).row hr (by simp)) (w1.heap.size + 1) (some ⟨w1.heap.size, 0, none⟩) 1 1 [.string s] rfl (reads_one _ _ _) (by simp [Value.oneCell']) (by unfold maxLen; omega) (by omega) (Nat.zero_le _) ?_
       intro v2 w2 ho2 hg2 hat2
       rw [← HM.out] at ho2
       have hB2 := (hB1.alloc (.cells #[.string s] 9)).grown hg2 (fun e => hvg e.symm)
       have hM2 := ((Turn.of_keep (S := fun _ => False) (hb1.alloc hb1.size (.cells #[.string s] 9))).map hm (by simp)).kept hg2 (fun e => hvb e.symm)
       obtain ⟨A2, c2, rfl, hc2, hrd2⟩ := row_reads ho2
       clear hc2 hrd2 c1 f1
       have c0 := hB2.cell 0
       have c1 := hB2.cell 1
       have f1 := hB2.frozen 1)
    | (at_mapUpdate
       refine wpList_mapUpdate_own _ rfl _ _ _ 47 rfl 9 3 kd Try.underlying47 _ b L.length D rfl (hM2.setCell (a := ⟨g, 1, none⟩) (fun e => hgb e.symm) _) (by unfold maxLen; omega) _ _ (keyL s) rfl rfl (Go.WideMaps.keyOf_string_mk Try.underlying9 (by unfold maxLen; omega)) (numD m) [] (plainElem_int Try.underlying3 (num_wf (by omega))) ?_
       intro w3 hm3 hg3)
    | go_in)
  go_ret
  have hl1 : L.length + 1 = (L ++ [s]).length := by simp
  have hbw : Below w.heap.size w (w1.alloc (.cells #[.string s] 9)) := hb1.alloc hb1.size _
  have hv2 : ∀ k, (Value.slice A2 m c2).ownBlock = some k → S k ∨ w.heap.size ≤ k := by
    intro k hk
    rcases hat2 with e | e
    · rw [e] at hk; exact .inl (h3 k hk)
    · rw [e] at hk; simp at hk; have := hb1.size; right; omega
  have ht2 : Turn S w w2 := (Turn.of_keep hbw).grown hg2 (fun i e => .inl (h3 i e))
  have ht3 := (ht2.setCell (p := ⟨g, 1, none⟩) (.inl h1) (.slice A2 m c2)).grown hg3 (fun i e => by cases e; exact .inl h2)
  have hB3 := (hB2.set_ 1 (.slice A2 m c2)).grown hg3 (fun e => hgb (by simpa using e))
  have hR3 : (w2.setCell ⟨g, 1, none⟩ (.slice A2 m c2)).ownsRow 0 9 1 (.slice A2 m c2) m (txt L ++ [.string s]) :=
    ((Turn.refl (fun k => k = g) w2).setCell (.inl rfl) _).row ho2 (fun k hk e => own_blk_ne ho2 hB2 (by decide) (by rw [hk, e]))
  have hM3 := row_ne_map hR3 (hM2.setCell (a := ⟨g, 1, none⟩) (fun e => hgb e.symm) (.slice A2 m c2))
  have hR4 := (Turn.of_grown (S := fun k => k = b) hg3 (fun i e => by cases e; rfl)).row hR3 (fun k hk e => hM3 (by rw [hk, e]))
  have hlt := hR4.lt
  refine ⟨rfl, ⟨b, .slice A2 m c2, D.put (keyL s) (numD m), by simpa using hB3, ?_, ?_, ?_, .inl h1, .inl h2, fun k hk => (hv2 k hk).imp id (fun h => ⟨h, (hlt k hk).2⟩)⟩, ht3⟩
  · rw [← hl1]; exact hm3
  · rw [HM.out]; exact HF.out.put hm.isMap H0.out
  · rw [← hl1, txt_snoc, ← HM.out]; exact hR4

theorem Bk.same {w : World} {S : Nat → Prop} {g : Nat} {L : List ByteArray} (h : Bk w S g L) : Bk w (moreB S w w) g L := h.mono fun _ _ => .inl
/-- What is looked up in a book's map. -/
theorem fits_look {D : DataW Unit} {L : List ByteArray} {s : ByteArray} {c : Int} (h : Fits D L) (hc : D.atKey (keyL s) (.lit (.int .i64 0)) = .lit (.int .i64 c)) : c = (idx L s : Nat) := by
  have := (h s).2
  unfold numD at this
  simp only [Int.natCast_zero] at this
  rw [this] at hc
  injection hc with hc
  injection hc with _ hc
  exact hc.symm

set_option maxHeartbeats 1000000 in
set_option maxRecDepth 100000 in
theorem enter_any (S : Nat → Prop) (g : Nat) (L : List ByteArray) (s : ByteArray) (w : World) (h : Bk w S g L) (hl : L.length ≤ 1000000000) :
    Calls Try.prog 8 #[.pointer (some ⟨g, 0, none⟩), .string s] w fun e w' => e = .returned (.tuple #[.int .i64 (enterN L s : Nat), .int .i64 (enterE s : Nat)]) ∧ Bk w' (moreB S w w') g (enterL L s) ∧ Turn S w w' := by
  have HB := Lib.hid h
  obtain ⟨b, v, D, hb, hm, hf, hr, h1, h2, h3⟩ := h
  have c0 := hb.cell 0
  have HF := Lib.hid hf
  clear hf
  by_cases hs : 65536 < s.size
  · have e1 : enterN L s = 0 := by simp [enterN, hs]
    have e2 : enterE s = 2 := by simp [enterE, hs]
    have e3 : enterL L s = L := by simp [enterL, hs]
    rw [e1, e2, e3]
    go_enter Try.func8, Try.ntmps8
    go_wp2_with fail
    go_ret2
    exact ⟨rfl, HB.out.same, Turn.refl _ _⟩
  · have hle : s.size ≤ 65536 := by omega
    have hh := (HF.out s).1
    by_cases h0 : idx L s = 0
    · have hh' : Maps.has D (keyL s) = false := by rw [hh, h0]; rfl
      have e1 : enterN L s = L.length + 1 := by simp [enterN, hs, h0]
      have e2 : enterE s = 0 := by simp [enterE, hs]
      have e3 : enterL L s = L ++ [s] := by simp [enterL, hs, h0]
      rw [e1, e2, e3]
      have H0 := Lib.hid h0
      clear hh h0 e1 e2 e3
      go_enter Try.func8, Try.ntmps8
      go_wp2_with (first
        | (at_lookup
           refine wpList_lookup_own_ok_int _ rfl _ _ 47 rfl 9 3 .i64 kd Try.underlying47 Try.underlying3 (zeroInt _) b L.length D rfl hm _ (keyL s) rfl (WideMaps.keyOf_string_mk Try.underlying9 (by unfold maxLen; omega)) ?_
           intro c hat hwc)
        | (go_at_call 15; refine (add_any S g L s _ HB.out hle hl H0.out).mono ?_; rintro e w1 ⟨rfl, hp⟩)
        | go_in)
      go_ret2
      exact ⟨rfl, hp⟩
    · have hh' : Maps.has D (keyL s) = true := by rw [hh]; simp; omega
      have e1 : enterN L s = idx L s := by simp [enterN, hs, h0]
      have e2 : enterE s = 0 := by simp [enterE, hs]
      have e3 : enterL L s = L := by simp [enterL, hs, h0]
      rw [e1, e2, e3]
      have H0 := Lib.hid h0
      clear hh h0 e1 e2 e3
      go_enter Try.func8, Try.ntmps8
      go_wp2_with (first
        | (at_lookup
           refine wpList_lookup_own_ok_int _ rfl _ _ 47 rfl 9 3 .i64 kd Try.underlying47 Try.underlying3 (zeroInt _) b L.length D rfl hm _ (keyL s) rfl (WideMaps.keyOf_string_mk Try.underlying9 (by unfold maxLen; omega)) ?_
           intro c hat hwc)
        | go_in)
      go_ret2
      have := fits_look HF.out hat
      subst this
      exact ⟨rfl, HB.out.same, Turn.refl _ _⟩
/-- What Look tells beside the number. -/
def lookE (L : List ByteArray) (s : ByteArray) : Nat := if idx L s = 0 then 50 else 0
set_option maxHeartbeats 1000000 in
set_option maxRecDepth 100000 in
theorem look_any (S : Nat → Prop) (g : Nat) (L : List ByteArray) (s : ByteArray) (w : World) (h : Bk w S g L) (hs : s.size ≤ 140737488351232) :
    Calls Try.prog 10 #[.pointer (some ⟨g, 0, none⟩), .string s] w fun e w' => e = .returned (.tuple #[.int .i64 (idx L s : Nat), .int .i64 (lookE L s : Nat)]) ∧ w' = w := by
  obtain ⟨b, v, D, hb, hm, hf, hr, h1, h2, h3⟩ := h
  have c0 := hb.cell 0
  have HF := Lib.hid hf
  clear hf
  have hh := (HF.out s).1
  by_cases h0 : idx L s = 0
  · have hh' : Maps.has D (keyL s) = false := by rw [hh, h0]; rfl
    have e2 : lookE L s = 50 := by simp [lookE, h0]
    rw [e2, h0]
    clear hh h0 e2
    go_enter Try.func10, Try.ntmps10
    go_wp2_with (first
      | (at_lookup
         refine wpList_lookup_own_ok_int _ rfl _ _ 47 rfl 9 3 .i64 kd Try.underlying47 Try.underlying3 (zeroInt _) b L.length D rfl hm _ (keyL s) rfl (WideMaps.keyOf_string_mk Try.underlying9 (by unfold maxLen; omega)) ?_
         intro c hat hwc)
      | go_in)
    go_ret2
    exact ⟨rfl, rfl⟩
  · have hh' : Maps.has D (keyL s) = true := by rw [hh]; simp; omega
    have e2 : lookE L s = 0 := by simp [lookE, h0]
    rw [e2]
    clear hh h0 e2
    go_enter Try.func10, Try.ntmps10
    go_wp2_with (first
      | (at_lookup
         refine wpList_lookup_own_ok_int _ rfl _ _ 47 rfl 9 3 .i64 kd Try.underlying47 Try.underlying3 (zeroInt _) b L.length D rfl hm _ (keyL s) rfl (WideMaps.keyOf_string_mk Try.underlying9 (by unfold maxLen; omega)) ?_
         intro c hat hwc)
      | go_in)
    go_ret2
    have := fits_look HF.out hat
    subst this
    exact ⟨rfl, rfl⟩
set_option maxHeartbeats 1000000 in
set_option maxRecDepth 100000 in
theorem len_any (S : Nat → Prop) (g : Nat) (L : List ByteArray) (w : World) (h : Bk w S g L) :
    Calls Try.prog 14 #[.pointer (some ⟨g, 0, none⟩)] w fun e w' => e = .returned (.int .i64 (L.length : Nat)) ∧ w' = w := by
  obtain ⟨b, v, D, hb, hm, hf, hr, h1, h2, h3⟩ := h
  obtain ⟨A, c, rfl, hc, hrd⟩ := row_reads hr
  have c1 := hb.cell 1
  clear hf hm hr hrd h3
  go_enter Try.func14, Try.ntmps14
  go_wp2_with fail
  go_ret
  exact ⟨rfl, rfl⟩
/-- What Content tells. -/
def contS (L : List ByteArray) (n : Int) : ByteArray := if n < 1 ∨ (L.length : Int) < n then ⟨#[]⟩ else L.getD (n.toNat - 1) ⟨#[]⟩
def contE (L : List ByteArray) (n : Int) : Nat := if n < 1 ∨ (L.length : Int) < n then 50 else 0
set_option maxHeartbeats 1000000 in
set_option maxRecDepth 100000 in
theorem content_any (S : Nat → Prop) (g : Nat) (L : List ByteArray) (n : Int) (w : World) (h : Bk w S g L) (hsz : ∀ s ∈ L, s.size ≤ 65536) (hl : L.length ≤ 1000000000) :
    Calls Try.prog 12 #[.pointer (some ⟨g, 0, none⟩), .int .i64 n] w fun e w' => e = .returned (.tuple #[.string (contS L n), .int .i64 (contE L n : Nat)]) ∧ Below w.heap.size w w' := by
  obtain ⟨b, v, D, hb, hm, hf, hr, h1, h2, h3⟩ := h
  obtain ⟨A, c, rfl, hc, hrd⟩ := row_reads hr
  have c1 := hb.cell 1
  clear hf hm hr h3
  by_cases hn1 : n < 1
  · have e1 : contS L n = ⟨#[]⟩ := by simp [contS, hn1]
    have e2 : contE L n = 50 := by simp [contE, hn1]
    rw [e1, e2]
    clear e1 e2
    go_enter Try.func12, Try.ntmps12
    go_wp2_with fail
    go_ret2
    exact ⟨rfl, Below.refl _ _⟩
  · by_cases hn2 : (L.length : Int) < n
    · have e1 : contS L n = ⟨#[]⟩ := by simp [contS, hn2]
      have e2 : contE L n = 50 := by simp [contE, hn2]
      rw [e1, e2]
      clear e1 e2
      go_enter Try.func12, Try.ntmps12
      go_wp2_with fail
      go_ret2
      exact ⟨rfl, Below.refl _ _⟩
    · obtain ⟨k, rfl⟩ : ∃ k : Nat, n = (k : Int) + 1 := ⟨(n - 1).toNat, by omega⟩
      have hk : k < L.length := by omega
      have e1 : contS L ((k : Int) + 1) = L[k] := by
        unfold contS
        rw [if_neg (by omega)]
        have : ((k : Int) + 1).toNat - 1 = k := by omega
        rw [this, List.getD_eq_getElem?_getD, List.getElem?_eq_getElem hk]; rfl
      have e2 : contE L ((k : Int) + 1) = 0 := by unfold contE; rw [if_neg (by omega)]
      have hz := hsz _ (List.getElem_mem hk)
      obtain ⟨ad, u, rfl, _, hx, hcl⟩ := hrd.at_ hk
      have hu : u = .string L[k] := by
        simp only [txt, List.getElem?_map, List.getElem?_eq_getElem hk, Option.map_some, Option.some.injEq] at hx
        exact hx.symm
      subst hu
      rw [e1, e2]
      obtain ⟨s, hs⟩ : ∃ s, s = L[k] := ⟨_, rfl⟩
      rw [← hs] at hcl hz ⊢
      have hw : IntKind.i64.wrap (k : Int) = (k : Int) := IntWalk.i64_in _ (by omega)
      clear e1 e2 hx hs hrd
      go_enter Try.func12, Try.ntmps12
      go_wp2_with (go_at_call 16; refine (strclone_any s _ (by omega)).mono ?_; rintro e w1 ⟨rfl, hb1⟩)
      go_ret2
      exact ⟨rfl, hb1⟩
end Go.Proofs.Ytiakbcmolgpnlaa
