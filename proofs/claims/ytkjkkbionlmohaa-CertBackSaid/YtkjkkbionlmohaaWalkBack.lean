/-
  The walk through the law of there and back, of ranks' order and of the higher one.
-/
import Derived.Test.YtkjkkbionlmohaaAlive
import Derived.Test.YtkjkkbionlmohaaTakeC
import Derived.Deep.CutRange
set_option linter.unusedSimpArgs false
set_option linter.unusedVariables false
namespace Go.Proofs.Ytkjkkbionlmohaa
open Go.RowKit Go.Lib
open L3 (Rdr leaves)

theorem ci (x y : Int) : (x < y ∧ compareInt x y = -1) ∨ (x = y ∧ compareInt x y = 0) ∨ (y < x ∧ compareInt x y = 1) := by
  unfold compareInt
  by_cases h : x < y
  · exact .inl ⟨h, if_pos h⟩
  · by_cases h2 : x > y
    · exact .inr (.inr ⟨h2, by rw [if_neg h, if_pos h2]⟩)
    · exact .inr (.inl ⟨by omega, by rw [if_neg h, if_neg h2]⟩)
/-- Lower by rank. -/
def low (a b : Crt) : Prop := a.view < b.view ∨ (a.view = b.view ∧ (upV a < upV b ∨ (upV a = upV b ∧ a.round < b.round)))
theorem cmp_spec (a b : Crt) : (cmpV a b = -1 ∧ low a b) ∨ (cmpV a b = 0 ∧ a.view = b.view ∧ upV a = upV b ∧ a.round = b.round) ∨ (cmpV a b = 1 ∧ low b a) := by
  unfold cmpV low
  rcases ci a.view b.view with ⟨h1, e1⟩ | ⟨h1, e1⟩ | ⟨h1, e1⟩
  · rw [e1]; exact .inl ⟨rfl, .inl h1⟩
  · rw [e1]
    rcases ci (upV a) (upV b) with ⟨h2, e2⟩ | ⟨h2, e2⟩ | ⟨h2, e2⟩
    · rw [e2]; exact .inl ⟨rfl, .inr ⟨h1, .inl h2⟩⟩
    · rw [e2]
      rcases ci a.round b.round with ⟨h3, e3⟩ | ⟨h3, e3⟩ | ⟨h3, e3⟩
      · rw [e3]; exact .inl ⟨rfl, .inr ⟨h1, .inr ⟨h2, h3⟩⟩⟩
      · rw [e3]; exact .inr (.inl ⟨rfl, h1, h2, h3⟩)
      · rw [e3]; exact .inr (.inr ⟨rfl, .inr ⟨h1.symm, .inr ⟨h2.symm, h3⟩⟩⟩)
    · rw [e2]; exact .inr (.inr ⟨rfl, .inr ⟨h1.symm, .inl h2⟩⟩)
  · rw [e1]; exact .inr (.inr ⟨rfl, .inl h1⟩)
theorem cmp_neg (a b : Crt) : cmpV b a = -cmpV a b := by
  rcases cmp_spec a b with ⟨e, h⟩ | ⟨e, h⟩ | ⟨e, h⟩ <;> rcases cmp_spec b a with ⟨e', h'⟩ | ⟨e', h'⟩ | ⟨e', h'⟩ <;> (try unfold low at *) <;> omega
theorem cmp_refl (a : Crt) : cmpV a a = 0 := by
  have := cmp_neg a a; omega
theorem cmp_vals (a b : Crt) : cmpV a b = -1 ∨ cmpV a b = 0 ∨ cmpV a b = 1 := by
  rcases cmp_spec a b with ⟨e, _⟩ | ⟨e, _⟩ | ⟨e, _⟩
  · exact .inl e
  · exact .inr (.inl e)
  · exact .inr (.inr e)
theorem cmp_trans {a b c : Crt} (h1 : cmpV a b ≤ 0) (h2 : cmpV b c ≤ 0) : cmpV a c ≤ 0 := by
  rcases cmp_spec a b with ⟨e, h⟩ | ⟨e, h⟩ | ⟨e, h⟩ <;> rcases cmp_spec b c with ⟨e', h'⟩ | ⟨e', h'⟩ | ⟨e', h'⟩ <;> rcases cmp_spec a c with ⟨e'', h''⟩ | ⟨e'', h''⟩ | ⟨e'', h''⟩ <;> (try unfold low at *) <;> omega
/-- The three boxes. -/
structure TriB (w : World) (a b c : Crt) (W : World) : Prop where
  ba : L3.Blk W w.heap.size 24 (crtC a)
  bb : L3.Blk W (w.heap.size + 1) 24 (crtC b)
  bc : L3.Blk W (w.heap.size + 1 + 1) 24 (crtC c)
  bw : Below w.heap.size w W
section
variable {w W W' : World} {a b c : Crt}
theorem TriB.below (h : TriB w a b c W) (hb : Below W.heap.size W W') : TriB w a b c W' := ⟨h.ba.below hb h.ba.lt, h.bb.below hb h.bb.lt, h.bc.below hb h.bc.lt, nxt h.bw hb⟩
theorem TriB.leaves {g : Nat} {q : List UInt8 × Int} (h : TriB w a b c W) (hl : leaves g q W W') (hg : w.heap.size + 1 + 1 < g) : TriB w a b c W' :=
  ⟨h.ba.grown hl.2 (fun e => by injection e with e; omega), h.bb.grown hl.2 (fun e => by injection e with e; omega), h.bc.grown hl.2 (fun e => by injection e with e; omega), h.bw.grown hl.2 h.bw.size (fun k hk => by cases hk; omega)⟩
theorem TriB.drew (h : TriB w a b c W) : TriB w a b c W.drew := ⟨h.ba.drew, h.bb.drew, h.bc.drew, h.bw.drew⟩
theorem tri_new (w : World) (a b c : Crt) : TriB w a b c (((w.alloc (.cells (crtC a) 24)).alloc (.cells (crtC b) 24)).alloc (.cells (crtC c) 24)) := by
  obtain ⟨h1, h2, h3⟩ := arg_mk w a b
  refine ⟨h1.alloc _, h2.alloc _, ?_, h3.alloc h3.size _⟩
  have := blk_new ((w.alloc (.cells (crtC a) 24)).alloc (.cells (crtC b) 24)) 24 (crtC c)
  simpa using this
end
/-- Bytes, or an error. -/
theorem bytes_any (c : Crt) (w : World) (h : c.wf) : Calls Try.prog 7 #[.agg (crtC c)] w fun e w' => ∃ A n k, e = .returned (.tuple #[.slice A n k, .int .i64 (errI (mayV c) 110)]) ∧ (mayV c = true → n = (bytesV c).length ∧ L3.Reads w' w'.heap.size 1 A n (byteCells (bytesV c))) ∧ Below w.heap.size w w' := by
  rcases Bool.eq_false_or_eq_true (mayV c) with hm | hm
  · refine (bytes_ok c w h hm).mono ?_
    rintro e w' ⟨A, k, rfl, hr, _, hb⟩
    exact ⟨A, _, k, by rw [hm]; rfl, fun _ => ⟨rfl, hr⟩, hb⟩
  · refine (bytes_no c w h hm).mono ?_
    rintro e w' ⟨rfl, hb⟩
    exact ⟨none, 0, 0, by rw [hm]; rfl, fun h => (by rw [hm] at h; cases h), hb⟩
set_option maxHeartbeats 1000000 in
set_option maxRecDepth 100000 in
theorem long_walk (a b c : Crt) (A : Option Addr) (k : Nat) (rest : List UInt8) (w : World) (hl : 1000 < rest.length) : Calls Try.prog 4 #[.agg (crtC a), .agg (crtC b), .agg (crtC c), .slice A rest.length k] w (gives (.bool true) w) := by
  have hZ := Lib.hid (tri_new w a b c)
  go_enter Try.func4, Try.ntmps4
  go_upto_region 1 with fail
  refine name_world (fun w0 hw0 => ?_)
  have hA0 : TriB w a b c w0 := by rw [hw0]; exact hZ.out
  clear hw0 hZ
  go_wp2_with (first
    | (go_at_call 6; refine (alive_any _).mono ?_; unfold gives; rintro e w1 ⟨rfl, hb1⟩; have hA1 := hA0.below hb1))
  go_ret
  exact ⟨rfl, hA1.bw⟩
theorem len_is (a b : List UInt8) : (a ++ b).length = a.length + b.length := List.length_append
/-- The three boxes and the higher one's. -/
structure EndAt (w : World) (G : Nat) (a b c m : Crt) (W : World) : Prop where
  tri : TriB w a b c W
  bm : L3.Blk W G 24 (crtC m)
section
variable {w W W' : World} {a b c m : Crt} {G : Nat}
theorem EndAt.below (h : EndAt w G a b c m W) (hb : Below W.heap.size W W') : EndAt w G a b c m W' := ⟨h.tri.below hb, h.bm.below hb h.bm.lt⟩
theorem EndAt.drew (h : EndAt w G a b c m W) : EndAt w G a b c m W.drew := ⟨h.tri.drew, h.bm.drew⟩
theorem end_new (m : Crt) (h : TriB w a b c W) : EndAt w W.heap.size a b c m (W.alloc (.cells (crtC m) 24)) := ⟨h.below (below_new _), blk_new _ _ _⟩
end
set_option maxHeartbeats 4000000 in
set_option maxRecDepth 100000 in
theorem short_walk (a b c : Crt) (A : Option Addr) (k : Nat) (rest : List UInt8) (w : World) (ha : a.wf) (hb : b.wf) (hc : c.wf) (hl : rest.length ≤ 1000) (hrd : L3.Reads w w.heap.size 1 A rest.length (byteCells rest)) : Calls Try.prog 4 #[.agg (crtC a), .agg (crtC b), .agg (crtC c), .slice A rest.length k] w (gives (.bool true) w) := by
  obtain ⟨i0, hi, hz0, hz1, hz2⟩ := info_parts L3.byteInfo
  have HI := Lib.hid (And.intro hi (And.intro hz0 (And.intro hz1 hz2)))
  clear hi hz0 hz1 hz2
  have hZ := Lib.hid (tri_new w a b c)
  have hBy := fun W => bytes_any a W ha
  have hbl := fun h : mayV a = true => bytes_len h
  have htk := fun h : mayV a = true => take_bytes a rest h
  obtain ⟨bs, hbs⟩ : ∃ b, b = bytesV a := ⟨_, rfl⟩
  obtain ⟨ys, hys⟩ : ∃ b, b = bs ++ rest := ⟨_, rfl⟩
  rw [← hbs] at hBy hbl htk
  rw [← hys] at htk
  have HY := Lib.hid hys
  have HBL := Lib.hid hbl
  have HTK0 := Lib.hid htk
  clear hys hbs hbl htk
  have HR := Lib.hid hrd
  have HL := Lib.hid hl
  obtain ⟨m, hm⟩ : ∃ m, m = errI (mayV a) 110 := ⟨_, rfl⟩
  rw [← hm] at hBy
  have HB := Lib.hid hBy
  have HM := Lib.hid hm
  have HT := Lib.hid (fun g p W h => take_any g p W h)
  have HN := Lib.hid (fun W => neqC ha ha W)
  have HQ := Lib.hid (And.intro (fun W => eqlC hb ha W) (And.intro (fun W => eqlC ha ha W) (fun W => eqlC hb hb W)))
  have Hab := Lib.hid (fun W => cmp_any a b W)
  clear hm hrd hBy
  go_enter Try.func4, Try.ntmps4
  go_upto_region 1 with fail
  refine name_world (fun w0 hw0 => ?_)
  have hA0 : TriB w a b c w0 := by rw [hw0]; exact hZ.out
  clear hw0 hZ
  go_upto_if 24 with (first
    | (go_at_call 6; refine (alive_any _).mono ?_; unfold gives; rintro e w1 ⟨rfl, hb1⟩; have hA1 := hA0.below hb1)
    | (refine wpList_row_at rfl _ _ rfl w.heap.size rfl _ _ _ _ hA1.ba Try.underlying24 rfl crtInfo ?_)
    | (go_at_call 7; refine (HB.out _).mono ?_; rintro e w3 ⟨A3, n3, c3, rfl, hr3, hb3⟩; have hA3 := hA1.below hb3))
  clear hA0 hA1 hb1 hb3
  go_cut [11] from 24 to 41 (fun s11 wx => TriB w a b c wx)
  case first =>
    rcases Bool.eq_false_or_eq_true (mayV a) with hma | hma
    · have hm0 : m = 0 := by rw [HM.out, hma]; rfl
      obtain ⟨rfl, r3⟩ := hr3 hma
      subst hm0
      obtain ⟨hi, hz0, hz1, hz2⟩ := HI.out
      have hbl := HBL.out hma
      have HTK := Lib.hid (HTK0.out hma)
      have r0 := (HR.out.below hA3.bw).more hA3.bw.size
      have hs3 := hA3.bc.lt
      clear hma HB HM hr3 HBL HTK0
      go_upto_region 8 with (first
        | (at_builtin; refine L3.wpList_append_any _ rfl _ _ _ rfl w3.heap.size 5 i0 (.int .u8 0) 1 1 Try.underlying26 hi hz0 hz1 hz2 rfl (by decide) (.slice (some ⟨w3.heap.size, 0, none⟩) 0 0) 0 [] rfl (World.ownsRow_made _ _ 0 (by omega) (by decide) rfl) _ A3 bs.length c3 (byteCells bs) rfl (r3.alloc (Nat.le_refl _) _) (L3.byteCells_one _) (by unfold maxLen; omega) (by omega) (by first | omega | (simp; done) | (simp; omega)) ?_; intro v4 w4 ho4 hg4 _; have hb34 : Below w3.heap.size w3 w4 := ((Below.refl _ w3).alloc (Nat.le_refl _) _).grown hg4 (by simp) (fun k hk => by simp [Value.ownBlock] at hk; omega); simp only [Nat.zero_add, List.nil_append] at ho4; have r04 := (r0.below hb34).more hb34.size; have hs34 := hb34.size)
        | (at_builtin; refine L3.wpList_append_any _ rfl _ _ _ rfl w3.heap.size 5 i0 (.int .u8 0) 1 1 Try.underlying26 hi hz0 hz1 hz2 rfl (by decide) v4 bs.length (byteCells bs) rfl ho4 _ A rest.length k (byteCells rest) rfl r04 (L3.byteCells_one _) (by unfold maxLen; omega) (by omega) (by first | omega | (simp; done) | (simp; omega)) ?_; intro v5 w5 ho5 hg5 _; have hb35 : Below w3.heap.size w3 w5 := hb34.grown hg5 hb34.size (fun k hk => (ho4.lt k hk).1); have hN := len_is bs rest; obtain ⟨N, hNe⟩ : ∃ N, N = bs.length + rest.length := ⟨_, rfl⟩; rw [← hNe] at ho5 hN; obtain ⟨A5, c5, rfl⟩ := own_form ho5; have r5 : L3.Reads w5 w5.heap.size 1 A5 N (byteCells ys) := (by have := L3.Reads.of_own ho5; rw [HY.out, byteCells_append]; exact this); have hN2 : N ≤ 2000 := (by omega); clear hNe hN)
        | (go_at_call 15; refine (L3.new_any _ A5 N c5 ys _ r5 (by omega) (Nat.le_refl _)).mono ?_; unfold L3.made; rintro e w6 ⟨g, rfl, hg6, hrd6, hb6⟩))
      have hb36 : Below w3.heap.size w3 w6 := hb35.trans (hb6.mono hb35.size)
      have hA6 := hA3.below hb36
      have hg2 : w.heap.size + 1 + 1 < g := by have := hb35.size; omega
      have hD := hA6.drew
      have hrD : Rdr w6.drew g (ys, 0) := rdr_below hrd6 (Below.refl _ w6).drew hrd6.lt
      clear hb36 hb35 hb34 hb6 hg6 hg5 hg4 ho5 ho4 r5 r04 r0 r3 hs34 hs3 hrd6 hi hz0 hz1 hz2 hN2 HR HL hA6 hA3 HI
      refine wp_region_K (TriB w a b c) [0, 2, 3, 4, 5, 7] (by kernel_rfl) ?_
      refine wpK_quiet (f := 9) (by kernel_rfl) (fun _ x _ _ _ h => by cases x <;> exact h) hD [0, 2] _ _ (by kernel_rfl) (by kernel_rfl) (by kernel_rfl) ?_
      have ne : Nonempty (WorldIn (TriB w a b c)) := ⟨⟨_, hD⟩⟩
      conv => arg 5; simp [pick]
      iterate 1 go_big_quiet_step (fail)
      refine wpQuiet_row rfl _ _ rfl w.heap.size rfl _ _ _ _ (fun y => y.h.ba) Try.underlying24 rfl crtInfo ?_
      conv => arg 6; simp only [Act.put, List.setIfInBounds_toArray, List.set_cons_zero, List.set_cons_succ]
      refine wpQuiet_nil ?_
      refine wpK_step 1 (by kernel_rfl) rfl ?_
      go_wp2_with (go_at_call 16; refine (HT.out g (ys, 0) _ hrD).mono ?_; rw [HTK.out]; rintro e w7 ⟨rfl, hl7⟩)
      have hA7 := hD.leaves hl7 hg2
      refine stepQ.mk ⟨fun _ => hA7, ?_⟩
      refine wpK_quiet (f := 4) (by kernel_rfl) (fun _ x _ _ _ h => by cases x <;> exact h) hA7 [3, 4, 5, 7] _ _ (by kernel_rfl) (by kernel_rfl) (by kernel_rfl) ?_
      conv => arg 5; simp [pick]
      refine wpQuiet_binop rfl _ _ _ _ _ rfl (crtC a) (crtC a) rfl rfl (by kernel_rfl) (v := .bool false) (fun W => by rw [HN.out W]; simp) ?_
      conv => arg 6; simp only [Act.put, List.setIfInBounds_toArray, List.set_cons_zero, List.set_cons_succ]
      iterate 3 go_big_quiet_step (fail)
      refine wpQuiet_nil ?_
      clear ne hD hrD HT HTK HN
      refine wpK_two 6 8 (by kernel_rfl) rfl rfl ?_ ?_
      · go_wp2_with (go_at_call 17; refine (L3.rrest_any g (rest, 0) _ hl7.1).mono ?_; rintro e w8 ⟨rfl, rfl⟩)
        refine stepQ.mk ⟨fun _ => hA7, ?_⟩
        refine wpK_step 8 (by kernel_rfl) rfl ?_
        go_wp2
        refine stepQ.mk ⟨fun _ => hA7, ?_⟩
        refine wpK_step 9 (by kernel_rfl) rfl ?_
        go_wp2
        refine stepQ.mk ⟨fun _ => hA7, ?_⟩
        refine wpK_step 10 (by kernel_rfl) rfl ?_
        go_wp2
        refine stepQ.mk ⟨fun _ => hA7, ?_⟩
        refine wpK_seq [] _ _ _ (by kernel_rfl) ?_
        conv => arg 4; simp [pick]
        go_wp2
        (try simp only [Act.put])
        go_meet
        exact hA7
      · go_wp2
        refine stepQ.mk ⟨fun _ => hA7, ?_⟩
        refine wpK_step 6 (by kernel_rfl) rfl ?_
        go_wp2_with (go_at_call 17; refine (L3.rrest_any g (rest, 0) _ hl7.1).mono ?_; rintro e w8 ⟨rfl, rfl⟩)
        refine stepQ.mk ⟨fun _ => hA7, ?_⟩
        refine wpK_step 9 (by kernel_rfl) rfl ?_
        go_wp2
        refine stepQ.mk ⟨fun _ => hA7, ?_⟩
        refine wpK_step 10 (by kernel_rfl) rfl ?_
        go_wp2
        refine stepQ.mk ⟨fun _ => hA7, ?_⟩
        refine wpK_seq [] _ _ _ (by kernel_rfl) ?_
        conv => arg 4; simp [pick]
        go_wp2
        (try simp only [Act.put])
        go_meet
        exact hA7
    · have hm0 : m = 110 := by rw [HM.out, hma]; rfl
      subst hm0
      go_wp2
      go_meet
      exact hA3
  case rest =>
    clear hA3 hr3 HB HR HL HI HT HN HM HBL HTK0 HY
    have hv1 := cmp_vals a b
    have hv2 := cmp_vals b c
    have hv3 := cmp_vals a c
    have htr := cmp_trans (a := a) (b := b) (c := c)
    have hba := fun W => cmp_any b a W
    rw [cmp_neg a b] at hba
    have haa := fun W => cmp_any a a W
    rw [cmp_refl a] at haa
    have hbb := fun W => cmp_any b b W
    rw [cmp_refl b] at hbb
    have hbc := fun W => cmp_any b c W
    have hac := fun W => cmp_any a c W
    have hab := Hab.out
    have hmx := fun W => max_any a b W
    have hne : cmpV a b = -1 → decide (b = a) = false := fun h => decide_eq_false (fun e => by rw [e, cmp_refl] at h; omega)
    obtain ⟨m1, e1⟩ : ∃ m, m = cmpV a b := ⟨_, rfl⟩
    obtain ⟨m2, e2⟩ : ∃ m, m = cmpV b c := ⟨_, rfl⟩
    obtain ⟨m3, e3⟩ : ∃ m, m = cmpV a c := ⟨_, rfl⟩
    rw [← e1] at hv1 htr hba hab hmx hne
    rw [← e2] at hv2 htr hbc
    rw [← e3] at hv3 htr hac
    have HC := Lib.hid (And.intro hab (And.intro hba (And.intro haa (And.intro hbc hac))))
    have HX := Lib.hid (And.intro hba (And.intro hbb (And.intro haa (And.intro hab hmx))))
    have HNE := Lib.hid hne
    have HV := Lib.hid hv1
    clear e1 e2 e3 hba haa hbb hbc hac hab hmx hne Hab
    go_upto_region 10 with fail
    go_cut [73] from 42 to 72 (fun s73 wx => s73 = .bool false ∧ TriB w a b c wx)
    case first =>
      have hD := hcut.drew
      have ne : Nonempty (WorldIn (TriB w a b c)) := ⟨⟨_, hD⟩⟩
      clear HX HNE HV HQ
      rcases hv1 with rfl | rfl | rfl
      case inl =>
        rcases hv2 with rfl | rfl | rfl
        case inr.inr =>
          clear htr
          refine wp_region_S (TriB w a b c) (by kernel_rfl) (by kernel_rfl) hD ?_
          refine wpQuiet_row rfl _ _ rfl w.heap.size rfl _ _ _ _ (fun y => y.h.ba) Try.underlying24 rfl crtInfo ?_
          conv => arg 6; simp only [Act.put, List.setIfInBounds_toArray, List.set_cons_zero, List.set_cons_succ]
          refine wpQuiet_row rfl _ _ rfl (w.heap.size + 1) rfl _ _ _ _ (fun y => y.h.bb) Try.underlying24 rfl crtInfo ?_
          conv => arg 6; simp only [Act.put, List.setIfInBounds_toArray, List.set_cons_zero, List.set_cons_succ]
          refine wpQuiet_fn rfl 18 _ _ rfl Try.call18 [.agg (crtC a), .agg (crtC b)] rfl (fun x => (HC.out.1 x.w).mono fun e w' ⟨he, hb⟩ => ⟨he, x.h.below hb⟩) ?_
          conv => arg 6; simp only [Act.put, List.setIfInBounds_toArray, List.set_cons_zero, List.set_cons_succ]
          refine wpQuiet_row rfl _ _ rfl (w.heap.size + 1) rfl _ _ _ _ (fun y => y.h.bb) Try.underlying24 rfl crtInfo ?_
          conv => arg 6; simp only [Act.put, List.setIfInBounds_toArray, List.set_cons_zero, List.set_cons_succ]
          refine wpQuiet_row rfl _ _ rfl w.heap.size rfl _ _ _ _ (fun y => y.h.ba) Try.underlying24 rfl crtInfo ?_
          conv => arg 6; simp only [Act.put, List.setIfInBounds_toArray, List.set_cons_zero, List.set_cons_succ]
          refine wpQuiet_fn rfl 18 _ _ rfl Try.call18 [.agg (crtC b), .agg (crtC a)] rfl (fun x => (HC.out.2.1 x.w).mono fun e w' ⟨he, hb⟩ => ⟨he, x.h.below hb⟩) ?_
          conv => arg 6; simp only [Act.put, List.setIfInBounds_toArray, List.set_cons_zero, List.set_cons_succ]
          iterate 3 go_big_quiet_step (fail)
          refine wpQuiet_row rfl _ _ rfl w.heap.size rfl _ _ _ _ (fun y => y.h.ba) Try.underlying24 rfl crtInfo ?_
          conv => arg 6; simp only [Act.put, List.setIfInBounds_toArray, List.set_cons_zero, List.set_cons_succ]
          refine wpQuiet_row rfl _ _ rfl w.heap.size rfl _ _ _ _ (fun y => y.h.ba) Try.underlying24 rfl crtInfo ?_
          conv => arg 6; simp only [Act.put, List.setIfInBounds_toArray, List.set_cons_zero, List.set_cons_succ]
          refine wpQuiet_fn rfl 18 _ _ rfl Try.call18 [.agg (crtC a), .agg (crtC a)] rfl (fun x => (HC.out.2.2.1 x.w).mono fun e w' ⟨he, hb⟩ => ⟨he, x.h.below hb⟩) ?_
          conv => arg 6; simp only [Act.put, List.setIfInBounds_toArray, List.set_cons_zero, List.set_cons_succ]
          iterate 3 go_big_quiet_step (fail)
          refine wpQuiet_row rfl _ _ rfl w.heap.size rfl _ _ _ _ (fun y => y.h.ba) Try.underlying24 rfl crtInfo ?_
          conv => arg 6; simp only [Act.put, List.setIfInBounds_toArray, List.set_cons_zero, List.set_cons_succ]
          refine wpQuiet_row rfl _ _ rfl (w.heap.size + 1) rfl _ _ _ _ (fun y => y.h.bb) Try.underlying24 rfl crtInfo ?_
          conv => arg 6; simp only [Act.put, List.setIfInBounds_toArray, List.set_cons_zero, List.set_cons_succ]
          refine wpQuiet_fn rfl 18 _ _ rfl Try.call18 [.agg (crtC a), .agg (crtC b)] rfl (fun x => (HC.out.1 x.w).mono fun e w' ⟨he, hb⟩ => ⟨he, x.h.below hb⟩) ?_
          conv => arg 6; simp only [Act.put, List.setIfInBounds_toArray, List.set_cons_zero, List.set_cons_succ]
          iterate 2 go_big_quiet_step (fail)
          refine wpQuiet_row rfl _ _ rfl (w.heap.size + 1) rfl _ _ _ _ (fun y => y.h.bb) Try.underlying24 rfl crtInfo ?_
          conv => arg 6; simp only [Act.put, List.setIfInBounds_toArray, List.set_cons_zero, List.set_cons_succ]
          refine wpQuiet_row rfl _ _ rfl (w.heap.size + 1 + 1) rfl _ _ _ _ (fun y => y.h.bc) Try.underlying24 rfl crtInfo ?_
          conv => arg 6; simp only [Act.put, List.setIfInBounds_toArray, List.set_cons_zero, List.set_cons_succ]
          refine wpQuiet_fn rfl 18 _ _ rfl Try.call18 [.agg (crtC b), .agg (crtC c)] rfl (fun x => (HC.out.2.2.2.1 x.w).mono fun e w' ⟨he, hb⟩ => ⟨he, x.h.below hb⟩) ?_
          conv => arg 6; simp only [Act.put, List.setIfInBounds_toArray, List.set_cons_zero, List.set_cons_succ]
          iterate 9 go_big_quiet_step (fail)
          refine wpQuiet_nil ?_
          intro x
          obtain ⟨w5, hA5⟩ := x
          dsimp only
          go_wp2
          go_meet
          exact ⟨rfl, hA5⟩
        all_goals
          rcases hv3 with rfl | rfl | rfl
          case inr.inr => exfalso; have := htr (by omega) (by omega); omega
        all_goals
          clear htr
          refine wp_region_S (TriB w a b c) (by kernel_rfl) (by kernel_rfl) hD ?_
          refine wpQuiet_row rfl _ _ rfl w.heap.size rfl _ _ _ _ (fun y => y.h.ba) Try.underlying24 rfl crtInfo ?_
          conv => arg 6; simp only [Act.put, List.setIfInBounds_toArray, List.set_cons_zero, List.set_cons_succ]
          refine wpQuiet_row rfl _ _ rfl (w.heap.size + 1) rfl _ _ _ _ (fun y => y.h.bb) Try.underlying24 rfl crtInfo ?_
          conv => arg 6; simp only [Act.put, List.setIfInBounds_toArray, List.set_cons_zero, List.set_cons_succ]
          refine wpQuiet_fn rfl 18 _ _ rfl Try.call18 [.agg (crtC a), .agg (crtC b)] rfl (fun x => (HC.out.1 x.w).mono fun e w' ⟨he, hb⟩ => ⟨he, x.h.below hb⟩) ?_
          conv => arg 6; simp only [Act.put, List.setIfInBounds_toArray, List.set_cons_zero, List.set_cons_succ]
          refine wpQuiet_row rfl _ _ rfl (w.heap.size + 1) rfl _ _ _ _ (fun y => y.h.bb) Try.underlying24 rfl crtInfo ?_
          conv => arg 6; simp only [Act.put, List.setIfInBounds_toArray, List.set_cons_zero, List.set_cons_succ]
          refine wpQuiet_row rfl _ _ rfl w.heap.size rfl _ _ _ _ (fun y => y.h.ba) Try.underlying24 rfl crtInfo ?_
          conv => arg 6; simp only [Act.put, List.setIfInBounds_toArray, List.set_cons_zero, List.set_cons_succ]
          refine wpQuiet_fn rfl 18 _ _ rfl Try.call18 [.agg (crtC b), .agg (crtC a)] rfl (fun x => (HC.out.2.1 x.w).mono fun e w' ⟨he, hb⟩ => ⟨he, x.h.below hb⟩) ?_
          conv => arg 6; simp only [Act.put, List.setIfInBounds_toArray, List.set_cons_zero, List.set_cons_succ]
          iterate 3 go_big_quiet_step (fail)
          refine wpQuiet_row rfl _ _ rfl w.heap.size rfl _ _ _ _ (fun y => y.h.ba) Try.underlying24 rfl crtInfo ?_
          conv => arg 6; simp only [Act.put, List.setIfInBounds_toArray, List.set_cons_zero, List.set_cons_succ]
          refine wpQuiet_row rfl _ _ rfl w.heap.size rfl _ _ _ _ (fun y => y.h.ba) Try.underlying24 rfl crtInfo ?_
          conv => arg 6; simp only [Act.put, List.setIfInBounds_toArray, List.set_cons_zero, List.set_cons_succ]
          refine wpQuiet_fn rfl 18 _ _ rfl Try.call18 [.agg (crtC a), .agg (crtC a)] rfl (fun x => (HC.out.2.2.1 x.w).mono fun e w' ⟨he, hb⟩ => ⟨he, x.h.below hb⟩) ?_
          conv => arg 6; simp only [Act.put, List.setIfInBounds_toArray, List.set_cons_zero, List.set_cons_succ]
          iterate 3 go_big_quiet_step (fail)
          refine wpQuiet_row rfl _ _ rfl w.heap.size rfl _ _ _ _ (fun y => y.h.ba) Try.underlying24 rfl crtInfo ?_
          conv => arg 6; simp only [Act.put, List.setIfInBounds_toArray, List.set_cons_zero, List.set_cons_succ]
          refine wpQuiet_row rfl _ _ rfl (w.heap.size + 1) rfl _ _ _ _ (fun y => y.h.bb) Try.underlying24 rfl crtInfo ?_
          conv => arg 6; simp only [Act.put, List.setIfInBounds_toArray, List.set_cons_zero, List.set_cons_succ]
          refine wpQuiet_fn rfl 18 _ _ rfl Try.call18 [.agg (crtC a), .agg (crtC b)] rfl (fun x => (HC.out.1 x.w).mono fun e w' ⟨he, hb⟩ => ⟨he, x.h.below hb⟩) ?_
          conv => arg 6; simp only [Act.put, List.setIfInBounds_toArray, List.set_cons_zero, List.set_cons_succ]
          iterate 2 go_big_quiet_step (fail)
          refine wpQuiet_row rfl _ _ rfl (w.heap.size + 1) rfl _ _ _ _ (fun y => y.h.bb) Try.underlying24 rfl crtInfo ?_
          conv => arg 6; simp only [Act.put, List.setIfInBounds_toArray, List.set_cons_zero, List.set_cons_succ]
          refine wpQuiet_row rfl _ _ rfl (w.heap.size + 1 + 1) rfl _ _ _ _ (fun y => y.h.bc) Try.underlying24 rfl crtInfo ?_
          conv => arg 6; simp only [Act.put, List.setIfInBounds_toArray, List.set_cons_zero, List.set_cons_succ]
          refine wpQuiet_fn rfl 18 _ _ rfl Try.call18 [.agg (crtC b), .agg (crtC c)] rfl (fun x => (HC.out.2.2.2.1 x.w).mono fun e w' ⟨he, hb⟩ => ⟨he, x.h.below hb⟩) ?_
          conv => arg 6; simp only [Act.put, List.setIfInBounds_toArray, List.set_cons_zero, List.set_cons_succ]
          iterate 3 go_big_quiet_step (fail)
          refine wpQuiet_row rfl _ _ rfl w.heap.size rfl _ _ _ _ (fun y => y.h.ba) Try.underlying24 rfl crtInfo ?_
          conv => arg 6; simp only [Act.put, List.setIfInBounds_toArray, List.set_cons_zero, List.set_cons_succ]
          refine wpQuiet_row rfl _ _ rfl (w.heap.size + 1 + 1) rfl _ _ _ _ (fun y => y.h.bc) Try.underlying24 rfl crtInfo ?_
          conv => arg 6; simp only [Act.put, List.setIfInBounds_toArray, List.set_cons_zero, List.set_cons_succ]
          refine wpQuiet_fn rfl 18 _ _ rfl Try.call18 [.agg (crtC a), .agg (crtC c)] rfl (fun x => (HC.out.2.2.2.2 x.w).mono fun e w' ⟨he, hb⟩ => ⟨he, x.h.below hb⟩) ?_
          conv => arg 6; simp only [Act.put, List.setIfInBounds_toArray, List.set_cons_zero, List.set_cons_succ]
          iterate 3 go_big_quiet_step (fail)
          refine wpQuiet_nil ?_
          intro x
          obtain ⟨w5, hA5⟩ := x
          dsimp only
          go_wp2
          go_meet
          exact ⟨rfl, hA5⟩
      case inr.inl =>
        rcases hv2 with rfl | rfl | rfl
        case inr.inr =>
          clear htr
          refine wp_region_S (TriB w a b c) (by kernel_rfl) (by kernel_rfl) hD ?_
          refine wpQuiet_row rfl _ _ rfl w.heap.size rfl _ _ _ _ (fun y => y.h.ba) Try.underlying24 rfl crtInfo ?_
          conv => arg 6; simp only [Act.put, List.setIfInBounds_toArray, List.set_cons_zero, List.set_cons_succ]
          refine wpQuiet_row rfl _ _ rfl (w.heap.size + 1) rfl _ _ _ _ (fun y => y.h.bb) Try.underlying24 rfl crtInfo ?_
          conv => arg 6; simp only [Act.put, List.setIfInBounds_toArray, List.set_cons_zero, List.set_cons_succ]
          refine wpQuiet_fn rfl 18 _ _ rfl Try.call18 [.agg (crtC a), .agg (crtC b)] rfl (fun x => (HC.out.1 x.w).mono fun e w' ⟨he, hb⟩ => ⟨he, x.h.below hb⟩) ?_
          conv => arg 6; simp only [Act.put, List.setIfInBounds_toArray, List.set_cons_zero, List.set_cons_succ]
          refine wpQuiet_row rfl _ _ rfl (w.heap.size + 1) rfl _ _ _ _ (fun y => y.h.bb) Try.underlying24 rfl crtInfo ?_
          conv => arg 6; simp only [Act.put, List.setIfInBounds_toArray, List.set_cons_zero, List.set_cons_succ]
          refine wpQuiet_row rfl _ _ rfl w.heap.size rfl _ _ _ _ (fun y => y.h.ba) Try.underlying24 rfl crtInfo ?_
          conv => arg 6; simp only [Act.put, List.setIfInBounds_toArray, List.set_cons_zero, List.set_cons_succ]
          refine wpQuiet_fn rfl 18 _ _ rfl Try.call18 [.agg (crtC b), .agg (crtC a)] rfl (fun x => (HC.out.2.1 x.w).mono fun e w' ⟨he, hb⟩ => ⟨he, x.h.below hb⟩) ?_
          conv => arg 6; simp only [Act.put, List.setIfInBounds_toArray, List.set_cons_zero, List.set_cons_succ]
          iterate 3 go_big_quiet_step (fail)
          refine wpQuiet_row rfl _ _ rfl w.heap.size rfl _ _ _ _ (fun y => y.h.ba) Try.underlying24 rfl crtInfo ?_
          conv => arg 6; simp only [Act.put, List.setIfInBounds_toArray, List.set_cons_zero, List.set_cons_succ]
          refine wpQuiet_row rfl _ _ rfl w.heap.size rfl _ _ _ _ (fun y => y.h.ba) Try.underlying24 rfl crtInfo ?_
          conv => arg 6; simp only [Act.put, List.setIfInBounds_toArray, List.set_cons_zero, List.set_cons_succ]
          refine wpQuiet_fn rfl 18 _ _ rfl Try.call18 [.agg (crtC a), .agg (crtC a)] rfl (fun x => (HC.out.2.2.1 x.w).mono fun e w' ⟨he, hb⟩ => ⟨he, x.h.below hb⟩) ?_
          conv => arg 6; simp only [Act.put, List.setIfInBounds_toArray, List.set_cons_zero, List.set_cons_succ]
          iterate 3 go_big_quiet_step (fail)
          refine wpQuiet_row rfl _ _ rfl w.heap.size rfl _ _ _ _ (fun y => y.h.ba) Try.underlying24 rfl crtInfo ?_
          conv => arg 6; simp only [Act.put, List.setIfInBounds_toArray, List.set_cons_zero, List.set_cons_succ]
          refine wpQuiet_row rfl _ _ rfl (w.heap.size + 1) rfl _ _ _ _ (fun y => y.h.bb) Try.underlying24 rfl crtInfo ?_
          conv => arg 6; simp only [Act.put, List.setIfInBounds_toArray, List.set_cons_zero, List.set_cons_succ]
          refine wpQuiet_fn rfl 18 _ _ rfl Try.call18 [.agg (crtC a), .agg (crtC b)] rfl (fun x => (HC.out.1 x.w).mono fun e w' ⟨he, hb⟩ => ⟨he, x.h.below hb⟩) ?_
          conv => arg 6; simp only [Act.put, List.setIfInBounds_toArray, List.set_cons_zero, List.set_cons_succ]
          iterate 2 go_big_quiet_step (fail)
          refine wpQuiet_row rfl _ _ rfl (w.heap.size + 1) rfl _ _ _ _ (fun y => y.h.bb) Try.underlying24 rfl crtInfo ?_
          conv => arg 6; simp only [Act.put, List.setIfInBounds_toArray, List.set_cons_zero, List.set_cons_succ]
          refine wpQuiet_row rfl _ _ rfl (w.heap.size + 1 + 1) rfl _ _ _ _ (fun y => y.h.bc) Try.underlying24 rfl crtInfo ?_
          conv => arg 6; simp only [Act.put, List.setIfInBounds_toArray, List.set_cons_zero, List.set_cons_succ]
          refine wpQuiet_fn rfl 18 _ _ rfl Try.call18 [.agg (crtC b), .agg (crtC c)] rfl (fun x => (HC.out.2.2.2.1 x.w).mono fun e w' ⟨he, hb⟩ => ⟨he, x.h.below hb⟩) ?_
          conv => arg 6; simp only [Act.put, List.setIfInBounds_toArray, List.set_cons_zero, List.set_cons_succ]
          iterate 9 go_big_quiet_step (fail)
          refine wpQuiet_nil ?_
          intro x
          obtain ⟨w5, hA5⟩ := x
          dsimp only
          go_wp2
          go_meet
          exact ⟨rfl, hA5⟩
        all_goals
          rcases hv3 with rfl | rfl | rfl
          case inr.inr => exfalso; have := htr (by omega) (by omega); omega
        all_goals
          clear htr
          refine wp_region_S (TriB w a b c) (by kernel_rfl) (by kernel_rfl) hD ?_
          refine wpQuiet_row rfl _ _ rfl w.heap.size rfl _ _ _ _ (fun y => y.h.ba) Try.underlying24 rfl crtInfo ?_
          conv => arg 6; simp only [Act.put, List.setIfInBounds_toArray, List.set_cons_zero, List.set_cons_succ]
          refine wpQuiet_row rfl _ _ rfl (w.heap.size + 1) rfl _ _ _ _ (fun y => y.h.bb) Try.underlying24 rfl crtInfo ?_
          conv => arg 6; simp only [Act.put, List.setIfInBounds_toArray, List.set_cons_zero, List.set_cons_succ]
          refine wpQuiet_fn rfl 18 _ _ rfl Try.call18 [.agg (crtC a), .agg (crtC b)] rfl (fun x => (HC.out.1 x.w).mono fun e w' ⟨he, hb⟩ => ⟨he, x.h.below hb⟩) ?_
          conv => arg 6; simp only [Act.put, List.setIfInBounds_toArray, List.set_cons_zero, List.set_cons_succ]
          refine wpQuiet_row rfl _ _ rfl (w.heap.size + 1) rfl _ _ _ _ (fun y => y.h.bb) Try.underlying24 rfl crtInfo ?_
          conv => arg 6; simp only [Act.put, List.setIfInBounds_toArray, List.set_cons_zero, List.set_cons_succ]
          refine wpQuiet_row rfl _ _ rfl w.heap.size rfl _ _ _ _ (fun y => y.h.ba) Try.underlying24 rfl crtInfo ?_
          conv => arg 6; simp only [Act.put, List.setIfInBounds_toArray, List.set_cons_zero, List.set_cons_succ]
          refine wpQuiet_fn rfl 18 _ _ rfl Try.call18 [.agg (crtC b), .agg (crtC a)] rfl (fun x => (HC.out.2.1 x.w).mono fun e w' ⟨he, hb⟩ => ⟨he, x.h.below hb⟩) ?_
          conv => arg 6; simp only [Act.put, List.setIfInBounds_toArray, List.set_cons_zero, List.set_cons_succ]
          iterate 3 go_big_quiet_step (fail)
          refine wpQuiet_row rfl _ _ rfl w.heap.size rfl _ _ _ _ (fun y => y.h.ba) Try.underlying24 rfl crtInfo ?_
          conv => arg 6; simp only [Act.put, List.setIfInBounds_toArray, List.set_cons_zero, List.set_cons_succ]
          refine wpQuiet_row rfl _ _ rfl w.heap.size rfl _ _ _ _ (fun y => y.h.ba) Try.underlying24 rfl crtInfo ?_
          conv => arg 6; simp only [Act.put, List.setIfInBounds_toArray, List.set_cons_zero, List.set_cons_succ]
          refine wpQuiet_fn rfl 18 _ _ rfl Try.call18 [.agg (crtC a), .agg (crtC a)] rfl (fun x => (HC.out.2.2.1 x.w).mono fun e w' ⟨he, hb⟩ => ⟨he, x.h.below hb⟩) ?_
          conv => arg 6; simp only [Act.put, List.setIfInBounds_toArray, List.set_cons_zero, List.set_cons_succ]
          iterate 3 go_big_quiet_step (fail)
          refine wpQuiet_row rfl _ _ rfl w.heap.size rfl _ _ _ _ (fun y => y.h.ba) Try.underlying24 rfl crtInfo ?_
          conv => arg 6; simp only [Act.put, List.setIfInBounds_toArray, List.set_cons_zero, List.set_cons_succ]
          refine wpQuiet_row rfl _ _ rfl (w.heap.size + 1) rfl _ _ _ _ (fun y => y.h.bb) Try.underlying24 rfl crtInfo ?_
          conv => arg 6; simp only [Act.put, List.setIfInBounds_toArray, List.set_cons_zero, List.set_cons_succ]
          refine wpQuiet_fn rfl 18 _ _ rfl Try.call18 [.agg (crtC a), .agg (crtC b)] rfl (fun x => (HC.out.1 x.w).mono fun e w' ⟨he, hb⟩ => ⟨he, x.h.below hb⟩) ?_
          conv => arg 6; simp only [Act.put, List.setIfInBounds_toArray, List.set_cons_zero, List.set_cons_succ]
          iterate 2 go_big_quiet_step (fail)
          refine wpQuiet_row rfl _ _ rfl (w.heap.size + 1) rfl _ _ _ _ (fun y => y.h.bb) Try.underlying24 rfl crtInfo ?_
          conv => arg 6; simp only [Act.put, List.setIfInBounds_toArray, List.set_cons_zero, List.set_cons_succ]
          refine wpQuiet_row rfl _ _ rfl (w.heap.size + 1 + 1) rfl _ _ _ _ (fun y => y.h.bc) Try.underlying24 rfl crtInfo ?_
          conv => arg 6; simp only [Act.put, List.setIfInBounds_toArray, List.set_cons_zero, List.set_cons_succ]
          refine wpQuiet_fn rfl 18 _ _ rfl Try.call18 [.agg (crtC b), .agg (crtC c)] rfl (fun x => (HC.out.2.2.2.1 x.w).mono fun e w' ⟨he, hb⟩ => ⟨he, x.h.below hb⟩) ?_
          conv => arg 6; simp only [Act.put, List.setIfInBounds_toArray, List.set_cons_zero, List.set_cons_succ]
          iterate 3 go_big_quiet_step (fail)
          refine wpQuiet_row rfl _ _ rfl w.heap.size rfl _ _ _ _ (fun y => y.h.ba) Try.underlying24 rfl crtInfo ?_
          conv => arg 6; simp only [Act.put, List.setIfInBounds_toArray, List.set_cons_zero, List.set_cons_succ]
          refine wpQuiet_row rfl _ _ rfl (w.heap.size + 1 + 1) rfl _ _ _ _ (fun y => y.h.bc) Try.underlying24 rfl crtInfo ?_
          conv => arg 6; simp only [Act.put, List.setIfInBounds_toArray, List.set_cons_zero, List.set_cons_succ]
          refine wpQuiet_fn rfl 18 _ _ rfl Try.call18 [.agg (crtC a), .agg (crtC c)] rfl (fun x => (HC.out.2.2.2.2 x.w).mono fun e w' ⟨he, hb⟩ => ⟨he, x.h.below hb⟩) ?_
          conv => arg 6; simp only [Act.put, List.setIfInBounds_toArray, List.set_cons_zero, List.set_cons_succ]
          iterate 3 go_big_quiet_step (fail)
          refine wpQuiet_nil ?_
          intro x
          obtain ⟨w5, hA5⟩ := x
          dsimp only
          go_wp2
          go_meet
          exact ⟨rfl, hA5⟩
      case inr.inr =>
        clear htr
        refine wp_region_S (TriB w a b c) (by kernel_rfl) (by kernel_rfl) hD ?_
        refine wpQuiet_row rfl _ _ rfl w.heap.size rfl _ _ _ _ (fun y => y.h.ba) Try.underlying24 rfl crtInfo ?_
        conv => arg 6; simp only [Act.put, List.setIfInBounds_toArray, List.set_cons_zero, List.set_cons_succ]
        refine wpQuiet_row rfl _ _ rfl (w.heap.size + 1) rfl _ _ _ _ (fun y => y.h.bb) Try.underlying24 rfl crtInfo ?_
        conv => arg 6; simp only [Act.put, List.setIfInBounds_toArray, List.set_cons_zero, List.set_cons_succ]
        refine wpQuiet_fn rfl 18 _ _ rfl Try.call18 [.agg (crtC a), .agg (crtC b)] rfl (fun x => (HC.out.1 x.w).mono fun e w' ⟨he, hb⟩ => ⟨he, x.h.below hb⟩) ?_
        conv => arg 6; simp only [Act.put, List.setIfInBounds_toArray, List.set_cons_zero, List.set_cons_succ]
        refine wpQuiet_row rfl _ _ rfl (w.heap.size + 1) rfl _ _ _ _ (fun y => y.h.bb) Try.underlying24 rfl crtInfo ?_
        conv => arg 6; simp only [Act.put, List.setIfInBounds_toArray, List.set_cons_zero, List.set_cons_succ]
        refine wpQuiet_row rfl _ _ rfl w.heap.size rfl _ _ _ _ (fun y => y.h.ba) Try.underlying24 rfl crtInfo ?_
        conv => arg 6; simp only [Act.put, List.setIfInBounds_toArray, List.set_cons_zero, List.set_cons_succ]
        refine wpQuiet_fn rfl 18 _ _ rfl Try.call18 [.agg (crtC b), .agg (crtC a)] rfl (fun x => (HC.out.2.1 x.w).mono fun e w' ⟨he, hb⟩ => ⟨he, x.h.below hb⟩) ?_
        conv => arg 6; simp only [Act.put, List.setIfInBounds_toArray, List.set_cons_zero, List.set_cons_succ]
        iterate 3 go_big_quiet_step (fail)
        refine wpQuiet_row rfl _ _ rfl w.heap.size rfl _ _ _ _ (fun y => y.h.ba) Try.underlying24 rfl crtInfo ?_
        conv => arg 6; simp only [Act.put, List.setIfInBounds_toArray, List.set_cons_zero, List.set_cons_succ]
        refine wpQuiet_row rfl _ _ rfl w.heap.size rfl _ _ _ _ (fun y => y.h.ba) Try.underlying24 rfl crtInfo ?_
        conv => arg 6; simp only [Act.put, List.setIfInBounds_toArray, List.set_cons_zero, List.set_cons_succ]
        refine wpQuiet_fn rfl 18 _ _ rfl Try.call18 [.agg (crtC a), .agg (crtC a)] rfl (fun x => (HC.out.2.2.1 x.w).mono fun e w' ⟨he, hb⟩ => ⟨he, x.h.below hb⟩) ?_
        conv => arg 6; simp only [Act.put, List.setIfInBounds_toArray, List.set_cons_zero, List.set_cons_succ]
        iterate 3 go_big_quiet_step (fail)
        refine wpQuiet_row rfl _ _ rfl w.heap.size rfl _ _ _ _ (fun y => y.h.ba) Try.underlying24 rfl crtInfo ?_
        conv => arg 6; simp only [Act.put, List.setIfInBounds_toArray, List.set_cons_zero, List.set_cons_succ]
        refine wpQuiet_row rfl _ _ rfl (w.heap.size + 1) rfl _ _ _ _ (fun y => y.h.bb) Try.underlying24 rfl crtInfo ?_
        conv => arg 6; simp only [Act.put, List.setIfInBounds_toArray, List.set_cons_zero, List.set_cons_succ]
        refine wpQuiet_fn rfl 18 _ _ rfl Try.call18 [.agg (crtC a), .agg (crtC b)] rfl (fun x => (HC.out.1 x.w).mono fun e w' ⟨he, hb⟩ => ⟨he, x.h.below hb⟩) ?_
        conv => arg 6; simp only [Act.put, List.setIfInBounds_toArray, List.set_cons_zero, List.set_cons_succ]
        iterate 14 go_big_quiet_step (fail)
        refine wpQuiet_nil ?_
        intro x
        obtain ⟨w5, hA5⟩ := x
        dsimp only
        go_wp2
        go_meet
        exact ⟨rfl, hA5⟩
    case rest =>
      obtain ⟨rfl, hT⟩ := hcut
      clear htr hv1 hv2 hv3 HC
      rcases HV.out with rfl | rfl | rfl
      · have hX : ∀ W, Calls Try.prog 19 #[.agg (crtC a), .agg (crtC b)] W (gives (.agg (crtC b)) W) := fun W => by have h := HX.out.2.2.2.2 W; rw [if_pos (by omega)] at h; exact h
        have hba : ∀ W, Calls Try.prog 18 #[.agg (crtC b), .agg (crtC a)] W (gives (.int .i64 1) W) := fun W => HX.out.1 W
        have hbb := HX.out.2.1
        have hne := HNE.out rfl
        have hq1 := HQ.out.1
        rw [hne] at hq1
        have hq2 := fun W => (HQ.out.2.2 W).trans (by simp : _ = Result.ok (Value.bool true) W)
        have H1 := Lib.hid (And.intro hba (And.intro hbb (And.intro hq1 hq2)))
        clear hba hbb hne hq1 hq2 HNE HQ HX
        have HM := Lib.hid hX
        clear hX HV
        go_upto_region 13 with (first
          | (refine wpList_row_at rfl _ _ rfl w.heap.size rfl _ _ _ _ hT.ba Try.underlying24 rfl crtInfo ?_)
          | (refine wpList_row_at rfl _ _ rfl (w.heap.size + 1) rfl _ _ _ _ hT.bb Try.underlying24 rfl crtInfo ?_)
          | (go_at_call 19; refine (HM.out _).mono ?_; unfold gives; rintro e w9 ⟨rfl, hb9⟩; have hT9 := hT.below hb9; have hF := end_new b hT9)
          | (refine wpList_store_new rfl _ _ _ rfl w9 (crtC b) rfl rfl _ _ crtInfo rfl (crtC_ones _) ?_))
        refine name_world (fun w10 hw10 => ?_)
        obtain ⟨G, hG⟩ : ∃ G, G = w9.heap.size := ⟨_, rfl⟩
        have hE0 : EndAt w G a b c b w10 := by rw [hw10, hG]; exact hF
        rw [← hG]
        clear hw10 hG hF hT9 hb9 hT HM
        go_wp2_with (first
          | (refine wpList_row_at rfl _ _ rfl G rfl _ _ _ _ hE0.bm Try.underlying24 rfl crtInfo ?_)
          | (refine wpList_row_at rfl _ _ rfl w.heap.size rfl _ _ _ _ hE0.tri.ba Try.underlying24 rfl crtInfo ?_)
          | (refine wpList_row_at rfl _ _ rfl (w.heap.size + 1) rfl _ _ _ _ hE0.tri.bb Try.underlying24 rfl crtInfo ?_)
          | (refine wpList_row_at rfl _ _ rfl G rfl _ _ _ _ hE1.bm Try.underlying24 rfl crtInfo ?_)
          | (refine wpList_row_at rfl _ _ rfl w.heap.size rfl _ _ _ _ hE1.tri.ba Try.underlying24 rfl crtInfo ?_)
          | (refine wpList_row_at rfl _ _ rfl (w.heap.size + 1) rfl _ _ _ _ hE1.tri.bb Try.underlying24 rfl crtInfo ?_)
          | (go_at_call 18; (with_reducible refine (H1.out.1 _).mono ?_); unfold gives; rintro e w11 ⟨rfl, hb11⟩; have hE1 := hE0.below hb11)
          | (go_at_call 18; (with_reducible refine (H1.out.2.1 _).mono ?_); unfold gives; rintro e w12 ⟨rfl, hb12⟩; have hE2 := hE1.below hb12)
          | (refine wpList_binop rfl _ _ _ _ _ rfl (crtC b) (crtC a) rfl rfl (by kernel_rfl) (H1.out.2.2.1 _) ?_)
          | (refine wpList_binop rfl _ _ _ _ _ rfl (crtC b) (crtC b) rfl rfl (by kernel_rfl) (H1.out.2.2.2 _) ?_))
        go_ret
        exact ⟨rfl, hE2.tri.bw⟩
      · have hX : ∀ W, Calls Try.prog 19 #[.agg (crtC a), .agg (crtC b)] W (gives (.agg (crtC a)) W) := fun W => by have h := HX.out.2.2.2.2 W; rw [if_neg (by omega)] at h; exact h
        have hq2 := fun W => (HQ.out.2.1 W).trans (by simp : _ = Result.ok (Value.bool true) W)
        have H1 := Lib.hid (And.intro HX.out.2.2.1 (And.intro HX.out.2.2.2.1 hq2))
        clear hq2 HNE HQ HX
        have HM := Lib.hid hX
        clear hX HV
        go_upto_region 13 with (first
          | (refine wpList_row_at rfl _ _ rfl w.heap.size rfl _ _ _ _ hT.ba Try.underlying24 rfl crtInfo ?_)
          | (refine wpList_row_at rfl _ _ rfl (w.heap.size + 1) rfl _ _ _ _ hT.bb Try.underlying24 rfl crtInfo ?_)
          | (go_at_call 19; refine (HM.out _).mono ?_; unfold gives; rintro e w9 ⟨rfl, hb9⟩; have hT9 := hT.below hb9; have hF := end_new a hT9)
          | (refine wpList_store_new rfl _ _ _ rfl w9 (crtC a) rfl rfl _ _ crtInfo rfl (crtC_ones _) ?_))
        refine name_world (fun w10 hw10 => ?_)
        obtain ⟨G, hG⟩ : ∃ G, G = w9.heap.size := ⟨_, rfl⟩
        have hE0 : EndAt w G a b c a w10 := by rw [hw10, hG]; exact hF
        rw [← hG]
        clear hw10 hG hF hT9 hb9 hT HM
        go_wp2_with (first
          | (refine wpList_row_at rfl _ _ rfl G rfl _ _ _ _ hE0.bm Try.underlying24 rfl crtInfo ?_)
          | (refine wpList_row_at rfl _ _ rfl w.heap.size rfl _ _ _ _ hE0.tri.ba Try.underlying24 rfl crtInfo ?_)
          | (refine wpList_row_at rfl _ _ rfl (w.heap.size + 1) rfl _ _ _ _ hE0.tri.bb Try.underlying24 rfl crtInfo ?_)
          | (refine wpList_row_at rfl _ _ rfl G rfl _ _ _ _ hE1.bm Try.underlying24 rfl crtInfo ?_)
          | (refine wpList_row_at rfl _ _ rfl w.heap.size rfl _ _ _ _ hE1.tri.ba Try.underlying24 rfl crtInfo ?_)
          | (refine wpList_row_at rfl _ _ rfl (w.heap.size + 1) rfl _ _ _ _ hE1.tri.bb Try.underlying24 rfl crtInfo ?_)
          | (go_at_call 18; (with_reducible refine (H1.out.1 _).mono ?_); unfold gives; rintro e w11 ⟨rfl, hb11⟩; have hE1 := hE0.below hb11)
          | (go_at_call 18; (with_reducible refine (H1.out.2.1 _).mono ?_); unfold gives; rintro e w12 ⟨rfl, hb12⟩; have hE2 := hE1.below hb12)
          | (refine wpList_binop rfl _ _ _ _ _ rfl (crtC a) (crtC a) rfl rfl (by kernel_rfl) (H1.out.2.2 _) ?_))
        go_ret
        exact ⟨rfl, hE2.tri.bw⟩
      · have hX : ∀ W, Calls Try.prog 19 #[.agg (crtC a), .agg (crtC b)] W (gives (.agg (crtC a)) W) := fun W => by have h := HX.out.2.2.2.2 W; rw [if_neg (by omega)] at h; exact h
        have hq2 := fun W => (HQ.out.2.1 W).trans (by simp : _ = Result.ok (Value.bool true) W)
        have H1 := Lib.hid (And.intro HX.out.2.2.1 (And.intro HX.out.2.2.2.1 hq2))
        clear hq2 HNE HQ HX
        have HM := Lib.hid hX
        clear hX HV
        go_upto_region 13 with (first
          | (refine wpList_row_at rfl _ _ rfl w.heap.size rfl _ _ _ _ hT.ba Try.underlying24 rfl crtInfo ?_)
          | (refine wpList_row_at rfl _ _ rfl (w.heap.size + 1) rfl _ _ _ _ hT.bb Try.underlying24 rfl crtInfo ?_)
          | (go_at_call 19; refine (HM.out _).mono ?_; unfold gives; rintro e w9 ⟨rfl, hb9⟩; have hT9 := hT.below hb9; have hF := end_new a hT9)
          | (refine wpList_store_new rfl _ _ _ rfl w9 (crtC a) rfl rfl _ _ crtInfo rfl (crtC_ones _) ?_))
        refine name_world (fun w10 hw10 => ?_)
        obtain ⟨G, hG⟩ : ∃ G, G = w9.heap.size := ⟨_, rfl⟩
        have hE0 : EndAt w G a b c a w10 := by rw [hw10, hG]; exact hF
        rw [← hG]
        clear hw10 hG hF hT9 hb9 hT HM
        go_wp2_with (first
          | (refine wpList_row_at rfl _ _ rfl G rfl _ _ _ _ hE0.bm Try.underlying24 rfl crtInfo ?_)
          | (refine wpList_row_at rfl _ _ rfl w.heap.size rfl _ _ _ _ hE0.tri.ba Try.underlying24 rfl crtInfo ?_)
          | (refine wpList_row_at rfl _ _ rfl (w.heap.size + 1) rfl _ _ _ _ hE0.tri.bb Try.underlying24 rfl crtInfo ?_)
          | (refine wpList_row_at rfl _ _ rfl G rfl _ _ _ _ hE1.bm Try.underlying24 rfl crtInfo ?_)
          | (refine wpList_row_at rfl _ _ rfl w.heap.size rfl _ _ _ _ hE1.tri.ba Try.underlying24 rfl crtInfo ?_)
          | (refine wpList_row_at rfl _ _ rfl (w.heap.size + 1) rfl _ _ _ _ hE1.tri.bb Try.underlying24 rfl crtInfo ?_)
          | (go_at_call 18; (with_reducible refine (H1.out.1 _).mono ?_); unfold gives; rintro e w11 ⟨rfl, hb11⟩; have hE1 := hE0.below hb11)
          | (go_at_call 18; (with_reducible refine (H1.out.2.1 _).mono ?_); unfold gives; rintro e w12 ⟨rfl, hb12⟩; have hE2 := hE1.below hb12)
          | (refine wpList_binop rfl _ _ _ _ _ rfl (crtC a) (crtC a) rfl rfl (by kernel_rfl) (H1.out.2.2 _) ?_))
        go_ret
        exact ⟨rfl, hE2.tri.bw⟩
theorem back_walk (a b c : Crt) (A : Option Addr) (k : Nat) (rest : List UInt8) (w : World) (ha : a.wf) (hb : b.wf) (hc : c.wf) (hrd : L3.Reads w w.heap.size 1 A rest.length (byteCells rest)) : Calls Try.prog 4 #[.agg (crtC a), .agg (crtC b), .agg (crtC c), .slice A rest.length k] w (gives (.bool true) w) := by
  by_cases hl : 1000 < rest.length
  · exact long_walk a b c A k rest w hl
  · exact short_walk a b c A k rest w ha hb hc (by omega) hrd
end Go.Proofs.Ytkjkkbionlmohaa
