/-
  Whom a coin elects: the contract of See.
-/
import Derived.Test.YtjkfogjhakcnfaaDoorCoinC
import Derived.Deep.Cut
set_option linter.unusedSimpArgs false
set_option linter.unusedVariables false
namespace Go.Proofs.YtjkfogjhakcnfaaDoor
open Go.RowKit Go.Maps Go.Lib

theorem see_nil (v : Value) (u : Int) (n : Nat) (w : World) : Calls Tryd.prog 13 #[.pointer none, v, .int .i64 u, .int .u32 n] w fun e w' => e = .returned (.tuple #[.int .i64 0, .int .i64 3]) ∧ w = w' := by
  go_enter Tryd.func13, Tryd.ntmps13
  go_wp2_with (go_at_call 25; refine (has_nil _ _).mono ?_; rintro e w1 ⟨rfl, rfl⟩)
  go_ret2
  exact ⟨rfl, rfl⟩
theorem see_view (c : Nat) (v : Value) (u : Int) (n : Nat) (w : World) (hu : mayV u = false) : Calls Tryd.prog 13 #[.pointer (some ⟨c, 0, none⟩), v, .int .i64 u, .int .u32 n] w fun e w' => e = .returned (.tuple #[.int .i64 0, .int .i64 70]) ∧ w = w' := by
  have hh := cHas_any c u
  rw [show hasE u = 70 by unfold hasE; rw [if_neg (by rw [hu]; decide)]] at hh
  go_enter Tryd.func13, Tryd.ntmps13
  go_wp2_with (go_at_call 25; refine (hh _).mono ?_; rintro e w1 ⟨rfl, rfl⟩)
  go_ret2
  exact ⟨rfl, rfl⟩
theorem see_none (c : Nat) (u : Int) (n : Nat) (w : World) (hu : mayV u = true) : Calls Tryd.prog 13 #[.pointer (some ⟨c, 0, none⟩), .pointer none, .int .i64 u, .int .u32 n] w fun e w' => e = .returned (.tuple #[.int .i64 0, .int .i64 3]) ∧ w = w' := by
  have hh := cHas_any c u
  rw [show hasE u = 0 by unfold hasE; rw [if_pos hu]] at hh
  go_enter Tryd.func13, Tryd.ntmps13
  go_wp2_with (first
    | (go_at_call 25; refine (hh _).mono ?_; rintro e w1 ⟨rfl, rfl⟩)
    | (go_at_call 30; refine (cenough_nil _ _ _ _).mono ?_; rintro e w1 ⟨rfl, rfl⟩))
  go_ret2
  exact ⟨rfl, rfl⟩
set_option maxHeartbeats 1000000 in
set_option maxRecDepth 100000 in
theorem see_few (S T : Nat → Prop) (c g m : Nat) (f h : Int) (bad : Nat) (G : List (Int × Int)) (N : List Int) (L : List Shr) (u : Int) (n : Nat) (w : World) (hC : Cn w S c f G N m) (hS : Sg w T g h bad L) (hbad : bad < 4294967296) (hn : n < 4294967296) (hT : Tab w) (hu : mayV u = true) (he : cenE f h bad L u n ≠ 0) :
    Calls Tryd.prog 13 #[.pointer (some ⟨c, 0, none⟩), .pointer (some ⟨g, 0, none⟩), .int .i64 u, .int .u32 n] w fun e w' => e = .returned (.tuple #[.int .i64 0, .int .i64 (cenE f h bad L u n)]) ∧ Below w.heap.size w w' := by
  have hh := cHas_any c u
  rw [show hasE u = 0 by unfold hasE; rw [if_pos hu]] at hh
  have hen := cenough_any S T c g m f h bad G N L u n w hC hS (mayV_wf hu) hbad hn hT
  obtain ⟨r, hr⟩ : ∃ r, r = cenE f h bad L u n := ⟨_, rfl⟩
  rw [← hr] at hen he ⊢
  have h0' : (r == 0) = false := by simpa using he
  have HH := Lib.hid (And.intro hh hen)
  clear hC hS hT hh hen he hr
  go_enter Tryd.func13, Tryd.ntmps13
  go_wp2_with (first
    | (go_at_call 25; refine (HH.out.1 _).mono ?_; rintro e w1 ⟨rfl, rfl⟩)
    | (go_at_call 30; refine (HH.out.2).mono ?_; rintro e w1 ⟨rfl, hb1⟩))
  go_ret2
  exact ⟨rfl, hb1⟩
/-- What the reads behind the look-up meet. -/
def holdT (c p b : Nat) (k : Int) (W : World) : Prop := W.cell? ⟨c, 1, none⟩ = some (.map (some b)) ∧ Blk W p 77 #[.int .i64 k, .bool true]
theorem set0 (k x : Value) (s : Value) : #[x, s].setIfInBounds 0 k = #[k, s] := rfl
theorem set1 (k x : Value) (s : Value) : #[x, s].setIfInBounds 1 k = #[x, k] := rfl
set_option maxHeartbeats 1000000 in
set_option maxRecDepth 100000 in
theorem see_ok (S T : Nat → Prop) (c g m : Nat) (f h : Int) (bad : Nat) (G : List (Int × Int)) (N : List Int) (L : List Shr) (u : Int) (n : Nat) (w : World) (hC : Cn w S c f G N m) (hm0 : m ≤ 1000000000) (hS : Sg w T g h bad L) (hbad : bad < 4294967296) (hn : n < 4294967296) (hT : Tab w) (hu : mayV u = true) (he : cenE f h bad L u n = 0) :
    Calls Tryd.prog 13 #[.pointer (some ⟨c, 0, none⟩), .pointer (some ⟨g, 0, none⟩), .int .i64 u, .int .u32 n] w fun e w' => e = .returned (.tuple #[.int .i64 (whoV f G u), .int .i64 0]) ∧ Cn w' S c f G (putN N u) (m + 1) ∧ Turn S w w' := by
  have hh := cHas_any c u
  rw [show hasE u = 0 by unfold hasE; rw [if_pos hu]] at hh
  have hui := mayV_wf hu
  have hen := cenough_any S T c g m f h bad G N L u n w hC hS hui hbad hn hT
  rw [he] at hen
  obtain ⟨b, D, hb, hm, hf, h1, h2, h3, h4⟩ := hC
  have hat := hf.look hui
  have hhas := (hf u hui).1
  have hwho : thereV G N u = false → leadV f u = whoV f G u := fun ht => by unfold whoV; rw [if_pos (there_not.1 ht).1]
  have hfit := hf.see hm.isMap hui
  have hcb := blk_ne_map hb hm
  have hlead := leader_any f u
  obtain ⟨s0, hs0⟩ : ∃ s0, s0 = decide (u ∈ N) := ⟨_, rfl⟩
  obtain ⟨k, hk⟩ : ∃ k, k = whoV f G u := ⟨_, rfl⟩
  obtain ⟨r, hr⟩ : ∃ r, r = thereV G N u := ⟨_, rfl⟩
  obtain ⟨ld, hld⟩ : ∃ ld, ld = leadV f u := ⟨_, rfl⟩
  obtain ⟨k0, hk0⟩ : ∃ k0, k0 = if r = true then k else 0 := ⟨_, rfl⟩
  simp only [← hs0, ← hk, ← hr, ← hld, ← hk0] at hat hhas hwho hfit hlead ⊢
  have HH := Lib.hid (And.intro hh (And.intro hen hlead))
  have HF := Lib.hid hfit
  have H4 := Lib.hid h4
  have HL := Lib.hid (And.intro hb hm)
  have HK0 := Lib.hid hk0
  clear hS hT hh hen he hf hfit h4 hlead hb hm hs0 hk hr hld hk0
  go_enter Tryd.func13, Tryd.ntmps13
  go_upto_region 7 with (first
    | (go_at_call 25; refine (HH.out.1 _).mono ?_; rintro e w1 ⟨rfl, rfl⟩)
    | (go_at_call 30; refine (HH.out.2.1).mono ?_; rintro e w1 ⟨rfl, hb1⟩))
  have hB1 := HL.out.1.below hb1 HL.out.1.lt
  have hM1 : w1.ownsMap Tryd.prog 3 (tossElem (H := Unit)) b m D := (Turn.of_keep (S := fun _ => False) hb1).map HL.out.2 (fun h => h)
  have c1 := hB1.cell 1
  go_upto_region 8 with (first
    | (at_lookup; refine wpList_look_toss_ok _ rfl _ _ rfl b m D rfl hM1 u rfl hui k0 s0 r hat hhas ?_)
    | (refine wpList_store_new rfl _ _ _ rfl w1 #[.int .i64 k0, .bool s0] rfl rfl _ _ (by kernel_rfl) rfl (by kernel_rfl) ?_))
  refine name_world (fun w2 hw2 => ?_)
  have hx2 : Blk w2 w1.heap.size 77 #[.int .i64 k0, .bool s0] := by rw [hw2]; exact Blk.new _ _ _
  have hB2 : Blk w2 c 72 #[.int .i64 f, .map (some b)] := by rw [hw2]; exact hB1.alloc _
  have hM2 : w2.ownsMap Tryd.prog 3 (tossElem (H := Unit)) b m D := by rw [hw2]; exact hM1.alloc _
  have hb2 : Below w.heap.size w w2 := by rw [hw2]; exact hb1.alloc hb1.size _
  have hp : w.heap.size ≤ w1.heap.size := hb1.size
  obtain ⟨p, hpe⟩ : ∃ p, p = w1.heap.size := ⟨_, rfl⟩
  rw [← hpe] at hx2 hp ⊢
  have hcp : c ≠ p := hB2.ne_ hx2 (by decide)
  have hpb := blk_ne_map hx2 hM2
  clear hw2 hpe hat hhas hB1 hM1 c1
  have d0 := hB2.cell 0
  have t0 := hx2.cell 0
  have t1 := hx2.cell 1
  have fr0 := hx2.frozen 0
  have fr1 := hx2.frozen 1
  cases r with
  | true =>
    have e : k0 = k := by rw [HK0.out]; rfl
    subst e
    go_upto_region 11 with fail
    refine name_world (fun w3 hw3 => ?_)
    have hx3 : Blk w3 p 77 #[.int .i64 k0, .bool true] := by rw [hw3]; exact hx2.set_ 1 _
    have hB3 : Blk w3 c 72 #[.int .i64 f, .map (some b)] := by rw [hw3]; exact hB2.far hcp _
    have hM3 : w3.ownsMap Tryd.prog 3 (tossElem (H := Unit)) b m D := by rw [hw3]; exact hM2.setCell (a := ⟨p, 1, none⟩) (fun e => hpb e.symm) _
    have ht3 : Turn S w w3 := by rw [hw3]; exact (Turn.of_keep hb2).setCell (p := ⟨p, 1, none⟩) (.inr hp) _
    have c3 := hB3.cell 1
    have ne : Nonempty (WorldIn (holdT c p b k0)) := ⟨⟨w3, c3, hx3⟩⟩
    have p1 := fun y : WorldIn (holdT c p b k0) => y.h.1
    have pb := fun y : WorldIn (holdT c p b k0) => y.h.2
    clear hw3 hx2 hB2 hM2 hb2 d0 t0 t1 fr0 fr1
    refine wp_region_K (holdT c p b k0) [0, 1, 2, 3, 4, 5] (by kernel_rfl) ?_
    refine wpK_quiet (f := 1) (by kernel_rfl) (fun _ x _ _ _ h => by cases x <;> exact h) (⟨c3, hx3⟩ : holdT c p b k0 w3.drew) [0, 1, 2, 3, 4, 5] _ _ (by kernel_rfl) (by kernel_rfl) (by kernel_rfl) ?_
    conv => arg 5; simp [pick]
    go_big_quiet_step (fail)
    go_big_quiet_step (fail)
    go_big_quiet_step (fail)
    go_big_quiet_step (fail)
    go_big_quiet_step (fail)
    refine wpQuiet_row rfl _ _ rfl _ rfl _ _ _ _ pb Tryd.underlying77 rfl (by kernel_rfl) ?_
    conv => arg 6; simp only [Act.put, List.setIfInBounds_toArray, List.set_cons_zero, List.set_cons_succ]
    refine wpQuiet_nil ?_
    refine wpK_seq [6] _ _ _ (by kernel_rfl) ?_
    conv => arg 4; simp [pick]
    go_wp2_with (at_mapUpdate
                 refine wpList_mapUpdate_own _ rfl _ _ _ 70 rfl 3 77 kdI Tryd.underlying70 _ b m D rfl (show w3.drew.ownsMap Tryd.prog 3 (tossElem (H := Unit)) b m D from hM3) (by unfold maxLen; omega) _ _ (keyI u) rfl rfl (key_at_i hui) (tossD k0 true) [] (tossElem_mk k0 true) ?_
                 intro w5 hm5 hg5
                 have hx5 := hx3.drew.grown hg5 (fun e => hpb (by simpa using e))
                 have c5 := hx5.cell 0)
    go_ret2
    exact ⟨rfl, ⟨b, D.put (keyI u) (tossD k0 true), hB3.drew.grown hg5 (fun e => hcb (by simpa using e)), hm5, HF.out, h1, h2, h3, H4.out⟩, ht3.drew.grown hg5 (fun i e => by cases e; exact .inl h2)⟩
  | false =>
    have e := hwho rfl
    subst e
    go_upto_region 11 with (go_at_call 31; refine (HH.out.2.2 _).mono ?_; rintro e w1 ⟨rfl, rfl⟩)
    refine name_world (fun w3 hw3 => ?_)
    have hx3 : Blk w3 p 77 #[.int .i64 ld, .bool true] := by rw [hw3]; exact (hx2.set_ 0 _).set_ 1 _
    have hB3 : Blk w3 c 72 #[.int .i64 f, .map (some b)] := by rw [hw3]; exact (hB2.far hcp _).far hcp _
    have hM3 : w3.ownsMap Tryd.prog 3 (tossElem (H := Unit)) b m D := by rw [hw3]; exact (hM2.setCell (a := ⟨p, 0, none⟩) (fun e => hpb e.symm) _).setCell (a := ⟨p, 1, none⟩) (fun e => hpb e.symm) _
    have ht3 : Turn S w w3 := by rw [hw3]; exact ((Turn.of_keep hb2).setCell (p := ⟨p, 0, none⟩) (.inr hp) _).setCell (p := ⟨p, 1, none⟩) (.inr hp) _
    have c3 := hB3.cell 1
    have ne : Nonempty (WorldIn (holdT c p b ld)) := ⟨⟨w3, c3, hx3⟩⟩
    have p1 := fun y : WorldIn (holdT c p b ld) => y.h.1
    have pb := fun y : WorldIn (holdT c p b ld) => y.h.2
    clear hw3 hx2 hB2 hM2 hb2 d0 t0 t1 fr0 fr1
    refine wp_region_K (holdT c p b ld) [0, 1, 2, 3, 4, 5] (by kernel_rfl) ?_
    refine wpK_quiet (f := 1) (by kernel_rfl) (fun _ x _ _ _ h => by cases x <;> exact h) (⟨c3, hx3⟩ : holdT c p b ld w3.drew) [0, 1, 2, 3, 4, 5] _ _ (by kernel_rfl) (by kernel_rfl) (by kernel_rfl) ?_
    conv => arg 5; simp [pick]
    go_big_quiet_step (fail)
    go_big_quiet_step (fail)
    go_big_quiet_step (fail)
    go_big_quiet_step (fail)
    go_big_quiet_step (fail)
    refine wpQuiet_row rfl _ _ rfl _ rfl _ _ _ _ pb Tryd.underlying77 rfl (by kernel_rfl) ?_
    conv => arg 6; simp only [Act.put, List.setIfInBounds_toArray, List.set_cons_zero, List.set_cons_succ]
    refine wpQuiet_nil ?_
    refine wpK_seq [6] _ _ _ (by kernel_rfl) ?_
    conv => arg 4; simp [pick]
    go_wp2_with (at_mapUpdate
                 refine wpList_mapUpdate_own _ rfl _ _ _ 70 rfl 3 77 kdI Tryd.underlying70 _ b m D rfl (show w3.drew.ownsMap Tryd.prog 3 (tossElem (H := Unit)) b m D from hM3) (by unfold maxLen; omega) _ _ (keyI u) rfl rfl (key_at_i hui) (tossD ld true) [] (tossElem_mk ld true) ?_
                 intro w5 hm5 hg5
                 have hx5 := hx3.drew.grown hg5 (fun e => hpb (by simpa using e))
                 have c5 := hx5.cell 0)
    go_ret2
    exact ⟨rfl, ⟨b, D.put (keyI u) (tossD ld true), hB3.drew.grown hg5 (fun e => hcb (by simpa using e)), hm5, HF.out, h1, h2, h3, H4.out⟩, ht3.drew.grown hg5 (fun i e => by cases e; exact .inl h2)⟩
/-- What See tells and leaves. -/
theorem see_any (S T : Nat → Prop) (c g m : Nat) (f h : Int) (bad : Nat) (G : List (Int × Int)) (N : List Int) (L : List Shr) (u : Int) (n : Nat) (w : World) (hC : Cn w S c f G N m) (hm0 : m ≤ 1000000000) (hS : Sg w T g h bad L) (hbad : bad < 4294967296) (hn : n < 4294967296) (hT : Tab w) :
    Calls Tryd.prog 13 #[.pointer (some ⟨c, 0, none⟩), .pointer (some ⟨g, 0, none⟩), .int .i64 u, .int .u32 n] w fun e w' => e = .returned (.tuple #[.int .i64 (seeW f h bad L G u n), .int .i64 (seeE f h bad L u n)]) ∧ Cn w' S c f G (seeN f h bad L N u n) (m + 1) ∧ Turn S w w' := by
  have low : ∀ w', Below w.heap.size w w' → Cn w' S c f G N (m + 1) ∧ Turn S w w' := fun w' hb => ⟨(hC.below hb).le (by omega), Turn.of_keep hb⟩
  have es : ∀ x, seeE f h bad L u n = x → x ≠ 0 → seeW f h bad L G u n = 0 ∧ seeN f h bad L N u n = N := fun x hx h0 => by
    unfold seeW seeN
    rw [hx, if_neg h0, if_neg h0]
    exact ⟨rfl, rfl⟩
  rcases Bool.eq_false_or_eq_true (mayV u) with hu | hu
  · have e1 : seeE f h bad L u n = cenE f h bad L u n := by unfold seeE cenE; rw [if_pos hu]
    by_cases he : cenE f h bad L u n = 0
    · have e2 : seeW f h bad L G u n = whoV f G u := by unfold seeW; rw [e1, if_pos he]
      have e3 : seeN f h bad L N u n = putN N u := by unfold seeN; rw [e1, if_pos he]
      rw [e1, e2, e3, he]
      exact see_ok S T c g m f h bad G N L u n w hC hm0 hS hbad hn hT hu he
    · obtain ⟨e2, e3⟩ := es _ e1 he
      rw [e1, e2, e3]
      refine (see_few S T c g m f h bad G N L u n w hC hS hbad hn hT hu he).mono ?_
      rintro e w' ⟨rfl, hb⟩
      exact ⟨rfl, low w' hb⟩
  · have e1 : seeE f h bad L u n = 70 := by unfold seeE; rw [if_neg (by rw [hu]; decide)]
    obtain ⟨e2, e3⟩ := es _ e1 (by decide)
    rw [e1, e2, e3]
    refine (see_view c _ u n w hu).mono ?_
    rintro e w' ⟨rfl, rfl⟩
    exact ⟨rfl, low w (Below.refl _ _)⟩
end Go.Proofs.YtjkfogjhakcnfaaDoor
