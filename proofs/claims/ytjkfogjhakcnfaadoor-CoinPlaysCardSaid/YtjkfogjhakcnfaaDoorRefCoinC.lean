/-
  The document's coin: See.
-/
import Derived.Test.YtjkfogjhakcnfaaDoorRefCoinB
import Derived.Deep.Cut
set_option linter.unusedSimpArgs false
set_option linter.unusedVariables false
namespace Go.Proofs.YtjkfogjhakcnfaaDoor
open Go.RowKit Go.Maps Go.Lib

theorem slice_one (u : Int) (w : World) : (Instr.buildSlice 38 1 #[(0, .int .i64 u)]).run Tryd.prog w = .ok (.slice (some ⟨w.heap.size, 0, none⟩) 1 1) (w.alloc (.cells #[.int .i64 u] 3)) := by kernel_rfl
/-- A block of one cell, read as a slice. -/
theorem reads_one (w : World) (u : Value) (e : TypeId) : Reads (w.alloc (.cells #[u] e)) (w.heap.size + 1) 1 (some ⟨w.heap.size, 0, none⟩) 1 [u] := by
  refine ⟨rfl, fun _ => ⟨_, rfl, by simp, fun j v hj => ?_⟩⟩
  match j, hj with
  | 0, hj => simp at hj; subst hj; simp [Addr.add]
  | (j + 1), hj => simp at hj
theorem rsee_view (r : Nat) (v : Value) (u : Int) (n : Nat) (w : World) (hu : mayV u = false) : Calls Tryd.prog 14 #[.pointer (some ⟨r, 0, none⟩), v, .int .i64 u, .int .u32 n] w fun e w' => e = .returned (.tuple #[.int .i64 0, .int .i64 70]) ∧ Below w.heap.size w w' := by
  have hm := may_any u
  rw [hu] at hm
  go_enter Tryd.func14, Tryd.ntmps14
  go_wp2_with (go_at_call 28; refine (hm _).mono ?_; rintro e w1 ⟨rfl, rfl⟩)
  go_ret2
  exact ⟨rfl, Below.refl _ _⟩
set_option maxHeartbeats 1000000 in
set_option maxRecDepth 100000 in
theorem rsee_other (S T : Nat → Prop) (r m : Nat) (f h : Int) (bad : Nat) (G : List (Int × Int)) (N : List Int) (L : List Shr) (u : Int) (n : Nat) (w : World) (hC : Rc w S r f G N) (hS : Rs w T m h bad L) (hu : mayV u = true) (he : h ≠ f) :
    Calls Tryd.prog 14 #[.pointer (some ⟨r, 0, none⟩), .pointer (some ⟨m, 0, none⟩), .int .i64 u, .int .u32 n] w fun e w' => e = .returned (.tuple #[.int .i64 0, .int .i64 1]) ∧ Below w.heap.size w w' := by
  have hm := may_any u
  rw [hu] at hm
  obtain ⟨v1, v2, hb, hr1, hr2, h1, h2, h3⟩ := hC
  obtain ⟨v, hbs, hrs, h4, h5⟩ := hS
  have c0 := hb.cell 0
  have m0 := hbs.cell 0
  have hq : (h == f) = false := by simpa using he
  have hq' : (h != f) = true := by simpa using he
  clear hb hbs hr1 hr2 hrs h2 h3 h5 he
  go_enter Tryd.func14, Tryd.ntmps14
  go_wp2_with (go_at_call 28; refine (hm _).mono ?_; rintro e w1 ⟨rfl, rfl⟩)
  go_quiet (fail)
  go_wp2
  go_ret2
  exact ⟨rfl, below_drewN (Below.refl _ _) _⟩
set_option maxHeartbeats 1000000 in
set_option maxRecDepth 100000 in
theorem rsee_few (S T : Nat → Prop) (r m : Nat) (f : Int) (bad : Nat) (G : List (Int × Int)) (N : List Int) (L : List Shr) (u : Int) (n : Nat) (w : World) (hC : Rc w S r f G N) (hS : Rs w T m f bad L) (hf : isF f = true) (hbad : bad < 4294967296) (hL : ∀ y ∈ L, y.wf) (hl : L.length ≤ 1000000000) (hn : n < 4294967296) (hu : mayV u = true) (hui : inI u) (he : enoughE f bad L (coinS u) n (f + 1) ≠ 0) :
    Calls Tryd.prog 14 #[.pointer (some ⟨r, 0, none⟩), .pointer (some ⟨m, 0, none⟩), .int .i64 u, .int .u32 n] w fun e w' => e = .returned (.tuple #[.int .i64 0, .int .i64 (enoughE f bad L (coinS u) n (f + 1))]) ∧ Below w.heap.size w w' := by
  have hf' := isF_le hf
  have hfi : inI f := ⟨by omega, by omega⟩
  have hm := may_any u
  rw [hu] at hm
  have hen := fun W (hW : Below w.heap.size w W) => refenough_any T m f bad L (coinS u) n (f + 1) W (hS.below hW) hfi hbad (coinS_wf hui) hL hl hn
  obtain ⟨e, hee⟩ : ∃ e, e = enoughE f bad L (coinS u) n (f + 1) := ⟨_, rfl⟩
  simp only [← hee] at hen he ⊢
  have h0' : (e == 0) = false := by simpa using he
  have h1' : (e != 0) = true := by simpa using he
  obtain ⟨v1, v2, hb, hr1, hr2, h1, h2, h3⟩ := hC
  obtain ⟨v, hbs, hrs, h4, h5⟩ := hS
  have c0 := hb.cell 0
  have m0 := hbs.cell 0
  have hq : (f == f) = true := by simp
  have hq' : (f != f) = false := by simp
  have hlo := hf'.1
  have hhi := hf'.2
  have HH := Lib.hid (And.intro hm hen)
  clear hb hbs hr1 hr2 hrs h2 h3 h5 he hee hm hen hf'
  go_enter Tryd.func14, Tryd.ntmps14
  go_wp2_with (go_at_call 28; refine (HH.out.1 _).mono ?_; rintro e w1 ⟨rfl, rfl⟩)
  go_quiet (fail)
  go_wp2_with (first
    | (refine wpList_build rfl _ _ rfl #[(0, .int .i64 5), (2, .int .i64 u)] rfl (build_coin u _) ?_)
    | (go_at_call 32; refine (HH.out.2 _ (below_drewN (Below.refl _ _) _)).mono ?_; rintro e w2 ⟨rfl, hb2⟩))
  go_ret2
  exact ⟨rfl, (below_drewN (Below.refl _ _) _).trans hb2⟩
set_option maxHeartbeats 1000000 in
set_option maxRecDepth 100000 in
theorem rsee_ok (S T : Nat → Prop) (r m : Nat) (f : Int) (bad : Nat) (G : List (Int × Int)) (N : List Int) (L : List Shr) (u : Int) (n : Nat) (w : World) (hC : Rc w S r f G N) (hS : Rs w T m f bad L) (hf : isF f = true) (hbad : bad < 4294967296) (hL : ∀ y ∈ L, y.wf) (hl : L.length ≤ 1000000000) (hlG : G.length ≤ 1000000000) (hlN : N.length ≤ 1000000000) (hn : n < 4294967296) (hu : mayV u = true) (hui : inI u) (he : enoughE f bad L (coinS u) n (f + 1) = 0) :
    Calls Tryd.prog 14 #[.pointer (some ⟨r, 0, none⟩), .pointer (some ⟨m, 0, none⟩), .int .i64 u, .int .u32 n] w fun e w' => e = .returned (.tuple #[.int .i64 (whoV f G u), .int .i64 0]) ∧ Rc w' (moreB S w w') r f G (putN N u) ∧ Turn S w w' := by
  have hf' := isF_le hf
  have hfi : inI f := ⟨by omega, by omega⟩
  have hm := may_any u
  rw [hu] at hm
  have hen := fun W (hW : Below w.heap.size w W) => refenough_any T m f bad L (coinS u) n (f + 1) W (hS.below hW) hfi hbad (coinS_wf hui) hL hl hn
  simp only [he] at hen
  have hwas := fun W (hW : Below w.heap.size w W) => was_any S r f G N u W (hC.below hW) hlN
  have hwho := fun W S' N' (hR : Rc W S' r f G N') => refwho_any S' r f G N' u W hR hfi hlG
  have HC := Lib.hid hC
  have hc0 : ∀ W, Below w.heap.size w W → W.cell? ⟨r, 0, none⟩ = some (.int .i64 f) := fun W hW => by
    obtain ⟨v1, v2, hb, _⟩ := hC
    exact (hb.below hW hb.lt).cell 0
  have c0 := hc0 w (Below.refl _ _)
  have hlt := hC.lt
  obtain ⟨v, hbs, hrs, h4, h5⟩ := hS
  have m0 := hbs.cell 0
  have hq : (f == f) = true := by simp
  have hq' : (f != f) = false := by simp
  have hlo := hf'.1
  have hhi := hf'.2
  obtain ⟨k, hk⟩ : ∃ k, k = whoV f G u := ⟨_, rfl⟩
  simp only [← hk] at hwho ⊢
  by_cases hun : u ∈ N
  · have e1 : putN N u = N := by unfold putN; rw [if_pos hun]
    rw [e1]
    simp only [decide_eq_true hun] at hwas
    have HH := Lib.hid (And.intro hm (And.intro hen (And.intro hwas hwho)))
    clear hC hbs hrs h5 he hm hen hwas hwho hf' hc0 hun e1 hk
    go_enter Tryd.func14, Tryd.ntmps14
    go_wp2_with (go_at_call 28; refine (HH.out.1 _).mono ?_; rintro e w1 ⟨rfl, rfl⟩)
    go_quiet (fail)
    go_wp2_with (first
      | (refine wpList_build rfl _ _ rfl #[(0, .int .i64 5), (2, .int .i64 u)] rfl (build_coin u _) ?_)
      | (go_at_call 32; refine (HH.out.2.1 _ (below_drewN (Below.refl _ _) _)).mono ?_; rintro e w2 ⟨rfl, hb2⟩; have hb02 : Below w.heap.size w w2 := (below_drewN (Below.refl _ _) _).trans hb2)
      | (go_at_call 19; refine (HH.out.2.2.1 _ hb02).mono ?_; rintro e w3 ⟨rfl, rfl⟩)
      | (go_at_call 33; refine (HH.out.2.2.2 _ S N (HC.out.below hb02)).mono ?_; rintro e w4 ⟨rfl, rfl⟩))
    go_ret2
    exact ⟨rfl, (HC.out.below hb02).mono fun _ _ => .inl, Turn.of_keep hb02⟩
  · have e1 : putN N u = N ++ [u] := by unfold putN; rw [if_neg hun]
    rw [e1]
    simp only [decide_eq_false hun] at hwas
    have HH := Lib.hid (And.intro hm (And.intro hen (And.intro hwas hwho)))
    clear hC hbs hrs h5 he hm hen hwas hwho hf' hc0 hun e1 hk
    go_enter Tryd.func14, Tryd.ntmps14
    go_wp2_with (go_at_call 28; refine (HH.out.1 _).mono ?_; rintro e w1 ⟨rfl, rfl⟩)
    go_quiet (fail)
    go_upto_region 9 with (first
      | (refine wpList_build rfl _ _ rfl #[(0, .int .i64 5), (2, .int .i64 u)] rfl (build_coin u _) ?_)
      | (go_at_call 32; refine (HH.out.2.1 _ (below_drewN (Below.refl _ _) _)).mono ?_; rintro e w2 ⟨rfl, hb2⟩; have hb02 : Below w.heap.size w w2 := (below_drewN (Below.refl _ _) _).trans hb2)
      | (go_at_call 19; refine (HH.out.2.2.1 _ hb02).mono ?_; rintro e w3 ⟨rfl, rfl⟩))
    obtain ⟨v1, v2, hb, hr1, hr2, h1, h2, h3⟩ := HC.out.below hb02
    have c2 := hb.cell 2
    obtain ⟨i0, hi, hz0, hz1, hz2⟩ := info_parts intInfo
    have hvg2 := own_blk_ne hr2 hb (by decide)
    have hv12 := row_ne_row hr2 hr1 (by decide)
    obtain ⟨A, cp, rfl, _, _⟩ := row_reads hr2
    have HR := Lib.hid (And.intro hr1 hr2)
    clear hr1 hr2 hb2 c0 m0
    go_upto_region 10 with (first
      | (refine wpList_buildSlice rfl _ _ _ rfl #[(0, .int .i64 u)] rfl (slice_one u w2) ?_)
      | (at_builtin
         refine wpList_append_any _ rfl (.tmp 44) (.tmp 46) 38 rfl 0 3 i0 _ 1 8 Tryd.underlying38 hi hz0 hz1 hz2 rfl (by decide) (.slice A N.length cp) N.length (ints N) rfl
           (HR.out.2.alloc _) (w2.heap.size + 1) (some ⟨w2.heap.size, 0, none⟩) 1 1 [.int .i64 u] rfl (reads_one w2 (.int .i64 u) _) (by simp [Value.oneCell']) (by unfold maxLen; omega) (by omega) (Nat.zero_le _) ?_
         intro v6 w6 ho6 hg6 hat6
         have hb6 := (hb.alloc (.cells #[.int .i64 u] 3)).grown hg6 (fun e => hvg2 e.symm)
         obtain ⟨A6, cp6, rfl, hc6, hrd6⟩ := row_reads ho6
         have d2 := hb6.cell 2
         have f2 := hb6.frozen 2))
    refine name_world (fun w7 hw7 => ?_)
    have s2 := hb02.size
    have hv6 : ∀ j, (Value.slice A6 (N.length + 1) cp6).ownBlock = some j → S j ∨ w2.heap.size ≤ j := by
      intro j hj
      rcases hat6 with e | e
      · rw [e] at hj; exact .inl (h3 j hj)
      · rw [e] at hj; simp at hj; right; omega
    have hr1' : w6.ownsRow 0 53 11 v1 G.length (shrs (G.map gShr)) := (HR.out.1.alloc _).kept hg6 (by
      rcases hv : v1.ownBlock with _ | j
      · exact .inl rfl
      · right
        intro e
        exact hv12 j e.symm hv)
    have ht6 : Turn S w w6 := ((Turn.of_keep hb02).alloc (.cells #[.int .i64 u] 3)).grown hg6 (fun i e => .inl (h3 i e))
    have hR7 := ((Turn.refl (fun j => j = r) w6).setCell (p := ⟨r, 2, none⟩) (.inl rfl) (.slice A6 (N.length + 1) cp6)).row ho6 (fun j hj e => own_blk_ne ho6 hb6 (by decide) (by rw [hj, e]))
    have hR8 := ((Turn.refl (fun j => j = r) w6).setCell (p := ⟨r, 2, none⟩) (.inl rfl) (.slice A6 (N.length + 1) cp6)).row hr1' (fun j hj e => own_blk_ne hr1' hb6 (by decide) (by rw [hj, e]))
    have ht7 : Turn S w w7 := by rw [hw7]; exact ht6.setCell (.inl h1) _
    have hC7 : Rc w7 (moreB S w w7) r f G (N ++ [u]) := by
      rw [hw7] at ht7 ⊢
      refine ⟨v1, .slice A6 (N.length + 1) cp6, hb6.set_ 2 _, hR8, ?_, .inl h1, fun j hj => .inl (h2 j hj), fun j hj => (hv6 j hj).imp id (fun h => ⟨Nat.le_trans s2 h, (hR7.lt j hj).2⟩)⟩
      rw [List.length_append, ints_snoc]
      exact hR7
    clear hw7 hR7 hR8 ht6 hr1' hv6 hg6 ho6 d2 f2 hb6 hrd6 hat6
    go_wp2_with (go_at_call 33; refine (HH.out.2.2.2 _ _ (N ++ [u]) hC7).mono ?_; rintro e w4 ⟨rfl, rfl⟩)
    go_ret2
    exact ⟨rfl, hC7, ht7⟩
theorem rsee_any (S T : Nat → Prop) (r m : Nat) (f h : Int) (bad : Nat) (G : List (Int × Int)) (N : List Int) (L : List Shr) (u : Int) (n : Nat) (w : World) (hC : Rc w S r f G N) (hS : Rs w T m h bad L) (hf : isF f = true) (hbad : bad < 4294967296) (hL : ∀ y ∈ L, y.wf) (hl : L.length ≤ 1000000000) (hlG : G.length ≤ 1000000000) (hlN : N.length ≤ 1000000000) (hn : n < 4294967296) :
    Calls Tryd.prog 14 #[.pointer (some ⟨r, 0, none⟩), .pointer (some ⟨m, 0, none⟩), .int .i64 u, .int .u32 n] w fun e w' => e = .returned (.tuple #[.int .i64 (seeW f h bad L G u n), .int .i64 (seeE f h bad L u n)]) ∧ Rc w' (moreB S w w') r f G (seeN f h bad L N u n) ∧ Turn S w w' := by
  have low : ∀ w', Below w.heap.size w w' → Rc w' (moreB S w w') r f G N ∧ Turn S w w' := fun w' hb => ⟨(hC.below hb).mono fun _ _ => .inl, Turn.of_keep hb⟩
  have es : ∀ x, seeE f h bad L u n = x → x ≠ 0 → seeW f h bad L G u n = 0 ∧ seeN f h bad L N u n = N := fun x hx h0 => by
    unfold seeW seeN
    rw [hx, if_neg h0, if_neg h0]
    exact ⟨rfl, rfl⟩
  rcases Bool.eq_false_or_eq_true (mayV u) with hu | hu
  · have hmv := mayV_in hu
    have hui : inI u := ⟨by omega, by omega⟩
    by_cases hh : h = f
    · subst hh
      have e1 : seeE h h bad L u n = enoughE h bad L (coinS u) n (h + 1) := by unfold seeE; rw [if_pos hu, if_pos rfl]
      by_cases he : enoughE h bad L (coinS u) n (h + 1) = 0
      · have e2 : seeW h h bad L G u n = whoV h G u := by unfold seeW; rw [e1, if_pos he]
        have e3 : seeN h h bad L N u n = putN N u := by unfold seeN; rw [e1, if_pos he]
        rw [e1, e2, e3, he]
        exact rsee_ok S T r m h bad G N L u n w hC hS hf hbad hL hl hlG hlN hn hu hui he
      · obtain ⟨e2, e3⟩ := es _ e1 he
        rw [e1, e2, e3]
        refine (rsee_few S T r m h bad G N L u n w hC hS hf hbad hL hl hn hu hui he).mono ?_
        rintro e w' ⟨rfl, hb⟩
        exact ⟨rfl, low w' hb⟩
    · have e1 : seeE f h bad L u n = 1 := by unfold seeE; rw [if_pos hu, if_neg hh]
      obtain ⟨e2, e3⟩ := es _ e1 (by decide)
      rw [e1, e2, e3]
      refine (rsee_other S T r m f h bad G N L u n w hC hS hu hh).mono ?_
      rintro e w' ⟨rfl, hb⟩
      exact ⟨rfl, low w' hb⟩
  · have e1 : seeE f h bad L u n = 70 := by unfold seeE; rw [if_neg (by rw [hu]; decide)]
    obtain ⟨e2, e3⟩ := es _ e1 (by decide)
    rw [e1, e2, e3]
    refine (rsee_view r _ u n w hu).mono ?_
    rintro e w' ⟨rfl, hb⟩
    exact ⟨rfl, low w' hb⟩
end Go.Proofs.YtjkfogjhakcnfaaDoor
