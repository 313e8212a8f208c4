/-
  Want and Got.
-/
import Derived.Test.YtglnocclhhdbbaaTab2
set_option linter.unusedSimpArgs false
set_option linter.unusedVariables false
set_option maxRecDepth 10000
namespace Go.Proofs.Ytglnocclhhdbbaa
open Go.RowKit Go.Lib
open L3 (Blk Reads block_of_add add_of_add)
open L6 (Turn moreB fresh From In)

theorem moreB_le {S : Nat → Prop} {w w1 w2 : World} (h : w.heap.size ≤ w1.heap.size) : ∀ k, moreB S w1 w2 k → moreB S w w2 k := fun k hk => hk.imp id fun h1 => ⟨Nat.le_trans h h1.1, h1.2⟩
theorem FtPost.back {v : Value} {S : Nat → Prop} {g : Nat} {s : FS} {w w1 w' : World} {e : Ending} (hb : Below w.heap.size w w1) (h : FtPost v S g s w1 e w') : FtPost v S g s w e w' :=
  ⟨h.1, h.2.1.mono (moreB_le hb.size), (L6.Turn.of_keep (S := S) hb).trans h.2.2 fun i e => .inl e⟩
theorem wantL_not {s : FS} {n : Int} (h : wantE s n ≠ 0) : ({ s with L := wantL s n } : FS) = s := by unfold wantL; rw [if_neg h]
theorem want_fit {s : FS} (h : s.ok ∧ s.fit) {n : Int} (hn : inI n) : (({ s with L := wantL s n } : FS).ok ∧ ({ s with L := wantL s n } : FS).fit) := by
  refine ⟨wantL_ok h.1 n, h.2.tr, fun x hx => ?_⟩
  by_cases he : wantE s n = 0
  · have hw : ¬ wanted s.L n := by
      intro hw
      unfold wantE at he
      split at he
      · cases he
      · first | (rw [if_pos hw] at he; cases he) | cases he
    have hx2 : x ∈ insW n s.L := by
      have : wantL s n = insW n s.L := by unfold wantL; rw [if_pos he]
      rw [← this]; exact hx
    rcases (insW_mem hw).1 hx2 with e | e
    · rw [e]; exact hn
    · exact h.2.n x e
  · have : wantL s n = s.L := by unfold wantL; rw [if_neg he]
    have hx2 : x ∈ wantL s n := hx
    rw [this] at hx2
    exact h.2.n x hx2
set_option maxHeartbeats 4000000 in
set_option maxRecDepth 100000 in
theorem want_any {w : World} {S : Nat → Prop} {g : Nat} {s : FS} (h : Ft w S g s) (n : Int) (hn : inI n) :
    Calls Try.prog 9 #[.pointer (some ⟨g, 0, none⟩), .int .i64 n] w (FtPost (.int .i64 (wantE s n)) S g { s with L := wantL s n } w) := by
  have HP := Lib.hid (place_any h n)
  have HH := Lib.hid h
  have hfit := want_fit h.ok hn
  obtain ⟨r, hr⟩ : ∃ r, r = spot s.L n := ⟨_, rfl⟩
  obtain ⟨b, hbb⟩ : ∃ b, b = decide (wanted s.L n) := ⟨_, rfl⟩
  rw [← hr, ← hbb] at HP
  have HR := Lib.hid hr
  have HB := Lib.hid hbb
  have HF := Lib.hid hfit
  clear h hr hbb hfit
  by_cases h1 : n < 1
  · have HE : Hid (wantE s n = 1) := Lib.hid (if_pos h1)
    go_enter Try.func9, Try.ntmps9
    go_wp2_with (first
      | (go_at_call 23; refine HP.out.mono ?_; unfold gives; rintro e w1 ⟨rfl, hb1⟩)
      | go_in)
    go_ret
    rw [wantL_not (by rw [HE.out]; decide)]
    exact FtPost.same HH.out (by rw [HE.out]; rfl) hb1
  · cases b with
    | true =>
      have HE : Hid (wantE s n = 100) := Lib.hid (by unfold wantE; rw [if_neg h1, if_pos (of_decide_eq_true HB.out.symm)])
      go_enter Try.func9, Try.ntmps9
      go_wp2_with (first
        | (go_at_call 23; refine HP.out.mono ?_; unfold gives; rintro e w1 ⟨rfl, hb1⟩)
        | go_in)
      go_ret
      rw [wantL_not (by rw [HE.out]; decide)]
      exact FtPost.same HH.out (by rw [HE.out]; rfl) hb1
    | false =>
      have hnw : ¬ wanted s.L n := of_decide_eq_false HB.out.symm
      have HE0 : Hid (wantE s n = if s.most ≤ s.L.length then 101 else 0) := Lib.hid (by unfold wantE; rw [if_neg h1, if_neg hnw])
      go_enter Try.func9, Try.ntmps9
      go_upto_region 8 with (first
        | (go_at_call 23; refine HP.out.mono ?_; unfold gives; rintro e w1 ⟨rfl, hb1⟩)
        | go_in)
      obtain ⟨A, c, hblk, hrd, hrow, hok, hSg, hSk⟩ := HH.out.open_
      have c2 : w1.cell? ⟨g, 2, none⟩ = some (.int .i64 s.most) := (hblk.below hb1 hblk.lt).cell 2
      have c4 : w1.cell? ⟨g, 4, none⟩ = some (.slice A s.L.length c) := (hblk.below hb1 hblk.lt).cell 4
      have HK := Lib.hid (And.intro hblk (And.intro hrow (And.intro hok (And.intro hSg hSk))))
      clear hblk hrd hrow hok hSk hSg
      obtain ⟨z, hz⟩ : ∃ z, z = s.L.length := ⟨_, rfl⟩
      rw [← hz] at HE0 c4
      have HZ := Lib.hid hz
      clear hz
      by_cases h3 : s.most ≤ (z : Int)
      · have HE := Lib.hid (HE0.out.trans (if_pos h3))
        clear HE0
        go_quiet (fail)
        go_wp2
        go_ret
        rw [wantL_not (by rw [HE.out]; decide)]
        exact FtPost.same HH.out (by rw [HE.out]; rfl) (L6.below_drewN hb1 _)
      · have HE := Lib.hid (HE0.out.trans (if_neg h3))
        clear HE0
        go_quiet (fail)
        generalize hw2 : World.drewN w1 _ = w2
        have hb2 : Below w.heap.size w w2 := by rw [← hw2]; exact L6.below_drewN hb1 _
        clear hw2 c2 c4 hb1
        have hrl := spot_le s.L n
        rw [← HR.out, ← HZ.out] at hrl
        have hbx := below_new w2 (.cells (wnC ⟨n, 0⟩) 63)
        obtain ⟨hblk, hrow, hok, hSg, hSk⟩ := HK.out
        have hb3 := nxt hb2 hbx
        have hblk3 := hblk.below hb3 hblk.lt
        have hrow3 : (w2.alloc (.cells (wnC ⟨n, 0⟩) 63)).ownsRow 0 63 2 (.slice A s.L.length c) s.L.length (s.L.flatMap wnL) := (show Turn (fun _ => False) w _ from L6.Turn.of_keep hb3).row hrow (fun k _ h => h)
        have hng : (Value.slice A s.L.length c).ownBlock ≠ some g := row_ne hrow hblk (by decide)
        have c4 : w2.cell? ⟨g, 4, none⟩ = some (.slice A s.L.length c) := (hblk.below hb2 hblk.lt).cell 4
        have hI := insert_any hrow3 (by have := hok.1.small; omega) (i := r) (by rw [HZ.out] at hrl; exact hrl) ⟨n, 0⟩ (wbox_new w2 63 ⟨n, 0⟩) (fun e => by have := row_lt hrow e; have := hb2.size; omega)
        have HI := Lib.hid hI
        have HG := Lib.hid (And.intro hblk3 hng)
        rw [← HZ.out] at c4 HI HG
        clear hI hblk hrow hblk3 hrow3 hbx hrl
        go_wp2_with (first
          | (refine wpList_build rfl _ _ rfl #[(0, .int .i64 n)] rfl (build_wn n _) ?_)
          | (refine wpList_buildSlice rfl _ _ _ rfl #[(0, .agg (wnC ⟨n, 0⟩))] rfl (slice_wn ⟨n, 0⟩ w2) ?_)
          | (go_at_call 24; refine HI.out.mono ?_; unfold RowPost; rintro e w4 ⟨v', rfl, ho4, hv4, ht4⟩
             obtain ⟨A4, d4, rfl, _, _⟩ := Rd.of_row (f := wnL) (k := 2) (fun _ => rfl) ho4
             have b4 := ht4.blk HG.out.1 HG.out.2
             have e4 : w4.cell? ⟨g, 4, none⟩ = some (.slice A z c) := b4.cell 4
             have f4 := b4.frozen 4)
          | go_in)
        go_ret
        have hL : wantL s n = insAt s.L r ⟨n, 0⟩ := by
          have hnw : ¬ wanted s.L n := of_decide_eq_false HB.out.symm
          unfold wantL
          rw [if_pos HE.out, insW_is hok.1.rising hnw, HR.out]
        have hF := HF.out
        rw [hL] at hF ⊢
        have hk : ∀ k, (Value.slice A z c).ownBlock = some k → S k := by have := HK.out.2.2.2.2; rw [← HZ.out] at this; exact this
        have hp := Ft.put (s' := { s with L := insAt s.L r ⟨n, 0⟩ }) hSg HG.out.1 hk HG.out.2 ht4 ho4 hv4 hF ⟨rfl, rfl, rfl, rfl⟩
        exact FtPost.back hb3 ⟨by rw [HE.out]; rfl, hp.1, hp.2⟩
end Go.Proofs.Ytglnocclhhdbbaa
