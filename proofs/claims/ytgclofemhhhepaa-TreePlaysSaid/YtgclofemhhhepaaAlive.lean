/-
  The chapter's example.
-/
import Derived.Test.YtgclofemhhhepaaNewT
set_option linter.unusedSimpArgs false
set_option linter.unusedVariables false
set_option maxRecDepth 10000
namespace Go.Proofs.Ytgclofemhhhepaa
open Go.RowKit Go.Maps Go.Lib
open L3 (Blk Reads)
open L6 (Turn moreB fresh From In)

/-! Paths, where there is one and where there is none -/
theorem path_ok {w : World} {S : Nat → Prop} {g : Nat} {s : TS} (h : Tr w S g s) (hs : s.wf) (hl : s.L.length ≤ 100000) (n : Int) (hn : inI n) (h0 : lackE s n = 0) :
    Calls Try.prog 17 #[.pointer (some ⟨g, 0, none⟩), .int .i64 n] w fun e w' => ∃ v l, e = .returned (.tuple #[v, .int .i64 0]) ∧ PathIs s.root s.L n l ∧ OwnI w' w.heap.size v l ∧ Below w.heap.size w w' := by
  refine (path_any h hs hl n hn).mono ?_
  rintro e w' ⟨⟨hx, _⟩ | ⟨v, l, _, he, hp, ho⟩, hb⟩
  · exact absurd h0 hx
  · exact ⟨v, l, he, hp, ho, hb⟩
theorem path_no {w : World} {S : Nat → Prop} {g : Nat} {s : TS} (h : Tr w S g s) (hs : s.wf) (hl : s.L.length ≤ 100000) (n : Int) (hn : inI n) {k : Int} (hk : lackE s n = k) (h0 : k ≠ 0) :
    Calls Try.prog 17 #[.pointer (some ⟨g, 0, none⟩), .int .i64 n] w (gives (.tuple #[.slice none 0 0, .int .i64 k]) w) := by
  refine (path_any h hs hl n hn).mono ?_
  rintro e w' ⟨⟨hx, he⟩ | ⟨v, l, hx, _⟩, hb⟩
  · rw [hk] at he
    exact ⟨he, hb⟩
  · exact absurd (hk.symm.trans hx) h0

/-! Blocks that the statements make -/
theorem build_cr1 (p : Int) (w : World) : (Instr.build 35 #[(1, .int .i64 p)]).run Try.prog w = .ok (.agg (crC ⟨0, 0, p, 0⟩)) w := run_build w _ _ _ (by kernel_rfl)
theorem build_cr2 (p r : Int) (w : World) : (Instr.build 35 #[(1, .int .i64 p), (3, .int .i64 r)]).run Try.prog w = .ok (.agg (crC ⟨0, 0, p, r⟩)) w := run_build w _ _ _ (by kernel_rfl)
theorem build_bl1 (rd : Int) (w : World) : (Instr.build 39 #[(1, .int .i64 rd)]).run Try.prog w = .ok (.agg (blC ⟨0, rd, 0, 0⟩)) w := run_build w _ _ _ (by kernel_rfl)
theorem build_bl2 (rd p r : Int) (w : World) : (Instr.build 39 #[(1, .int .i64 rd), (4, .agg (crC ⟨0, 0, p, r⟩))]).run Try.prog w = .ok (.agg (blC ⟨0, rd, p, r⟩)) w := run_build w _ _ _ (by kernel_rfl)
theorem build_bl3 (v rd p r : Int) (w : World) : (Instr.build 39 #[(0, .int .i64 v), (1, .int .i64 rd), (4, .agg (crC ⟨0, 0, p, r⟩))]).run Try.prog w = .ok (.agg (blC ⟨v, rd, p, r⟩)) w := run_build w _ _ _ (by kernel_rfl)

/-! The example, plainly -/
def ex0 : TS := ⟨3, 0, 0, []⟩
def exB2 : Bl := ⟨0, 2, 1, 0⟩
def exB1 : Bl := ⟨0, 1, 0, 0⟩
theorem inI_small {n : Int} (h1 : -1000 ≤ n) (h2 : n ≤ 1000) : inI n := ⟨by omega, by omega⟩
theorem new_wf (m : Int) (hm : inI m) : (⟨m, 0, 0, []⟩ : TS).wf := by
  refine ⟨⟨List.nodup_nil, fun e he => by cases he⟩, fun e he => (nomatch he), fun e he => (nomatch he), fun e he => (nomatch he), ?_, ?_, hm⟩ <;> exact inI_small (by simp) (by simp)
theorem ex_wf2 : exB2.wf := ⟨inI_small (by decide) (by decide), inI_small (by decide) (by decide), inI_small (by decide) (by decide), inI_small (by decide) (by decide)⟩
theorem ex_wf1 : exB1.wf := ⟨inI_small (by decide) (by decide), inI_small (by decide) (by decide), inI_small (by decide) (by decide), inI_small (by decide) (by decide)⟩
noncomputable def ex1 : TS := putS ex0 2 exB2
noncomputable def ex2 : TS := putS ex1 1 exB1
theorem ex_put2 : putE ex0 2 exB2 = 150 ∧ ex1 = ⟨3, 0, 0, [⟨2, exB2, false⟩]⟩ := by
  have h : refE ex0 2 exB2 = 0 := by decide
  exact putS_orph h (by decide) (by decide)
theorem ex_put1 : putE ex1 1 exB1 = 0 ∧ ex2 = ⟨3, 0, 0, settle 0 [⟨2, exB2, false⟩, ⟨1, exB1, true⟩]⟩ := by
  unfold ex2
  rw [ex_put2.2]
  have h : refE ⟨3, 0, 0, [⟨2, exB2, false⟩]⟩ 1 exB1 = 0 := by decide
  exact putS_in h (by decide)
theorem ex_wfs : ex1.wf ∧ ex2.wf := by
  have h1 : ex1.wf := putS_wf (new_wf 3 (inI_small (by decide) (by decide))) (inI_small (by decide) (by decide)) ex_wf2
  exact ⟨h1, putS_wf h1 (inI_small (by decide) (by decide)) ex_wf1⟩
theorem ex_path : PathIs 0 ex2.L 2 [1, 2] := by
  rw [ex_put1.2]
  refine (settle_twin 0 _).symm.path ?_
  refine PathIs.up ⟨2, exB2, false⟩ [1] (by simp) ?_
  exact PathIs.up ⟨1, exB1, true⟩ [] (by simp) .root
theorem ex_has : hasV ex2.root ex2.L 2 := by
  have hr : ex2.root = 0 := by rw [ex_put1.2]
  have h2 := (has_hang ex_wfs.2.ok (n := 2)).2
  rw [hr] at h2 ⊢
  exact h2 (path_hang ex_path)
theorem ex_lack : lackE ex2 2 = 0 := if_pos ex_has
theorem ex_len : ex1.L.length ≤ 100000 ∧ ex2.L.length ≤ 100000 := by
  rw [ex_put2.2, ex_put1.2]
  refine ⟨by simp, ?_⟩
  show (settle 0 _).length ≤ 100000
  rw [settle_len]; simp
theorem own_two {w : World} {base : Nat} {v : Value} {a b : Int} (h : OwnI w base v [a, b]) : ∃ g c, v = .slice (some ⟨g, 0, none⟩) 2 c ∧ w.cell? ⟨g, 0, none⟩ = some (.int .i64 a) := by
  rcases h.2 with ⟨rfl, h0⟩ | ⟨g, cap, cur, rfl, _⟩
  · simp at h0
  · exact ⟨g, cap, rfl, by simpa [Addr.add] using h.cells (g := g) rfl 0 _ rfl⟩
set_option maxHeartbeats 4000000 in
set_option maxRecDepth 100000 in
theorem alive_any (w : World) : Calls Try.prog 7 #[] w (gives (.bool true) w) := by
  have HN := Lib.hid (new_ok 3 w (by decide) (by decide))
  have hc := fun W => build_cr1 1 W
  have hb2 := fun W => build_bl2 2 1 0 W
  have hb1 := fun W => build_bl1 1 W
  go_enter Try.func7, Try.ntmps7
  go_upto_region 4 with (first
    | (go_at_call 8; refine HN.out.mono ?_; unfold NewPost; rintro e w1 ⟨⟨g, rfl, hT1⟩, hbn⟩)
    | go_in)
  have hi1 : In w1 (fresh w w1) := L6.In.fresh _ _
  have hfr : From w.heap.size (fresh w w1) := L6.From.fresh _ _
  have P1 := put_any (s := ex0) hT1 (new_wf 3 (inI_small (by decide) (by decide))) (by decide) hi1 2 exB2 (inI_small (by decide) (by decide)) ex_wf2
  have P1' := Lib.hid (show Calls Try.prog 11 #[.pointer (some ⟨g, 0, none⟩), .int .i64 2, .agg (blC ⟨0, 2, 1, 0⟩)] w1 fun e w' => e = .returned (.int .i64 150) ∧ Tr w' (fresh w w1) g ex1 ∧ Turn (fresh w w1) w1 w' from by
    refine P1.mono ?_
    rintro e w' ⟨he, h1, h2⟩
    rw [ex_put2.1] at he
    exact ⟨he, h1, h2⟩)
  clear P1
  go_upto_region 5 with (first
    | (refine wpList_build rfl _ _ rfl #[(1, .int .i64 1)] rfl (hc _) ?_)
    | (refine wpList_build rfl _ _ rfl #[(1, .int .i64 2), (4, .agg (crC ⟨0, 0, 1, 0⟩))] rfl (hb2 _) ?_)
    | (go_at_call 11; refine P1'.out.mono ?_; rintro e w2 ⟨rfl, hT2, ht2⟩)
    | go_in)
  have hb2' : Below w.heap.size w w2 := hbn.trans (ht2.below hfr hbn.size)
  have P2 := put_any (s := ex1) hT2 ex_wfs.1 ex_len.1 (hi1.le ht2.size) 1 exB1 (inI_small (by decide) (by decide)) ex_wf1
  have P2' := Lib.hid (show Calls Try.prog 11 #[.pointer (some ⟨g, 0, none⟩), .int .i64 1, .agg (blC ⟨0, 1, 0, 0⟩)] w2 fun e w' => e = .returned (.int .i64 0) ∧ Tr w' (fresh w w1) g ex2 ∧ Turn (fresh w w1) w2 w' from by
    refine P2.mono ?_
    rintro e w' ⟨he, h1, h2⟩
    rw [ex_put1.1] at he
    exact ⟨he, h1, h2⟩)
  clear P2
  go_upto_region 6 with (first
    | (refine wpList_build rfl _ _ rfl #[(1, .int .i64 1)] rfl (hb1 _) ?_)
    | (go_at_call 11; refine P2'.out.mono ?_; rintro e w3 ⟨rfl, hT3, ht3⟩)
    | go_in)
  have hb3' : Below w.heap.size w w3 := hb2'.trans (ht3.below hfr hb2'.size)
  have P3 := Lib.hid (show Calls Try.prog 17 #[.pointer (some ⟨g, 0, none⟩), .int .i64 2] w3 fun e w' => ∃ gl c, e = .returned (.tuple #[.slice (some ⟨gl, 0, none⟩) 2 c, .int .i64 0]) ∧ w'.cell? ⟨gl, 0, none⟩ = some (.int .i64 1) ∧ Below w3.heap.size w3 w' from by
    refine (path_ok hT3 ex_wfs.2 ex_len.2 2 (inI_small (by decide) (by decide)) ex_lack).mono ?_
    rintro e w' ⟨v, l, he, hp, hown, hb⟩
    have hl : l = [1, 2] := by
      have hr : ex2.root = 0 := by rw [ex_put1.2]
      have ho := ex_wfs.2.one
      rw [hr] at hp ho
      exact path_one ho hp ex_path
    subst hl
    obtain ⟨gl, c, rfl, hcell⟩ := own_two hown
    exact ⟨gl, c, he, hcell, hb⟩)
  go_upto_region 7 with (first
    | (go_at_call 17; refine P3.out.mono ?_; rintro e w4 ⟨gl, c, rfl, hcell, hb4⟩)
    | go_in)
  have HH := Lib.hid (has_is (hT3.below hb4) 2 true (inI_small (by decide) (by decide)) (decide_eq_true ex_has))
  go_wp2_with (first
    | (go_at_call 19; refine HH.out.mono ?_; unfold gives; rintro e w5 ⟨rfl, hb5⟩)
    | go_in)
  go_ret
  exact ⟨rfl, nxt (nxt hb3' hb4) hb5⟩
end Go.Proofs.Ytgclofemhhhepaa
