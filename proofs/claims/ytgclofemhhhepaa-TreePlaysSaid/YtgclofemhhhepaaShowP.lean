/-
  What a tree tells, and what the document's tells, in one form; a pruning that changes nothing.
-/
import Derived.Test.YtgclofemhhhepaaRefU
import Derived.Test.YtgclofemhhhepaaRefSa
import Derived.Test.YtgclofemhhhepaaPrune
set_option linter.unusedSimpArgs false
set_option linter.unusedVariables false
set_option maxRecDepth 10000
namespace Go.Proofs.Ytgclofemhhhepaa
open Go.RowKit Go.Maps Go.Lib
open L3 (Blk Reads block_of_add add_of_add)
open L6 (Turn moreB fresh From In)

/-- A block by its number. -/
theorem getV_at {L : List Ent} (h1 : (L.map (·.n)).Nodup) (n : Int) : getV L n = (atV L n).map (·.b) := by
  cases hf : atV L n with
  | none =>
    have hk : ¬ known L n := fun h => by
      have := atV_known.2 h
      rw [hf] at this; cases this
    unfold getV
    rw [inF_none (fun h => hk (known_iff.2 (.inl h))), outF_none (fun h => hk (known_iff.2 (.inr h)))]
    rfl
  | some e =>
    obtain ⟨he, hn⟩ := (atV_some h1).1 hf
    subst hn
    unfold getV
    cases hi : e.isin with
    | true => rw [inF_some h1 he hi]; rfl
    | false =>
      rw [inF_none (x := e.n) (fun ⟨f, hf2, hn2, hi2⟩ => by
        rw [one_eq h1 hf2 he hn2, hi] at hi2; cases hi2), outF_some h1 he hi]
      rfl
theorem get_parts {L : List Ent} (h1 : (L.map (·.n)).Nodup) (n : Int) : (getV L n).getD zeroBl = ((atV L n).getD zeroEn).b ∧ getE L n = if (atV L n).isSome then 0 else 50 := by
  unfold getE
  rw [getV_at h1 n]
  cases atV L n with
  | none => exact ⟨rfl, rfl⟩
  | some e => exact ⟨rfl, rfl⟩
theorem at_wf {s : TS} (hs : s.wf) (n : Int) : ((atV s.L n).getD zeroEn).b.wf := by
  cases hf : atV s.L n with
  | none => exact ⟨inI_small (by decide) (by decide), inI_small (by decide) (by decide), inI_small (by decide) (by decide), inI_small (by decide) (by decide)⟩
  | some e => exact hs.b e ((atV_some hs.one.1).1 hf).1
/-- What a path's question tells. -/
def PthPost (l : List Int) (k : Int) (w : World) (e : Ending) (w' : World) : Prop := ∃ v, e = .returned (.tuple #[v, .int .i64 k]) ∧ SeeI w' v l ∧ Below w.heap.size w w'
theorem paths_any {s : TS} (hs : s.wf) (hl : s.L.length ≤ 100000) (n : Int) (hn : inI n) : ∃ l : List Int, l.length ≤ 100000 ∧
    (∀ w S g, Tr w S g s → Calls Try.prog 17 #[.pointer (some ⟨g, 0, none⟩), .int .i64 n] w (PthPost l (lackE s n) w)) ∧
    (∀ w A c, Rd enL 16 w A s.L → Calls Try.prog 28 #[.agg (rtC s.most s.root s.round A s.L.length c), .int .i64 n] w (PthPost l (lackE s n) w)) := by
  by_cases h0 : lackE s n = 0
  · have hv : hasV s.root s.L n := by
      unfold lackE at h0
      split at h0
      · assumption
      · split at h0 <;> cases h0
    obtain ⟨l, hlp⟩ := hang_path ((has_hang hs.ok).1 hv)
    refine ⟨l, by have := path_len hs.one hlp; omega, fun w S g h => ?_, fun w A c h => ?_⟩
    · refine (path_ok h hs hl n hn h0).mono ?_
      rintro e w' ⟨v, l2, he, hp, ho, hb⟩
      have : l2 = l := path_one hs.one hp hlp
      subst this
      exact ⟨v, by rw [h0]; exact he, OwnI.see ho, hb⟩
    · refine (rpath_ok s.most s.root s.round A c s.L hs.one hs.ok (by omega) hlp w h).mono ?_
      rintro e w' ⟨v, he, ho, hb⟩
      exact ⟨v, by rw [h0]; exact he, OwnI.see ho, hb⟩
  · refine ⟨[], by simp, fun w S g h => ?_, fun w A c h => ?_⟩
    · refine (path_no h hs hl n hn rfl h0).mono ?_
      rintro e w' ⟨he, hb⟩
      exact ⟨_, he, see_nil _, hb⟩
    · refine (rpath_no s hs A c (by omega) n w h h0).mono ?_
      rintro e w' ⟨he, hb⟩
      exact ⟨_, he, see_nil _, hb⟩
def MsPost (l : List Int) (w : World) (e : Ending) (w' : World) : Prop := ∃ v, e = .returned v ∧ SeeI w' v l ∧ Below w.heap.size w w'
theorem misses_any {s : TS} (hs : s.wf) (hl : s.L.length ≤ 100000) : ∃ l : List Int, l.length ≤ 100000 ∧
    (∀ w S g, Tr w S g s → Calls Try.prog 16 #[.pointer (some ⟨g, 0, none⟩)] w (MsPost l w)) ∧
    (∀ w A c, Rd enL 16 w A s.L → Calls Try.prog 34 #[.agg (rtC s.most s.root s.round A s.L.length c)] w (MsPost l w)) := by
  refine ⟨missF s.L s.L.length, by have := missF_len s.L s.L.length; omega, fun w S g h => ?_, fun w A c h => ?_⟩
  · refine (missing_any h hs.one.1 hs.n hs.b hl).mono ?_
    rintro e w' ⟨v, l, he, hr, hm, ho, hb⟩
    have : l = missF s.L s.L.length := miss_one hs.one hs.ok hr hm
    subst this
    exact ⟨v, he, OwnI.see ho, hb⟩
  · refine (rmiss_any s.most s.root s.round A c s.L w h (by omega)).mono ?_
    rintro e w' ⟨v, he, ho, hb⟩
    exact ⟨v, he, OwnI.see ho, hb⟩

/-! Pruning -/
set_option maxHeartbeats 4000000 in
set_option maxRecDepth 100000 in
theorem prune_no {w : World} {S : Nat → Prop} {g : Nat} {s : TS} (h : Tr w S g s) (n : Int) (hn : inI n) (hc : n = s.root ∨ lackE s n ≠ 0) :
    Calls Try.prog 13 #[.pointer (some ⟨g, 0, none⟩), .int .i64 n] w (gives (.int .i64 (lackE s n)) w) := by
  have hb1 := below_new w (.cells #[.pointer (some ⟨g, 0, none⟩)] 24)
  have k1 : Blk (w.alloc (.cells #[.pointer (some ⟨g, 0, none⟩)] 24)) w.heap.size 24 #[.pointer (some ⟨g, 0, none⟩)] := Blk.new _ _ _
  have HL := Lib.hid (fun W (hb : Below w.heap.size w W) => lacks_any (h.below hb) n hn)
  obtain ⟨q, hq⟩ : ∃ q, q = lackE s n := ⟨_, rfl⟩
  rw [← hq] at HL hc ⊢
  have h0 : n = s.root → q = 0 := fun e => by rw [hq]; exact if_pos (.inl e)
  have HT := Lib.hid (fun W (hb : Below w.heap.size w W) => (show W.cell? ⟨g, 1, none⟩ = some (.int .i64 s.root) from by
    obtain ⟨bb, bo, DB, DO, hb2, _⟩ := h.below hb
    exact hb2.cell 1))
  obtain ⟨rt, hrt⟩ : ∃ rt, rt = s.root := ⟨_, rfl⟩
  rw [← hrt] at HT hc h0
  obtain ⟨w1, hw1⟩ : ∃ w1, w1 = w.alloc (.cells #[.pointer (some ⟨g, 0, none⟩)] 24) := ⟨_, rfl⟩
  rw [← hw1] at hb1 k1
  have hE := hw1.symm
  have H1 := Lib.hid (HL.out w1 hb1)
  have c0 : w1.cell? ⟨w.heap.size, 0, none⟩ = some (.pointer (some ⟨g, 0, none⟩)) := k1.cell 0
  clear h hw1 hq hrt HL
  go_enter Try.func13, Try.ntmps13
  go_upto_region 1 with fail
  clear hE
  go_upto_region 2 with (first
    | (go_at_call 29; (with_reducible refine H1.out.mono ?_); unfold gives; rintro e w2 ⟨rfl, hb2⟩)
    | go_in)
  have c2 : w2.cell? ⟨w.heap.size, 0, none⟩ = some (.pointer (some ⟨g, 0, none⟩)) := (k1.below hb2 k1.lt).cell 0
  have hbz := nxt hb1 hb2
  have c1 := HT.out w2 hbz
  clear c0 k1 hb1 hb2 H1
  by_cases hq : q = 0
  · have hnr : n = rt := hc.resolve_right (fun h => h hq)
    subst hq
    have hne : (n == rt) = true := by simpa using hnr
    clear hc h0 hnr
    go_wp2
    go_ret
    exact ⟨rfl, hbz⟩
  · have hqq : (q != 0) = true := by simpa using hq
    clear hc h0 hq
    go_wp2
    go_ret
    exact ⟨rfl, hbz⟩
theorem pruneT_no {s : TS} {n : Int} (h : n = s.root ∨ lackE s n ≠ 0) : pruneT s n = s := if_pos h
theorem pruneT_ok {s : TS} {n : Int} (h : ¬ (n = s.root ∨ lackE s n ≠ 0)) : pruneT s n = ⟨s.most, n, ((atV s.L n).getD zeroEn).b.rd, cutP s.root s.L n ((atV s.L n).getD zeroEn).b.rd⟩ := if_neg h
theorem lack_hang {s : TS} (hs : s.wf) {n : Int} (h : lackE s n = 0) : Hang s.root s.L n := by
  have hv : hasV s.root s.L n := by
    unfold lackE at h
    split at h
    · assumption
    · split at h <;> cases h
  exact (has_hang hs.ok).1 hv
theorem hang_at {s : TS} (hs : s.wf) {n : Int} (hh : Hang s.root s.L n) (hn : n ≠ s.root) : ∃ e, atV s.L n = some e ∧ e ∈ s.L ∧ e.n = n ∧ e.isin = true := by
  rcases (has_hang hs.ok).2 hh with hv | ⟨e, he, hen, hi⟩
  · exact absurd hv hn
  · exact ⟨e, (atV_some hs.one.1).2 ⟨he, hen⟩, he, hen, hi⟩
theorem under_list (r : Int) (L : List Ent) (n : Int) : ∃ K : List Int, ∀ k, k ∈ K ↔ (Under r L n k ∧ ∃ e ∈ L, e.n = k) := by
  classical
  refine ⟨(L.map (·.n)).filter (fun k => decide (Under r L n k)), fun k => ?_⟩
  rw [List.mem_filter, decide_eq_true_eq, List.mem_map]
  exact ⟨fun ⟨⟨e, he, hn⟩, hu⟩ => ⟨hu, e, he, hn⟩, fun ⟨hu, e, he, hn⟩ => ⟨⟨e, he, hn⟩, hu⟩⟩
theorem under_known {r : Int} {L : List Ent} {n k : Int} (h : Under r L n k) : ∃ e ∈ L, e.n = k := by
  obtain ⟨l1, l2, p1, p2, hne⟩ := h
  rcases path_inv p2 with ⟨_, a⟩ | ⟨e, l', he, a, _⟩
  · exact absurd (List.append_eq_nil_iff.1 a).2 hne
  · exact ⟨e, he, a⟩
theorem pruneT_wf {s : TS} (hs : s.wf) {n : Int} (hn : inI n) : (pruneT s n).wf := by
  by_cases h : n = s.root ∨ lackE s n ≠ 0
  · rw [pruneT_no h]; exact hs
  · rw [pruneT_ok h]
    have hnr : n ≠ s.root := fun e => h (.inl e)
    have h0 : lackE s n = 0 := Classical.byContradiction fun e => h (.inr e)
    have hh := lack_hang hs h0
    obtain ⟨e, hat, he, hen, hei⟩ := hang_at hs hh hnr
    rw [hat]
    obtain ⟨K, hK0⟩ := under_list s.root s.L n
    have hK : ∀ k, k ∈ K ↔ Under s.root s.L n k := fun k => ⟨fun hk => ((hK0 k).1 hk).1, fun hu => (hK0 k).2 ⟨hu, under_known hu⟩⟩
    rw [← cutP_is hK]
    have hsub : ∀ f ∈ cutL s.L K e.b.rd, f ∈ s.L := fun f hf => (cutL_mem.1 hf).1
    exact ⟨cut_one hs.one hK he hen hei, cut_ok hs.one hs.ok hh hK, fun f hf => hs.n f (hsub f hf), fun f hf => hs.b f (hsub f hf), hn, (hs.b e he).rd, hs.most⟩
theorem pruneT_len (s : TS) (n : Int) : (pruneT s n).L.length ≤ s.L.length := by
  by_cases h : n = s.root ∨ lackE s n ≠ 0
  · rw [pruneT_no h]; exact Nat.le_refl _
  · rw [pruneT_ok h]; exact List.length_filter_le _ _
theorem putS_len (s : TS) (n : Int) (b : Bl) : (putS s n b).L.length ≤ s.L.length + 1 := by
  unfold putS
  split
  · show (settle _ _).length ≤ _
    rw [settle_len, List.length_append]; exact Nat.le_refl _
  · split
    · show (s.L ++ [_]).length ≤ _
      rw [List.length_append]; exact Nat.le_refl _
    · omega
theorem putS_most (s : TS) (n : Int) (b : Bl) : (putS s n b).most = s.most := by
  unfold putS
  split
  · rfl
  · split <;> rfl
/-- The program's pruning. -/
theorem cprune_any {w : World} {S : Nat → Prop} {g : Nat} {s : TS} (h : Tr w S g s) (hs : s.wf) (hl : s.L.length ≤ 100000) (hIn : In w S) (n : Int) (hn : inI n) :
    Calls Try.prog 13 #[.pointer (some ⟨g, 0, none⟩), .int .i64 n] w fun e w' => e = .returned (.int .i64 (lackE s n)) ∧ Tr w' (moreB S w w') g (pruneT s n) ∧ Turn S w w' := by
  by_cases hc : n = s.root ∨ lackE s n ≠ 0
  · refine (prune_no h n hn hc).mono ?_
    rintro e w' ⟨he, hb⟩
    refine ⟨he, ?_, L6.Turn.of_keep hb⟩
    rw [pruneT_no hc]
    exact (h.below hb).mono fun _ _ => .inl
  · have hnr : n ≠ s.root := fun e => hc (.inl e)
    have h0 : lackE s n = 0 := Classical.byContradiction fun e => hc (.inr e)
    refine (prune_any h hs hl hIn hn h0 hnr).mono ?_
    rintro e w' ⟨he, K, y, hy, hK, hT, ht⟩
    refine ⟨by rw [h0]; exact he, ?_, ht⟩
    rw [pruneT_ok hc]
    obtain ⟨x, hat, hx, hxn, hxi⟩ := hang_at hs (lack_hang hs h0) hnr
    have hyx : y = x.b := by
      have := inF_some hs.one.1 hx hxi
      rw [hxn, hy] at this
      injection this
    subst hyx
    rw [hat, ← cutP_is (rd := ((some x).getD zeroEn).b.rd) hK]
    exact hT
/-- The document's. -/
theorem dprune_any (s : TS) (hs : s.wf) (A : Option Addr) (c : Nat) (hl : s.L.length ≤ 100000) (n : Int) (w : World) (hr : Rd enL 16 w A s.L) :
    Calls Try.prog 12 #[.agg (rtC s.most s.root s.round A s.L.length c), .int .i64 n] w (RTPost A (pruneT s n) (lackE s n) w) := by
  by_cases hc : n = s.root ∨ lackE s n ≠ 0
  · rw [pruneT_no hc]
    exact rprune_no s hs A c (by omega) n w hr hc
  · have hnr : n ≠ s.root := fun e => hc (.inl e)
    have h0 : lackE s n = 0 := Classical.byContradiction fun e => hc (.inr e)
    rw [pruneT_ok hc, h0]
    exact rprune_ok s.most s.root s.round A c s.L n w hs.one hs.ok (by omega) hr hnr (lack_hang hs h0)
end Go.Proofs.Ytgclofemhhhepaa
