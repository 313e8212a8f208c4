/-
  A block more, or why not; a new tree.
-/
import Derived.Test.YtgclofemhhhepaaAdopt
import Derived.Laws.EntriesVeiled
set_option linter.unusedSimpArgs false
set_option linter.unusedVariables false
set_option maxRecDepth 10000
namespace Go.Proofs.Ytgclofemhhhepaa
open Go.RowKit Go.Maps Go.Lib
open L3 (Blk Reads)
open L6 (Turn moreB fresh From In)

set_option maxHeartbeats 2000000 in
set_option maxRecDepth 100000 in
theorem adopt_any {S : Nat → Prop} {g bb bo : Nat} {most r rd : Int} {L : List Ent} {w : World} {n : Int} (hl : L.length ≤ 1000000) (hT : Tm w S g bb bo most r rd L) (hIn : In w S) (hone : OneN r L) (hnum : ∀ e ∈ L, inI e.n) (hn : Hang r L n) (hni : inI n) :
    Calls Try.prog 27 #[.pointer (some ⟨g, 0, none⟩), .int .i64 n] w (TakePost S g bb bo most r rd L n w) := by
  go_enter Try.func27, Try.ntmps27
  go_wp2_with (fail)
  obtain ⟨w2, hw2⟩ : ∃ w2, w2 = (w.alloc (.cells #[.pointer (some ⟨g, 0, none⟩)] 24)).alloc (.cells #[.func (.func 41) #[] #[.pointer (some ⟨w.heap.size, 0, none⟩), .pointer (some ⟨w.heap.size + 1, 0, none⟩)]] 73) := ⟨_, rfl⟩
  rw [← hw2]
  have hb2 : Below w.heap.size w w2 := by rw [hw2]; exact ((Below.refl _ _).alloc (Nat.le_refl _) _).alloc (by simp) _
  have k1 : Blk w2 w.heap.size 24 #[.pointer (some ⟨g, 0, none⟩)] := by rw [hw2]; exact (Blk.new _ _ _).alloc _
  have k2 : Blk w2 (w.heap.size + 1) 73 #[.func (.func 41) #[] #[.pointer (some ⟨w.heap.size, 0, none⟩), .pointer (some ⟨w.heap.size + 1, 0, none⟩)]] := by
    rw [hw2]
    have := Blk.new (w.alloc (.cells #[.pointer (some ⟨g, 0, none⟩)] 24)) 73 #[.func (.func 41) #[] #[.pointer (some ⟨w.heap.size, 0, none⟩), .pointer (some ⟨w.heap.size + 1, 0, none⟩)]]
    simpa using this
  clear hw2
  refine (take_any (S := S) (fun h => by have := hIn _ h; omega) (fun h => by have := hIn _ h; omega) _ L w2 n (Nat.le_refl _) hl (hT.below hb2) (hIn.le hb2.size) k1 k2 hone hnum hn hni).mono ?_
  rintro e w3 ⟨rfl, M, hM, hT3, tw3⟩
  go_wp2
  go_end0
  exact ⟨rfl, M, hM, hT3, (L6.Turn.of_keep (S := S) hb2).trans tw3 (fun _ h => .inl h)⟩

/-! One block more in the maps. -/
theorem snoc_nodup {L : List Ent} {x : Ent} (h : (L.map (·.n)).Nodup) (hx : ¬ known L x.n) : ((L ++ [x]).map (·.n)).Nodup := by
  rw [List.map_append, List.nodup_append]
  refine ⟨h, by simp, fun a ha b hb => ?_⟩
  obtain rfl : b = x.n := by simpa using hb
  rintro rfl
  obtain ⟨e, he, hn⟩ := List.mem_map.1 ha
  exact hx ⟨e, he, hn⟩
theorem inF_snoc {L : List Ent} {x : Ent} (h : (L.map (·.n)).Nodup) (hx : ¬ known L x.n) (z : Int) : inF (L ++ [x]) z = if z = x.n ∧ x.isin = true then some x.b else inF L z := by
  refine opt_ext fun b => ?_
  rw [inF_iff (snoc_nodup h hx)]
  by_cases c : z = x.n ∧ x.isin = true
  · rw [if_pos c]
    constructor
    · rintro ⟨f, hf, h1, h2, h3⟩
      rcases List.mem_append.1 hf with hf | hf
      · exact absurd ⟨f, hf, h1.trans c.1⟩ hx
      · obtain rfl : f = x := by simpa using hf
        rw [h3]
    · intro hb
      injection hb with hb
      exact ⟨x, by simp, c.1.symm, c.2, hb⟩
  · rw [if_neg c, inF_iff h]
    constructor
    · rintro ⟨f, hf, h1, h2, h3⟩
      rcases List.mem_append.1 hf with hf | hf
      · exact ⟨f, hf, h1, h2, h3⟩
      · obtain rfl : f = x := by simpa using hf
        exact absurd ⟨h1.symm, h2⟩ c
    · rintro ⟨f, hf, h1, h2, h3⟩
      exact ⟨f, List.mem_append_left _ hf, h1, h2, h3⟩
theorem outF_snoc {L : List Ent} {x : Ent} (h : (L.map (·.n)).Nodup) (hx : ¬ known L x.n) (z : Int) : outF (L ++ [x]) z = if z = x.n ∧ x.isin = false then some x.b else outF L z := by
  refine opt_ext fun b => ?_
  rw [outF_iff (snoc_nodup h hx)]
  by_cases c : z = x.n ∧ x.isin = false
  · rw [if_pos c]
    constructor
    · rintro ⟨f, hf, h1, h2, h3⟩
      rcases List.mem_append.1 hf with hf | hf
      · exact absurd ⟨f, hf, h1.trans c.1⟩ hx
      · obtain rfl : f = x := by simpa using hf
        rw [h3]
    · intro hb
      injection hb with hb
      exact ⟨x, by simp, c.1.symm, c.2, hb⟩
  · rw [if_neg c, outF_iff h]
    constructor
    · rintro ⟨f, hf, h1, h2, h3⟩
      rcases List.mem_append.1 hf with hf | hf
      · exact ⟨f, hf, h1, h2, h3⟩
      · obtain rfl : f = x := by simpa using hf
        exact absurd ⟨h1.symm, h2⟩ c
    · rintro ⟨f, hf, h1, h2, h3⟩
      exact ⟨f, List.mem_append_left _ hf, h1, h2, h3⟩
/-! Put's error -/
theorem ref0 {s : TS} {n : Int} {b : Bl} (h : refE s n b = 0) : ¬ n < 1 ∧ n ≠ s.root ∧ ¬ known s.L n ∧ ¬ b.rd ≤ s.round := by
  unfold refE at h
  by_cases a : n < 1
  · rw [if_pos a] at h; cases h
  · rw [if_neg a] at h
    by_cases c : n = s.root ∨ known s.L n
    · rw [if_pos c] at h; cases h
    · rw [if_neg c] at h
      by_cases d : b.rd ≤ s.round
      · rw [if_pos d] at h; cases h
      · exact ⟨a, fun q => c (.inl q), fun q => c (.inr q), d⟩
theorem putE_ref {s : TS} {n : Int} {b : Bl} (h : refE s n b ≠ 0) : putE s n b = refE s n b ∧ putS s n b = s := by
  have e : putE s n b = refE s n b ∧ refE s n b ≠ 150 := by
    unfold refE at h
    unfold putE refE
    by_cases a : n < 1
    · simp [a]
    · by_cases c : n = s.root ∨ known s.L n
      · simp [a, c]
      · by_cases d : b.rd ≤ s.round
        · simp [a, c, d]
        · simp [a, c, d] at h
  refine ⟨e.1, ?_⟩
  unfold putS
  rw [e.1, if_neg h, if_neg e.2]
theorem putE_0 {s : TS} {n : Int} {b : Bl} (h : refE s n b = 0) : putE s n b = if hasV s.root s.L b.p then 0 else if s.most ≤ orph s.L then 101 else 150 := by
  obtain ⟨h1, h2, h3, h4⟩ := ref0 h
  unfold putE
  rw [if_neg h1, if_neg (by rintro (q | q); exact h2 q; exact h3 q), if_neg h4]
theorem putS_in {s : TS} {n : Int} {b : Bl} (h : refE s n b = 0) (hv : hasV s.root s.L b.p) : putE s n b = 0 ∧ putS s n b = { s with L := settle s.root (s.L ++ [⟨n, b, true⟩]) } := by
  have e : putE s n b = 0 := by rw [putE_0 h, if_pos hv]
  refine ⟨e, ?_⟩
  unfold putS
  rw [if_pos e]
theorem putS_full {s : TS} {n : Int} {b : Bl} (h : refE s n b = 0) (hv : ¬ hasV s.root s.L b.p) (hm : s.most ≤ orph s.L) : putE s n b = 101 ∧ putS s n b = s := by
  have e : putE s n b = 101 := by rw [putE_0 h, if_neg hv, if_pos hm]
  refine ⟨e, ?_⟩
  unfold putS
  rw [e, if_neg (by decide), if_neg (by decide)]
theorem putS_orph {s : TS} {n : Int} {b : Bl} (h : refE s n b = 0) (hv : ¬ hasV s.root s.L b.p) (hm : ¬ s.most ≤ orph s.L) : putE s n b = 150 ∧ putS s n b = { s with L := s.L ++ [⟨n, b, false⟩] } := by
  have e : putE s n b = 150 := by rw [putE_0 h, if_neg hv, if_neg hm]
  refine ⟨e, ?_⟩
  unfold putS
  rw [e, if_neg (by decide), if_pos rfl]
/-- What Put tells and leaves. -/
def PutPost (S : Nat → Prop) (g : Nat) (s : TS) (n : Int) (b : Bl) (w : World) (e : Ending) (w' : World) : Prop :=
  e = .returned (.int .i64 (putE s n b)) ∧ Tr w' S g (putS s n b) ∧ Turn S w w'
/-- What the reads ahead of a store meet. -/
def SvAt (w0 : World) (g f q x : Nat) (b : Bl) (W : World) : Prop := W.cell? ⟨g, f, none⟩ = some (.map (some q)) ∧ Blk W x 39 (blC b) ∧ Below w0.heap.size w0 W
theorem SvAt.below {w0 W W' : World} {g f q x : Nat} {b : Bl} (h : SvAt w0 g f q x b W) (hb : Below W.heap.size W W') : SvAt w0 g f q x b W' :=
  ⟨(hb.cell (p := ⟨g, f, none⟩) (World.block_lt_of_cell? _ _ h.1)).trans h.1, h.2.1.below hb h.2.1.lt, nxt h.2.2 hb⟩
/-- What the question for room meets. -/
def RmAt (w : World) (g bo m : Nat) (most : Int) (DO : DataW Unit) (W : World) : Prop := W.cell? ⟨g, 4, none⟩ = some (.map (some bo)) ∧ W.cell? ⟨g, 0, none⟩ = some (.int .i64 most) ∧ W.ownsMap Try.prog 3 blElem bo m DO ∧ Below w.heap.size w W
set_option maxHeartbeats 4000000 in
set_option maxRecDepth 100000 in
theorem put_any {w : World} {S : Nat → Prop} {g : Nat} {s : TS} (h : Tr w S g s) (hs : s.wf) (hl : s.L.length ≤ 100000) (hIn : In w S) (n : Int) (b : Bl) (hn : inI n) (hb : b.wf) :
    Calls Try.prog 11 #[.pointer (some ⟨g, 0, none⟩), .int .i64 n, .agg (blC b)] w (PutPost S g s n b w) := by
  have hb1 : Below w.heap.size w (w.alloc (.cells (blC b) 39)) := below_box _ b
  have k0 := box_new w 39 b
  obtain ⟨w1, hw1⟩ : ∃ w1, w1 = w.alloc (.cells (blC b) 39) := ⟨_, rfl⟩
  rw [← hw1] at hb1 k0
  have hT1 := h.below hb1
  have HR := Lib.hid (refuses_any hT1 n b hn)
  have c5 : w1.cell? ⟨w.heap.size, 5, none⟩ = some (.int .i64 b.p) := k0.cell 5
  by_cases hr : refE s n b = 0
  · rw [hr] at HR
    obtain ⟨r1, r2, r3, r4⟩ := ref0 hr
    have hHas := fun (x : Bool) (hx : decide (hasV s.root s.L b.p) = x) => Lib.hid (fun W (hq : Below w1.heap.size w1 W) => has_is (hT1.below hq) b.p x hb.p hx)
    have C5 := Lib.hid (fun W (hq : Below w1.heap.size w1 W) => k0.below hq k0.lt)
    have HT := Lib.hid hT1
    have HOW := Lib.hid (fun W => own_any b W)
    by_cases hv : hasV s.root s.L b.p
    · have HH := hHas true (decide_eq_true hv)
      have HE := Lib.hid (putS_in hr hv)
      have hx1 : OneN s.root (s.L ++ [⟨n, b, true⟩]) := one_snoc hs.one r2 r3
      have HX := Lib.hid hx1
      have HSET := Lib.hid (fun M (hM : Took s.root n (s.L ++ [⟨n, b, true⟩]) M) => Took.settled (x := ⟨n, b, true⟩) hs.ok hx1 rfl hv hs.one (no_in hs.one hs.ok) hM)
      have HNUM := Lib.hid (show ∀ e ∈ s.L ++ [⟨n, b, true⟩], inI e.n from fun e he => by
        rcases List.mem_append.1 he with he | he
        · exact hs.n e he
        · obtain rfl : e = ⟨n, b, true⟩ := by simpa using he
          exact hn)
      have HHG := Lib.hid (show Hang s.root (s.L ++ [⟨n, b, true⟩]) n from
        .up ⟨n, b, true⟩ (by simp) (((has_hang hs.ok).1 hv).mono fun e he => ⟨e, List.mem_append_left _ he, rfl, rfl⟩))
      have HF := Lib.hid (fun z => inF_snoc (x := ⟨n, b, true⟩) hs.one.1 r3 z)
      have HG := Lib.hid (fun z => outF_snoc (x := ⟨n, b, true⟩) hs.one.1 r3 z)
      have HIN := Lib.hid hIn
      have HNI := Lib.hid hn
      clear hHas hr r1 r2 r3 r4 hv hx1 hs h hT1 hIn
      go_enter Try.func11, Try.ntmps11
      go_upto_region 1 with fail
      rw [← hw1]
      clear hw1
      go_upto_region 5 with (first
        | (refine wpList_row_at rfl _ _ rfl w.heap.size rfl _ _ _ _ k0 Try.underlying39 rfl blInfo ?_)
        | (go_at_call 25; refine HR.out.mono ?_; unfold gives; rintro e w2 ⟨rfl, hb2⟩; have d5 : w2.cell? ⟨w.heap.size, 5, none⟩ = some (.int .i64 b.p) := (C5.out _ hb2).cell 5)
        | (go_at_call 19; refine (HH.out _ hb2).mono ?_; unfold gives; rintro e w3 ⟨rfl, hb3⟩)
        | go_in)
      obtain ⟨bb, bo, DB, DO, hbg, h1, h2, h3, h4, g1, g2, g3, hne⟩ := HT.out.below (nxt hb2 hb3)
      have hgo : g ≠ bo := L6.blk_ne_map hbg h2
      have hgb : g ≠ bb := L6.blk_ne_map hbg h1
      have kx := C5.out _ (nxt hb2 hb3)
      have hS : SvAt w3 g 3 bb w.heap.size b w3.drew := ⟨hbg.cell 3, kx, (Below.refl _ _).drew⟩
      clear c5 d5 k0
      refine wp_region_K (SvAt w3 g 3 bb w.heap.size b) [0, 1, 2, 3, 4, 5] (by kernel_rfl) ?_
      refine wpK_quiet (f := 2) (by kernel_rfl) (fun _ x _ _ _ h => by cases x <;> exact h) hS [0, 1, 2, 3, 4, 5] _ _ (by kernel_rfl) (by kernel_rfl) (by kernel_rfl) ?_
      have ne : Nonempty (WorldIn (SvAt w3 g 3 bb w.heap.size b)) := ⟨⟨_, hS⟩⟩
      have r0 := fun z : WorldIn (SvAt w3 g 3 bb w.heap.size b) => z.h.1
      conv => arg 5; simp [pick]
      iterate 5 go_big_quiet_step (fail)
      refine wpQuiet_row rfl _ _ rfl w.heap.size rfl _ _ _ _ (fun z => z.h.2.1) Try.underlying39 rfl blInfo ?_
      conv => arg 6; simp only [Act.put, List.setIfInBounds_toArray, List.set_cons_zero, List.set_cons_succ]
      refine wpQuiet_nil ?_
      refine wpK_step 6 (by kernel_rfl) rfl ?_
      go_wp2_with (go_at_call 26; (with_reducible refine (HOW.out _).mono ?_); unfold gives; rintro e w4 ⟨rfl, hb4⟩)
      refine stepQ.mk ⟨fun _ => hS.below hb4, ?_⟩
      have hb4' : Below w3.heap.size w3 w4 := nxt (Below.refl _ _).drew hb4
      have h14 := L6.Turn.map (S := fun _ => False) (L6.Turn.of_keep hb4') h1 (fun h => h)
      have h24 := L6.Turn.map (S := fun _ => False) (L6.Turn.of_keep hb4') h2 (fun h => h)
      have hbg4 := hbg.below hb4' hbg.lt
      refine wpK_seq [7] _ _ _ (by kernel_rfl) ?_
      conv => arg 4; simp [pick]
      clear hS r0 ne
      go_upto_region 6 with (first
        | (at_mapUpdate; refine wpList_mapUpdate_own _ rfl _ _ _ 64 rfl 3 39 kdI Try.underlying64 blElem bb _ DB rfl h14 (by unfold maxLen; omega) _ _ (keyI n) rfl rfl (key_at hn) (blD b) [] (blElem_mk b) ?_; intro w5 hown5 hg5)
        | go_in)
      have T5 : Turn S w w5 := (L6.Turn.of_keep (nxt (nxt hb1 (nxt hb2 hb3)) hb4')).grown hg5 (fun i e => by cases e; exact .inl g2)
      have F1 : FitsI blD (DB.put (keyI n) (blD b)) (inF (s.L ++ [⟨n, b, true⟩])) := (h3.put h1.isMap hn b).congr fun z _ => by rw [HF.out]; simp
      have F2 : FitsI blD DO (outF (s.L ++ [⟨n, b, true⟩])) := h4.congr fun z _ => by rw [HG.out]; simp
      have TK : Tm w5 S g bb bo s.most s.root s.round (s.L ++ [⟨n, b, true⟩]) := Tm.make (hbg4.grown hg5 (by simpa using hgb)) hown5 (h24.kept hg5 (by simpa using hne.symm)) F1 F2 HX.out.1 HNUM.out ⟨g1, g2, g3⟩ hne
      have HA := Lib.hid (adopt_any (by simp; omega) TK (HIN.out.le T5.size) HX.out HNUM.out HHG.out HNI.out)
      clear TK F1 F2 hown5 hg5 h24 h14 hbg4 hbg h1 h2 h3 h4
      go_wp2_with (first
        | (go_at_call 27; refine HA.out.mono ?_; unfold TakePost; rintro e w6 ⟨rfl, M, hM, hT6, tw6⟩)
        | go_in)
      go_ret
      refine ⟨err_eq HE.out.1.symm, ?_, T5.trans tw6 (fun _ h => .inl h)⟩
      rw [HE.out.2, ← HSET.out M hM]
      exact ⟨bb, bo, hT6⟩
    · have HH := hHas false (decide_eq_false hv)
      have HS1 := Lib.hid hs.one.1
      have HSN := Lib.hid hs.n
      by_cases hm : s.most ≤ orph s.L
      · have HE := Lib.hid (putS_full hr hv hm)
        clear hHas hr r1 r2 r3 r4 hv hs h hT1 hIn
        go_enter Try.func11, Try.ntmps11
        go_upto_region 1 with fail
        rw [← hw1]
        clear hw1
        go_upto_region 8 with (first
          | (refine wpList_row_at rfl _ _ rfl w.heap.size rfl _ _ _ _ k0 Try.underlying39 rfl blInfo ?_)
          | (go_at_call 25; refine HR.out.mono ?_; unfold gives; rintro e w2 ⟨rfl, hb2⟩; have d5 : w2.cell? ⟨w.heap.size, 5, none⟩ = some (.int .i64 b.p) := (C5.out _ hb2).cell 5)
          | (go_at_call 19; refine (HH.out _ hb2).mono ?_; unfold gives; rintro e w3 ⟨rfl, hb3⟩)
          | go_in)
        obtain ⟨bb, bo, DB, DO, hbg, h1, h2, h3, h4, g1, g2, g3, hne⟩ := HT.out.below (nxt hb2 hb3)
        have s2 : ((Maps.size DO : Nat) : Int) = ((orph s.L : Nat) : Int) := by
          rw [← orph_len]
          exact congrArg _ (map_size h2 h4 (nodup_sub HS1.out _) (fun x hx => by obtain ⟨e, he, rfl, _⟩ := outN_mem.1 hx; exact HSN.out e he) (fun x _ => by rw [outF_isSome HS1.out, outN_mem]))
        have hS : RmAt w3 g bo s.L.length s.most DO w3.drew := ⟨hbg.cell 4, hbg.cell 0, h2, (Below.refl _ _).drew⟩
        obtain ⟨om, hom⟩ : ∃ om : Int, om = ((orph s.L : Nat) : Int) := ⟨_, rfl⟩
        rw [← hom] at s2 hm
        have HOM := Lib.hid hom
        have S2 := Lib.hid s2
        clear c5 d5 k0 s2 hom
        refine wp_region_S (RmAt w3 g bo s.L.length s.most DO) (by kernel_rfl) (by kernel_rfl) hS ?_
        have ne : Nonempty (WorldIn (RmAt w3 g bo s.L.length s.most DO)) := ⟨⟨_, hS⟩⟩
        have r0 := fun z : WorldIn (RmAt w3 g bo s.L.length s.most DO) => z.h.1
        have r1 := fun z : WorldIn (RmAt w3 g bo s.L.length s.most DO) => z.h.2.1
        iterate 4 go_big_quiet_step (fail)
        refine wpQuiet_value rfl (fun z => exec_len _ rfl bo DO rfl z.h.2.2.1 S2.out) ?_
        conv => arg 6; simp only [Act.put, List.setIfInBounds_toArray, List.set_cons_zero, List.set_cons_succ]
        iterate 6 go_big_quiet_step (fail)
        refine wpQuiet_nil ?_
        intro z
        obtain ⟨w4, hw4⟩ : ∃ w4, w4 = z.w := ⟨_, rfl⟩
        have hb4 : Below w3.heap.size w3 w4 := by rw [hw4]; exact z.h.2.2.2
        rw [← hw4]
        clear hw4 z hS r0 r1 ne
        go_wp2
        go_ret
        have hbz := nxt (nxt hb1 (nxt hb2 hb3)) hb4
        exact ⟨err_eq HE.out.1.symm, by rw [HE.out.2]; exact HT.out.below (nxt (nxt hb2 hb3) hb4), L6.Turn.of_keep hbz⟩
      · have HE := Lib.hid (putS_orph hr hv hm)
        have HF := Lib.hid (fun z => inF_snoc (x := ⟨n, b, false⟩) hs.one.1 r3 z)
        have HG := Lib.hid (fun z => outF_snoc (x := ⟨n, b, false⟩) hs.one.1 r3 z)
        have hx1 : OneN s.root (s.L ++ [⟨n, b, false⟩]) := one_snoc hs.one r2 r3
        have HX := Lib.hid hx1
        have HNUM := Lib.hid (show ∀ e ∈ s.L ++ [⟨n, b, false⟩], inI e.n from fun e he => by
          rcases List.mem_append.1 he with he | he
          · exact hs.n e he
          · obtain rfl : e = ⟨n, b, false⟩ := by simpa using he
            exact hn)
        clear hHas hr r1 r2 r3 r4 hv hs h hT1 hIn hx1
        go_enter Try.func11, Try.ntmps11
        go_upto_region 1 with fail
        rw [← hw1]
        clear hw1
        go_upto_region 8 with (first
          | (refine wpList_row_at rfl _ _ rfl w.heap.size rfl _ _ _ _ k0 Try.underlying39 rfl blInfo ?_)
          | (go_at_call 25; refine HR.out.mono ?_; unfold gives; rintro e w2 ⟨rfl, hb2⟩; have d5 : w2.cell? ⟨w.heap.size, 5, none⟩ = some (.int .i64 b.p) := (C5.out _ hb2).cell 5)
          | (go_at_call 19; refine (HH.out _ hb2).mono ?_; unfold gives; rintro e w3 ⟨rfl, hb3⟩)
          | go_in)
        obtain ⟨bb, bo, DB, DO, hbg, h1, h2, h3, h4, g1, g2, g3, hne⟩ := HT.out.below (nxt hb2 hb3)
        have s2 : ((Maps.size DO : Nat) : Int) = ((orph s.L : Nat) : Int) := by
          rw [← orph_len]
          exact congrArg _ (map_size h2 h4 (nodup_sub HS1.out _) (fun x hx => by obtain ⟨e, he, rfl, _⟩ := outN_mem.1 hx; exact HSN.out e he) (fun x _ => by rw [outF_isSome HS1.out, outN_mem]))
        have hS : RmAt w3 g bo s.L.length s.most DO w3.drew := ⟨hbg.cell 4, hbg.cell 0, h2, (Below.refl _ _).drew⟩
        obtain ⟨om, hom⟩ : ∃ om : Int, om = ((orph s.L : Nat) : Int) := ⟨_, rfl⟩
        rw [← hom] at s2 hm
        have HOM := Lib.hid hom
        have S2 := Lib.hid s2
        clear c5 d5 k0 s2 hom
        refine wp_region_S (RmAt w3 g bo s.L.length s.most DO) (by kernel_rfl) (by kernel_rfl) hS ?_
        have ne : Nonempty (WorldIn (RmAt w3 g bo s.L.length s.most DO)) := ⟨⟨_, hS⟩⟩
        have r0 := fun z : WorldIn (RmAt w3 g bo s.L.length s.most DO) => z.h.1
        have r1 := fun z : WorldIn (RmAt w3 g bo s.L.length s.most DO) => z.h.2.1
        iterate 4 go_big_quiet_step (fail)
        refine wpQuiet_value rfl (fun z => exec_len _ rfl bo DO rfl z.h.2.2.1 S2.out) ?_
        conv => arg 6; simp only [Act.put, List.setIfInBounds_toArray, List.set_cons_zero, List.set_cons_succ]
        iterate 6 go_big_quiet_step (fail)
        refine wpQuiet_nil ?_
        intro z
        obtain ⟨w4, hw4⟩ : ∃ w4, w4 = z.w := ⟨_, rfl⟩
        have hb4 : Below w3.heap.size w3 w4 := by rw [hw4]; exact z.h.2.2.2
        rw [← hw4]
        clear hw4 z hS r0 r1 ne
        have hgo : g ≠ bo := L6.blk_ne_map hbg h2
        go_upto_region 10 with fail
        have hbg4 := hbg.below hb4 hbg.lt
        have kx := C5.out _ (nxt (nxt hb2 hb3) hb4)
        have h14 := L6.Turn.map (S := fun _ => False) (L6.Turn.of_keep hb4) h1 (fun h => h)
        have h24 := L6.Turn.map (S := fun _ => False) (L6.Turn.of_keep hb4) h2 (fun h => h)
        have hS : SvAt w4 g 4 bo w.heap.size b w4.drew := ⟨hbg4.cell 4, kx, (Below.refl _ _).drew⟩
        refine wp_region_K (SvAt w4 g 4 bo w.heap.size b) [0, 1, 2, 3, 4, 5] (by kernel_rfl) ?_
        refine wpK_quiet (f := 2) (by kernel_rfl) (fun _ x _ _ _ h => by cases x <;> exact h) hS [0, 1, 2, 3, 4, 5] _ _ (by kernel_rfl) (by kernel_rfl) (by kernel_rfl) ?_
        have ne : Nonempty (WorldIn (SvAt w4 g 4 bo w.heap.size b)) := ⟨⟨_, hS⟩⟩
        have r0 := fun z : WorldIn (SvAt w4 g 4 bo w.heap.size b) => z.h.1
        conv => arg 5; simp [pick]
        iterate 5 go_big_quiet_step (fail)
        refine wpQuiet_row rfl _ _ rfl w.heap.size rfl _ _ _ _ (fun z => z.h.2.1) Try.underlying39 rfl blInfo ?_
        conv => arg 6; simp only [Act.put, List.setIfInBounds_toArray, List.set_cons_zero, List.set_cons_succ]
        refine wpQuiet_nil ?_
        refine wpK_step 6 (by kernel_rfl) rfl ?_
        go_wp2_with (go_at_call 26; (with_reducible refine (HOW.out _).mono ?_); unfold gives; rintro e w5 ⟨rfl, hb5⟩)
        refine stepQ.mk ⟨fun _ => hS.below hb5, ?_⟩
        have hb5' : Below w4.heap.size w4 w5 := nxt (Below.refl _ _).drew hb5
        have h15 := L6.Turn.map (S := fun _ => False) (L6.Turn.of_keep hb5') h14 (fun h => h)
        have h25 := L6.Turn.map (S := fun _ => False) (L6.Turn.of_keep hb5') h24 (fun h => h)
        have hbg5 := hbg4.below hb5' hbg4.lt
        refine wpK_seq [7] _ _ _ (by kernel_rfl) ?_
        conv => arg 4; simp [pick]
        clear hS r0 ne
        go_wp2_with (first
          | (at_mapUpdate; refine wpList_mapUpdate_own _ rfl _ _ _ 64 rfl 3 39 kdI Try.underlying64 blElem bo _ DO rfl h25 (by unfold maxLen; omega) _ _ (keyI n) rfl rfl (key_at hn) (blD b) [] (blElem_mk b) ?_; intro w6 hown6 hg6)
          | go_in)
        go_ret
        have T6 : Turn S w w6 := (L6.Turn.of_keep (nxt (nxt (nxt hb1 (nxt hb2 hb3)) hb4) hb5')).grown hg6 (fun i e => by cases e; exact .inl g3)
        have F1 : FitsI blD DB (inF (s.L ++ [⟨n, b, false⟩])) := h3.congr fun z _ => by rw [HF.out]; simp
        have F2 : FitsI blD (DO.put (keyI n) (blD b)) (outF (s.L ++ [⟨n, b, false⟩])) := (h4.put h2.isMap hn b).congr fun z _ => by rw [HG.out]; simp
        have TK : Tm w6 S g bb bo s.most s.root s.round (s.L ++ [⟨n, b, false⟩]) := Tm.make (hbg5.grown hg6 (by simpa using hgo)) (h15.kept hg6 (by simpa using hne)) hown6 F1 F2 HX.out.1 HNUM.out ⟨g1, g2, g3⟩ hne
        refine ⟨err_eq HE.out.1.symm, ?_, T6⟩
        rw [HE.out.2]
        exact ⟨bb, bo, TK⟩
  · have HE := Lib.hid (putE_ref hr)
    obtain ⟨q, hq⟩ : ∃ q, q = refE s n b := ⟨_, rfl⟩
    rw [← hq] at HR hr
    have hq0 : (q != 0) = true := by simpa using hr
    have HQ := Lib.hid hq
    have HT := Lib.hid hT1
    clear hq hr h hT1 hIn hs
    go_enter Try.func11, Try.ntmps11
    go_upto_region 1 with fail
    rw [← hw1]
    clear hw1
    go_wp2_with (first
      | (refine wpList_row_at rfl _ _ rfl w.heap.size rfl _ _ _ _ k0 Try.underlying39 rfl blInfo ?_)
      | (go_at_call 25; refine HR.out.mono ?_; unfold gives; rintro e w2 ⟨rfl, hb2⟩)
      | go_in)
    go_ret
    exact ⟨err_eq (HQ.out.trans HE.out.1.symm), by rw [HE.out.2]; exact HT.out.below hb2, L6.Turn.of_keep (nxt hb1 hb2)⟩
end Go.Proofs.Ytgclofemhhhepaa
