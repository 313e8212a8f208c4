/-
  The document's register: what Issue tells and leaves; a set's shares, so many; a new one.
-/
import Derived.Test.YtjkfogjhakcnfaaDoorRefSignB
set_option linter.unusedSimpArgs false
set_option linter.unusedVariables false
namespace Go.Proofs.YtjkfogjhakcnfaaDoor
open Go.RowKit Go.Maps Go.Lib

theorem refissue_any (S : Nat → Prop) (r : Nat) (f : Int) (bad : Nat) (L : List Shr) (x : Shr) (w : World) (h : Rs w S r f bad L) (hf : inI f) (hx : x.wf) (hL : ∀ y ∈ L, y.wf) (hl : L.length ≤ 1000000000) :
    Calls Tryd.prog 17 #[.pointer (some ⟨r, 0, none⟩), .agg (shrC x)] w fun e w' => e = .returned (.int .i64 (repE f x.k)) ∧ Rs w' (moreB S w w') r f bad (issL f L x) ∧ Turn S w w' := by
  rcases Bool.eq_false_or_eq_true (inN f x.k) with hk | hk
  · by_cases hn : x ∈ L
    · have e1 : issL f L x = L := by simp [issL, hk, hn]
      have e2 : repE f x.k = 0 := by simp [repE, hk]
      rw [e1, e2]
      refine (refissue_old S r f bad L x w h hf hx hL hl hk hn).mono ?_
      rintro e w' ⟨rfl, hb⟩
      exact ⟨rfl, (h.below hb).mono fun _ _ => .inl, Turn.of_keep hb⟩
    · have e1 : issL f L x = L ++ [x] := by simp [issL, hk, hn]
      have e2 : repE f x.k = 0 := by simp [repE, hk]
      rw [e1, e2]
      exact refissue_new S r f bad L x w h hf hx hL hl hk hn
  · have e1 : issL f L x = L := by simp [issL, hk]
    have e2 : repE f x.k = 40 := by simp [repE, hk]
    rw [e1, e2]
    refine (refissue_out S r f bad L x w h hf hk).mono ?_
    rintro e w' ⟨rfl, hb⟩
    exact ⟨rfl, (h.below hb).mono fun _ _ => .inl, Turn.of_keep hb⟩

/-- What the reads of a round meet. -/
def holdE (ad : Addr) (k q m : Nat) (s : Stm) (W : World) : Prop := W.cell? (ad.add k) = some (.int .i64 (q : Int)) ∧ Blk W m 50 (stmC s)
set_option maxHeartbeats 2000000 in
set_option maxRecDepth 100000 in
theorem refenough_sets (S : Nat → Prop) (r : Nat) (f : Int) (bad : Nat) (L : List Shr) (s : Stm) (n : Nat) (least : Int) (w : World) (h : Rs w S r f bad L) (hf : inI f) (hbad : bad < 4294967296) (hs : s.wf) (hL : ∀ y ∈ L, y.wf) (hl : L.length ≤ 1000000000) (hn : n < 4294967296) (hc : checkV f n = 0) :
    Calls Tryd.prog 32 #[.pointer (some ⟨r, 0, none⟩), .agg (stmC s), .int .u32 n, .int .i64 least] w fun e w' => e = .returned (.int .i64 (if firstE f bad L s (bts 0 n) = 0 then (if (cnt n : Int) < least then 61 else 0) else firstE f bad L s (bts 0 n))) ∧ Below w.heap.size w w' := by
  have HB := Lib.hid h
  obtain ⟨v, hb, hr, h1, h3⟩ := h
  have hb0 : Below w.heap.size w (w.alloc (.cells (stmC s) 50)) := (Below.refl _ _).alloc (Nat.le_refl _) _
  have hlt32 : ∀ j ∈ bts 0 n, j < 32 := fun j hj => bts_lt (k := 32) hn hj
  have hlM := bts_len hn
  have hlist := reflist_any n
  have hcheck := fun w => refcheck_any f n w hn hf.1 hf.2
  have hcn : cnt n = (bts 0 n).length := (bts_length n 0).symm
  rw [hc] at hcheck
  rw [hcn]
  obtain ⟨M, hM⟩ : ∃ M, M = bts 0 n := ⟨_, rfl⟩
  rw [← hM] at hlM hlt32 ⊢
  simp only [← hM] at hlist
  obtain ⟨E, hE⟩ : ∃ E, E = (if firstE f bad L s M = 0 then (if (M.length : Int) < least then 61 else 0) else firstE f bad L s M) := ⟨_, rfl⟩
  rw [← hE]
  have HE := Lib.hid hE
  clear hE
  have HH := Lib.hid (And.intro hlist (And.intro hcheck hlt32))
  have c0 := (hb.alloc (.cells (stmC s) 50)).cell 0
  have hcnt := fun (q : Nat) (hq : q < 32) wr (hR : Rs wr S r f bad L) => refcounts_any S r f bad L ⟨q, s⟩ wr hR hf hbad ⟨nat_wf hq, hs⟩ hL hl
  have HC := Lib.hid hcnt
  clear hr h3 hlist hcheck hlt32 hM hcn hb hc hcnt
  go_enter Tryd.func32, Tryd.ntmps32
  go_wp2_with (first
    | (go_at_call 23; refine (HH.out.2.1 _).mono ?_; rintro e w1 ⟨rfl, hb1⟩)
    | (go_at_call 24; refine (HH.out.1 _ hn).mono ?_; rintro e w2 ⟨v2, rfl, ho2⟩; obtain ⟨A2, c2, rfl, hr2, hc2⟩ := ho2.form))
  have hb1' : Below w.heap.size w w1 := hb0.trans (hb1.mono hb0.size)
  have hb2 : Below w.heap.size w w2 := hb1'.trans (ho2.below.mono hb1'.size)
  have hx1 : Blk w1 w.heap.size 50 (stmC s) := (Blk.new _ _ _).below hb1 (by simp)
  have hx2 : Blk w2 w.heap.size 50 (stmC s) := hx1.below ho2.below hx1.lt
  clear ho2 hx1 hb1 hb1'
  go_loopw [11] (fun i wr => ∃ k : Nat, i = .int .i64 k ∧ k ≤ M.length ∧ Below w2.heap.size w2 wr ∧ firstE f bad L s (M.drop k) = firstE f bad L s M) (fun i _ => M.length - (intOf i).toNat)
  case atStart => exact ⟨0, rfl, Nat.zero_le _, Below.refl _ _, rfl⟩
  case round =>
    obtain ⟨k, rfl, hk, hbr, hi⟩ := hrel
    have hbw := nxt hb2 hbr hb2.size
    by_cases hlt : k < M.length
    · obtain ⟨ad, u, rfl, _, hx, hcl⟩ := (hr2.below hbr).at_ hlt
      obtain rfl := natCell_at hlt hx
      have hxr := hx2.below hbr hx2.lt
      obtain ⟨q, hq⟩ : ∃ q, q = M[k] := ⟨_, rfl⟩
      have hq32 : q < 32 := by rw [hq]; exact HH.out.2.2 _ (List.getElem_mem hlt)
      have hdr : M.drop k = q :: M.drop (k + 1) := by rw [hq]; exact (List.drop_eq_getElem_cons hlt)
      rw [hdr] at hi
      rw [← hq] at hcl
      have hcnt := HC.out q hq32
      have hin := cntE_in f bad L ⟨q, s⟩
      obtain ⟨e, he⟩ : ∃ e, e = cntE f bad L ⟨q, s⟩ := ⟨_, rfl⟩
      simp only [← he] at hcnt hin
      rw [firstE_cons, ← he] at hi
      have HQ := Lib.hid hcnt
      have hw' : IntKind.i64.wrap (k : Int) = (k : Int) := IntWalk.i64_in _ (by omega)
      clear hx hq hdr he hcnt
      by_cases h0 : e = 0
      · subst h0
        rw [if_pos rfl] at hi
        have HI := Lib.hid hi
        clear hi
        go_wp2
        refine wp_region_K (holdE ad k q w.heap.size s) [0, 1, 2, 3, 4, 5, 6] (by kernel_rfl) ?_
        refine' wpK_reads (f := 2) (n := 44) _ (by kernel_rfl) (fun _ x _ _ _ h => by cases x <;> exact h) (⟨hcl, hxr⟩ : holdE ad k q w.heap.size s wr.drew) [0, 1, 2, 3, 4, 5, 6] _ _ (by kernel_rfl) (by kernel_rfl) (by kernel_rfl) (by rfl) (fun W hW => ?hr1) ?hk1
        case hr1 =>
          obtain ⟨qc, qb⟩ := hW
          conv => arg 5; simp [pick]
          repeat (first | still_step | (refine wpStill_load_row rfl _ _ rfl _ rfl _ _ _ _ qb Tryd.underlying50 rfl (by kernel_rfl) ?_) | (refine wpStill_build rfl _ _ rfl #[(0, .int .i64 (q : Int)), (1, .agg (stmC s))] rfl (build_shr _ s _) ?_))
          refine wpStill_nil ?_
          rfl
        refine wpK_step 7 (by kernel_rfl) rfl ?_
        go_wp2_with (go_at_call 43; refine (HQ.out _ ((HB.out.below hbw).below (below_drew (Below.refl _ _)))).mono ?_; rintro e w3 ⟨rfl, hb3'⟩)
        have hb3 := undrew hb3'
        refine stepQ.mk ⟨fun _ => ⟨(hb3.cell (World.block_lt_of_cell? _ _ hcl)).trans hcl, hxr.below hb3 hxr.lt⟩, ?_⟩
        refine wpK_seq [8] _ _ _ (by kernel_rfl) ?_
        conv => arg 4; simp [pick]
        go_wp2
        go_roundw
        case rel => exact ⟨k + 1, by go_num, by omega, hbr.trans (hb3.mono hbr.size), HI.out⟩
        case measure => simp [intOf]; omega
      · rw [if_neg h0] at hi
        have h0' : (e == 0) = false := by simpa using h0
        have HI := Lib.hid hi
        have H0 := Lib.hid h0
        clear hi h0
        go_wp2
        refine wp_region_K (holdE ad k q w.heap.size s) [0, 1, 2, 3, 4, 5, 6] (by kernel_rfl) ?_
        refine' wpK_reads (f := 2) (n := 44) _ (by kernel_rfl) (fun _ x _ _ _ h => by cases x <;> exact h) (⟨hcl, hxr⟩ : holdE ad k q w.heap.size s wr.drew) [0, 1, 2, 3, 4, 5, 6] _ _ (by kernel_rfl) (by kernel_rfl) (by kernel_rfl) (by rfl) (fun W hW => ?hr2) ?hk2
        case hr2 =>
          obtain ⟨qc, qb⟩ := hW
          conv => arg 5; simp [pick]
          repeat (first | still_step | (refine wpStill_load_row rfl _ _ rfl _ rfl _ _ _ _ qb Tryd.underlying50 rfl (by kernel_rfl) ?_) | (refine wpStill_build rfl _ _ rfl #[(0, .int .i64 (q : Int)), (1, .agg (stmC s))] rfl (build_shr _ s _) ?_))
          refine wpStill_nil ?_
          rfl
        refine wpK_step 7 (by kernel_rfl) rfl ?_
        go_wp2_with (go_at_call 43; refine (HQ.out _ ((HB.out.below hbw).below (below_drew (Below.refl _ _)))).mono ?_; rintro e w3 ⟨rfl, hb3'⟩)
        have hb3 := undrew hb3'
        refine stepQ.mk ⟨fun _ => ⟨(hb3.cell (World.block_lt_of_cell? _ _ hcl)).trans hcl, hxr.below hb3 hxr.lt⟩, ?_⟩
        refine wpK_seq [8] _ _ _ (by kernel_rfl) ?_
        conv => arg 4; simp [pick]
        go_wp2
        go_ret
        exact ⟨by rw [HE.out, ← HI.out, if_neg H0.out]; rfl, nxt hbw hb3 hbw.size⟩
    · have hkl : M.drop k = [] := List.drop_eq_nil_of_le (by omega)
      rw [hkl] at hi
      have hz : firstE f bad L s M = 0 := hi.symm
      have HI := Lib.hid hz
      clear hi hz hkl
      by_cases hle : (M.length : Int) < least
      · go_wp2_with fail
        go_ret
        exact ⟨by rw [HE.out, HI.out, if_pos rfl, if_pos hle]; rfl, hbw⟩
      · go_wp2_with fail
        go_ret
        exact ⟨by rw [HE.out, HI.out, if_pos rfl, if_neg (by omega)]; rfl, hbw⟩
set_option maxHeartbeats 1000000 in
set_option maxRecDepth 100000 in
theorem refenough_not (S : Nat → Prop) (r : Nat) (f : Int) (bad : Nat) (L : List Shr) (s : Stm) (n : Nat) (least : Int) (w : World) (h : Rs w S r f bad L) (hf : inI f) (hn : n < 4294967296) (hc : checkV f n ≠ 0) :
    Calls Tryd.prog 32 #[.pointer (some ⟨r, 0, none⟩), .agg (stmC s), .int .u32 n, .int .i64 least] w fun e w' => e = .returned (.int .i64 (checkV f n)) ∧ Below w.heap.size w w' := by
  have hcheck := fun w => refcheck_any f n w hn hf.1 hf.2
  have hb0 : Below w.heap.size w (w.alloc (.cells (stmC s) 50)) := (Below.refl _ _).alloc (Nat.le_refl _) _
  obtain ⟨e, he⟩ : ∃ e, e = checkV f n := ⟨_, rfl⟩
  simp only [← he] at hcheck hc ⊢
  have h0' : (e == 0) = false := by simpa using hc
  have HC := Lib.hid hcheck
  obtain ⟨v, hb, hr, h1, h3⟩ := h
  have c0 := (hb.alloc (.cells (stmC s) 50)).cell 0
  clear hr h1 h3 hcheck hb he hc
  go_enter Tryd.func32, Tryd.ntmps32
  go_wp2_with (go_at_call 23; refine (HC.out _).mono ?_; rintro e w1 ⟨rfl, hb1⟩)
  go_ret
  exact ⟨rfl, hb0.trans (hb1.mono hb0.size)⟩
theorem refenough_any (S : Nat → Prop) (r : Nat) (f : Int) (bad : Nat) (L : List Shr) (s : Stm) (n : Nat) (least : Int) (w : World) (h : Rs w S r f bad L) (hf : inI f) (hbad : bad < 4294967296) (hs : s.wf) (hL : ∀ y ∈ L, y.wf) (hl : L.length ≤ 1000000000) (hn : n < 4294967296) :
    Calls Tryd.prog 32 #[.pointer (some ⟨r, 0, none⟩), .agg (stmC s), .int .u32 n, .int .i64 least] w fun e w' => e = .returned (.int .i64 (enoughE f bad L s n least)) ∧ Below w.heap.size w w' := by
  unfold enoughE allE
  by_cases hc : checkV f n = 0
  · simp only [if_pos hc]; exact refenough_sets S r f bad L s n least w h hf hbad hs hL hl hn hc
  · simp only [if_neg hc]; exact refenough_not S r f bad L s n least w h hf hn hc
set_option maxHeartbeats 1000000 in
set_option maxRecDepth 100000 in
theorem refnew_ok (f : Int) (bad : Nat) (w : World) (hf : inI f) (hbad : bad < 4294967296) (he : newE f bad = 0) :
    Calls Tryd.prog 8 #[.int .i64 f, .int .u32 bad] w fun e w' => ∃ g, e = .returned (.tuple #[.pointer (some ⟨g, 0, none⟩), .int .i64 0]) ∧ Rs w' (fresh w w') g f bad [] ∧ Below w.heap.size w w' := by
  have hcheck := fun w => refcheck_any f bad w hbad hf.1 hf.2
  have hlist := reflist_any bad
  have hlM := bts_len hbad
  have hc : checkV f bad = 0 := by unfold newE at he; split at he <;> assumption
  have hle : ¬ f < ((bts 0 bad).length : Int) := by
    rw [bts_length]
    unfold newE at he; rw [if_pos hc] at he
    intro h; rw [if_pos h] at he; cases he
  rw [hc] at hcheck
  obtain ⟨M, hM⟩ : ∃ M, M = bts 0 bad := ⟨_, rfl⟩
  simp only [← hM] at hlist hle hlM
  have HH := Lib.hid (And.intro hcheck hlist)
  clear hcheck hlist hc he hM
  go_enter Tryd.func8, Tryd.ntmps8
  go_wp2_with (first
    | (go_at_call 23; refine (HH.out.1 _).mono ?_; rintro e w1 ⟨rfl, hb1⟩)
    | (go_at_call 24; refine (HH.out.2 _ hbad).mono ?_; rintro e w2 ⟨v2, rfl, ho2⟩; obtain ⟨A2, c2, rfl, hr2, hc2⟩ := ho2.form))
  go_ret2
  have hb2 : Below w.heap.size w w2 := hb1.trans (ho2.below.mono hb1.size)
  refine ⟨w2.heap.size, rfl, ⟨.slice none 0 0, Blk.new _ _ _, World.ownsRow_nil _ _ _ _, ⟨hb2.size, by simp⟩, by simp [Value.ownBlock]⟩, hb2.alloc hb2.size _⟩
set_option maxHeartbeats 1000000 in
set_option maxRecDepth 100000 in
theorem refnew_not (f : Int) (bad : Nat) (w : World) (hf : inI f) (hbad : bad < 4294967296) (he : newE f bad ≠ 0) :
    Calls Tryd.prog 8 #[.int .i64 f, .int .u32 bad] w fun e w' => e = .returned (.tuple #[.pointer none, .int .i64 (newE f bad)]) ∧ Below w.heap.size w w' := by
  have hcheck := fun w => refcheck_any f bad w hbad hf.1 hf.2
  have hlist := reflist_any bad
  have hlM := bts_len hbad
  unfold newE at he ⊢
  by_cases hc : checkV f bad = 0
  · rw [if_pos hc] at he ⊢
    rw [hc] at hcheck
    rw [← bts_length bad 0] at he ⊢
    have hle : f < ((bts 0 bad).length : Int) := by
      rcases Int.lt_or_le f ((bts 0 bad).length : Int) with h | h
      · exact h
      · rw [if_neg (by omega)] at he; exact absurd rfl he
    rw [if_pos hle]
    obtain ⟨M, hM⟩ : ∃ M, M = bts 0 bad := ⟨_, rfl⟩
    simp only [← hM] at hlist hle hlM
    have HH := Lib.hid (And.intro hcheck hlist)
    clear hcheck hlist hc he hM
    go_enter Tryd.func8, Tryd.ntmps8
    go_wp2_with (first
      | (go_at_call 23; refine (HH.out.1 _).mono ?_; rintro e w1 ⟨rfl, hb1⟩)
      | (go_at_call 24; refine (HH.out.2 _ hbad).mono ?_; rintro e w2 ⟨v2, rfl, ho2⟩; obtain ⟨A2, c2, rfl, hr2, hc2⟩ := ho2.form))
    go_ret2
    exact ⟨rfl, hb1.trans (ho2.below.mono hb1.size)⟩
  · rw [if_neg hc] at he ⊢
    obtain ⟨e, hq⟩ : ∃ e, e = checkV f bad := ⟨_, rfl⟩
    simp only [← hq] at hcheck he ⊢
    have h0' : (e == 0) = false := by simpa using he
    have HH := Lib.hid (And.intro hcheck hlist)
    clear hcheck hlist hc he hq
    go_enter Tryd.func8, Tryd.ntmps8
    go_wp2_with (go_at_call 23; refine (HH.out.1 _).mono ?_; rintro e w1 ⟨rfl, hb1⟩)
    go_ret2
    exact ⟨rfl, hb1⟩
end Go.Proofs.YtjkfogjhakcnfaaDoor
