/-
  The next certificate of a reader, by the code: what may be, or an error and nothing; of its own bytes it is the certificate.
-/
import Derived.Test.YtkjkkbionlmohaaReadC
import Derived.Test.YtkjkkbionlmohaaBytesC
set_option linter.unusedSimpArgs false
set_option linter.unusedVariables false
namespace Go.Proofs.Ytkjkkbionlmohaa
open Go.RowKit Go.Lib
open L3 (Rdr leaves numS failS rdN encN encs)

theorem done_eq (p : List UInt8 × Int) (h : p.2 ≠ 0 → p.1 = []) (h0 : p.1.length = 0) : L3.doneV p = p.2 := by
  unfold L3.doneV
  by_cases he : p.2 = 0
  · rw [if_neg (by simpa using he), if_neg (by omega), he]
  · rw [if_pos he]
theorem failed_any (g : Nat) (p : List UInt8 × Int) (w : World) (h : Rdr w g p) : Calls Try.prog 26 #[.pointer (some ⟨g, 0, none⟩)] w fun e w' => e = .returned (.bool (decide (p.2 ≠ 0))) ∧ w = w' := by
  have hR := L3.rrest_any g p w h
  have hD := L3.rdone_any g p w h
  have he : p.2 ≠ 0 → p.1 = [] := by obtain ⟨_, _, _, _, _, _, he⟩ := h; exact he
  by_cases h0 : p.1.length = 0
  · rw [done_eq p he h0] at hD
    obtain ⟨e, hp⟩ : ∃ e, e = p.2 := ⟨_, rfl⟩
    obtain ⟨n, hn⟩ : ∃ n, n = p.1.length := ⟨_, rfl⟩
    rw [← hn] at hR h0
    rw [← hp] at hD ⊢
    subst h0
    clear hp hn he h
    by_cases e0 : e = 0
    · subst e0
      go_enter Try.func26, Try.ntmps26
      go_wp2_with (first
        | (go_at_call 17; refine hR.mono ?_; rintro e w1 ⟨rfl, rfl⟩)
        | (go_at_call 38; refine hD.mono ?_; rintro e w1 ⟨rfl, rfl⟩))
      go_ret
      exact ⟨rfl, rfl⟩
    · have e1 : (e == 0) = false := by simpa using e0
      have e2 : (e != 0) = true := by simpa using e0
      have e3 : decide (e ≠ 0) = true := by simpa using e0
      rw [e3]
      clear e0 e3
      go_enter Try.func26, Try.ntmps26
      go_wp2_with (first
        | (go_at_call 17; refine hR.mono ?_; rintro e w1 ⟨rfl, rfl⟩)
        | (go_at_call 38; refine hD.mono ?_; rintro e w1 ⟨rfl, rfl⟩))
      go_ret
      exact ⟨rfl, rfl⟩
  · have e0 : p.2 = 0 := by
      rcases Classical.em (p.2 = 0) with h1 | h1
      · exact h1
      · exact absurd (by rw [he h1]; rfl) h0
    rw [e0]
    obtain ⟨n, hn⟩ : ∃ n, n = p.1.length := ⟨_, rfl⟩
    rw [← hn] at hR h0
    have h1 : ((n : Int) == 0) = false := by simp; omega
    clear hn hD he h h0 e0
    go_enter Try.func26, Try.ntmps26
    go_wp2_with (first
      | (go_at_call 17; refine hR.mono ?_; rintro e w1 ⟨rfl, rfl⟩))
    go_ret
    exact ⟨rfl, rfl⟩
/-- What is taken, and the reader behind it. -/
def takeC (p : List UInt8 × Int) : Crt × (List UInt8 × Int) := if (readC p).2.2 ≠ 0 ∨ mayV (readC p).1 = false then (zeroC, failS 110 (readC p).2) else readC p
set_option maxHeartbeats 4000000 in
set_option maxRecDepth 100000 in
theorem take_any (g : Nat) (p : List UInt8 × Int) (w : World) (h : Rdr w g p) :
    Calls Try.prog 16 #[.pointer (some ⟨g, 0, none⟩)] w fun e w' => e = .returned (.agg (crtC (takeC p).1)) ∧ leaves g (takeC p).2 w w' := by
  have hwf := readC_wf p
  have h1 : Rdr (w.alloc (.cells (crtC zeroC) 24)) g p := rdr_alloc h _
  have hr1 := read_any g p _ h1
  obtain ⟨r, hX⟩ : ∃ r, r = takeC p := ⟨_, rfl⟩
  rw [← hX]
  unfold takeC at hX
  obtain ⟨z, hz⟩ : ∃ z, z = readC p := ⟨_, rfl⟩
  rw [← hz] at hX hr1 hwf
  obtain ⟨t, q⟩ := z
  dsimp only at hX hr1 hwf
  have HM := Lib.hid (fun w2 (hl : leaves g q (w.alloc (.cells (crtC zeroC) 24)) w2) => TakeAt.mk h hl t)
  have HC := Lib.hid (And.intro hr1 (fun W => may_any t W hwf))
  have HXX := Lib.hid hX
  clear h1 hr1 hz hwf h hX
  go_enter Try.func16, Try.ntmps16
  go_upto_region 2 with (first
    | (go_at_call 25; refine HC.out.1.mono ?_; rintro e w2 ⟨rfl, hl2⟩; have hA := HM.out _ hl2)
    | (refine wpList_store_new rfl _ _ _ rfl _ (crtC t) rfl rfl _ _ crtInfo rfl (crtC_ones _) ?_))
  obtain ⟨G, hG⟩ : ∃ G, G = w2.heap.size := ⟨_, rfl⟩
  rw [← hG] at hA
  rw [← hG]
  clear hG hl2 HM
  refine name_world (fun w3 hw3 => ?_)
  rw [← hw3] at hA
  clear hw3
  have hX := HXX.out
  clear HXX
  by_cases hq : q.2 = 0
  case neg =>
    rw [if_pos (.inl hq)] at hX
    have HX := Lib.hid hX
    have hf := failed_any g q w3 hA.rdr
    rw [decide_eq_true (show q.2 ≠ 0 from hq)] at hf
    clear hX hq
    go_wp2_with (first
        | (go_at_call 26; refine hf.mono ?_; rintro e w4 ⟨rfl, rfl⟩)
        | (go_at_call 27; refine (L3.fail_any g q 110 _ hA.rdr).mono ?_; rintro e w6 ⟨rfl, hl6⟩; have hD := hA.next hl6)
        | (refine wpList_build rfl _ _ rfl #[] rfl (build_zero _) ?_)
        | (refine wpList_store_row rfl _ _ _ rfl w.heap.size (crtC zeroC) rfl rfl _ _ hD.blkR crtInfo rfl (crtC_ones _) ?_))
    (try simp only [Exit.inBlock, Exit.then])
    refine bodyPost_ret (v := .agg (crtC zeroC)) (results_row rfl _ _ w.heap.size rfl _ _ _ _ (blk_setRow hD.blkR) Try.underlying24 rfl crtInfo) rfl ?_
    exact ⟨by rw [HX.out], by rw [HX.out]; exact ⟨rdr_row hD.rdr hD.lt _, grown_row hD.grown (Nat.le_refl _) _⟩⟩
  case pos =>
  have hf := failed_any g q w3 hA.rdr
  rw [decide_eq_false (show ¬ q.2 ≠ 0 from fun h => h hq)] at hf
  have hck := HC.out.2 w3
  rcases (Bool.eq_false_or_eq_true (mayV t)).symm with hr | hr
  · rw [if_pos (.inr hr)] at hX
    rw [hr] at hck
    have HX := Lib.hid hX
    have HK := Lib.hid hck
    clear hX hq hck hr
    go_wp2_with (first
        | (go_at_call 26; refine hf.mono ?_; rintro e w4 ⟨rfl, rfl⟩)
        | (refine wpList_row_at rfl _ _ rfl (G) rfl _ _ _ _ hA.blkG Try.underlying24 rfl crtInfo ?_)
        | (go_at_call 22; refine HK.out.mono ?_; unfold gives; rintro e w5 ⟨rfl, hb5⟩; have hB := hA.below hb5)
        | (go_at_call 27; refine (L3.fail_any g q 110 _ hB.rdr).mono ?_; rintro e w6 ⟨rfl, hl6⟩; have hD := hB.next hl6)
        | (refine wpList_build rfl _ _ rfl #[] rfl (build_zero _) ?_)
        | (refine wpList_store_row rfl _ _ _ rfl w.heap.size (crtC zeroC) rfl rfl _ _ hD.blkR crtInfo rfl (crtC_ones _) ?_))
    (try simp only [Exit.inBlock, Exit.then])
    refine bodyPost_ret (v := .agg (crtC zeroC)) (results_row rfl _ _ w.heap.size rfl _ _ _ _ (blk_setRow hD.blkR) Try.underlying24 rfl crtInfo) rfl ?_
    exact ⟨by rw [HX.out], by rw [HX.out]; exact ⟨rdr_row hD.rdr hD.lt _, grown_row hD.grown (Nat.le_refl _) _⟩⟩
  · rw [if_neg (fun h => h.elim (fun h => h hq) (fun h => by rw [hr] at h; cases h))] at hX
    rw [hr] at hck
    have HX := Lib.hid hX
    have HK := Lib.hid hck
    clear hX hq hck hr
    go_wp2_with (first
        | (go_at_call 26; refine hf.mono ?_; rintro e w4 ⟨rfl, rfl⟩)
        | (go_at_call 22; refine HK.out.mono ?_; unfold gives; rintro e w5 ⟨rfl, hb5⟩; have hB := hA.below hb5)
        | (refine wpList_row_at rfl _ _ rfl (G) rfl _ _ _ _ hB.blkG Try.underlying24 rfl crtInfo ?_)
        | (refine wpList_row_at rfl _ _ rfl (G) rfl _ _ _ _ hA.blkG Try.underlying24 rfl crtInfo ?_)
        | (refine wpList_store_row rfl _ _ _ rfl w.heap.size (crtC t) rfl rfl _ _ hB.blkR crtInfo rfl (crtC_ones _) ?_))
    (try simp only [Exit.inBlock, Exit.then])
    refine bodyPost_ret (v := .agg (crtC t)) (results_row rfl _ _ w.heap.size rfl _ _ _ _ (blk_setRow hB.blkR) Try.underlying24 rfl crtInfo) rfl ?_
    exact ⟨by rw [HX.out], by rw [HX.out]; exact ⟨rdr_row hB.rdr hB.lt _, grown_row hB.grown (Nat.le_refl _) _⟩⟩
/-- A number ahead of other bytes. -/
theorem num_enc (a : Int) (l : List UInt8) (h : 0 ≤ a ∧ a ≤ 4611686018427387904) : numV (encN a.toNat ++ l, 0) = a ∧ numS (encN a.toNat ++ l, 0) = (l, 0) := by
  have e := L3.rd_enc0 a.toNat l (by omega)
  constructor
  · unfold numV
    rw [e]
    show ((a.toNat : Nat) : Int) = a
    omega
  · unfold numS
    rw [e]
    simp
theorem fitV_small {n : Int} (h : n ≤ 2147483647) : fitV n = n := by unfold fitV; rw [if_neg (by omega)]
theorem fitU_small {n : Nat} (h : n < 1024) : fitU (n : Int) = n := by unfold fitU; rw [if_neg (by omega)]; simp
theorem crt_eta (c : Crt) : (⟨c.kind, c.block, c.view, c.round, c.height, c.author, c.sg, c.co⟩ : Crt) = c := rfl
theorem read_bytes (c : Crt) (rest : List UInt8) (h : mayV c = true) : readC (bytesV c ++ rest, 0) = (c, (rest, 0)) := by
  by_cases h0 : c.kind = 0
  · obtain rfl := may_zero h h0
    have e : bytesV zeroC ++ rest = encN (0 : Int).toNat ++ rest := by show encs [0] ++ rest = _; simp [encs]
    rw [e]
    obtain ⟨v0, s0⟩ := num_enc 0 rest ⟨by omega, by omega⟩
    have n1 : nS 1 (encN (0 : Int).toNat ++ rest, 0) = (rest, 0) := s0
    unfold readC
    rw [v0, n1]
    rfl
  by_cases h1 : c.kind = 1
  · obtain ⟨hs, q1, q2, q3⟩ := may_one h h1
    obtain ⟨p1, p2, p3, _, p4⟩ := sg_facts hs
    obtain ⟨l4, e4⟩ : ∃ l, l = encN (c.sg : Int).toNat ++ rest := ⟨_, rfl⟩
    obtain ⟨l3, e3⟩ : ∃ l, l = encN c.round.toNat ++ l4 := ⟨_, rfl⟩
    obtain ⟨l2, e2⟩ : ∃ l, l = encN c.view.toNat ++ l3 := ⟨_, rfl⟩
    obtain ⟨l1, e1⟩ : ∃ l, l = encN c.block.toNat ++ l2 := ⟨_, rfl⟩
    have e : bytesV c ++ rest = encN (1 : Int).toNat ++ l1 := by
      rw [e1, e2, e3, e4]; unfold bytesV numsV; rw [if_neg h0, if_pos h1]; simp [encs]
    rw [e]
    obtain ⟨v0, s0⟩ := num_enc 1 l1 ⟨by omega, by omega⟩
    obtain ⟨v1, s1⟩ := num_enc c.block l2 ⟨by omega, by omega⟩
    obtain ⟨v2, s2⟩ := num_enc c.view l3 ⟨by omega, by omega⟩
    obtain ⟨v3, s3⟩ := num_enc c.round l4 ⟨by omega, by omega⟩
    obtain ⟨v4, s4⟩ := num_enc (c.sg : Int) rest ⟨by omega, by omega⟩
    have n1 : nS 1 (encN (1 : Int).toNat ++ l1, 0) = (l1, 0) := s0
    have n2 : nS 2 (encN (1 : Int).toNat ++ l1, 0) = (l2, 0) := by show numS (nS 1 _) = _; rw [n1, e1, s1]
    have n3 : nS 3 (encN (1 : Int).toNat ++ l1, 0) = (l3, 0) := by show numS (nS 2 _) = _; rw [n2, e2, s2]
    have n4 : nS 4 (encN (1 : Int).toNat ++ l1, 0) = (l4, 0) := by show numS (nS 3 _) = _; rw [n3, e3, s3]
    have n5 : nS 5 (encN (1 : Int).toNat ++ l1, 0) = (rest, 0) := by show numS (nS 4 _) = _; rw [n4, e4, s4]
    rw [← e1] at v1
    rw [← e2] at v2
    rw [← e3] at v3
    rw [← e4] at v4
    unfold readC
    rw [v0, n1, n2, n3, n4, n5, v1, v2, v3, v4, fitV_small (n := 1) (by omega), if_pos rfl, fitV_small (n := c.block) (by omega), fitV_small (n := c.view) (by omega), fitV_small (n := c.round) (by omega), fitU_small p4]
    have := crt_eta c
    rw [h1, q1, q2, q3] at this
    rw [this]
  · obtain ⟨h2, hs, q1, q2, q3⟩ := may_two h h0 h1
    obtain ⟨p1, p2, p3, _, p4⟩ := sg_facts hs
    obtain ⟨l7, e7⟩ : ∃ l, l = encN (c.co : Int).toNat ++ rest := ⟨_, rfl⟩
    obtain ⟨l6, e6⟩ : ∃ l, l = encN c.author.toNat ++ l7 := ⟨_, rfl⟩
    obtain ⟨l5, e5⟩ : ∃ l, l = encN c.height.toNat ++ l6 := ⟨_, rfl⟩
    obtain ⟨l4, e4⟩ : ∃ l, l = encN (c.sg : Int).toNat ++ l5 := ⟨_, rfl⟩
    obtain ⟨l3, e3⟩ : ∃ l, l = encN c.round.toNat ++ l4 := ⟨_, rfl⟩
    obtain ⟨l2, e2⟩ : ∃ l, l = encN c.view.toNat ++ l3 := ⟨_, rfl⟩
    obtain ⟨l1, e1⟩ : ∃ l, l = encN c.block.toNat ++ l2 := ⟨_, rfl⟩
    have e : bytesV c ++ rest = encN (2 : Int).toNat ++ l1 := by
      rw [e1, e2, e3, e4, e5, e6, e7]; unfold bytesV numsV; rw [if_neg h0, if_neg h1]; simp [encs]
    rw [e]
    obtain ⟨v0, s0⟩ := num_enc 2 l1 ⟨by omega, by omega⟩
    obtain ⟨v1, s1⟩ := num_enc c.block l2 ⟨by omega, by omega⟩
    obtain ⟨v2, s2⟩ := num_enc c.view l3 ⟨by omega, by omega⟩
    obtain ⟨v3, s3⟩ := num_enc c.round l4 ⟨by omega, by omega⟩
    obtain ⟨v4, s4⟩ := num_enc (c.sg : Int) l5 ⟨by omega, by omega⟩
    obtain ⟨v5, s5⟩ := num_enc c.height l6 ⟨by omega, by omega⟩
    obtain ⟨v6, s6⟩ := num_enc c.author l7 ⟨by omega, by omega⟩
    obtain ⟨v7, s7⟩ := num_enc (c.co : Int) rest ⟨by omega, by omega⟩
    have n1 : nS 1 (encN (2 : Int).toNat ++ l1, 0) = (l1, 0) := s0
    have n2 : nS 2 (encN (2 : Int).toNat ++ l1, 0) = (l2, 0) := by show numS (nS 1 _) = _; rw [n1, e1, s1]
    have n3 : nS 3 (encN (2 : Int).toNat ++ l1, 0) = (l3, 0) := by show numS (nS 2 _) = _; rw [n2, e2, s2]
    have n4 : nS 4 (encN (2 : Int).toNat ++ l1, 0) = (l4, 0) := by show numS (nS 3 _) = _; rw [n3, e3, s3]
    have n5 : nS 5 (encN (2 : Int).toNat ++ l1, 0) = (l5, 0) := by show numS (nS 4 _) = _; rw [n4, e4, s4]
    have n6 : nS 6 (encN (2 : Int).toNat ++ l1, 0) = (l6, 0) := by show numS (nS 5 _) = _; rw [n5, e5, s5]
    have n7 : nS 7 (encN (2 : Int).toNat ++ l1, 0) = (l7, 0) := by show numS (nS 6 _) = _; rw [n6, e6, s6]
    have n8 : nS 8 (encN (2 : Int).toNat ++ l1, 0) = (rest, 0) := by show numS (nS 7 _) = _; rw [n7, e7, s7]
    rw [← e1] at v1
    rw [← e2] at v2
    rw [← e3] at v3
    rw [← e4] at v4
    rw [← e5] at v5
    rw [← e6] at v6
    rw [← e7] at v7
    unfold readC
    rw [v0, n1, n2, n3, n4, n5, n6, n7, n8, v1, v2, v3, v4, v5, v6, v7, fitV_small (n := 2) (by omega), if_neg (by decide), if_pos rfl, fitV_small (n := c.block) (by omega), fitV_small (n := c.view) (by omega), fitV_small (n := c.round) (by omega), fitV_small (n := c.height) (by omega), fitV_small (n := c.author) (by omega), fitU_small p4, fitU_small q3]
    have := crt_eta c
    rw [h2] at this
    rw [this]
theorem take_bytes (c : Crt) (rest : List UInt8) (h : mayV c = true) : takeC (bytesV c ++ rest, 0) = (c, (rest, 0)) := by
  unfold takeC
  rw [read_bytes c rest h]
  exact if_neg (fun hh => hh.elim (fun h1 => h1 rfl) (fun h1 => by rw [h] at h1; cases h1))
end Go.Proofs.Ytkjkkbionlmohaa
