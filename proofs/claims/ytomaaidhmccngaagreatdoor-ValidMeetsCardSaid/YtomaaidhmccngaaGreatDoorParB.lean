/-
  The block of all bytes: by the code.
-/
import Derived.Test.YtomaaidhmccngaaGreatDoorTakeB
set_option linter.unusedSimpArgs false
set_option linter.unusedVariables false
set_option maxRecDepth 10000
namespace Go.Proofs.YtomaaidhmccngaaGreatDoor
open Go.RowKit Go.Maps Go.Lib
open L3 (Blk Reads Rdr leaves numS failS rdN mostV mostS doneV)
open L6 (Turn)
open L11 (Crt zeroC crtL crtC mayV takeC crtInfo crtC_ones)

/-- What Parse tells. -/
def parsed (l : List UInt8) (w : World) (e : Ending) (w' : World) : Prop :=
  ∃ P T, e = .returned (.tuple #[.agg (bloC (parseB l).1 P T), .int .i64 (parseB l).2]) ∧ Lies w' (parseB l).1 P T ∧ Below w.heap.size w w'
/-- The same, and its lists lie in new blocks. -/
def parsedF (l : List UInt8) (w : World) (e : Ending) (w' : World) : Prop :=
  ∃ P T, e = .returned (.tuple #[.agg (bloC (parseB l).1 P T), .int .i64 (parseB l).2]) ∧ LiesF w.heap.size w' (parseB l).1 P T ∧ Below w.heap.size w w'
theorem below_leaves {B : Nat} {w W W' : World} {g : Nat} {q : List UInt8 × Int} (h : Below B w W) (hl : leaves g q W W') (hg : B ≤ g) (hB : B ≤ W.heap.size) : Below B w W' := h.grown hl.2 hB (fun k hk => by injection hk with hk; omega)
set_option maxHeartbeats 4000000 in
set_option maxRecDepth 100000 in
theorem parseF_any (l : List UInt8) (w : World) (hl : l.length ≤ 100000000) (hT : Tabs w) : Calls Tryz.prog 81 #[.string (str l)] w (parsedF l w) := by
  have hX : parseB l = endP (takeB (l, 0)) := rfl
  have k0 := blo_new w 57 zeroB (.slice none 0 0) (.slice none 0 0)
  have hb0 := below_new w (.cells (bloC zeroB (.slice none 0 0) (.slice none 0 0)) 57)
  have Z0 := Lib.hid (And.intro k0 hb0)
  unfold parsedF
  rw [hX]
  obtain ⟨z, hz⟩ : ∃ z, z = takeB (l, 0) := ⟨_, rfl⟩
  have HTK := Lib.hid (fun g W h hT => takeB_any g (l, 0) W h hT)
  rw [← hz] at HTK ⊢
  obtain ⟨b, q⟩ := z
  have HL := Lib.hid hl
  have HT := Lib.hid hT
  clear k0 hb0 hX hz hl hT
  go_enter Tryz.func81, Tryz.ntmps81
  go_upto_region 1 with fail
  refine name_world (fun w0 hw0 => ?_)
  have hk0 : Blk w0 w.heap.size 57 (bloC zeroB (.slice none 0 0) (.slice none 0 0)) := by rw [hw0]; exact Z0.out.1
  have hb0 : Below w.heap.size w w0 := by rw [hw0]; exact Z0.out.2
  clear hw0 Z0
  obtain ⟨c1, w1, hcv, hr1, hb1, hz1⟩ := L3.str_bytes w0 (str l)
  rw [str_size, str_list] at hr1
  rw [str_size] at hcv
  have hw1 := nxt hb0 hb1
  have hk1 := hk0.below hb1 hk0.lt
  have hN := L3.new_any _ _ _ c1 _ _ hr1 (by have := HL.out; omega) (by omega)
  have HN := Lib.hid hN
  have H0 := hk0.lt
  clear hr1 hz1 hN hk0
  go_upto_region 2 with (first
    | (go_at_call 132; refine HN.out.mono ?_; rintro e w2 ⟨g, rfl, hg2, hrd2, hb2⟩))
  have hw2 := nxt hw1 hb2
  have hk2 := hk1.below hb2 hk1.lt
  have hgw : w.heap.size < g := by have := hk1.lt; omega
  have hTk := HTK.out g w2 hrd2 (fun W hW => tabs_grown HT.out hw2 (by omega) hW)
  clear hcv HN hb1 hw1 hk1 hb2 hg2 HTK HT hb0 H0
  go_upto_region 3 with (first
    | (go_at_call 133; refine hTk.mono ?_; rintro e w3 ⟨P, T, rfl, hL3, hl3⟩; obtain ⟨A2, n2, c2, D2, m2, d2, rfl, rfl⟩ := hL3.form)
    | (refine wpList_store_new rfl _ _ _ rfl _ (bloC b (.slice A2 n2 c2) (.slice D2 m2 d2)) rfl rfl _ _ bloInfo rfl (bloC_ones _ _ _ _ _ _ _) ?_))
  have hw3 := below_leaves hw2 hl3 (by omega) (Nat.le_of_lt hk2.lt)
  have hk3 := hk2.grown hl3.2 (fun e => by injection e with e; omega)
  have hb4 := below_new w3 (.cells (bloC b (.slice A2 n2 c2) (.slice D2 m2 d2)) 57)
  have hx4 := blo_new w3 57 b (.slice A2 n2 c2) (.slice D2 m2 d2)
  have hr4 := rdr_alloc hl3.1 (.cells (bloC b (.slice A2 n2 c2) (.slice D2 m2 d2)) 57)
  have hk4 := hk3.below hb4 hk3.lt
  have hL4 := hL3.below hb4
  have hw4 := nxt hw3 hb4
  have hgG : w.heap.size < w3.heap.size := hk3.lt
  have hL2 : w.heap.size < w2.heap.size := hk2.lt
  obtain ⟨G, hG⟩ : ∃ G, G = w3.heap.size := ⟨_, rfl⟩
  rw [← hG] at hx4 hgG
  rw [← hG]
  refine name_world (fun w4 hw4' => ?_)
  rw [← hw4'] at hx4 hr4 hk4 hL4 hw4
  clear hw4' hG hw3 hk3 hb4 hL3 hl3 hw2 hk2 hrd2 hTk
  have hD := L3.rdone_any g q w4 hr4
  obtain ⟨d, hd⟩ : ∃ d, d = doneV q := ⟨_, rfl⟩
  rw [← hd] at hD
  by_cases h0 : d ≠ 0
  · have hE : endP (b, q) = (zeroB, d) := by unfold endP; dsimp only; rw [← hd, if_pos h0]
    have HE := Lib.hid hE
    have h1 : (d != 0) = true := by simpa using h0
    have h2 : (d == 0) = false := by simpa using h0
    clear hE hd h0
    go_wp2_with (first
      | (go_at_call 134; refine hD.mono ?_; rintro e w5 ⟨rfl, rfl⟩)
      | (refine wpList_build rfl _ _ rfl #[] rfl (build_zeroB _) ?_)
      | (refine wpList_store_row rfl _ _ _ rfl w.heap.size (bloC zeroB (.slice none 0 0) (.slice none 0 0)) rfl rfl _ _ hk4 bloInfo rfl (bloC_ones _ _ _ _ _ _ _) ?_))
    (try simp only [Exit.inBlock, Exit.then])
    refine bodyPost_ret (v := .tuple #[.agg (bloC zeroB (.slice none 0 0) (.slice none 0 0)), .int .i64 d]) (results_row2 rfl _ _ w.heap.size rfl (.int .i64 d) rfl _ (bloC zeroB (.slice none 0 0) (.slice none 0 0)) _ _ (blk_setRow hk4) Tryz.underlying57 rfl bloInfo) rfl ?_
    rw [HE.out]
    exact ⟨_, _, rfl, liesF_zero _ _, below_setRow hw4 (Nat.le_refl _)⟩
  · have h0' : d = 0 := Decidable.not_not.1 h0
    subst h0'
    have hE : endP (b, q) = (b, 0) := by unfold endP; dsimp only; rw [← hd, if_neg h0]
    have HE := Lib.hid hE
    clear hE hd h0
    go_wp2_with (first
      | (go_at_call 134; refine hD.mono ?_; rintro e w5 ⟨rfl, rfl⟩)
      | (refine wpList_row_at rfl _ _ rfl G rfl _ _ _ _ hx4 Tryz.underlying57 rfl bloInfo ?_)
      | (refine wpList_store_row rfl _ _ _ rfl w.heap.size (bloC b (.slice A2 n2 c2) (.slice D2 m2 d2)) rfl rfl _ _ hk4 bloInfo rfl (bloC_ones _ _ _ _ _ _ _) ?_))
    (try simp only [Exit.inBlock, Exit.then])
    refine bodyPost_ret (v := .tuple #[.agg (bloC b (.slice A2 n2 c2) (.slice D2 m2 d2)), .int .i64 0]) (results_row2 rfl _ _ w.heap.size rfl (.int .i64 0) rfl _ (bloC b (.slice A2 n2 c2) (.slice D2 m2 d2)) _ _ (blk_setRow hk4) Tryz.underlying57 rfl bloInfo) rfl ?_
    rw [HE.out]
    exact ⟨_, _, rfl, (hL4.turn (turn_row _ _ _) (fun k hk => by omega)).le (by omega), below_setRow hw4 (Nat.le_refl _)⟩
theorem parseB_any (l : List UInt8) (w : World) (hl : l.length ≤ 100000000) (hT : Tabs w) : Calls Tryz.prog 81 #[.string (str l)] w (parsed l w) := by
  refine (parseF_any l w hl hT).mono ?_
  rintro e w' ⟨P, T, rfl, hL, hb⟩
  exact ⟨P, T, rfl, hL.lies, hb⟩
theorem checkV_wf {b : Blo} (h : checkV b = 0) : b.wf := by
  obtain ⟨hh, hp, hr⟩ := check_zero h
  obtain ⟨h1, h2, h3, h4, h5⟩ := head_facts hh
  obtain ⟨p1, p2, p3, p4, p5⟩ := parent_facts hp
  have mw : ∀ c : Crt, mayV c = true → c.wf := fun c hc => by
    by_cases h0 : c.kind = 0
    · rw [L11.may_zero hc h0]; exact L11.zeroC_wf
    · by_cases h1 : c.kind = 1
      · obtain ⟨a0, a1, a2, a3⟩ := L11.may_one hc h1
        obtain ⟨s1, s2, s3, s4, s5⟩ := L11.sg_facts a0
        exact ⟨by unfold L11.inI; omega, by unfold L11.inI; omega, by unfold L11.inI; omega, by unfold L11.inI; omega, by unfold L11.inI; omega, by unfold L11.inI; omega, by unfold L11.inU; omega, by unfold L11.inU; omega⟩
      · obtain ⟨a, a0, a1, a2, a3⟩ := L11.may_two hc h0 h1
        obtain ⟨s1, s2, s3, s4, s5⟩ := L11.sg_facts a0
        exact ⟨by unfold L11.inI; omega, by unfold L11.inI; omega, by unfold L11.inI; omega, by unfold L11.inI; omega, by unfold L11.inI; omega, by unfold L11.inI; omega, by unfold L11.inU; omega, by unfold L11.inU; omega⟩
  refine ⟨by unfold inI; omega, by unfold inI; omega, by unfold inI; omega, by unfold inI; omega, mw _ p1, fun t ht => ?_, fun t ht => (right_wf (h5 t ht)).le (by omega), ?_, ?_⟩
  · obtain ⟨t1, t2, t3, t4⟩ := tmo_facts (proof_mem hr t ht).1
    exact ⟨by unfold inI; omega, by unfold inI; omega, mw _ t4⟩
  · have := proof_len hr; omega
  · omega
end Go.Proofs.YtomaaidhmccngaaGreatDoor
