/-
  The next block of a reader, and the block of all bytes: by the code.
-/
import Derived.Test.YtomaaidhmccngaaGreatDoorReadB
import Derived.Test.YtomaaidhmccngaaGreatDoorChkB
set_option linter.unusedSimpArgs false
set_option linter.unusedVariables false
set_option maxRecDepth 10000
namespace Go.Proofs.YtomaaidhmccngaaGreatDoor
open Go.RowKit Go.Maps Go.Lib
open L3 (Blk Reads Rdr leaves numS failS rdN mostV mostS doneV)
open L6 (Turn)
open L11 (Crt zeroC crtL crtC mayV takeC crtInfo crtC_ones)

theorem failedB_any (g : Nat) (p : List UInt8 × Int) (w : World) (h : Rdr w g p) : Calls Tryz.prog 164 #[.pointer (some ⟨g, 0, none⟩)] w fun e w' => e = .returned (.bool (decide (p.2 ≠ 0))) ∧ w = w' := by
  have hR := L3.rrest_any g p w h
  have hD := L3.rdone_any g p w h
  have he : p.2 ≠ 0 → p.1 = [] := by obtain ⟨_, _, _, _, _, _, he⟩ := h; exact he
  by_cases h0 : p.1.length = 0
  · rw [done_eq p he h0] at hD
    obtain ⟨e, hp⟩ : ∃ e, e = p.2 := ⟨_, rfl⟩
    obtain ⟨n, hn⟩ : ∃ n, n = p.1.length := ⟨_, rfl⟩
    rw [← hn] at hR h0
    rw [← hp] at hD ⊢
    subst h0
    clear hp hn he h
    by_cases e0 : e = 0
    · subst e0
      go_enter Tryz.func164, Tryz.ntmps164
      go_wp2_with (first
        | (go_at_call 189; refine hR.mono ?_; rintro e w1 ⟨rfl, rfl⟩)
        | (go_at_call 134; refine hD.mono ?_; rintro e w1 ⟨rfl, rfl⟩))
      go_ret
      exact ⟨rfl, rfl⟩
    · have e1 : (e == 0) = false := by simpa using e0
      have e2 : (e != 0) = true := by simpa using e0
      have e3 : decide (e ≠ 0) = true := by simpa using e0
      rw [e3]
      clear e0 e3
      go_enter Tryz.func164, Tryz.ntmps164
      go_wp2_with (first
        | (go_at_call 189; refine hR.mono ?_; rintro e w1 ⟨rfl, rfl⟩)
        | (go_at_call 134; refine hD.mono ?_; rintro e w1 ⟨rfl, rfl⟩))
      go_ret
      exact ⟨rfl, rfl⟩
  · have e0 : p.2 = 0 := by
      rcases Classical.em (p.2 = 0) with h1 | h1
      · exact h1
      · exact absurd (by rw [he h1]; rfl) h0
    rw [e0]
    obtain ⟨n, hn⟩ : ∃ n, n = p.1.length := ⟨_, rfl⟩
    rw [← hn] at hR h0
    have h1 : ((n : Int) == 0) = false := by simp; omega
    clear hn hD he h h0 e0
    go_enter Tryz.func164, Tryz.ntmps164
    go_wp2_with (first
      | (go_at_call 189; refine hR.mono ?_; rintro e w1 ⟨rfl, rfl⟩))
    go_ret
    exact ⟨rfl, rfl⟩
theorem RdAt.below {w W W' : World} {g G : Nat} {b : Blo} {P T : Value} {q : List UInt8 × Int} (h : RdAt w g G b P T q W) (hb : Below W.heap.size W W') : RdAt w g G b P T q W' := by
  have hgr := h.gr
  exact ⟨rdr_below h.rdr hb h.rdr.lt, h.re.below hb h.re.lt, h.bx.below hb h.bx.lt, ⟨hb.os.trans hgr.os, hb.tape.trans hgr.tape, hb.output.trans hgr.output, Nat.le_trans hgr.size hb.size, fun k hk hne => (hb.block k (Nat.lt_of_lt_of_le hk hgr.size)).trans (hgr.block k hk hne)⟩, h.lt⟩
theorem LiesF.below {B : Nat} {w w' : World} {b : Blo} {P T : Value} (h : LiesF B w b P T) (hb : Below w.heap.size w w') : LiesF B w' b P T := h.turn (L6.Turn.of_keep (S := fun _ => False) hb) (fun k hk => absurd hk id)
/-- What is told of a block and left of its reader. -/
def took (g : Nat) (z : Blo × (List UInt8 × Int)) (w : World) (e : Ending) (w' : World) : Prop :=
  ∃ P T, e = .returned (.agg (bloC z.1 P T)) ∧ LiesF (w.heap.size + 1) w' z.1 P T ∧ leaves g z.2 w w'
theorem LiesF.form {B : Nat} {w : World} {b : Blo} {P T : Value} (h : LiesF B w b P T) : ∃ A n c D m d, P = .slice A n c ∧ T = .slice D m d := by
  obtain ⟨A, c, D, d, h1, h2, _⟩ := h
  exact ⟨A, _, c, D, _, d, h1, h2⟩
set_option maxHeartbeats 4000000 in
set_option maxRecDepth 100000 in
theorem takeB_any (g : Nat) (p : List UInt8 × Int) (w : World) (h : Rdr w g p) (hT : ∀ W, w.grownBy W (some g) → Tabs W) :
    Calls Tryz.prog 133 #[.pointer (some ⟨g, 0, none⟩)] w (took g (takeB p) w) := by
  have hwf := readB_wf p
  have hg0 := World.grownBy_alloc w (.cells (bloC zeroB (.slice none 0 0) (.slice none 0 0)) 57) (some g)
  have HR := Lib.hid (readB_any g p (w.alloc (.cells (bloC zeroB (.slice none 0 0) (.slice none 0 0)) 57)) (rdr_alloc h _) (fun W hW => hT W (L3.grown_trans hg0 hW)))
  have HM := Lib.hid (fun w2 q (hl : leaves g q (w.alloc (.cells (bloC zeroB (.slice none 0 0) (.slice none 0 0)) 57)) w2) (b : Blo) (P T : Value) => RdAt.mk' h hl b P T)
  have hsz : (w.alloc (.cells (bloC zeroB (.slice none 0 0) (.slice none 0 0)) 57)).heap.size = w.heap.size + 1 := by simp
  obtain ⟨r, hX⟩ : ∃ r, r = takeB p := ⟨_, rfl⟩
  rw [← hX]
  unfold takeB at hX
  obtain ⟨z, hz⟩ : ∃ z, z = readB p := ⟨_, rfl⟩
  rw [← hz] at hX HR hwf
  obtain ⟨b, q⟩ := z
  dsimp only at hX hwf
  have HR2 : Hid (Calls Tryz.prog 162 #[.pointer (some ⟨g, 0, none⟩)] (w.alloc (.cells (bloC zeroB (.slice none 0 0) (.slice none 0 0)) 57)) fun e w' => ∃ P T, e = .returned (.agg (bloC b P T)) ∧ LiesF (w.heap.size + 1 + 1) w' b P T ∧ leaves g q (w.alloc (.cells (bloC zeroB (.slice none 0 0) (.slice none 0 0)) 57)) w') := Lib.hid (by rw [← hsz]; exact HR.out)
  have HXX := Lib.hid hX
  have HT := Lib.hid hT
  have HWF := Lib.hid hwf
  clear hX hT hwf hz hg0 HR hsz h
  go_enter Tryz.func133, Tryz.ntmps133
  go_upto_region 1 with fail
  refine name_world (fun w0 hw0 => ?_)
  have HR3 : Hid (Calls Tryz.prog 162 #[.pointer (some ⟨g, 0, none⟩)] w0 fun e w' => ∃ P T, e = .returned (.agg (bloC b P T)) ∧ LiesF (w.heap.size + 1 + 1) w' b P T ∧ leaves g q w0 w') := Lib.hid (by rw [hw0]; exact HR2.out)
  have HM0 : Hid (∀ w2 q, leaves g q w0 w2 → ∀ (b : Blo) (P T : Value), RdAt w g w2.heap.size b P T q (w2.alloc (.cells (bloC b P T) 57))) := Lib.hid (by rw [hw0]; exact HM.out)
  clear hw0 HM HR2
  go_upto_region 2 with (first
    | (go_at_call 162; refine HR3.out.mono ?_; rintro e w2 ⟨P, T, rfl, hL2, hl2⟩; obtain ⟨A2, n2, c2, D2, m2, d2, rfl, rfl⟩ := hL2.form)
    | (refine wpList_store_new rfl _ _ _ rfl _ (bloC b (.slice A2 n2 c2) (.slice D2 m2 d2)) rfl rfl _ _ bloInfo rfl (bloC_ones _ _ _ _ _ _ _) ?_))
  have hA := HM0.out _ _ hl2 b (.slice A2 n2 c2) (.slice D2 m2 d2)
  have hLA := hL2.below (below_new w2 (.cells (bloC b (.slice A2 n2 c2) (.slice D2 m2 d2)) 57))
  obtain ⟨G, hG⟩ : ∃ G, G = w2.heap.size := ⟨_, rfl⟩
  rw [← hG] at hA
  rw [← hG]
  refine name_world (fun w3 hw3 => ?_)
  rw [← hw3] at hA hLA
  clear hG hl2 hL2 hw3 HM0 HR3
  have hck := checkB_any b _ _ w3 HWF.out hLA.lies (HT.out _ hA.gr)
  obtain ⟨k, hk⟩ : ∃ k, k = checkV b := ⟨_, rfl⟩
  have hX := HXX.out
  rw [← hk] at hck hX
  obtain ⟨q2, hq2⟩ : ∃ q2, q2 = failS k q := ⟨_, rfl⟩
  rw [← hq2] at hX
  have HF := Lib.hid (fun W (hR : Rdr W g q) => L3.fail_any g q k W hR)
  rw [← hq2] at HF
  have HK := Lib.hid hck
  have HX := Lib.hid hX
  clear hck hX hk hq2 HXX
  go_upto_region 3 with (first
    | (refine wpList_row_at rfl _ _ rfl G rfl _ _ _ _ hA.bx Tryz.underlying57 rfl bloInfo ?_)
    | (go_at_call 137; refine HK.out.mono ?_; unfold gives; rintro e w4 ⟨rfl, hb4⟩; have hB := hA.below hb4; have hLB := hLA.below hb4; have hrB := hB.rdr)
    | (go_at_call 163; refine (HF.out _ hrB).mono ?_; rintro e w5 ⟨rfl, hl5⟩; have hC := hB.next hl5; have hLC := hLB.turn (turn_leaves hl5.2) (fun k hk => by have := hB.lt; omega)))
  have hlt := hC.lt
  clear hA hLA hB hLB hrB hl5 hb4 HK HF
  have hf := failedB_any g q2 w5 hC.rdr
  by_cases hq : q2.2 ≠ 0
  · have hX := HX.out
    rw [if_pos hq] at hX
    rw [decide_eq_true hq] at hf
    have HX2 := Lib.hid hX
    clear HX hX hq
    go_wp2_with (first
      | (go_at_call 164; refine hf.mono ?_; rintro e w6 ⟨rfl, rfl⟩)
      | (refine wpList_build rfl _ _ rfl #[] rfl (build_zeroB _) ?_)
      | (refine wpList_store_row rfl _ _ _ rfl w.heap.size (bloC zeroB (.slice none 0 0) (.slice none 0 0)) rfl rfl _ _ hC.re bloInfo rfl (bloC_ones _ _ _ _ _ _ _) ?_))
    (try simp only [Exit.inBlock, Exit.then])
    refine bodyPost_ret (v := .agg (bloC zeroB (.slice none 0 0) (.slice none 0 0))) (results_row rfl _ _ w.heap.size rfl _ _ _ _ (blk_setRow hC.re) Tryz.underlying57 rfl bloInfo) rfl ?_
    rw [HX2.out]
    exact ⟨_, _, rfl, liesF_zero _ _, rdr_row hC.rdr hlt.1 _, grown_row hC.gr (Nat.le_refl _) _⟩
  · have hX := HX.out
    rw [if_neg hq] at hX
    rw [decide_eq_false hq] at hf
    have HX2 := Lib.hid hX
    clear HX hX hq
    go_wp2_with (first
      | (go_at_call 164; refine hf.mono ?_; rintro e w6 ⟨rfl, rfl⟩)
      | (refine wpList_row_at rfl _ _ rfl G rfl _ _ _ _ hC.bx Tryz.underlying57 rfl bloInfo ?_)
      | (refine wpList_store_row rfl _ _ _ rfl w.heap.size (bloC b (.slice A2 n2 c2) (.slice D2 m2 d2)) rfl rfl _ _ hC.re bloInfo rfl (bloC_ones _ _ _ _ _ _ _) ?_))
    (try simp only [Exit.inBlock, Exit.then])
    refine bodyPost_ret (v := .agg (bloC b (.slice A2 n2 c2) (.slice D2 m2 d2))) (results_row rfl _ _ w.heap.size rfl _ _ _ _ (blk_setRow hC.re) Tryz.underlying57 rfl bloInfo) rfl ?_
    rw [HX2.out]
    exact ⟨_, _, rfl, (hLC.turn (turn_row _ _ _) (fun k hk => by omega)).le (by omega), rdr_row hC.rdr hlt.1 _, grown_row hC.gr (Nat.le_refl _) _⟩
end Go.Proofs.YtomaaidhmccngaaGreatDoor
