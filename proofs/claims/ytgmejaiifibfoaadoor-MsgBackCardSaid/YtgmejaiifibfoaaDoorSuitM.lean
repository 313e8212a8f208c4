/-
  Which certificates suit a kind of message, which timeouts may be a proof: by the code.
-/
import Derived.Test.YtgmejaiifibfoaaDoorFitM
import Derived.Test.YtgmejaiifibfoaaDoorB2
set_option linter.unusedSimpArgs false
set_option linter.unusedVariables false
set_option maxRecDepth 10000
namespace Go.Proofs.YtgmejaiifibfoaaDoor
open Go.RowKit Go.Maps Go.Lib
open L3 (Blk Reads)
open L11 (Crt zeroC crtL crtC mayV okW okW_mk okW_not crtInfo crtC_ones endV wpQuiet_fn)

def suitsV (k : Int) (c : Crt) : Bool :=
  if k = 2 then !decide (c.kind = 0) && decide (L4.cnt c.sg = 1) && decide (c.co = 0)
  else if k = 5 then decide (c.kind = 2) && decide (c.height = 3) && decide (c.co = 0)
  else if k = 10 then decide (c.kind = 1) || endV c
  else false
theorem cer_suits {k : Int} (h : hasC k) (c : Crt) : cerC k c = (suitsV k c && mayV c) := by
  unfold cerC suitsV
  by_cases h2 : k = 2
  · rw [if_pos h2, if_pos h2]; unfold votC
    cases mayV c <;> cases decide (c.kind = 0) <;> cases decide (c.co = 0) <;> cases decide (L4.cnt c.sg = 1) <;> rfl
  rw [if_neg h2, if_neg h2]
  by_cases h5 : k = 5
  · rw [if_pos h5, if_pos h5]; unfold donC
    cases mayV c <;> cases decide (c.kind = 2) <;> cases decide (c.height = 3) <;> cases decide (c.co = 0) <;> rfl
  rw [if_neg h5, if_neg h5]
  have h10 : k = 10 := by unfold hasC at h; omega
  rw [if_pos h10]; unfold higC L11.endV
  cases mayV c <;> cases decide (c.kind = 1) <;> cases decide (c.kind = 2) <;> cases decide (c.co = 0) <;> rfl
theorem nat_dec {n : Nat} {b : Bool} (k : Nat) (h : decide (n = k) = b) : ((n : Int) == (k : Int)) = b := by
  rw [← h, Bool.eq_iff_iff]; simp; omega
theorem int_dec {n k : Int} {b : Bool} (h : decide (n = k) = b) : (n == k) = b ∧ (n != k) = !b := by rw [← h]; exact ⟨rfl, rfl⟩
set_option maxHeartbeats 1000000 in
set_option maxRecDepth 100000 in
theorem suits_any (k : Int) (c : Crt) (w : World) (hc : c.wf) : Calls Tryd.prog 40 #[.int .i64 k, .agg (crtC c)] w (gives (.bool (suitsV k c)) w) := by
  have hb0 : Below w.heap.size w (w.alloc (.cells (crtC c) 24)) := L11.below_box _ c
  have k0 := L11.box_new w 24 c
  have c0 : (w.alloc (.cells (crtC c) 24)).cell? ⟨w.heap.size, 0, none⟩ = some (.int .i64 c.kind) := k0.cell 0
  have c4 : (w.alloc (.cells (crtC c) 24)).cell? ⟨w.heap.size, 4, none⟩ = some (.int .i64 c.height) := k0.cell 4
  have c6 : (w.alloc (.cells (crtC c) 24)).cell? ⟨w.heap.size, 6, none⟩ = some (.int .u32 c.sg) := k0.cell 6
  have c7 : (w.alloc (.cells (crtC c) 24)).cell? ⟨w.heap.size, 7, none⟩ = some (.int .u32 c.co) := k0.cell 7
  have hsg : c.sg < 4294967296 := hc.2.2.2.2.2.2.1
  by_cases h2 : k = 2
  · have e : suitsV k c = (!decide (c.kind = 0) && decide (L4.cnt c.sg = 1) && decide (c.co = 0)) := by unfold suitsV; rw [if_pos h2]
    have hcn := fun W => L4.count_any c.sg W hsg
    obtain ⟨b0, d0⟩ : ∃ b, decide (c.kind = 0) = b := ⟨_, rfl⟩
    obtain ⟨b1, d1⟩ : ∃ b, decide (L4.cnt c.sg = 1) = b := ⟨_, rfl⟩
    obtain ⟨b2, d2⟩ : ∃ b, decide (c.co = 0) = b := ⟨_, rfl⟩
    rw [d0, d1, d2] at e
    obtain ⟨q0, q0'⟩ := int_dec d0
    have q1 : ((L4.cnt c.sg : Int) == 1) = b1 := nat_dec 1 d1
    have q2 : ((c.co : Int) == 0) = b2 := nat_dec 0 d2
    subst h2
    obtain ⟨r, hr⟩ : ∃ r, r = suitsV 2 c := ⟨_, rfl⟩
    rw [← hr] at e ⊢
    have E := Lib.hid e
    clear d0 d1 d2 hr e hc hsg
    cases b0 <;> cases b1 <;> cases b2
    all_goals
      go_enter Tryd.func40, Tryd.ntmps40
      go_wp2_with (go_at_call 66; refine (hcn _).mono ?_; rintro e w1 ⟨rfl, rfl⟩)
      go_ret
      exact ⟨by rw [E.out]; rfl, hb0⟩
  by_cases h5 : k = 5
  · have e : suitsV k c = (decide (c.kind = 2) && decide (c.height = 3) && decide (c.co = 0)) := by unfold suitsV; rw [if_neg h2, if_pos h5]
    obtain ⟨b0, d0⟩ : ∃ b, decide (c.kind = 2) = b := ⟨_, rfl⟩
    obtain ⟨b1, d1⟩ : ∃ b, decide (c.height = 3) = b := ⟨_, rfl⟩
    obtain ⟨b2, d2⟩ : ∃ b, decide (c.co = 0) = b := ⟨_, rfl⟩
    rw [d0, d1, d2] at e
    obtain ⟨q0, q0'⟩ := int_dec d0
    obtain ⟨q1, q1'⟩ := int_dec d1
    have q2 : ((c.co : Int) == 0) = b2 := nat_dec 0 d2
    subst h5
    obtain ⟨r, hr⟩ : ∃ r, r = suitsV 5 c := ⟨_, rfl⟩
    rw [← hr] at e ⊢
    have E := Lib.hid e
    clear d0 d1 d2 hr e hc hsg h2
    cases b0 <;> cases b1 <;> cases b2
    all_goals
      go_enter Tryd.func40, Tryd.ntmps40
      go_wp2
      go_ret
      exact ⟨by rw [E.out]; rfl, hb0⟩
  by_cases h10 : k = 10
  · have e : suitsV k c = (decide (c.kind = 1) || endV c) := by unfold suitsV; rw [if_neg h2, if_neg h5, if_pos h10]
    obtain ⟨b0, d0⟩ : ∃ b, decide (c.kind = 1) = b := ⟨_, rfl⟩
    obtain ⟨b1, d1⟩ : ∃ b, endV c = b := ⟨_, rfl⟩
    have he := fun W => c_end c _ W d1
    rw [d0, d1] at e
    obtain ⟨q0, q0'⟩ := int_dec d0
    subst h10
    obtain ⟨r, hr⟩ : ∃ r, r = suitsV 10 c := ⟨_, rfl⟩
    rw [← hr] at e ⊢
    have E := Lib.hid e
    have HE := Lib.hid he
    clear d0 d1 hr e hc hsg h2 h5 he
    cases b0
    · go_enter Tryd.func40, Tryd.ntmps40
      go_wp2_with (first
        | (refine wpList_row_at rfl _ _ rfl w.heap.size rfl _ _ _ _ k0 Tryd.underlying24 rfl crtInfo ?_)
        | (go_at_call 67; refine (HE.out _).mono ?_; unfold gives; rintro e w1 ⟨rfl, hb1⟩))
      go_ret
      exact ⟨by rw [E.out]; rfl, nxt hb0 hb1⟩
    · go_enter Tryd.func40, Tryd.ntmps40
      go_wp2
      go_ret
      exact ⟨by rw [E.out]; rfl, hb0⟩
  have e : suitsV k c = false := by unfold suitsV; rw [if_neg h2, if_neg h5, if_neg h10]
  have q2 : (k == 2) = false := by simpa using h2
  have q5 : (k == 5) = false := by simpa using h5
  have q10 : (k == 10) = false := by simpa using h10
  rw [e]
  clear e hc hsg h2 h5 h10
  go_enter Tryd.func40, Tryd.ntmps40
  go_wp2
  go_ret
  exact ⟨rfl, hb0⟩
end Go.Proofs.YtgmejaiifibfoaaDoor
