/-
  The chapter's example, by the code.
-/
import Derived.Test.YtkjkkbionlmohaaDoorParB
import Derived.Test.YtkjkkbionlmohaaDoorBytB
set_option linter.unusedSimpArgs false
set_option linter.unusedVariables false
set_option maxRecDepth 10000
namespace Go.Proofs.YtkjkkbionlmohaaDoor
open Go.RowKit Go.Maps Go.Lib
open L3 (Blk Reads)
open L11 (Crt zeroC)

abbrev exL : List UInt8 := [1, 1, 0, 0, 0, 0, 0]
abbrev exB : Blo := ⟨1, 1, 0, 0, zeroC, [], []⟩
abbrev exD : Blo := ⟨1, 2, 0, 0, zeroC, [], []⟩
theorem exB_check : checkV exB = 0 := by decide +kernel
theorem exD_check : checkV exD = 122 := by decide +kernel
theorem exB_bytes : bytesB exB = exL := by
  unfold bytesB listB L11.bytesV L11.numsV
  rw [if_pos (show zeroC.kind = 0 from rfl)]
  simp [L3.encs, L3.encN_small]
theorem exB_parse : parseB exL = (exB, 0) := by rw [← exB_bytes]; exact parse_back exB exB_check
theorem exB_wf : exB.wf := checkV_wf exB_check
theorem exD_wf : exD.wf := by
  refine ⟨?_, ?_, ?_, ?_, L11.zeroC_wf, ?_, ?_, ?_, ?_⟩ <;> simp [inI, exD]
theorem build_exB (w : World) : (Instr.build 28 #[(0, .int .i64 1), (1, .int .i64 1)]).run Tryd.prog w = .ok (.agg (bloC exB (.slice none 0 0) (.slice none 0 0))) w := run_build w _ _ _ (by kernel_rfl)
theorem build_exD (w : World) : (Instr.build 28 #[(0, .int .i64 1), (1, .int .i64 2)]).run Tryd.prog w = .ok (.agg (bloC exD (.slice none 0 0) (.slice none 0 0))) w := run_build w _ _ _ (by kernel_rfl)
theorem al_bytes (w : World) (hT : Tabs w) : Calls Tryd.prog 10 #[.agg (bloC exB (.slice none 0 0) (.slice none 0 0))] w (made exL w) := by
  have := bytesB_ok exB (.slice none 0 0) (.slice none 0 0) w exB_wf ⟨none, 0, none, 0, rfl, rfl, Rd.nil, Rd.nil⟩ hT exB_check
  rw [exB_bytes] at this
  exact this
theorem al_parse (w : World) (hT : Tabs w) : Calls Tryd.prog 18 #[.string { data := #[1, 1, 0, 0, 0, 0, 0] }] w fun e w' => ∃ A n c D m d, e = .returned (.tuple #[.agg (bloC exB (.slice A n c) (.slice D m d)), .int .i64 0]) ∧ Below w.heap.size w w' := by
  refine (parseB_any exL w (by decide) hT).mono ?_
  rintro e w' ⟨P, T, rfl, ⟨A, c, D, d, h1, h2, _⟩, hb⟩
  rw [exB_parse] at h1 h2 ⊢
  subst h1 h2
  exact ⟨A, _, c, D, _, d, rfl, hb⟩
theorem al_check (w : World) (hT : Tabs w) : Calls Tryd.prog 9 #[.agg (bloC exD (.slice none 0 0) (.slice none 0 0))] w (gives (.int .i64 122) w) := checkB_is exD _ _ 122 w exD_wf ⟨none, 0, none, 0, rfl, rfl, Rd.nil, Rd.nil⟩ hT exD_check
set_option maxHeartbeats 2000000 in
set_option maxRecDepth 100000 in
theorem alive_any (w : World) (hT : Tabs w) : Calls Tryd.prog 7 #[] w (gives (.bool true) w) := by
  have HT := Lib.hid (fun w' (hb : Below w.heap.size w w') => hT.kept hb)
  have HB := Lib.hid (al_bytes w hT)
  clear hT
  go_enter Tryd.func7, Tryd.ntmps7
  go_upto_region 2 with (first
    | (refine wpList_build rfl _ _ rfl #[(0, .int .i64 1), (1, .int .i64 1)] rfl (build_exB _) ?_)
    | (go_at_call 10; refine HB.out.mono ?_; rintro e w1 ⟨A1, c1, rfl, r1, q1, hb1⟩))
  have hP := al_parse w1 (HT.out _ hb1)
  have HP := Lib.hid hP
  clear hP HB
  go_upto_region 3 with (first
    | (go_at_call 18; refine HP.out.mono ?_; rintro e w2 ⟨A2, n2, c2, D2, m2, d2, rfl, hb2⟩)
    | (refine wpList_store_new rfl _ _ _ rfl _ (bloC exB (.slice A2 n2 c2) (.slice D2 m2 d2)) rfl rfl _ _ bloInfo rfl (bloC_ones _ _ _ _ _ _ _) ?_))
  have hb3 := below_new w2 (.cells (bloC exB (.slice A2 n2 c2) (.slice D2 m2 d2)) 28)
  have k3 := blo_new w2 28 exB (.slice A2 n2 c2) (.slice D2 m2 d2)
  have r3 := (r1.below hb2).below (hb3.mono hb2.size)
  have hbw := nxt (nxt hb1 hb2) hb3
  obtain ⟨G, hG⟩ : ∃ G, G = w2.heap.size := ⟨_, rfl⟩
  rw [← hG] at k3
  rw [← hG]
  refine name_world (fun w3 hw3 => ?_)
  rw [← hw3] at k3 r3 hbw
  clear hG hw3 hb3 hb2 hb1 r1 HP
  have hcv : (convert 33 9 (.slice A1 7 c1)).run Tryd.prog w3 = .ok (.string { data := #[1, 1, 0, 0, 0, 0, 0] }) w3 := L3.conv_reads r3 (Nat.le_refl _)
  have d0 : w3.cell? ⟨G, 0, none⟩ = some (.int .i64 1) := k3.cell 0
  have d1 : w3.cell? ⟨G, 1, none⟩ = some (.int .i64 1) := k3.cell 1
  have hC := al_check w3 (HT.out _ hbw)
  clear r3 k3
  go_wp2_with (first
    | (refine wpList_build rfl _ _ rfl #[(0, .int .i64 1), (1, .int .i64 2)] rfl (build_exD _) ?_)
    | (go_at_call 9; refine hC.mono ?_; unfold gives; rintro e w4 ⟨rfl, hb4⟩))
  go_ret
  exact ⟨rfl, nxt hbw hb4⟩
end Go.Proofs.YtkjkkbionlmohaaDoor
