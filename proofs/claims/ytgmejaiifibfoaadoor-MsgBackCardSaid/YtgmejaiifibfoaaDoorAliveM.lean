/-
  The chapter's example, by the code.
-/
import Derived.Test.YtgmejaiifibfoaaDoorBytM
import Derived.Test.YtgmejaiifibfoaaDoorParM
set_option linter.unusedSimpArgs false
set_option linter.unusedVariables false
set_option maxRecDepth 10000
namespace Go.Proofs.YtgmejaiifibfoaaDoor
open Go.RowKit Go.Maps Go.Lib
open L3 (Blk Reads encN numS failS doneV)
open L11 (Crt zeroC)

abbrev exM : Mes := ⟨6, 2, 5, 0, 0, zeroC, zeroT, [], zeroB, zeroX⟩
theorem exM_may : mayM exM = true := by decide +kernel
theorem exM_bytes : bytesM exM = [6, 2, 5] := by
  have e : bytesM exM = encN 6 ++ (encN 2 ++ encN 5) := rfl
  rw [e]
  simp [L3.encN_small]
theorem exM_parse : parseM [13, 0] = (zeroM, 140) := by
  obtain ⟨n1, n2⟩ := num_back 13 [0] (by omega)
  have e : encN 13 ++ [0] = [13, 0] := by simp [L3.encN_small]
  rw [e] at n1 n2
  unfold parseM readM
  rw [if_neg (by decide), n1, n2]
  have hf : fitM ((13 : Nat) : Int) = 13 := fitM_small (by omega)
  rw [hf]
  have hr : restM 13 ([0], 0) = ({ zeroM with kind := 13 }, failS 140 ([0], 0)) := by
    unfold restM
    rw [if_neg (by decide), if_neg (by decide), if_neg (by decide), if_neg (by decide), if_neg (by decide), if_neg (by decide), if_neg (by decide), if_neg (by decide)]
  rw [hr]
  have hs : failS 140 (([0] : List UInt8), (0 : Int)) = ([], 140) := by unfold L3.failS; rw [if_neg (by decide)]
  rw [hs]
  have hd : doneV (([] : List UInt8), (140 : Int)) = 140 := by unfold L3.doneV; rw [if_pos (by decide)]
  unfold endM
  dsimp only
  rw [hd, if_pos (by decide)]
theorem exM_wf : exM.wf := by
  have z := zeroM_wf
  exact ⟨by unfold inI exM; simp, by unfold inI exM; simp, by unfold inI exM; simp, z.n, z.set, z.cert, z.tm, z.proof, z.np, z.block, z.tx⟩
theorem build_exM (w : World) : (Instr.build 40 #[(0, .int .i64 6), (1, .int .i64 2), (2, .int .i64 5)]).run Tryd.prog w = .ok (.agg (mesC exM nS0 nS0 nS0)) w := run_build w _ _ _ (by kernel_rfl)
theorem al_bytesM (w : World) (hT : Tabs w) : Calls Tryd.prog 7 #[.agg (mesC exM nS0 nS0 nS0)] w (gives (.tuple #[.string { data := #[6, 2, 5] }, .int .i64 0]) w) := by
  have := bytesM_ok exM nS0 nS0 nS0 w exM_wf (liesM_zero w _ rfl rfl) hT exM_may
  rw [exM_bytes] at this
  exact this
theorem al_parseM (w : World) (hT : Tabs w) : Calls Tryd.prog 8 #[.string { data := #[13, 0] }] w fun e w' => ∃ A a c B b d C f g, e = .returned (.tuple #[.agg (mesC zeroM (.slice A a c) (.slice B b d) (.slice C f g)), .int .i64 140]) ∧ Below w.heap.size w w' := by
  refine (parseMs_any [13, 0] w (by simp) hT).mono ?_
  rintro e w' ⟨P, Q, T, rfl, hL, hb⟩
  rw [exM_parse] at hL ⊢
  obtain ⟨A, a, c, B, b, d, C, f, g, rfl, rfl, rfl⟩ := hL.form
  exact ⟨A, a, c, B, b, d, C, f, g, rfl, hb⟩
set_option maxHeartbeats 2000000 in
set_option maxRecDepth 100000 in
theorem aliveM_any (w : World) (hT : Tabs w) : Calls Tryd.prog 5 #[] w (gives (.bool true) w) := by
  have HT := Lib.hid (fun w' (hb : Below w.heap.size w w') => hT.kept hb)
  have HB := Lib.hid (al_bytesM w hT)
  clear hT
  go_enter Tryd.func5, Tryd.ntmps5
  go_upto_region 2 with (first
    | (refine wpList_build rfl _ _ rfl #[(0, .int .i64 6), (1, .int .i64 2), (2, .int .i64 5)] rfl (build_exM _) ?_)
    | (go_at_call 7; refine HB.out.mono ?_; unfold gives; rintro e w1 ⟨rfl, hb1⟩))
  have hP := al_parseM w1 (HT.out _ hb1)
  have HP := Lib.hid hP
  clear hP HB
  go_upto_region 3 with (first
    | (go_at_call 8; refine HP.out.mono ?_; rintro e w2 ⟨A2, n2, c2, B2, b2, d2, D2, m2, f2, rfl, hb2⟩)
    | (refine wpList_store_new rfl _ _ _ rfl _ (mesC zeroM (.slice A2 n2 c2) (.slice B2 b2 d2) (.slice D2 m2 f2)) rfl rfl _ _ mesInfo rfl (mesC_ones _ _ _ _ _ _ _ _ _ _) ?_))
  have hb3 := below_new w2 (.cells (mesC zeroM (.slice A2 n2 c2) (.slice B2 b2 d2) (.slice D2 m2 f2)) 40)
  have hbw := nxt (nxt hb1 hb2) hb3
  refine name_world (fun w3 hw3 => ?_)
  rw [← hw3] at hbw
  clear hw3 hb3 hb2 hb1 HP
  go_wp2
  go_ret
  exact ⟨rfl, hbw⟩
end Go.Proofs.YtgmejaiifibfoaaDoor
