/-
  What a message has, by the code.
-/
import Derived.Test.YtgmejaiifibfoaaDoorMv
import Derived.Test.YtgmejaiifibfoaaDoorAs
set_option linter.unusedSimpArgs false
set_option linter.unusedVariables false
set_option maxRecDepth 10000
namespace Go.Proofs.YtgmejaiifibfoaaDoor
open Go.RowKit Go.Maps Go.Lib
open L3 (Blk Reads)
open L11 (Crt zeroC crtL crtC mayV okW crtInfo crtC_ones)

theorem build_inv (a b : Int) (w : World) : (Instr.build 75 #[(0, .int .i64 a), (1, .int .i64 b)]).run Tryd.prog w = .ok (.agg #[.int .i64 a, .int .i64 b]) w := run_build w _ _ _ (by kernel_rfl)
theorem build_ele (a : Int) (b : Int) (w : World) : (Instr.build 77 #[(0, .int .i64 a), (1, .int .u32 b)]).run Tryd.prog w = .ok (.agg #[.int .i64 a, .int .u32 b]) w := run_build w _ _ _ (by kernel_rfl)
theorem build_wan (a b : Int) (w : World) : (Instr.build 79 #[(0, .int .i64 a), (1, .int .i64 b)]).run Tryd.prog w = .ok (.agg #[.int .i64 a, .int .i64 b]) w := run_build w _ _ _ (by kernel_rfl)
theorem txInfoL (t : Txx) : (Tryd.prog.info? 32).map (·.size) = some (txL t).length := by kernel_rfl
theorem bloInfoL (b : Blo) (P T : Value) : (Tryd.prog.info? 30).map (·.size) = some (bloL b P T).length := by kernel_rfl
theorem tmInfoL (t : Tmo) : (Tryd.prog.info? 26).map (·.size) = some (tmL t).length := by kernel_rfl
theorem part_1 (m : Mes) (P Q T : Value) (w : World) (hk : m.kind = 1) : Calls Tryd.prog 16 #[.agg (mesC m P Q T)] w (gives (.iface 30 (.agg (bloC m.block Q T))) w) := by
  have k0 := mes_new w 40 m P Q T
  have hb0 := below_new w (.cells (mesC m P Q T) 40)
  have c0 : (w.alloc (.cells (mesC m P Q T) 40)).cell? ⟨w.heap.size, 0, none⟩ = some (.int .i64 1) := by rw [← hk]; exact k0.cell 0
  have hB := mes_blo k0
  clear k0 hk
  go_enter Tryd.func16, Tryd.ntmps16
  go_wp2_with (refine wpList_cells_at rfl _ _ rfl ⟨w.heap.size, 24, none⟩ rfl (bloL m.block Q T) _ hB Tryd.underlying30 rfl (bloInfoL _ _ _) ?_)
  go_ret
  exact ⟨rfl, hb0⟩
theorem part_9 (m : Mes) (P Q T : Value) (w : World) (hk : m.kind = 9) : Calls Tryd.prog 16 #[.agg (mesC m P Q T)] w (gives (.iface 30 (.agg (bloC m.block Q T))) w) := by
  have k0 := mes_new w 40 m P Q T
  have hb0 := below_new w (.cells (mesC m P Q T) 40)
  have c0 : (w.alloc (.cells (mesC m P Q T) 40)).cell? ⟨w.heap.size, 0, none⟩ = some (.int .i64 9) := by rw [← hk]; exact k0.cell 0
  have hB := mes_blo k0
  clear k0 hk
  go_enter Tryd.func16, Tryd.ntmps16
  go_wp2_with (refine wpList_cells_at rfl _ _ rfl ⟨w.heap.size, 24, none⟩ rfl (bloL m.block Q T) _ hB Tryd.underlying30 rfl (bloInfoL _ _ _) ?_)
  go_ret
  exact ⟨rfl, hb0⟩
theorem part_2 (m : Mes) (P Q T : Value) (w : World) (hk : m.kind = 2) : Calls Tryd.prog 16 #[.agg (mesC m P Q T)] w (gives (.iface 24 (.agg (crtC m.cert))) w) := by
  have k0 := mes_new w 40 m P Q T
  have hb0 := below_new w (.cells (mesC m P Q T) 40)
  have c0 : (w.alloc (.cells (mesC m P Q T) 40)).cell? ⟨w.heap.size, 0, none⟩ = some (.int .i64 2) := by rw [← hk]; exact k0.cell 0
  have hB := mes_crt k0
  clear k0 hk
  go_enter Tryd.func16, Tryd.ntmps16
  go_wp2_with (refine wpList_cells_at rfl _ _ rfl ⟨w.heap.size, 5, none⟩ rfl (crtL m.cert) _ hB Tryd.underlying24 rfl crtInfo ?_)
  go_ret
  exact ⟨rfl, hb0⟩
theorem part_5 (m : Mes) (P Q T : Value) (w : World) (hk : m.kind = 5) : Calls Tryd.prog 16 #[.agg (mesC m P Q T)] w (gives (.iface 24 (.agg (crtC m.cert))) w) := by
  have k0 := mes_new w 40 m P Q T
  have hb0 := below_new w (.cells (mesC m P Q T) 40)
  have c0 : (w.alloc (.cells (mesC m P Q T) 40)).cell? ⟨w.heap.size, 0, none⟩ = some (.int .i64 5) := by rw [← hk]; exact k0.cell 0
  have hB := mes_crt k0
  clear k0 hk
  go_enter Tryd.func16, Tryd.ntmps16
  go_wp2_with (refine wpList_cells_at rfl _ _ rfl ⟨w.heap.size, 5, none⟩ rfl (crtL m.cert) _ hB Tryd.underlying24 rfl crtInfo ?_)
  go_ret
  exact ⟨rfl, hb0⟩
theorem part_10 (m : Mes) (P Q T : Value) (w : World) (hk : m.kind = 10) : Calls Tryd.prog 16 #[.agg (mesC m P Q T)] w (gives (.iface 24 (.agg (crtC m.cert))) w) := by
  have k0 := mes_new w 40 m P Q T
  have hb0 := below_new w (.cells (mesC m P Q T) 40)
  have c0 : (w.alloc (.cells (mesC m P Q T) 40)).cell? ⟨w.heap.size, 0, none⟩ = some (.int .i64 10) := by rw [← hk]; exact k0.cell 0
  have hB := mes_crt k0
  clear k0 hk
  go_enter Tryd.func16, Tryd.ntmps16
  go_wp2_with (refine wpList_cells_at rfl _ _ rfl ⟨w.heap.size, 5, none⟩ rfl (crtL m.cert) _ hB Tryd.underlying24 rfl crtInfo ?_)
  go_ret
  exact ⟨rfl, hb0⟩
theorem part_3 (m : Mes) (P Q T : Value) (w : World) (hk : m.kind = 3) : Calls Tryd.prog 16 #[.agg (mesC m P Q T)] w (gives (.iface 26 (.agg (tmC m.tm))) w) := by
  have k0 := mes_new w 40 m P Q T
  have hb0 := below_new w (.cells (mesC m P Q T) 40)
  have c0 : (w.alloc (.cells (mesC m P Q T) 40)).cell? ⟨w.heap.size, 0, none⟩ = some (.int .i64 3) := by rw [← hk]; exact k0.cell 0
  have hB := mes_tmo k0
  clear k0 hk
  go_enter Tryd.func16, Tryd.ntmps16
  go_wp2_with (refine wpList_cells_at rfl _ _ rfl ⟨w.heap.size, 13, none⟩ rfl (tmL m.tm) _ hB Tryd.underlying26 rfl (tmInfoL _) ?_)
  go_ret
  exact ⟨rfl, hb0⟩
theorem part_4 (m : Mes) (P Q T : Value) (w : World) (hk : m.kind = 4) : Calls Tryd.prog 16 #[.agg (mesC m P Q T)] w (gives (.iface 27 P) w) := by
  have k0 := mes_new w 40 m P Q T
  have hb0 := below_new w (.cells (mesC m P Q T) 40)
  have c0 : (w.alloc (.cells (mesC m P Q T) 40)).cell? ⟨w.heap.size, 0, none⟩ = some (.int .i64 4) := by rw [← hk]; exact k0.cell 0
  have c23 : (w.alloc (.cells (mesC m P Q T) 40)).cell? ⟨w.heap.size, 23, none⟩ = some (P) := k0.cell 23
  clear k0 hk
  go_enter Tryd.func16, Tryd.ntmps16
  go_wp2
  go_ret
  exact ⟨rfl, hb0⟩
theorem part_6 (m : Mes) (P Q T : Value) (w : World) (hk : m.kind = 6) : Calls Tryd.prog 16 #[.agg (mesC m P Q T)] w (gives (.iface 75 (.agg #[.int .i64 m.signer, .int .i64 m.view])) w) := by
  have k0 := mes_new w 40 m P Q T
  have hb0 := below_new w (.cells (mesC m P Q T) 40)
  have c0 : (w.alloc (.cells (mesC m P Q T) 40)).cell? ⟨w.heap.size, 0, none⟩ = some (.int .i64 6) := by rw [← hk]; exact k0.cell 0
  have c1 : (w.alloc (.cells (mesC m P Q T) 40)).cell? ⟨w.heap.size, 1, none⟩ = some (.int .i64 m.signer) := k0.cell 1
  have c2 : (w.alloc (.cells (mesC m P Q T) 40)).cell? ⟨w.heap.size, 2, none⟩ = some (.int .i64 m.view) := k0.cell 2
  clear k0 hk
  go_enter Tryd.func16, Tryd.ntmps16
  go_wp2_with (refine wpList_build rfl _ _ rfl #[(0, .int .i64 m.signer), (1, .int .i64 m.view)] rfl (build_inv _ _ _) ?_)
  go_ret
  exact ⟨rfl, hb0⟩
theorem part_12 (m : Mes) (P Q T : Value) (w : World) (hk : m.kind = 12) : Calls Tryd.prog 16 #[.agg (mesC m P Q T)] w (gives (.iface 75 (.agg #[.int .i64 m.signer, .int .i64 m.view])) w) := by
  have k0 := mes_new w 40 m P Q T
  have hb0 := below_new w (.cells (mesC m P Q T) 40)
  have c0 : (w.alloc (.cells (mesC m P Q T) 40)).cell? ⟨w.heap.size, 0, none⟩ = some (.int .i64 12) := by rw [← hk]; exact k0.cell 0
  have c1 : (w.alloc (.cells (mesC m P Q T) 40)).cell? ⟨w.heap.size, 1, none⟩ = some (.int .i64 m.signer) := k0.cell 1
  have c2 : (w.alloc (.cells (mesC m P Q T) 40)).cell? ⟨w.heap.size, 2, none⟩ = some (.int .i64 m.view) := k0.cell 2
  clear k0 hk
  go_enter Tryd.func16, Tryd.ntmps16
  go_wp2_with (refine wpList_build rfl _ _ rfl #[(0, .int .i64 m.signer), (1, .int .i64 m.view)] rfl (build_inv _ _ _) ?_)
  go_ret
  exact ⟨rfl, hb0⟩
theorem part_7 (m : Mes) (P Q T : Value) (w : World) (hk : m.kind = 7) : Calls Tryd.prog 16 #[.agg (mesC m P Q T)] w (gives (.iface 77 (.agg #[.int .i64 m.view, .int .u32 m.set])) w) := by
  have k0 := mes_new w 40 m P Q T
  have hb0 := below_new w (.cells (mesC m P Q T) 40)
  have c0 : (w.alloc (.cells (mesC m P Q T) 40)).cell? ⟨w.heap.size, 0, none⟩ = some (.int .i64 7) := by rw [← hk]; exact k0.cell 0
  have c2 : (w.alloc (.cells (mesC m P Q T) 40)).cell? ⟨w.heap.size, 2, none⟩ = some (.int .i64 m.view) := k0.cell 2
  have c4 : (w.alloc (.cells (mesC m P Q T) 40)).cell? ⟨w.heap.size, 4, none⟩ = some (.int .u32 m.set) := k0.cell 4
  clear k0 hk
  go_enter Tryd.func16, Tryd.ntmps16
  go_wp2_with (refine wpList_build rfl _ _ rfl #[(0, .int .i64 m.view), (1, .int .u32 m.set)] rfl (build_ele _ _ _) ?_)
  go_ret
  exact ⟨rfl, hb0⟩
theorem part_8 (m : Mes) (P Q T : Value) (w : World) (hk : m.kind = 8) : Calls Tryd.prog 16 #[.agg (mesC m P Q T)] w (gives (.iface 79 (.agg #[.int .i64 m.signer, .int .i64 m.n])) w) := by
  have k0 := mes_new w 40 m P Q T
  have hb0 := below_new w (.cells (mesC m P Q T) 40)
  have c0 : (w.alloc (.cells (mesC m P Q T) 40)).cell? ⟨w.heap.size, 0, none⟩ = some (.int .i64 8) := by rw [← hk]; exact k0.cell 0
  have c1 : (w.alloc (.cells (mesC m P Q T) 40)).cell? ⟨w.heap.size, 1, none⟩ = some (.int .i64 m.signer) := k0.cell 1
  have c3 : (w.alloc (.cells (mesC m P Q T) 40)).cell? ⟨w.heap.size, 3, none⟩ = some (.int .i64 m.n) := k0.cell 3
  clear k0 hk
  go_enter Tryd.func16, Tryd.ntmps16
  go_wp2_with (refine wpList_build rfl _ _ rfl #[(0, .int .i64 m.signer), (1, .int .i64 m.n)] rfl (build_wan _ _ _) ?_)
  go_ret
  exact ⟨rfl, hb0⟩
theorem part_11 (m : Mes) (P Q T : Value) (w : World) (hk : m.kind = 11) : Calls Tryd.prog 16 #[.agg (mesC m P Q T)] w (gives (.iface 32 (.agg (txC m.tx))) w) := by
  have k0 := mes_new w 40 m P Q T
  have hb0 := below_new w (.cells (mesC m P Q T) 40)
  have c0 : (w.alloc (.cells (mesC m P Q T) 40)).cell? ⟨w.heap.size, 0, none⟩ = some (.int .i64 11) := by rw [← hk]; exact k0.cell 0
  have hB := mes_tx k0
  clear k0 hk
  go_enter Tryd.func16, Tryd.ntmps16
  go_wp2_with (refine wpList_cells_at rfl _ _ rfl ⟨w.heap.size, 38, none⟩ rfl (txL m.tx) _ hB Tryd.underlying32 rfl (txInfoL _) ?_)
  go_ret
  exact ⟨rfl, hb0⟩
theorem part_no (m : Mes) (P Q T : Value) (w : World) (h : partM m = .non) : Calls Tryd.prog 16 #[.agg (mesC m P Q T)] w (gives .nilIface w) := by
  have hk : m.kind ≠ 1 ∧ m.kind ≠ 9 ∧ m.kind ≠ 2 ∧ m.kind ≠ 5 ∧ m.kind ≠ 10 ∧ m.kind ≠ 3 ∧ m.kind ≠ 4 ∧ m.kind ≠ 6 ∧ m.kind ≠ 12 ∧ m.kind ≠ 7 ∧ m.kind ≠ 8 ∧ m.kind ≠ 11 := by
    unfold partM at h
    by_cases c1 : hasB m.kind
    · rw [if_pos c1] at h; cases h
    rw [if_neg c1] at h
    by_cases c2 : hasC m.kind
    · rw [if_pos c2] at h; cases h
    rw [if_neg c2] at h
    by_cases c3 : m.kind = 3
    · rw [if_pos c3] at h; cases h
    rw [if_neg c3] at h
    by_cases c4 : m.kind = 4
    · rw [if_pos c4] at h; cases h
    rw [if_neg c4] at h
    by_cases c5 : hasV m.kind
    · rw [if_pos c5] at h; cases h
    rw [if_neg c5] at h
    by_cases c6 : m.kind = 7
    · rw [if_pos c6] at h; cases h
    rw [if_neg c6] at h
    by_cases c7 : m.kind = 8
    · rw [if_pos c7] at h; cases h
    rw [if_neg c7] at h
    by_cases c8 : m.kind = 11
    · rw [if_pos c8] at h; cases h
    unfold hasB at c1
    unfold hasC at c2
    unfold hasV at c5
    omega
  have k0 := mes_new w 40 m P Q T
  have hb0 := below_new w (.cells (mesC m P Q T) 40)
  have c0 : (w.alloc (.cells (mesC m P Q T) 40)).cell? ⟨w.heap.size, 0, none⟩ = some (.int .i64 m.kind) := k0.cell 0
  have q1 : (m.kind == 1) = false := by have := hk.1; simpa using this
  have q9 : (m.kind == 9) = false := by have := hk.2.1; simpa using this
  have q2 : (m.kind == 2) = false := by have := hk.2.2.1; simpa using this
  have q5 : (m.kind == 5) = false := by have := hk.2.2.2.1; simpa using this
  have q10 : (m.kind == 10) = false := by have := hk.2.2.2.2.1; simpa using this
  have q3 : (m.kind == 3) = false := by have := hk.2.2.2.2.2.1; simpa using this
  have q4 : (m.kind == 4) = false := by have := hk.2.2.2.2.2.2.1; simpa using this
  have q6 : (m.kind == 6) = false := by have := hk.2.2.2.2.2.2.2.1; simpa using this
  have q12 : (m.kind == 12) = false := by have := hk.2.2.2.2.2.2.2.2.1; simpa using this
  have q7 : (m.kind == 7) = false := by have := hk.2.2.2.2.2.2.2.2.2.1; simpa using this
  have q8 : (m.kind == 8) = false := by have := hk.2.2.2.2.2.2.2.2.2.2.1; simpa using this
  have q11 : (m.kind == 11) = false := by have := hk.2.2.2.2.2.2.2.2.2.2.2; simpa using this
  clear k0 hk h
  go_enter Tryd.func16, Tryd.ntmps16
  go_wp2
  go_ret
  exact ⟨rfl, hb0⟩
/-- What part tells. -/
def parted (m : Mes) (w : World) (e : Ending) (w' : World) : Prop := ∃ v, e = .returned v ∧ PtIs w' (partM m) v ∧ Below w.heap.size w w'
theorem part_any (m : Mes) (P Q T : Value) (w : World) (hl : LiesM w m P Q T) : Calls Tryd.prog 16 #[.agg (mesC m P Q T)] w (parted m w) := by
  obtain ⟨A, c, rfl, hr, hlb⟩ := hl
  by_cases c1 : hasB m.kind
  · have e : partM m = .blk m.block := by unfold partM; rw [if_pos c1]
    have hx : ∀ W, Below w.heap.size w W → PtIs W (partM m) (.iface 30 (.agg (bloC m.block Q T))) := fun W hb => by rw [e]; exact ⟨Q, T, rfl, hlb.below hb⟩
    rcases c1 with h | h
    · exact (part_1 m _ Q T w h).mono fun e w' ⟨he, hb⟩ => ⟨_, he, hx _ hb, hb⟩
    · exact (part_9 m _ Q T w h).mono fun e w' ⟨he, hb⟩ => ⟨_, he, hx _ hb, hb⟩
  by_cases c2 : hasC m.kind
  · have e : partM m = .crt m.cert := by unfold partM; rw [if_neg c1, if_pos c2]
    have hx : ∀ W, PtIs W (partM m) (.iface 24 (.agg (crtC m.cert))) := fun W => by rw [e]; rfl
    rcases c2 with h | h | h
    · exact (part_2 m _ Q T w h).mono fun e w' ⟨he, hb⟩ => ⟨_, he, hx _, hb⟩
    · exact (part_5 m _ Q T w h).mono fun e w' ⟨he, hb⟩ => ⟨_, he, hx _, hb⟩
    · exact (part_10 m _ Q T w h).mono fun e w' ⟨he, hb⟩ => ⟨_, he, hx _, hb⟩
  by_cases c3 : m.kind = 3
  · have e : partM m = .tmo m.tm := by unfold partM; rw [if_neg c1, if_neg c2, if_pos c3]
    exact (part_3 m _ Q T w c3).mono fun e' w' ⟨he, hb⟩ => ⟨_, he, by rw [e]; rfl, hb⟩
  by_cases c4 : m.kind = 4
  · have e : partM m = .prf m.proof := by unfold partM; rw [if_neg c1, if_neg c2, if_neg c3, if_pos c4]
    exact (part_4 m _ Q T w c4).mono fun e' w' ⟨he, hb⟩ => ⟨_, he, by rw [e]; exact ⟨A, c, rfl, hr.below hb⟩, hb⟩
  by_cases c5 : hasV m.kind
  · have e : partM m = .inv m.signer m.view := by unfold partM; rw [if_neg c1, if_neg c2, if_neg c3, if_neg c4, if_pos c5]
    rcases c5 with h | h
    · exact (part_6 m _ Q T w h).mono fun e' w' ⟨he, hb⟩ => ⟨_, he, by rw [e]; rfl, hb⟩
    · exact (part_12 m _ Q T w h).mono fun e' w' ⟨he, hb⟩ => ⟨_, he, by rw [e]; rfl, hb⟩
  by_cases c6 : m.kind = 7
  · have e : partM m = .ele m.view m.set := by unfold partM; rw [if_neg c1, if_neg c2, if_neg c3, if_neg c4, if_neg c5, if_pos c6]
    exact (part_7 m _ Q T w c6).mono fun e' w' ⟨he, hb⟩ => ⟨_, he, by rw [e]; rfl, hb⟩
  by_cases c7 : m.kind = 8
  · have e : partM m = .wan m.signer m.n := by unfold partM; rw [if_neg c1, if_neg c2, if_neg c3, if_neg c4, if_neg c5, if_neg c6, if_pos c7]
    exact (part_8 m _ Q T w c7).mono fun e' w' ⟨he, hb⟩ => ⟨_, he, by rw [e]; rfl, hb⟩
  by_cases c8 : m.kind = 11
  · have e : partM m = .txx m.tx := by unfold partM; rw [if_neg c1, if_neg c2, if_neg c3, if_neg c4, if_neg c5, if_neg c6, if_neg c7, if_pos c8]
    exact (part_11 m _ Q T w c8).mono fun e' w' ⟨he, hb⟩ => ⟨_, he, by rw [e]; rfl, hb⟩
  have e : partM m = .non := by unfold partM; rw [if_neg c1, if_neg c2, if_neg c3, if_neg c4, if_neg c5, if_neg c6, if_neg c7, if_neg c8]
  exact (part_no m _ Q T w e).mono fun e' w' ⟨he, hb⟩ => ⟨_, he, by rw [e]; rfl, hb⟩
end Go.Proofs.YtgmejaiifibfoaaDoor
