/-
  May a message have this set: by the code.
-/
import Derived.Test.YtgmejaiifibfoaaDoorMayM
import Derived.Test.YtgmejaiifibfoaaDoorProvM
import Derived.Test.YtgmejaiifibfoaaDoorB2
set_option linter.unusedSimpArgs false
set_option linter.unusedVariables false
set_option maxRecDepth 10000
namespace Go.Proofs.YtgmejaiifibfoaaDoor
open Go.RowKit Go.Maps Go.Lib
open L3 (Blk Reads)
open L11 (Crt zeroC crtL crtC mayV okW okW_mk okW_not crtInfo crtC_ones endV)

set_option maxHeartbeats 2000000 in
set_option maxRecDepth 100000 in
theorem may_E0 (k : Int) (n : Int) (s : Nat) (w : World) (h0 : okW n 1 1048576 = false) : Calls Tryd.prog 25 #[.int .i64 k, .iface 77 (.agg #[.int .i64 n, .int .u32 s])] w (gives (.bool false) w) := by
  have asB := as_EB
  have asC := as_EC
  have asT := as_ET
  have asP := as_EP
  have asX := as_EX
  have asI := as_EI
  have asE := as_EE
  have hb0 := below_new w (.cells (crtC zeroC) 24)
  go_enter Tryd.func25, Tryd.ntmps25
  go_upto_region 2 with (refine wpList_store_new rfl _ _ _ rfl _ (crtC zeroC) rfl rfl _ _ crtInfo rfl (crtC_ones _) ?_)
  refine name_world (fun w1 hw1 => ?_)
  rw [← hw1] at hb0
  clear hw1
  go_upto_region 25 with (refine wpList_store_new rfl _ _ _ rfl _ #[.int .i64 n, .int .u32 s] rfl rfl _ _ (ele2Info _ _) rfl rfl ?_)
  have k2 : Blk (w1.alloc (.cells #[.int .i64 n, .int .u32 s] 77)) w1.heap.size 77 #[.int .i64 n, .int .u32 s] := Blk.new _ _ _
  have hb1 := nxt hb0 (below_new w1 (.cells #[.int .i64 n, .int .u32 s] 77))
  obtain ⟨G, hG⟩ : ∃ G, G = w1.heap.size := ⟨_, rfl⟩
  rw [← hG] at k2
  rw [← hG]
  refine name_world (fun w2 hw2 => ?_)
  rw [← hw2] at k2 hb1
  clear hw2 hG
  have c0 : w2.cell? ⟨G, 0, none⟩ = some (.int .i64 n) := k2.cell 0
  have c1 : w2.cell? ⟨G, 1, none⟩ = some (.int .u32 s) := k2.cell 1
  go_wp2_with (first
    | (go_at_call 47; refine (viewM_is _ _ _ h0).mono ?_; rintro e w3 ⟨rfl, rfl⟩)
    | (go_at_call 48; refine (hq2 _).mono ?_; rintro e w3 ⟨rfl, rfl⟩))
  go_ret
  exact ⟨rfl, hb1⟩
set_option maxHeartbeats 2000000 in
set_option maxRecDepth 100000 in
theorem may_E1 (k : Int) (n : Int) (s : Nat) (w : World) (h0 : okW n 1 1048576 = true) (z : s = 0) : Calls Tryd.prog 25 #[.int .i64 k, .iface 77 (.agg #[.int .i64 n, .int .u32 s])] w (gives (.bool false) w) := by
  have q : ((s : Int) != 0) = false := by subst z; rfl
  clear z
  have asB := as_EB
  have asC := as_EC
  have asT := as_ET
  have asP := as_EP
  have asX := as_EX
  have asI := as_EI
  have asE := as_EE
  have hb0 := below_new w (.cells (crtC zeroC) 24)
  go_enter Tryd.func25, Tryd.ntmps25
  go_upto_region 2 with (refine wpList_store_new rfl _ _ _ rfl _ (crtC zeroC) rfl rfl _ _ crtInfo rfl (crtC_ones _) ?_)
  refine name_world (fun w1 hw1 => ?_)
  rw [← hw1] at hb0
  clear hw1
  go_upto_region 25 with (refine wpList_store_new rfl _ _ _ rfl _ #[.int .i64 n, .int .u32 s] rfl rfl _ _ (ele2Info _ _) rfl rfl ?_)
  have k2 : Blk (w1.alloc (.cells #[.int .i64 n, .int .u32 s] 77)) w1.heap.size 77 #[.int .i64 n, .int .u32 s] := Blk.new _ _ _
  have hb1 := nxt hb0 (below_new w1 (.cells #[.int .i64 n, .int .u32 s] 77))
  obtain ⟨G, hG⟩ : ∃ G, G = w1.heap.size := ⟨_, rfl⟩
  rw [← hG] at k2
  rw [← hG]
  refine name_world (fun w2 hw2 => ?_)
  rw [← hw2] at k2 hb1
  clear hw2 hG
  have c0 : w2.cell? ⟨G, 0, none⟩ = some (.int .i64 n) := k2.cell 0
  have c1 : w2.cell? ⟨G, 1, none⟩ = some (.int .u32 s) := k2.cell 1
  go_wp2_with (first
    | (go_at_call 47; refine (viewM_is _ _ _ h0).mono ?_; rintro e w3 ⟨rfl, rfl⟩)
    | (go_at_call 48; refine (hq2 _).mono ?_; rintro e w3 ⟨rfl, rfl⟩))
  go_ret
  exact ⟨rfl, hb1⟩
set_option maxHeartbeats 2000000 in
set_option maxRecDepth 100000 in
theorem may_E2 (k : Int) (n : Int) (s : Nat) (w : World) (h0 : okW n 1 1048576 = true) (z : s ≠ 0) (hs : s < 4294967296) (y : s < 1024) : Calls Tryd.prog 25 #[.int .i64 k, .iface 77 (.agg #[.int .i64 n, .int .u32 s])] w (gives (.bool true) w) := by
  have q : ((s : Int) != 0) = true := by simpa using z
  have hq2 := fun W => L4.check_any 3 s W hs
  rw [set_ok s hs, if_pos y] at hq2
  clear z y hs
  have asB := as_EB
  have asC := as_EC
  have asT := as_ET
  have asP := as_EP
  have asX := as_EX
  have asI := as_EI
  have asE := as_EE
  have hb0 := below_new w (.cells (crtC zeroC) 24)
  go_enter Tryd.func25, Tryd.ntmps25
  go_upto_region 2 with (refine wpList_store_new rfl _ _ _ rfl _ (crtC zeroC) rfl rfl _ _ crtInfo rfl (crtC_ones _) ?_)
  refine name_world (fun w1 hw1 => ?_)
  rw [← hw1] at hb0
  clear hw1
  go_upto_region 25 with (refine wpList_store_new rfl _ _ _ rfl _ #[.int .i64 n, .int .u32 s] rfl rfl _ _ (ele2Info _ _) rfl rfl ?_)
  have k2 : Blk (w1.alloc (.cells #[.int .i64 n, .int .u32 s] 77)) w1.heap.size 77 #[.int .i64 n, .int .u32 s] := Blk.new _ _ _
  have hb1 := nxt hb0 (below_new w1 (.cells #[.int .i64 n, .int .u32 s] 77))
  obtain ⟨G, hG⟩ : ∃ G, G = w1.heap.size := ⟨_, rfl⟩
  rw [← hG] at k2
  rw [← hG]
  refine name_world (fun w2 hw2 => ?_)
  rw [← hw2] at k2 hb1
  clear hw2 hG
  have c0 : w2.cell? ⟨G, 0, none⟩ = some (.int .i64 n) := k2.cell 0
  have c1 : w2.cell? ⟨G, 1, none⟩ = some (.int .u32 s) := k2.cell 1
  go_wp2_with (first
    | (go_at_call 47; refine (viewM_is _ _ _ h0).mono ?_; rintro e w3 ⟨rfl, rfl⟩)
    | (go_at_call 48; refine (hq2 _).mono ?_; rintro e w3 ⟨rfl, rfl⟩))
  go_ret
  exact ⟨rfl, hb1⟩
set_option maxHeartbeats 2000000 in
set_option maxRecDepth 100000 in
theorem may_E3 (k : Int) (n : Int) (s : Nat) (w : World) (h0 : okW n 1 1048576 = true) (z : s ≠ 0) (hs : s < 4294967296) (y : ¬ s < 1024) : Calls Tryd.prog 25 #[.int .i64 k, .iface 77 (.agg #[.int .i64 n, .int .u32 s])] w (gives (.bool false) w) := by
  have q : ((s : Int) != 0) = true := by simpa using z
  have hq2 := fun W => L4.check_any 3 s W hs
  rw [set_ok s hs, if_neg y] at hq2
  clear z y hs
  have asB := as_EB
  have asC := as_EC
  have asT := as_ET
  have asP := as_EP
  have asX := as_EX
  have asI := as_EI
  have asE := as_EE
  have hb0 := below_new w (.cells (crtC zeroC) 24)
  go_enter Tryd.func25, Tryd.ntmps25
  go_upto_region 2 with (refine wpList_store_new rfl _ _ _ rfl _ (crtC zeroC) rfl rfl _ _ crtInfo rfl (crtC_ones _) ?_)
  refine name_world (fun w1 hw1 => ?_)
  rw [← hw1] at hb0
  clear hw1
  go_upto_region 25 with (refine wpList_store_new rfl _ _ _ rfl _ #[.int .i64 n, .int .u32 s] rfl rfl _ _ (ele2Info _ _) rfl rfl ?_)
  have k2 : Blk (w1.alloc (.cells #[.int .i64 n, .int .u32 s] 77)) w1.heap.size 77 #[.int .i64 n, .int .u32 s] := Blk.new _ _ _
  have hb1 := nxt hb0 (below_new w1 (.cells #[.int .i64 n, .int .u32 s] 77))
  obtain ⟨G, hG⟩ : ∃ G, G = w1.heap.size := ⟨_, rfl⟩
  rw [← hG] at k2
  rw [← hG]
  refine name_world (fun w2 hw2 => ?_)
  rw [← hw2] at k2 hb1
  clear hw2 hG
  have c0 : w2.cell? ⟨G, 0, none⟩ = some (.int .i64 n) := k2.cell 0
  have c1 : w2.cell? ⟨G, 1, none⟩ = some (.int .u32 s) := k2.cell 1
  go_wp2_with (first
    | (go_at_call 47; refine (viewM_is _ _ _ h0).mono ?_; rintro e w3 ⟨rfl, rfl⟩)
    | (go_at_call 48; refine (hq2 _).mono ?_; rintro e w3 ⟨rfl, rfl⟩))
  go_ret
  exact ⟨rfl, hb1⟩
theorem may_E (k : Int) (n : Int) (s : Nat) (w : World) (hs : s < 4294967296) : Calls Tryd.prog 25 #[.int .i64 k, .iface 77 (.agg #[.int .i64 n, .int .u32 s])] w (gives (.bool (okW n 1 1048576 && decide (1 ≤ s ∧ s ≤ 1023))) w) := by
  rcases (Bool.eq_false_or_eq_true (okW n 1 1048576)).symm with h | h
  · rw [h]; exact may_E0 k n s w h
  rw [h]
  by_cases z : s = 0
  · rw [decide_eq_false (by omega)]; exact may_E1 k n s w h z
  by_cases y : s < 1024
  · rw [decide_eq_true (by omega)]; exact may_E2 k n s w h z hs y
  · rw [decide_eq_false (by omega)]; exact may_E3 k n s w h z hs y
theorem mayM_any (k : Int) (p : Pt) (v : Value) (w : World) (hk : kindP k p) (hv : PtIs w p v) (hw : PtWf p) (hT : Tabs w) : Calls Tryd.prog 25 #[.int .i64 k, v] w (gives (.bool (mayP k p)) w) := by
  cases p
  case blk b => obtain ⟨P, T, rfl, hl⟩ := hv; exact may_B k b P T w hw hl hT
  case crt c =>
    obtain rfl : v = _ := hv
    have := may_C k c w hw
    rw [← cer_suits hk c] at this
    exact this
  case tmo t => obtain rfl : v = _ := hv; exact may_T k t w hw
  case prf l => obtain ⟨A, c, rfl, hr⟩ := hv; exact may_P k l A c w hw.1 (by have := hw.2; omega) hr
  case inv s n => obtain rfl : v = _ := hv; exact may_I k s n w
  case ele n s => obtain rfl : v = _ := hv; exact may_E k n s w hw.2
  case wan s n => obtain rfl : v = _ := hv; exact may_W k s n w
  case txx t => obtain rfl : v = _ := hv; exact may_X k t w hw hT
  case non => obtain rfl : v = _ := hv; exact may_N k w
end Go.Proofs.YtgmejaiifibfoaaDoor
