/-
  Texts of one layer in one: MayM, MayE.
-/
import Derived.Test.YtgmejaiifibfoaaGreatDoorM2
import Derived.Test.YtgmejaiifibfoaaGreatDoorM3
import Derived.Test.YtgmejaiifibfoaaGreatDoorB2

/-
  May a message of a kind have this: by the code.
-/
set_option linter.unusedSimpArgs false
set_option linter.unusedVariables false
set_option maxRecDepth 10000
namespace Go.Proofs.YtgmejaiifibfoaaGreatDoor
open Go.RowKit Go.Maps Go.Lib
open L3 (Blk Reads)
open L11 (Crt zeroC crtL crtC mayV okW okW_mk okW_not crtInfo crtC_ones endV)

theorem inv2Info (a b : Value) : (Tryz.prog.info? 75).map (·.size) = some (#[a, b] : Array Value).size := by kernel_rfl
theorem ele2Info (a b : Value) : (Tryz.prog.info? 77).map (·.size) = some (#[a, b] : Array Value).size := by kernel_rfl
theorem wan2Info (a b : Value) : (Tryz.prog.info? 79).map (·.size) = some (#[a, b] : Array Value).size := by kernel_rfl
theorem eq0 {r : Int} {b : Bool} (h : decide (r = 0) = b) : (r == 0) = b := by rw [← h]; rfl
theorem set_ok (s : Nat) (h : s < 4294967296) : L4.checkV 3 s = if s < 1024 then 0 else 40 := by
  have e : (L4.more 3 3).toNat = 10 := by decide
  unfold L4.checkV
  rw [if_pos (by decide), e]
set_option maxHeartbeats 2000000 in
set_option maxRecDepth 100000 in
theorem may_B (k : Int) (b : Blo) (P T : Value) (w : World) (hw : b.wf) (hl : Lies w b P T) (hT : Tabs w) : Calls Tryz.prog 17 #[.int .i64 k, .iface 30 (.agg (bloC b P T))] w (gives (.bool (decide (checkV b = 0))) w) := by
  have hck := fun W (hb : Below w.heap.size w W) => checkB_any b P T W hw (hl.below hb) (hT.kept hb)
  obtain ⟨A, c, D, d, rfl, rfl, _, _⟩ := hl
  obtain ⟨r, hr⟩ : ∃ r, r = checkV b := ⟨_, rfl⟩
  rw [← hr] at hck ⊢
  obtain ⟨bb, hbb⟩ : ∃ bb, decide (r = 0) = bb := ⟨_, rfl⟩
  have q := eq0 hbb
  rw [hbb]
  have HC := Lib.hid hck
  clear hck hr hbb hT hw
  have asB := as_BB
  have asC := as_BC
  have hb0 := below_new w (.cells (crtC zeroC) 24)
  go_enter Tryz.func17, Tryz.ntmps17
  go_upto_region 2 with (refine wpList_store_new rfl _ _ _ rfl _ (crtC zeroC) rfl rfl _ _ crtInfo rfl (crtC_ones _) ?_)
  refine name_world (fun w1 hw1 => ?_)
  rw [← hw1] at hb0
  clear hw1
  go_upto_region 7 with (refine wpList_store_new rfl _ _ _ rfl _ (bloC b (.slice A b.proof.length c) (.slice D b.txs.length d)) rfl rfl _ _ bloInfo rfl (bloC_ones _ _ _ _ _ _ _) ?_)
  have k2 : Blk (w1.alloc (.cells (bloC b (.slice A b.proof.length c) (.slice D b.txs.length d)) 30)) w1.heap.size 30 (bloC b (.slice A b.proof.length c) (.slice D b.txs.length d)) := Blk.new _ _ _
  have hb1 := nxt hb0 (below_new w1 (.cells (bloC b (.slice A b.proof.length c) (.slice D b.txs.length d)) 30))
  obtain ⟨G, hG⟩ : ∃ G, G = w1.heap.size := ⟨_, rfl⟩
  rw [← hG] at k2
  rw [← hG]
  refine name_world (fun w2 hw2 => ?_)
  rw [← hw2] at k2 hb1
  clear hw2 hG
  have hC := HC.out w2 hb1
  go_wp2_with (first
    | (refine wpList_row_at rfl _ _ rfl G rfl _ _ _ _ k2 Tryz.underlying30 rfl bloInfo ?_)
    | (go_at_call 43; refine hC.mono ?_; unfold gives; rintro e w3 ⟨rfl, hb3⟩))
  go_ret
  exact ⟨rfl, nxt hb1 hb3⟩
set_option maxHeartbeats 2000000 in
set_option maxRecDepth 100000 in
theorem may_C (k : Int) (c : Crt) (w : World) (hw : c.wf) : Calls Tryz.prog 17 #[.int .i64 k, .iface 24 (.agg (crtC c))] w (gives (.bool (suitsV k c && mayV c)) w) := by
  have hsu := fun W => suits_any k c W hw
  have hck := fun W => L11.check_any c W hw
  have hR0 := L11.box_new w 24 c
  obtain ⟨b0, hb0'⟩ : ∃ b, suitsV k c = b := ⟨_, rfl⟩
  obtain ⟨b1, hb1'⟩ : ∃ b, mayV c = b := ⟨_, rfl⟩
  rw [hb0'] at hsu
  rw [hb1'] at hck
  rw [hb0', hb1']
  have HS := Lib.hid hsu
  have HC := Lib.hid hck
  clear hsu hck hb0' hb1' hw
  have asB := as_CB
  have asC := as_CC
  have hb0 := below_new w (.cells (crtC c) 24)
  cases b0
  · go_enter Tryz.func17, Tryz.ntmps17
    go_upto_region 2 with (refine wpList_store_new rfl _ _ _ rfl _ (crtC c) rfl rfl _ _ crtInfo rfl (crtC_ones _) ?_)
    refine name_world (fun w1 hw1 => ?_)
    rw [← hw1] at hb0 hR0
    clear hw1
    go_wp2_with (first
      | (refine wpList_row_at rfl _ _ rfl w.heap.size rfl _ _ _ _ hR0 Tryz.underlying24 rfl crtInfo ?_)
      | (go_at_call 42; refine (HS.out _).mono ?_; unfold gives; rintro e w3 ⟨rfl, hb3⟩))
    go_ret
    exact ⟨rfl, nxt hb0 hb3⟩
  · cases b1
    all_goals
      go_enter Tryz.func17, Tryz.ntmps17
      go_upto_region 2 with (refine wpList_store_new rfl _ _ _ rfl _ (crtC c) rfl rfl _ _ crtInfo rfl (crtC_ones _) ?_)
      refine name_world (fun w1 hw1 => ?_)
      rw [← hw1] at hb0 hR0
      clear hw1
      go_upto_region 10 with (first
        | (refine wpList_row_at rfl _ _ rfl w.heap.size rfl _ _ _ _ hR0 Tryz.underlying24 rfl crtInfo ?_)
        | (go_at_call 42; refine (HS.out _).mono ?_; unfold gives; rintro e w3 ⟨rfl, hb3⟩)
        | (refine wpList_store_new rfl _ _ _ rfl _ (crtC c) rfl rfl _ _ crtInfo rfl (crtC_ones _) ?_))
      have k2 := L11.box_new w3 24 c
      have hb4 := nxt (nxt hb0 hb3) (below_new w3 (.cells (crtC c) 24))
      obtain ⟨G, hG⟩ : ∃ G, G = w3.heap.size := ⟨_, rfl⟩
      rw [← hG] at k2
      rw [← hG]
      refine name_world (fun w4 hw4 => ?_)
      rw [← hw4] at k2 hb4
      clear hw4 hG
      go_wp2_with (first
        | (refine wpList_row_at rfl _ _ rfl G rfl _ _ _ _ k2 Tryz.underlying24 rfl crtInfo ?_)
        | (go_at_call 44; refine (HC.out _).mono ?_; unfold L11.gives L11.errI; rintro e w5 ⟨rfl, hb5⟩))
      go_ret
      exact ⟨rfl, nxt hb4 hb5⟩
set_option maxHeartbeats 2000000 in
set_option maxRecDepth 100000 in
theorem may_T (k : Int) (t : Tmo) (w : World) (hw : t.wf) : Calls Tryz.prog 17 #[.int .i64 k, .iface 26 (.agg (tmC t))] w (gives (.bool (tmoV t)) w) := by
  obtain ⟨b0, h0⟩ : ∃ b, tmoV t = b := ⟨_, rfl⟩
  have hck := fun W => timeout_is t b0 W hw h0
  rw [h0]
  have HC := Lib.hid hck
  clear hck h0 hw
  have asB := as_TB
  have asC := as_TC
  have asT := as_TT
  have hb0 := below_new w (.cells (crtC zeroC) 24)
  go_enter Tryz.func17, Tryz.ntmps17
  go_upto_region 2 with (refine wpList_store_new rfl _ _ _ rfl _ (crtC zeroC) rfl rfl _ _ crtInfo rfl (crtC_ones _) ?_)
  refine name_world (fun w1 hw1 => ?_)
  rw [← hw1] at hb0
  clear hw1
  go_upto_region 13 with (refine wpList_store_new rfl _ _ _ rfl _ (tmC t) rfl rfl _ _ tmInfo rfl (tmC_ones _) ?_)
  have k2 : Blk (w1.alloc (.cells (tmC t) 26)) w1.heap.size 26 (tmC t) := Blk.new _ _ _
  have hb1 := nxt hb0 (below_new w1 (.cells (tmC t) 26))
  obtain ⟨G, hG⟩ : ∃ G, G = w1.heap.size := ⟨_, rfl⟩
  rw [← hG] at k2
  rw [← hG]
  refine name_world (fun w2 hw2 => ?_)
  rw [← hw2] at k2 hb1
  clear hw2 hG
  have hC := HC.out w2
  cases b0
  all_goals
    go_wp2_with (first
      | (refine wpList_row_at rfl _ _ rfl G rfl _ _ _ _ k2 Tryz.underlying26 rfl tmInfo ?_)
      | (go_at_call 45; refine hC.mono ?_; unfold gives errI; rintro e w3 ⟨rfl, hb3⟩))
    go_ret
    exact ⟨rfl, nxt hb1 hb3⟩
set_option maxHeartbeats 2000000 in
set_option maxRecDepth 100000 in
theorem may_X (k : Int) (t : Txx) (w : World) (hw : t.wf 1000000) (hT : Tabs w) : Calls Tryz.prog 17 #[.int .i64 k, .iface 32 (.agg (txC t))] w (gives (.bool (right t)) w) := by
  obtain ⟨b0, h0⟩ : ∃ b, right t = b := ⟨_, rfl⟩
  have hck := fun W (hb : Below w.heap.size w W) => check_any t W hw (hT.kept hb)
  rw [h0] at hck
  rw [h0]
  have HC := Lib.hid hck
  clear hck h0 hw hT
  have asB := as_XB
  have asC := as_XC
  have asT := as_XT
  have asP := as_XP
  have asX := as_XX
  have hb0 := below_new w (.cells (crtC zeroC) 24)
  go_enter Tryz.func17, Tryz.ntmps17
  go_upto_region 2 with (refine wpList_store_new rfl _ _ _ rfl _ (crtC zeroC) rfl rfl _ _ crtInfo rfl (crtC_ones _) ?_)
  refine name_world (fun w1 hw1 => ?_)
  rw [← hw1] at hb0
  clear hw1
  go_upto_region 19 with (refine wpList_store_new rfl _ _ _ rfl _ (txC t) rfl rfl _ _ txInfo rfl (txC_ones _) ?_)
  have k2 : Blk (w1.alloc (.cells (txC t) 32)) w1.heap.size 32 (txC t) := Blk.new _ _ _
  have hb1 := nxt hb0 (below_new w1 (.cells (txC t) 32))
  obtain ⟨G, hG⟩ : ∃ G, G = w1.heap.size := ⟨_, rfl⟩
  rw [← hG] at k2
  rw [← hG]
  refine name_world (fun w2 hw2 => ?_)
  rw [← hw2] at k2 hb1
  clear hw2 hG
  have hC := HC.out w2 hb1
  cases b0
  all_goals
    go_wp2_with (first
      | (refine wpList_row_at rfl _ _ rfl G rfl _ _ _ _ k2 Tryz.underlying32 rfl txInfo ?_)
      | (go_at_call 47; refine hC.mono ?_; unfold gives errI; rintro e w3 ⟨rfl, hb3⟩))
    go_ret
    exact ⟨rfl, nxt hb1 hb3⟩
set_option maxHeartbeats 2000000 in
set_option maxRecDepth 100000 in
theorem may_P (k : Int) (l : List Tmo) (A : Option Addr) (c : Nat) (w : World) (hw : ∀ t ∈ l, t.wf) (hn : l.length ≤ 100000) (hr : Rd tmL 10 w A l) : Calls Tryz.prog 17 #[.int .i64 k, .iface 27 (.slice A l.length c)] w (gives (.bool (prfV l)) w) := by
  have hck := fun W (hb : Below w.heap.size w W) => proves_any A c l W hw hn (hr.below hb)
  obtain ⟨b0, h0⟩ : ∃ b, prfV l = b := ⟨_, rfl⟩
  rw [h0] at hck
  rw [h0]
  obtain ⟨n, hN⟩ : ∃ n, n = l.length := ⟨_, rfl⟩
  rw [← hN] at hck ⊢
  have HC := Lib.hid hck
  clear hck h0 hN hw hn hr
  have asB := as_PB
  have asC := as_PC
  have asT := as_PT
  have asP := as_PP
  have hb0 := below_new w (.cells (crtC zeroC) 24)
  go_enter Tryz.func17, Tryz.ntmps17
  go_upto_region 2 with (refine wpList_store_new rfl _ _ _ rfl _ (crtC zeroC) rfl rfl _ _ crtInfo rfl (crtC_ones _) ?_)
  refine name_world (fun w1 hw1 => ?_)
  rw [← hw1] at hb0
  clear hw1
  have hC := HC.out w1 hb0
  go_wp2_with (go_at_call 46; refine hC.mono ?_; unfold gives; rintro e w3 ⟨rfl, hb3⟩)
  go_ret
  exact ⟨rfl, nxt hb0 hb3⟩
set_option maxHeartbeats 2000000 in
set_option maxRecDepth 100000 in
theorem may_I (k : Int) (s n : Int) (w : World) : Calls Tryz.prog 17 #[.int .i64 k, .iface 75 (.agg #[.int .i64 s, .int .i64 n])] w (gives (.bool (okW s 0 9 && okW n 1 1048576)) w) := by
  obtain ⟨b0, h0⟩ : ∃ b, okW s 0 9 = b := ⟨_, rfl⟩
  obtain ⟨b1, h1⟩ : ∃ b, okW n 1 1048576 = b := ⟨_, rfl⟩
  rw [h0, h1]
  have H0 := Lib.hid h0
  have H1 := Lib.hid h1
  clear h0 h1
  have asB := as_IB
  have asC := as_IC
  have asT := as_IT
  have asP := as_IP
  have asX := as_IX
  have asI := as_II
  have hb0 := below_new w (.cells (crtC zeroC) 24)
  go_enter Tryz.func17, Tryz.ntmps17
  go_upto_region 2 with (refine wpList_store_new rfl _ _ _ rfl _ (crtC zeroC) rfl rfl _ _ crtInfo rfl (crtC_ones _) ?_)
  refine name_world (fun w1 hw1 => ?_)
  rw [← hw1] at hb0
  clear hw1
  go_upto_region 22 with (refine wpList_store_new rfl _ _ _ rfl _ #[.int .i64 s, .int .i64 n] rfl rfl _ _ (inv2Info _ _) rfl rfl ?_)
  have k2 : Blk (w1.alloc (.cells #[.int .i64 s, .int .i64 n] 75)) w1.heap.size 75 #[.int .i64 s, .int .i64 n] := Blk.new _ _ _
  have hb1 := nxt hb0 (below_new w1 (.cells #[.int .i64 s, .int .i64 n] 75))
  obtain ⟨G, hG⟩ : ∃ G, G = w1.heap.size := ⟨_, rfl⟩
  rw [← hG] at k2
  rw [← hG]
  refine name_world (fun w2 hw2 => ?_)
  rw [← hw2] at k2 hb1
  clear hw2 hG
  have c0 : w2.cell? ⟨G, 0, none⟩ = some (.int .i64 s) := k2.cell 0
  have c1 : w2.cell? ⟨G, 1, none⟩ = some (.int .i64 n) := k2.cell 1
  cases b0 <;> cases b1
  all_goals
    go_wp2_with (first
      | (go_at_call 48; refine (repM_is _ _ _ H0.out).mono ?_; rintro e w3 ⟨rfl, rfl⟩)
      | (go_at_call 49; refine (viewM_is _ _ _ H1.out).mono ?_; rintro e w3 ⟨rfl, rfl⟩))
    go_ret
    exact ⟨rfl, hb1⟩
set_option maxHeartbeats 2000000 in
set_option maxRecDepth 100000 in
theorem may_W (k : Int) (s n : Int) (w : World) : Calls Tryz.prog 17 #[.int .i64 k, .iface 79 (.agg #[.int .i64 s, .int .i64 n])] w (gives (.bool (okW s 0 9 && okW n 1 2147483647)) w) := by
  obtain ⟨b0, h0⟩ : ∃ b, okW s 0 9 = b := ⟨_, rfl⟩
  obtain ⟨b1, h1⟩ : ∃ b, okW n 1 2147483647 = b := ⟨_, rfl⟩
  rw [h0, h1]
  have H0 := Lib.hid h0
  have H1 := Lib.hid h1
  clear h0 h1
  have asB := as_WB
  have asC := as_WC
  have asT := as_WT
  have asP := as_WP
  have asX := as_WX
  have asI := as_WI
  have asE := as_WE
  have asW := as_WW
  have hb0 := below_new w (.cells (crtC zeroC) 24)
  go_enter Tryz.func17, Tryz.ntmps17
  go_upto_region 2 with (refine wpList_store_new rfl _ _ _ rfl _ (crtC zeroC) rfl rfl _ _ crtInfo rfl (crtC_ones _) ?_)
  refine name_world (fun w1 hw1 => ?_)
  rw [← hw1] at hb0
  clear hw1
  go_upto_region 28 with (refine wpList_store_new rfl _ _ _ rfl _ #[.int .i64 s, .int .i64 n] rfl rfl _ _ (wan2Info _ _) rfl rfl ?_)
  have k2 : Blk (w1.alloc (.cells #[.int .i64 s, .int .i64 n] 79)) w1.heap.size 79 #[.int .i64 s, .int .i64 n] := Blk.new _ _ _
  have hb1 := nxt hb0 (below_new w1 (.cells #[.int .i64 s, .int .i64 n] 79))
  obtain ⟨G, hG⟩ : ∃ G, G = w1.heap.size := ⟨_, rfl⟩
  rw [← hG] at k2
  rw [← hG]
  refine name_world (fun w2 hw2 => ?_)
  rw [← hw2] at k2 hb1
  clear hw2 hG
  have c0 : w2.cell? ⟨G, 0, none⟩ = some (.int .i64 s) := k2.cell 0
  have c1 : w2.cell? ⟨G, 1, none⟩ = some (.int .i64 n) := k2.cell 1
  cases b0 <;> cases b1
  all_goals
    go_wp2_with (first
      | (go_at_call 48; refine (repM_is _ _ _ H0.out).mono ?_; rintro e w3 ⟨rfl, rfl⟩)
      | (go_at_call 51; refine (withinM_is _ _ _ _ _ H1.out).mono ?_; rintro e w3 ⟨rfl, rfl⟩))
    go_ret
    exact ⟨rfl, hb1⟩
set_option maxHeartbeats 2000000 in
set_option maxRecDepth 100000 in
theorem may_N (k : Int)  (w : World) : Calls Tryz.prog 17 #[.int .i64 k, .nilIface] w (gives (.bool false) w) := by
  have asB := as_NB
  have asC := as_NC
  have asT := as_NT
  have asP := as_NP
  have asX := as_NX
  have asI := as_NI
  have asE := as_NE
  have asW := as_NW
  have hb0 := below_new w (.cells (crtC zeroC) 24)
  go_enter Tryz.func17, Tryz.ntmps17
  go_upto_region 2 with (refine wpList_store_new rfl _ _ _ rfl _ (crtC zeroC) rfl rfl _ _ crtInfo rfl (crtC_ones _) ?_)
  go_wp2
  go_ret
  exact ⟨rfl, hb0⟩
end Go.Proofs.YtgmejaiifibfoaaGreatDoor

/-
  May a message have this set: by the code.
-/
set_option linter.unusedSimpArgs false
set_option linter.unusedVariables false
set_option maxRecDepth 10000
namespace Go.Proofs.YtgmejaiifibfoaaGreatDoor
open Go.RowKit Go.Maps Go.Lib
open L3 (Blk Reads)
open L11 (Crt zeroC crtL crtC mayV okW okW_mk okW_not crtInfo crtC_ones endV)

set_option maxHeartbeats 2000000 in
set_option maxRecDepth 100000 in
theorem may_E0 (k : Int) (n : Int) (s : Nat) (w : World) (h0 : okW n 1 1048576 = false) : Calls Tryz.prog 17 #[.int .i64 k, .iface 77 (.agg #[.int .i64 n, .int .u32 s])] w (gives (.bool false) w) := by
  have asB := as_EB
  have asC := as_EC
  have asT := as_ET
  have asP := as_EP
  have asX := as_EX
  have asI := as_EI
  have asE := as_EE
  have hb0 := below_new w (.cells (crtC zeroC) 24)
  go_enter Tryz.func17, Tryz.ntmps17
  go_upto_region 2 with (refine wpList_store_new rfl _ _ _ rfl _ (crtC zeroC) rfl rfl _ _ crtInfo rfl (crtC_ones _) ?_)
  refine name_world (fun w1 hw1 => ?_)
  rw [← hw1] at hb0
  clear hw1
  go_upto_region 25 with (refine wpList_store_new rfl _ _ _ rfl _ #[.int .i64 n, .int .u32 s] rfl rfl _ _ (ele2Info _ _) rfl rfl ?_)
  have k2 : Blk (w1.alloc (.cells #[.int .i64 n, .int .u32 s] 77)) w1.heap.size 77 #[.int .i64 n, .int .u32 s] := Blk.new _ _ _
  have hb1 := nxt hb0 (below_new w1 (.cells #[.int .i64 n, .int .u32 s] 77))
  obtain ⟨G, hG⟩ : ∃ G, G = w1.heap.size := ⟨_, rfl⟩
  rw [← hG] at k2
  rw [← hG]
  refine name_world (fun w2 hw2 => ?_)
  rw [← hw2] at k2 hb1
  clear hw2 hG
  have c0 : w2.cell? ⟨G, 0, none⟩ = some (.int .i64 n) := k2.cell 0
  have c1 : w2.cell? ⟨G, 1, none⟩ = some (.int .u32 s) := k2.cell 1
  go_wp2_with (first
    | (go_at_call 49; refine (viewM_is _ _ _ h0).mono ?_; rintro e w3 ⟨rfl, rfl⟩)
    | (go_at_call 50; refine (hq2 _).mono ?_; rintro e w3 ⟨rfl, rfl⟩))
  go_ret
  exact ⟨rfl, hb1⟩
set_option maxHeartbeats 2000000 in
set_option maxRecDepth 100000 in
theorem may_E1 (k : Int) (n : Int) (s : Nat) (w : World) (h0 : okW n 1 1048576 = true) (z : s = 0) : Calls Tryz.prog 17 #[.int .i64 k, .iface 77 (.agg #[.int .i64 n, .int .u32 s])] w (gives (.bool false) w) := by
  have q : ((s : Int) != 0) = false := by subst z; rfl
  clear z
  have asB := as_EB
  have asC := as_EC
  have asT := as_ET
  have asP := as_EP
  have asX := as_EX
  have asI := as_EI
  have asE := as_EE
  have hb0 := below_new w (.cells (crtC zeroC) 24)
  go_enter Tryz.func17, Tryz.ntmps17
  go_upto_region 2 with (refine wpList_store_new rfl _ _ _ rfl _ (crtC zeroC) rfl rfl _ _ crtInfo rfl (crtC_ones _) ?_)
  refine name_world (fun w1 hw1 => ?_)
  rw [← hw1] at hb0
  clear hw1
  go_upto_region 25 with (refine wpList_store_new rfl _ _ _ rfl _ #[.int .i64 n, .int .u32 s] rfl rfl _ _ (ele2Info _ _) rfl rfl ?_)
  have k2 : Blk (w1.alloc (.cells #[.int .i64 n, .int .u32 s] 77)) w1.heap.size 77 #[.int .i64 n, .int .u32 s] := Blk.new _ _ _
  have hb1 := nxt hb0 (below_new w1 (.cells #[.int .i64 n, .int .u32 s] 77))
  obtain ⟨G, hG⟩ : ∃ G, G = w1.heap.size := ⟨_, rfl⟩
  rw [← hG] at k2
  rw [← hG]
  refine name_world (fun w2 hw2 => ?_)
  rw [← hw2] at k2 hb1
  clear hw2 hG
  have c0 : w2.cell? ⟨G, 0, none⟩ = some (.int .i64 n) := k2.cell 0
  have c1 : w2.cell? ⟨G, 1, none⟩ = some (.int .u32 s) := k2.cell 1
  go_wp2_with (first
    | (go_at_call 49; refine (viewM_is _ _ _ h0).mono ?_; rintro e w3 ⟨rfl, rfl⟩)
    | (go_at_call 50; refine (hq2 _).mono ?_; rintro e w3 ⟨rfl, rfl⟩))
  go_ret
  exact ⟨rfl, hb1⟩
set_option maxHeartbeats 2000000 in
set_option maxRecDepth 100000 in
theorem may_E2 (k : Int) (n : Int) (s : Nat) (w : World) (h0 : okW n 1 1048576 = true) (z : s ≠ 0) (hs : s < 4294967296) (y : s < 1024) : Calls Tryz.prog 17 #[.int .i64 k, .iface 77 (.agg #[.int .i64 n, .int .u32 s])] w (gives (.bool true) w) := by
  have q : ((s : Int) != 0) = true := by simpa using z
  have hq2 := fun W => L4.check_any 3 s W hs
  rw [set_ok s hs, if_pos y] at hq2
  clear z y hs
  have asB := as_EB
  have asC := as_EC
  have asT := as_ET
  have asP := as_EP
  have asX := as_EX
  have asI := as_EI
  have asE := as_EE
  have hb0 := below_new w (.cells (crtC zeroC) 24)
  go_enter Tryz.func17, Tryz.ntmps17
  go_upto_region 2 with (refine wpList_store_new rfl _ _ _ rfl _ (crtC zeroC) rfl rfl _ _ crtInfo rfl (crtC_ones _) ?_)
  refine name_world (fun w1 hw1 => ?_)
  rw [← hw1] at hb0
  clear hw1
  go_upto_region 25 with (refine wpList_store_new rfl _ _ _ rfl _ #[.int .i64 n, .int .u32 s] rfl rfl _ _ (ele2Info _ _) rfl rfl ?_)
  have k2 : Blk (w1.alloc (.cells #[.int .i64 n, .int .u32 s] 77)) w1.heap.size 77 #[.int .i64 n, .int .u32 s] := Blk.new _ _ _
  have hb1 := nxt hb0 (below_new w1 (.cells #[.int .i64 n, .int .u32 s] 77))
  obtain ⟨G, hG⟩ : ∃ G, G = w1.heap.size := ⟨_, rfl⟩
  rw [← hG] at k2
  rw [← hG]
  refine name_world (fun w2 hw2 => ?_)
  rw [← hw2] at k2 hb1
  clear hw2 hG
  have c0 : w2.cell? ⟨G, 0, none⟩ = some (.int .i64 n) := k2.cell 0
  have c1 : w2.cell? ⟨G, 1, none⟩ = some (.int .u32 s) := k2.cell 1
  go_wp2_with (first
    | (go_at_call 49; refine (viewM_is _ _ _ h0).mono ?_; rintro e w3 ⟨rfl, rfl⟩)
    | (go_at_call 50; refine (hq2 _).mono ?_; rintro e w3 ⟨rfl, rfl⟩))
  go_ret
  exact ⟨rfl, hb1⟩
set_option maxHeartbeats 2000000 in
set_option maxRecDepth 100000 in
theorem may_E3 (k : Int) (n : Int) (s : Nat) (w : World) (h0 : okW n 1 1048576 = true) (z : s ≠ 0) (hs : s < 4294967296) (y : ¬ s < 1024) : Calls Tryz.prog 17 #[.int .i64 k, .iface 77 (.agg #[.int .i64 n, .int .u32 s])] w (gives (.bool false) w) := by
  have q : ((s : Int) != 0) = true := by simpa using z
  have hq2 := fun W => L4.check_any 3 s W hs
  rw [set_ok s hs, if_neg y] at hq2
  clear z y hs
  have asB := as_EB
  have asC := as_EC
  have asT := as_ET
  have asP := as_EP
  have asX := as_EX
  have asI := as_EI
  have asE := as_EE
  have hb0 := below_new w (.cells (crtC zeroC) 24)
  go_enter Tryz.func17, Tryz.ntmps17
  go_upto_region 2 with (refine wpList_store_new rfl _ _ _ rfl _ (crtC zeroC) rfl rfl _ _ crtInfo rfl (crtC_ones _) ?_)
  refine name_world (fun w1 hw1 => ?_)
  rw [← hw1] at hb0
  clear hw1
  go_upto_region 25 with (refine wpList_store_new rfl _ _ _ rfl _ #[.int .i64 n, .int .u32 s] rfl rfl _ _ (ele2Info _ _) rfl rfl ?_)
  have k2 : Blk (w1.alloc (.cells #[.int .i64 n, .int .u32 s] 77)) w1.heap.size 77 #[.int .i64 n, .int .u32 s] := Blk.new _ _ _
  have hb1 := nxt hb0 (below_new w1 (.cells #[.int .i64 n, .int .u32 s] 77))
  obtain ⟨G, hG⟩ : ∃ G, G = w1.heap.size := ⟨_, rfl⟩
  rw [← hG] at k2
  rw [← hG]
  refine name_world (fun w2 hw2 => ?_)
  rw [← hw2] at k2 hb1
  clear hw2 hG
  have c0 : w2.cell? ⟨G, 0, none⟩ = some (.int .i64 n) := k2.cell 0
  have c1 : w2.cell? ⟨G, 1, none⟩ = some (.int .u32 s) := k2.cell 1
  go_wp2_with (first
    | (go_at_call 49; refine (viewM_is _ _ _ h0).mono ?_; rintro e w3 ⟨rfl, rfl⟩)
    | (go_at_call 50; refine (hq2 _).mono ?_; rintro e w3 ⟨rfl, rfl⟩))
  go_ret
  exact ⟨rfl, hb1⟩
theorem may_E (k : Int) (n : Int) (s : Nat) (w : World) (hs : s < 4294967296) : Calls Tryz.prog 17 #[.int .i64 k, .iface 77 (.agg #[.int .i64 n, .int .u32 s])] w (gives (.bool (okW n 1 1048576 && decide (1 ≤ s ∧ s ≤ 1023))) w) := by
  rcases (Bool.eq_false_or_eq_true (okW n 1 1048576)).symm with h | h
  · rw [h]; exact may_E0 k n s w h
  rw [h]
  by_cases z : s = 0
  · rw [decide_eq_false (by omega)]; exact may_E1 k n s w h z
  by_cases y : s < 1024
  · rw [decide_eq_true (by omega)]; exact may_E2 k n s w h z hs y
  · rw [decide_eq_false (by omega)]; exact may_E3 k n s w h z hs y
theorem mayM_any (k : Int) (p : Pt) (v : Value) (w : World) (hk : kindP k p) (hv : PtIs w p v) (hw : PtWf p) (hT : Tabs w) : Calls Tryz.prog 17 #[.int .i64 k, v] w (gives (.bool (mayP k p)) w) := by
  cases p
  case blk b => obtain ⟨P, T, rfl, hl⟩ := hv; exact may_B k b P T w hw hl hT
  case crt c =>
    obtain rfl : v = _ := hv
    have := may_C k c w hw
    rw [← cer_suits hk c] at this
    exact this
  case tmo t => obtain rfl : v = _ := hv; exact may_T k t w hw
  case prf l => obtain ⟨A, c, rfl, hr⟩ := hv; exact may_P k l A c w hw.1 (by have := hw.2; omega) hr
  case inv s n => obtain rfl : v = _ := hv; exact may_I k s n w
  case ele n s => obtain rfl : v = _ := hv; exact may_E k n s w hw.2
  case wan s n => obtain rfl : v = _ := hv; exact may_W k s n w
  case txx t => obtain rfl : v = _ := hv; exact may_X k t w hw hT
  case non => obtain rfl : v = _ := hv; exact may_N k w
end Go.Proofs.YtgmejaiifibfoaaGreatDoor
