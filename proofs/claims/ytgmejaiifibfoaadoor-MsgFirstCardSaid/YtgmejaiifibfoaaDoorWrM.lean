/-
  The bytes of what a message has, by the code: blocks, certificates, transactions, numbers.
-/
import Derived.Test.YtgmejaiifibfoaaDoorMayM
import Derived.Test.YtgmejaiifibfoaaDoorB3
import Derived.Test.YtgmejaiifibfoaaDoorFitM
set_option linter.unusedSimpArgs false
set_option linter.unusedVariables false
set_option maxRecDepth 10000
namespace Go.Proofs.YtgmejaiifibfoaaDoor
open Go.RowKit Go.Maps Go.Lib
open L3 (Blk Reads Owned encN encs intCells)
open L11 (Crt zeroC crtL crtC mayV bytesV okW crtInfo crtC_ones)

/-- A call that hands back bytes, and leaves all that was there. -/
def reads (l : List UInt8) (w : World) (e : Ending) (w' : World) : Prop := ∃ A c, e = .returned (.slice A l.length c) ∧ Reads w' w'.heap.size 1 A l.length (Lib.byteCells l) ∧ Below w.heap.size w w'
theorem owns_reads {l : List UInt8} {w : World} {e : Ending} {w' : World} (h : owns l w e w') : reads l w e w' := by
  obtain ⟨v, rfl, ho⟩ := h
  obtain ⟨A, c, rfl, hr, _⟩ := ho.form
  exact ⟨A, c, rfl, hr, ho.2.1⟩
theorem encs_two (a b : Int) : encs [a, b] = encN a.toNat ++ encN b.toNat := by simp [L3.encs]
theorem two_okN {a b : Int} (ha : 0 ≤ a ∧ a ≤ 4611686018427387904) (hb : 0 ≤ b ∧ b ≤ 4611686018427387904) : [a, b].all L3.okN = true := by simp [L3.okN_mk ha.1 ha.2, L3.okN_mk hb.1 hb.2]
set_option maxHeartbeats 4000000 in
set_option maxRecDepth 100000 in
theorem writ_B (b : Blo) (P T : Value) (w : World) (hw : b.wf) (hl : Lies w b P T) (hT : Tabs w) (h0 : checkV b = 0) : Calls Tryd.prog 15 #[.iface 30 (.agg (bloC b P T))] w (reads (bytesB b) w) := by
  have hck := fun W (hb : Below w.heap.size w W) => bytesB_ok b P T W hw (hl.below hb) (hT.kept hb) h0
  obtain ⟨A, c, D, d, rfl, rfl, _, _⟩ := hl
  obtain ⟨y, hy⟩ : ∃ y, y = bytesB b := ⟨_, rfl⟩
  rw [← hy] at hck ⊢
  have HC := Lib.hid hck
  clear hck hy h0 hT hw
  have asB := as_BB
  go_enter Tryd.func15, Tryd.ntmps15
  have k2 : Blk (w.alloc (.cells (bloC b (.slice A b.proof.length c) (.slice D b.txs.length d)) 30)) w.heap.size 30 (bloC b (.slice A b.proof.length c) (.slice D b.txs.length d)) := Blk.new _ _ _
  have hb1 := below_new w (.cells (bloC b (.slice A b.proof.length c) (.slice D b.txs.length d)) 30)
  go_upto_region 4 with (refine wpList_store_new rfl _ _ _ rfl _ (bloC b (.slice A b.proof.length c) (.slice D b.txs.length d)) rfl rfl _ _ bloInfo rfl (bloC_ones _ _ _ _ _ _ _) ?_)
  refine name_world (fun w2 hw2 => ?_)
  rw [← hw2] at k2 hb1
  clear hw2
  have hC := HC.out w2 hb1
  go_wp2_with (first
    | (refine wpList_row_at rfl _ _ rfl w.heap.size rfl _ _ _ _ k2 Tryd.underlying30 rfl bloInfo ?_)
    | (go_at_call 29; refine hC.mono ?_; rintro e w3 ⟨A3, c3, rfl, r3, q3, hb3⟩)
    | (go_at_call 27; refine (sure_any _ _ _ _ _).mono ?_; rintro e w4 ⟨rfl, rfl⟩))
  go_ret
  exact ⟨_, _, rfl, r3, nxt hb1 hb3⟩
set_option maxHeartbeats 4000000 in
set_option maxRecDepth 100000 in
theorem writ_C (c : Crt) (w : World) (hw : c.wf) (h0 : mayV c = true) : Calls Tryd.prog 15 #[.iface 24 (.agg (crtC c))] w (reads (bytesV c) w) := by
  have hck := fun W (hb : Below w.heap.size w W) => L11.bytes_ok c W hw h0
  obtain ⟨y, hy⟩ : ∃ y, y = bytesV c := ⟨_, rfl⟩
  rw [← hy] at hck ⊢
  have HC := Lib.hid hck
  clear hck hy h0 hw
  have asB := as_CB
  have asC := as_CC
  go_enter Tryd.func15, Tryd.ntmps15
  have k2 : Blk (w.alloc (.cells (crtC c) 24)) w.heap.size 24 (crtC c) := Blk.new _ _ _
  have hb1 := below_new w (.cells (crtC c) 24)
  go_upto_region 7 with (refine wpList_store_new rfl _ _ _ rfl _ (crtC c) rfl rfl _ _ crtInfo rfl (crtC_ones _) ?_)
  refine name_world (fun w2 hw2 => ?_)
  rw [← hw2] at k2 hb1
  clear hw2
  have hC := HC.out w2 hb1
  go_wp2_with (first
    | (refine wpList_row_at rfl _ _ rfl w.heap.size rfl _ _ _ _ k2 Tryd.underlying24 rfl crtInfo ?_)
    | (go_at_call 30; refine hC.mono ?_; rintro e w3 ⟨A3, c3, rfl, r3, q3, hb3⟩)
    | (go_at_call 27; refine (sure_any _ _ _ _ _).mono ?_; rintro e w4 ⟨rfl, rfl⟩))
  go_ret
  exact ⟨_, _, rfl, r3, nxt hb1 hb3⟩
set_option maxHeartbeats 4000000 in
set_option maxRecDepth 100000 in
theorem writ_X (t : Txx) (w : World) (hT : Tabs w) (h0 : right t = true) : Calls Tryd.prog 15 #[.iface 32 (.agg (txC t))] w (reads (bytesT t) w) := by
  have hck := fun W (hb : Below w.heap.size w W) => bytes_ok t W (hT.kept hb) h0
  obtain ⟨y, hy⟩ : ∃ y, y = bytesT t := ⟨_, rfl⟩
  rw [← hy] at hck ⊢
  have HC := Lib.hid hck
  clear hck hy h0 hT
  have asB := as_XB
  have asC := as_XC
  have asT := as_XT
  have asP := as_XP
  have asX := as_XX
  go_enter Tryd.func15, Tryd.ntmps15
  have k2 : Blk (w.alloc (.cells (txC t) 32)) w.heap.size 32 (txC t) := Blk.new _ _ _
  have hb1 := below_new w (.cells (txC t) 32)
  go_upto_region 22 with (refine wpList_store_new rfl _ _ _ rfl _ (txC t) rfl rfl _ _ txInfo rfl (txC_ones _) ?_)
  refine name_world (fun w2 hw2 => ?_)
  rw [← hw2] at k2 hb1
  clear hw2
  have hC := HC.out w2 hb1
  go_wp2_with (first
    | (refine wpList_row_at rfl _ _ rfl w.heap.size rfl _ _ _ _ k2 Tryd.underlying32 rfl txInfo ?_)
    | (go_at_call 31; refine hC.mono ?_; rintro e w3 ⟨A3, c3, rfl, r3, q3, hb3⟩)
    | (go_at_call 27; refine (sure_any _ _ _ _ _).mono ?_; rintro e w4 ⟨rfl, rfl⟩))
  go_ret
  exact ⟨_, _, rfl, r3, nxt hb1 hb3⟩
set_option maxHeartbeats 4000000 in
set_option maxRecDepth 100000 in
theorem writ_I (s n : Int) (w : World) (hs : 0 ≤ s ∧ s ≤ 4611686018427387904) (hn : 0 ≤ n ∧ n ≤ 4611686018427387904) : Calls Tryd.prog 15 #[.iface 75 (.agg #[.int .i64 s, .int .i64 n])] w (reads (encN s.toNat ++ encN n.toNat) w) := by
  have hok : [s, n].all L3.okN = true := two_okN hs (by omega)
  have he : encs [s, n] = encN s.toNat ++ encN n.toNat := by rw [encs_two]
  have hN := fun (W : World) => numsM_any (some ⟨W.heap.size, 0, none⟩) 2 2 [s, n] (W.alloc (.cells #[.int .i64 s, .int .i64 n] 3)) (rowI_reads W #[.int .i64 s, .int .i64 n] 2 (by omega) rfl) (by omega) hok
  rw [he] at hN
  obtain ⟨y, hy⟩ : ∃ y, y = encN s.toNat ++ encN n.toNat := ⟨_, rfl⟩
  rw [← hy] at hN ⊢
  have HN := Lib.hid hN
  clear hN he hy hok
  have asB := as_IB
  have asC := as_IC
  have asT := as_IT
  have asP := as_IP
  have asX := as_IX
  have asI := as_II
  go_enter Tryd.func15, Tryd.ntmps15
  have k2 : Blk (w.alloc (.cells #[.int .i64 s, .int .i64 n] 75)) w.heap.size 75 #[.int .i64 s, .int .i64 n] := Blk.new _ _ _
  have hb1 := below_new w (.cells #[.int .i64 s, .int .i64 n] 75)
  go_upto_region 25 with (refine wpList_store_new rfl _ _ _ rfl _ #[.int .i64 s, .int .i64 n] rfl rfl _ _ (inv2Info _ _) rfl rfl ?_)
  refine name_world (fun w2 hw2 => ?_)
  rw [← hw2] at k2 hb1
  clear hw2
  have c0 : w2.cell? ⟨w.heap.size, 0, none⟩ = some (.int .i64 s) := k2.cell 0
  have c1 : w2.cell? ⟨w.heap.size, 1, none⟩ = some (.int .i64 n) := k2.cell 1
  have hb2 := below_new w2 (.cells #[.int .i64 s, .int .i64 n] 3)
  have hN := HN.out w2
  go_wp2_with (first
    | (go_at_call 14; refine hN.mono ?_; rintro e w3 ho3; obtain ⟨A3, c3, rfl, r3, hb3⟩ := owns_reads ho3))
  go_ret
  exact ⟨_, _, rfl, r3, nxt hb1 (nxt hb2 hb3)⟩
set_option maxHeartbeats 4000000 in
set_option maxRecDepth 100000 in
theorem writ_W (s n : Int) (w : World) (hs : 0 ≤ s ∧ s ≤ 4611686018427387904) (hn : 0 ≤ n ∧ n ≤ 4611686018427387904) : Calls Tryd.prog 15 #[.iface 79 (.agg #[.int .i64 s, .int .i64 n])] w (reads (encN s.toNat ++ encN n.toNat) w) := by
  have hok : [s, n].all L3.okN = true := two_okN hs (by omega)
  have he : encs [s, n] = encN s.toNat ++ encN n.toNat := by rw [encs_two]
  have hN := fun (W : World) => numsM_any (some ⟨W.heap.size, 0, none⟩) 2 2 [s, n] (W.alloc (.cells #[.int .i64 s, .int .i64 n] 3)) (rowI_reads W #[.int .i64 s, .int .i64 n] 2 (by omega) rfl) (by omega) hok
  rw [he] at hN
  obtain ⟨y, hy⟩ : ∃ y, y = encN s.toNat ++ encN n.toNat := ⟨_, rfl⟩
  rw [← hy] at hN ⊢
  have HN := Lib.hid hN
  clear hN he hy hok
  have asB := as_WB
  have asC := as_WC
  have asT := as_WT
  have asP := as_WP
  have asX := as_WX
  have asI := as_WI
  have asE := as_WE
  have asW := as_WW
  go_enter Tryd.func15, Tryd.ntmps15
  have k2 : Blk (w.alloc (.cells #[.int .i64 s, .int .i64 n] 79)) w.heap.size 79 #[.int .i64 s, .int .i64 n] := Blk.new _ _ _
  have hb1 := below_new w (.cells #[.int .i64 s, .int .i64 n] 79)
  go_upto_region 31 with (refine wpList_store_new rfl _ _ _ rfl _ #[.int .i64 s, .int .i64 n] rfl rfl _ _ (wan2Info _ _) rfl rfl ?_)
  refine name_world (fun w2 hw2 => ?_)
  rw [← hw2] at k2 hb1
  clear hw2
  have c0 : w2.cell? ⟨w.heap.size, 0, none⟩ = some (.int .i64 s) := k2.cell 0
  have c1 : w2.cell? ⟨w.heap.size, 1, none⟩ = some (.int .i64 n) := k2.cell 1
  have hb2 := below_new w2 (.cells #[.int .i64 s, .int .i64 n] 3)
  have hN := HN.out w2
  go_wp2_with (first
    | (go_at_call 14; refine hN.mono ?_; rintro e w3 ho3; obtain ⟨A3, c3, rfl, r3, hb3⟩ := owns_reads ho3))
  go_ret
  exact ⟨_, _, rfl, r3, nxt hb1 (nxt hb2 hb3)⟩
set_option maxHeartbeats 4000000 in
set_option maxRecDepth 100000 in
theorem writ_E (n : Int) (s : Nat) (w : World) (hn : 0 ≤ n ∧ n ≤ 4611686018427387904) (hs : s < 4294967296) : Calls Tryd.prog 15 #[.iface 77 (.agg #[.int .i64 n, .int .u32 s])] w (reads (encN n.toNat ++ encN s) w) := by
  have hok : [n, (s : Int)].all L3.okN = true := two_okN hn (by omega)
  have he : encs [n, (s : Int)] = encN n.toNat ++ encN s := by rw [encs_two]; rfl
  have hN := fun (W : World) => numsM_any (some ⟨W.heap.size, 0, none⟩) 2 2 [n, (s : Int)] (W.alloc (.cells #[.int .i64 n, .int .i64 (s : Int)] 3)) (rowI_reads W #[.int .i64 n, .int .i64 (s : Int)] 2 (by omega) rfl) (by omega) hok
  rw [he] at hN
  obtain ⟨y, hy⟩ : ∃ y, y = encN n.toNat ++ encN s := ⟨_, rfl⟩
  rw [← hy] at hN ⊢
  have HN := Lib.hid hN
  clear hN he hy hok
  have asB := as_EB
  have asC := as_EC
  have asT := as_ET
  have asP := as_EP
  have asX := as_EX
  have asI := as_EI
  have asE := as_EE
  go_enter Tryd.func15, Tryd.ntmps15
  have k2 : Blk (w.alloc (.cells #[.int .i64 n, .int .u32 s] 77)) w.heap.size 77 #[.int .i64 n, .int .u32 s] := Blk.new _ _ _
  have hb1 := below_new w (.cells #[.int .i64 n, .int .u32 s] 77)
  go_upto_region 28 with (refine wpList_store_new rfl _ _ _ rfl _ #[.int .i64 n, .int .u32 s] rfl rfl _ _ (ele2Info _ _) rfl rfl ?_)
  refine name_world (fun w2 hw2 => ?_)
  rw [← hw2] at k2 hb1
  clear hw2
  have c0 : w2.cell? ⟨w.heap.size, 0, none⟩ = some (.int .i64 n) := k2.cell 0
  have c1 : w2.cell? ⟨w.heap.size, 1, none⟩ = some (.int .u32 s) := k2.cell 1
  have hb2 := below_new w2 (.cells #[.int .i64 n, .int .i64 (s : Int)] 3)
  have hN := HN.out w2
  go_wp2_with (first
    | (go_at_call 14; refine hN.mono ?_; rintro e w3 ho3; obtain ⟨A3, c3, rfl, r3, hb3⟩ := owns_reads ho3))
  go_ret
  exact ⟨_, _, rfl, r3, nxt hb1 (nxt hb2 hb3)⟩
end Go.Proofs.YtgmejaiifibfoaaDoor
