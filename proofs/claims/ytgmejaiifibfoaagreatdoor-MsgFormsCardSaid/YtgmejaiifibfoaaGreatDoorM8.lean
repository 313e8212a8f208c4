/-
  Texts of one layer in one: WrM, WrT, WrP, WritM.
-/
import Derived.Test.YtgmejaiifibfoaaGreatDoorM5
import Derived.Test.YtgmejaiifibfoaaGreatDoorB3
import Derived.Test.YtgmejaiifibfoaaGreatDoorM3

/-
  The bytes of what a message has, by the code: blocks, certificates, transactions, numbers.
-/
set_option linter.unusedSimpArgs false
set_option linter.unusedVariables false
set_option maxRecDepth 10000
namespace Go.Proofs.YtgmejaiifibfoaaGreatDoor
open Go.RowKit Go.Maps Go.Lib
open L3 (Blk Reads Owned encN encs intCells)
open L11 (Crt zeroC crtL crtC mayV bytesV okW crtInfo crtC_ones)

/-- A call that hands back bytes, and leaves all that was there. -/
def reads (l : List UInt8) (w : World) (e : Ending) (w' : World) : Prop := ∃ A c, e = .returned (.slice A l.length c) ∧ Reads w' w'.heap.size 1 A l.length (Lib.byteCells l) ∧ Below w.heap.size w w'
theorem owns_reads {l : List UInt8} {w : World} {e : Ending} {w' : World} (h : owns l w e w') : reads l w e w' := by
  obtain ⟨v, rfl, ho⟩ := h
  obtain ⟨A, c, rfl, hr, _⟩ := ho.form
  exact ⟨A, c, rfl, hr, ho.2.1⟩
theorem encs_two (a b : Int) : encs [a, b] = encN a.toNat ++ encN b.toNat := by simp [L3.encs]
theorem two_okN {a b : Int} (ha : 0 ≤ a ∧ a ≤ 4611686018427387904) (hb : 0 ≤ b ∧ b ≤ 4611686018427387904) : [a, b].all L3.okN = true := by simp [L3.okN_mk ha.1 ha.2, L3.okN_mk hb.1 hb.2]
set_option maxHeartbeats 4000000 in
set_option maxRecDepth 100000 in
theorem writ_B (b : Blo) (P T : Value) (w : World) (hw : b.wf) (hl : Lies w b P T) (hT : Tabs w) (h0 : checkV b = 0) : Calls Tryz.prog 21 #[.iface 30 (.agg (bloC b P T))] w (reads (bytesB b) w) := by
  have hck := fun W (hb : Below w.heap.size w W) => bytesB_ok b P T W hw (hl.below hb) (hT.kept hb) h0
  obtain ⟨A, c, D, d, rfl, rfl, _, _⟩ := hl
  obtain ⟨y, hy⟩ : ∃ y, y = bytesB b := ⟨_, rfl⟩
  rw [← hy] at hck ⊢
  have HC := Lib.hid hck
  clear hck hy h0 hT hw
  have asB := as_BB
  go_enter Tryz.func21, Tryz.ntmps21
  have k2 : Blk (w.alloc (.cells (bloC b (.slice A b.proof.length c) (.slice D b.txs.length d)) 30)) w.heap.size 30 (bloC b (.slice A b.proof.length c) (.slice D b.txs.length d)) := Blk.new _ _ _
  have hb1 := below_new w (.cells (bloC b (.slice A b.proof.length c) (.slice D b.txs.length d)) 30)
  go_upto_region 4 with (refine wpList_store_new rfl _ _ _ rfl _ (bloC b (.slice A b.proof.length c) (.slice D b.txs.length d)) rfl rfl _ _ bloInfo rfl (bloC_ones _ _ _ _ _ _ _) ?_)
  refine name_world (fun w2 hw2 => ?_)
  rw [← hw2] at k2 hb1
  clear hw2
  have hC := HC.out w2 hb1
  go_wp2_with (first
    | (refine wpList_row_at rfl _ _ rfl w.heap.size rfl _ _ _ _ k2 Tryz.underlying30 rfl bloInfo ?_)
    | (go_at_call 55; refine hC.mono ?_; rintro e w3 ⟨A3, c3, rfl, r3, q3, hb3⟩)
    | (go_at_call 53; refine (sure_any _ _ _ _ _).mono ?_; rintro e w4 ⟨rfl, rfl⟩))
  go_ret
  exact ⟨_, _, rfl, r3, nxt hb1 hb3⟩
set_option maxHeartbeats 4000000 in
set_option maxRecDepth 100000 in
theorem writ_C (c : Crt) (w : World) (hw : c.wf) (h0 : mayV c = true) : Calls Tryz.prog 21 #[.iface 24 (.agg (crtC c))] w (reads (bytesV c) w) := by
  have hck := fun W (hb : Below w.heap.size w W) => L11.bytes_ok c W hw h0
  obtain ⟨y, hy⟩ : ∃ y, y = bytesV c := ⟨_, rfl⟩
  rw [← hy] at hck ⊢
  have HC := Lib.hid hck
  clear hck hy h0 hw
  have asB := as_CB
  have asC := as_CC
  go_enter Tryz.func21, Tryz.ntmps21
  have k2 : Blk (w.alloc (.cells (crtC c) 24)) w.heap.size 24 (crtC c) := Blk.new _ _ _
  have hb1 := below_new w (.cells (crtC c) 24)
  go_upto_region 7 with (refine wpList_store_new rfl _ _ _ rfl _ (crtC c) rfl rfl _ _ crtInfo rfl (crtC_ones _) ?_)
  refine name_world (fun w2 hw2 => ?_)
  rw [← hw2] at k2 hb1
  clear hw2
  have hC := HC.out w2 hb1
  go_wp2_with (first
    | (refine wpList_row_at rfl _ _ rfl w.heap.size rfl _ _ _ _ k2 Tryz.underlying24 rfl crtInfo ?_)
    | (go_at_call 56; refine hC.mono ?_; rintro e w3 ⟨A3, c3, rfl, r3, q3, hb3⟩)
    | (go_at_call 53; refine (sure_any _ _ _ _ _).mono ?_; rintro e w4 ⟨rfl, rfl⟩))
  go_ret
  exact ⟨_, _, rfl, r3, nxt hb1 hb3⟩
set_option maxHeartbeats 4000000 in
set_option maxRecDepth 100000 in
theorem writ_X (t : Txx) (w : World) (hT : Tabs w) (h0 : right t = true) : Calls Tryz.prog 21 #[.iface 32 (.agg (txC t))] w (reads (bytesT t) w) := by
  have hck := fun W (hb : Below w.heap.size w W) => bytes_ok t W (hT.kept hb) h0
  obtain ⟨y, hy⟩ : ∃ y, y = bytesT t := ⟨_, rfl⟩
  rw [← hy] at hck ⊢
  have HC := Lib.hid hck
  clear hck hy h0 hT
  have asB := as_XB
  have asC := as_XC
  have asT := as_XT
  have asP := as_XP
  have asX := as_XX
  go_enter Tryz.func21, Tryz.ntmps21
  have k2 : Blk (w.alloc (.cells (txC t) 32)) w.heap.size 32 (txC t) := Blk.new _ _ _
  have hb1 := below_new w (.cells (txC t) 32)
  go_upto_region 22 with (refine wpList_store_new rfl _ _ _ rfl _ (txC t) rfl rfl _ _ txInfo rfl (txC_ones _) ?_)
  refine name_world (fun w2 hw2 => ?_)
  rw [← hw2] at k2 hb1
  clear hw2
  have hC := HC.out w2 hb1
  go_wp2_with (first
    | (refine wpList_row_at rfl _ _ rfl w.heap.size rfl _ _ _ _ k2 Tryz.underlying32 rfl txInfo ?_)
    | (go_at_call 57; refine hC.mono ?_; rintro e w3 ⟨A3, c3, rfl, r3, q3, hb3⟩)
    | (go_at_call 53; refine (sure_any _ _ _ _ _).mono ?_; rintro e w4 ⟨rfl, rfl⟩))
  go_ret
  exact ⟨_, _, rfl, r3, nxt hb1 hb3⟩
set_option maxHeartbeats 4000000 in
set_option maxRecDepth 100000 in
theorem writ_I (s n : Int) (w : World) (hs : 0 ≤ s ∧ s ≤ 4611686018427387904) (hn : 0 ≤ n ∧ n ≤ 4611686018427387904) : Calls Tryz.prog 21 #[.iface 75 (.agg #[.int .i64 s, .int .i64 n])] w (reads (encN s.toNat ++ encN n.toNat) w) := by
  have hok : [s, n].all L3.okN = true := two_okN hs (by omega)
  have he : encs [s, n] = encN s.toNat ++ encN n.toNat := by rw [encs_two]
  have hN := fun (W : World) => numsM_any (some ⟨W.heap.size, 0, none⟩) 2 2 [s, n] (W.alloc (.cells #[.int .i64 s, .int .i64 n] 3)) (rowI_reads W #[.int .i64 s, .int .i64 n] 2 (by omega) rfl) (by omega) hok
  rw [he] at hN
  obtain ⟨y, hy⟩ : ∃ y, y = encN s.toNat ++ encN n.toNat := ⟨_, rfl⟩
  rw [← hy] at hN ⊢
  have HN := Lib.hid hN
  clear hN he hy hok
  have asB := as_IB
  have asC := as_IC
  have asT := as_IT
  have asP := as_IP
  have asX := as_IX
  have asI := as_II
  go_enter Tryz.func21, Tryz.ntmps21
  have k2 : Blk (w.alloc (.cells #[.int .i64 s, .int .i64 n] 75)) w.heap.size 75 #[.int .i64 s, .int .i64 n] := Blk.new _ _ _
  have hb1 := below_new w (.cells #[.int .i64 s, .int .i64 n] 75)
  go_upto_region 25 with (refine wpList_store_new rfl _ _ _ rfl _ #[.int .i64 s, .int .i64 n] rfl rfl _ _ (inv2Info _ _) rfl rfl ?_)
  refine name_world (fun w2 hw2 => ?_)
  rw [← hw2] at k2 hb1
  clear hw2
  have c0 : w2.cell? ⟨w.heap.size, 0, none⟩ = some (.int .i64 s) := k2.cell 0
  have c1 : w2.cell? ⟨w.heap.size, 1, none⟩ = some (.int .i64 n) := k2.cell 1
  have hb2 := below_new w2 (.cells #[.int .i64 s, .int .i64 n] 3)
  have hN := HN.out w2
  go_wp2_with (first
    | (go_at_call 20; refine hN.mono ?_; rintro e w3 ho3; obtain ⟨A3, c3, rfl, r3, hb3⟩ := owns_reads ho3))
  go_ret
  exact ⟨_, _, rfl, r3, nxt hb1 (nxt hb2 hb3)⟩
set_option maxHeartbeats 4000000 in
set_option maxRecDepth 100000 in
theorem writ_W (s n : Int) (w : World) (hs : 0 ≤ s ∧ s ≤ 4611686018427387904) (hn : 0 ≤ n ∧ n ≤ 4611686018427387904) : Calls Tryz.prog 21 #[.iface 79 (.agg #[.int .i64 s, .int .i64 n])] w (reads (encN s.toNat ++ encN n.toNat) w) := by
  have hok : [s, n].all L3.okN = true := two_okN hs (by omega)
  have he : encs [s, n] = encN s.toNat ++ encN n.toNat := by rw [encs_two]
  have hN := fun (W : World) => numsM_any (some ⟨W.heap.size, 0, none⟩) 2 2 [s, n] (W.alloc (.cells #[.int .i64 s, .int .i64 n] 3)) (rowI_reads W #[.int .i64 s, .int .i64 n] 2 (by omega) rfl) (by omega) hok
  rw [he] at hN
  obtain ⟨y, hy⟩ : ∃ y, y = encN s.toNat ++ encN n.toNat := ⟨_, rfl⟩
  rw [← hy] at hN ⊢
  have HN := Lib.hid hN
  clear hN he hy hok
  have asB := as_WB
  have asC := as_WC
  have asT := as_WT
  have asP := as_WP
  have asX := as_WX
  have asI := as_WI
  have asE := as_WE
  have asW := as_WW
  go_enter Tryz.func21, Tryz.ntmps21
  have k2 : Blk (w.alloc (.cells #[.int .i64 s, .int .i64 n] 79)) w.heap.size 79 #[.int .i64 s, .int .i64 n] := Blk.new _ _ _
  have hb1 := below_new w (.cells #[.int .i64 s, .int .i64 n] 79)
  go_upto_region 31 with (refine wpList_store_new rfl _ _ _ rfl _ #[.int .i64 s, .int .i64 n] rfl rfl _ _ (wan2Info _ _) rfl rfl ?_)
  refine name_world (fun w2 hw2 => ?_)
  rw [← hw2] at k2 hb1
  clear hw2
  have c0 : w2.cell? ⟨w.heap.size, 0, none⟩ = some (.int .i64 s) := k2.cell 0
  have c1 : w2.cell? ⟨w.heap.size, 1, none⟩ = some (.int .i64 n) := k2.cell 1
  have hb2 := below_new w2 (.cells #[.int .i64 s, .int .i64 n] 3)
  have hN := HN.out w2
  go_wp2_with (first
    | (go_at_call 20; refine hN.mono ?_; rintro e w3 ho3; obtain ⟨A3, c3, rfl, r3, hb3⟩ := owns_reads ho3))
  go_ret
  exact ⟨_, _, rfl, r3, nxt hb1 (nxt hb2 hb3)⟩
set_option maxHeartbeats 4000000 in
set_option maxRecDepth 100000 in
theorem writ_E (n : Int) (s : Nat) (w : World) (hn : 0 ≤ n ∧ n ≤ 4611686018427387904) (hs : s < 4294967296) : Calls Tryz.prog 21 #[.iface 77 (.agg #[.int .i64 n, .int .u32 s])] w (reads (encN n.toNat ++ encN s) w) := by
  have hok : [n, (s : Int)].all L3.okN = true := two_okN hn (by omega)
  have he : encs [n, (s : Int)] = encN n.toNat ++ encN s := by rw [encs_two]; rfl
  have hN := fun (W : World) => numsM_any (some ⟨W.heap.size, 0, none⟩) 2 2 [n, (s : Int)] (W.alloc (.cells #[.int .i64 n, .int .i64 (s : Int)] 3)) (rowI_reads W #[.int .i64 n, .int .i64 (s : Int)] 2 (by omega) rfl) (by omega) hok
  rw [he] at hN
  obtain ⟨y, hy⟩ : ∃ y, y = encN n.toNat ++ encN s := ⟨_, rfl⟩
  rw [← hy] at hN ⊢
  have HN := Lib.hid hN
  clear hN he hy hok
  have asB := as_EB
  have asC := as_EC
  have asT := as_ET
  have asP := as_EP
  have asX := as_EX
  have asI := as_EI
  have asE := as_EE
  go_enter Tryz.func21, Tryz.ntmps21
  have k2 : Blk (w.alloc (.cells #[.int .i64 n, .int .u32 s] 77)) w.heap.size 77 #[.int .i64 n, .int .u32 s] := Blk.new _ _ _
  have hb1 := below_new w (.cells #[.int .i64 n, .int .u32 s] 77)
  go_upto_region 28 with (refine wpList_store_new rfl _ _ _ rfl _ #[.int .i64 n, .int .u32 s] rfl rfl _ _ (ele2Info _ _) rfl rfl ?_)
  refine name_world (fun w2 hw2 => ?_)
  rw [← hw2] at k2 hb1
  clear hw2
  have c0 : w2.cell? ⟨w.heap.size, 0, none⟩ = some (.int .i64 n) := k2.cell 0
  have c1 : w2.cell? ⟨w.heap.size, 1, none⟩ = some (.int .u32 s) := k2.cell 1
  have hb2 := below_new w2 (.cells #[.int .i64 n, .int .i64 (s : Int)] 3)
  have hN := HN.out w2
  go_wp2_with (first
    | (go_at_call 20; refine hN.mono ?_; rintro e w3 ho3; obtain ⟨A3, c3, rfl, r3, hb3⟩ := owns_reads ho3))
  go_ret
  exact ⟨_, _, rfl, r3, nxt hb1 (nxt hb2 hb3)⟩
end Go.Proofs.YtgmejaiifibfoaaGreatDoor

/-
  The bytes of a timeout in a message, by the code.
-/
set_option linter.unusedSimpArgs false
set_option linter.unusedVariables false
set_option maxRecDepth 10000
namespace Go.Proofs.YtgmejaiifibfoaaGreatDoor
open Go.RowKit Go.Maps Go.Lib
open L3 (Blk Reads Owned encN encs intCells)
open L11 (Crt zeroC crtL crtC mayV bytesV okW crtInfo crtC_ones)

/-- What is held while a timeout is written. -/
structure WtAt (w : World) (G : Nat) (t : Tmo) (W : World) : Prop where
  bx : Blk W G 26 (tmC t)
  bw : Below w.heap.size w W
theorem WtAt.below {w W W' : World} {G : Nat} {t : Tmo} (h : WtAt w G t W) (hb : Below W.heap.size W W') : WtAt w G t W' := ⟨h.bx.below hb h.bx.lt, nxt h.bw hb⟩
theorem WtAt.drew {w W : World} {G : Nat} {t : Tmo} (h : WtAt w G t W) : WtAt w G t W.drew := h.below (Below.refl _ W).drew
theorem encs_pos (z : Int) (l : List Int) : 0 < (encs (z :: l)).length := by
  have := L3.encN_pos z.toNat
  simp only [L3.encs, List.map_cons, List.flatten_cons, List.length_append]; omega
set_option maxHeartbeats 4000000 in
set_option maxRecDepth 100000 in
theorem writ_T (t : Tmo) (w : World) (hw : t.wf) (h0 : tmoV t = true) : Calls Tryz.prog 21 #[.iface 26 (.agg (tmC t))] w (reads (encN t.signer.toNat ++ (encN t.view.toNat ++ bytesV t.high)) w) := by
  obtain ⟨s1, s2, s3, s4⟩ := tmo_facts h0
  have hok : [t.signer, t.view].all L3.okN = true := two_okN (by omega) (by omega)
  have he : encs [t.signer, t.view] = encN t.signer.toNat ++ encN t.view.toNat := encs_two _ _
  have hN := fun (W : World) => numsM_any (some ⟨W.heap.size, 0, none⟩) 2 2 [t.signer, t.view] (W.alloc (.cells #[.int .i64 t.signer, .int .i64 t.view] 3)) (rowI_reads W #[.int .i64 t.signer, .int .i64 t.view] 2 (by omega) rfl) (by omega) hok
  have hB := fun W => L11.bytes_ok t.high W hw.2.2 s4
  have hl2 := L11.bytes_len s4
  have p2 := bytesV_pos (c := t.high)
  have hl1 := numsB_le [t.signer, t.view] hok (by simp)
  have p1 := encs_pos t.signer [t.view]
  rw [← List.append_assoc, ← he]
  obtain ⟨x1, e1⟩ : ∃ x, x = encs [t.signer, t.view] := ⟨_, rfl⟩
  obtain ⟨x2, e2⟩ : ∃ x, x = bytesV t.high := ⟨_, rfl⟩
  rw [← e1] at hN hl1 p1 ⊢
  rw [← e2] at hB hl2 p2 ⊢
  have HN := Lib.hid hN
  have HB := Lib.hid hB
  have HL := Lib.hid (And.intro hl1 (And.intro hl2 (And.intro p1 p2)))
  obtain ⟨y, hy⟩ : ∃ y, y = x1 ++ x2 := ⟨_, rfl⟩
  rw [← hy]
  have HY := Lib.hid hy
  clear hy
  clear hN hB hl1 hl2 p1 p2 e1 e2 he hok s1 s2 s3 s4 h0 hw
  have asB := as_TB
  have asC := as_TC
  have asT := as_TT
  go_enter Tryz.func21, Tryz.ntmps21
  have k2 : Blk (w.alloc (.cells (tmC t) 26)) w.heap.size 26 (tmC t) := Blk.new _ _ _
  have hb1 := below_new w (.cells (tmC t) 26)
  go_upto_region 10 with (refine wpList_store_new rfl _ _ _ rfl _ (tmC t) rfl rfl _ _ tmInfo rfl (tmC_ones _) ?_)
  refine name_world (fun w2 hw2 => ?_)
  rw [← hw2] at k2 hb1
  clear hw2
  obtain ⟨G, hG⟩ : ∃ G, G = w.heap.size := ⟨_, rfl⟩
  have hA : WtAt w G t w2.drew := WtAt.drew ⟨by rw [hG]; exact k2, hb1⟩
  rw [← hG]
  clear hG k2 hb1
  obtain ⟨w3, hw3⟩ : ∃ w3, w3 = w2.drew := ⟨_, rfl⟩
  rw [← hw3] at hA
  (try simp only [Act.put])
  refine wp_region_K (WtAt w G t) [0, 1, 2, 3, 6, 7, 9, 10] (by kernel_rfl) ?_
  rw [← hw3]
  clear hw3
  refine wpK_quiet (f := 9) (by kernel_rfl) (fun _ x _ _ _ h => by cases x <;> exact h) hA [0, 1, 2, 3, 6, 7] _ _ (by kernel_rfl) (by kernel_rfl) (by kernel_rfl) ?_
  have ne : Nonempty (WorldIn (WtAt w G t)) := ⟨⟨_, hA⟩⟩
  have g0 : ∀ y : WorldIn (WtAt w G t), y.w.cell? ⟨G, 0, none⟩ = some (.int .i64 t.signer) := fun y => y.h.bx.cell 0
  have g1 : ∀ y : WorldIn (WtAt w G t), y.w.cell? ⟨G, 1, none⟩ = some (.int .i64 t.view) := fun y => y.h.bx.cell 1
  have g2 : ∀ y : WorldIn (WtAt w G t), ∀ j u, (crtL t.high)[j]? = some u → y.w.cell? ((⟨G, 2, none⟩ : Addr).add j) = some u := fun y => sub_any y.h.bx (k := 2) rfl
  have G2 := Lib.hid g2
  clear g2
  conv => arg 5; simp [pick]
  iterate 5 go_big_quiet_step (fail)
  refine wpQuiet_cells rfl _ _ rfl ⟨G, 2, none⟩ rfl (crtL t.high) _ G2.out Tryz.underlying24 rfl crtInfo ?_
  conv => arg 6; simp only [Act.put, List.setIfInBounds_toArray, List.set_cons_zero, List.set_cons_succ]
  refine wpQuiet_nil ?_
  clear ne g0 g1 G2
  have hb4 := below_new w3 (.cells #[.int .i64 t.signer, .int .i64 t.view] 3)
  have hN := HN.out w3
  refine wpK_step 4 (by kernel_rfl) rfl ?_
  go_wp2
  refine stepQ.mk ⟨fun _ => hA.below hb4, ?_⟩
  refine wpK_step 5 (by kernel_rfl) rfl ?_
  go_wp2_with (go_at_call 20; refine hN.mono ?_; rintro e w5 ho5; obtain ⟨A5, c5, rfl, r5, hb5⟩ := owns_reads ho5)
  have hA5 := (hA.below hb4).below hb5
  refine stepQ.mk ⟨fun _ => hA5, ?_⟩
  clear hN hb4 hb5 hA
  have hB := HB.out w5
  refine wpK_step 8 (by kernel_rfl) rfl ?_
  go_wp2_with (go_at_call 56; refine hB.mono ?_; rintro e w6 ⟨A6, c6, rfl, r6, q6, hb6⟩)
  have hA6 := hA5.below hb6
  have r56 := (r5.below hb6).more hb6.size
  refine stepQ.mk ⟨fun _ => hA6, ?_⟩
  clear hB hb6 hA5 r5
  refine wpK_quiet (f := 4) (by kernel_rfl) (fun _ x _ _ _ h => by cases x <;> exact h) hA6 [9, 10] _ _ (by kernel_rfl) (by kernel_rfl) (by kernel_rfl) ?_
  have ne : Nonempty (WorldIn (WtAt w G t)) := ⟨⟨_, hA6⟩⟩
  conv => arg 5; simp [pick]
  iterate 2 go_big_quiet_step (fail)
  refine wpQuiet_nil ?_
  clear ne
  refine wpK_step 11 (by kernel_rfl) rfl ?_
  go_wp2_with (go_at_call 53; refine (sure_any _ _ _ _ _).mono ?_; rintro e w6b ⟨rfl, rfl⟩)
  refine stepQ.mk ⟨fun _ => hA6, ?_⟩
  have hb8 := below_new w6 (.cells #[.slice A5 x1.length c5, .slice A6 x2.length c6] 52)
  have hA8 := hA6.below hb8
  refine wpK_step 12 (by kernel_rfl) rfl ?_
  go_wp2
  refine stepQ.mk ⟨fun _ => hA8, ?_⟩
  have hrs := row_slices w6 #[.slice A5 x1.length c5, .slice A6 x2.length c6] 2 (by omega) rfl
  have hfl : flatS [⟨A5, c5, x1⟩, ⟨A6, c6, x2⟩] = x1 ++ x2 := by unfold flatS; simp
  have hCon := concat_any (some ⟨w6.heap.size, 0, none⟩) 2 2 [⟨A5, c5, x1⟩, ⟨A6, c6, x2⟩] _ rfl hrs (fun s hs => by
    simp only [List.mem_cons, List.not_mem_nil, or_false] at hs
    rcases hs with rfl | rfl
    · exact ⟨(r56.below hb8).more hb8.size, HL.out.2.2.1⟩
    · exact ⟨(r6.below hb8).more hb8.size, HL.out.2.2.2⟩) (by omega) (by omega) (by rw [hfl, List.length_append]; have := HL.out; omega)
  rw [hfl] at hCon
  rw [← HY.out] at hCon
  have HCon := Lib.hid hCon
  have hbw := hA8.bw
  clear hCon hrs hfl hA6 r56 r6
  refine wpK_step 13 (by kernel_rfl) rfl ?_
  go_wp2_with (go_at_call 19; refine HCon.out.mono ?_; rintro e w9 ho9; obtain ⟨A9, c9, rfl, r9, hb9⟩ := owns_reads ho9)
  refine stepQ.mk ⟨fun _ => hA8.below hb9, ?_⟩
  have hfin := nxt hbw hb9
  clear HCon hb9 hA8 hb8 hbw
  refine wpK_seq [14] _ _ _ (by kernel_rfl) ?_
  conv => arg 4; simp [pick]
  go_wp2_with fail
  go_ret
  exact ⟨_, _, rfl, r9, hfin⟩
end Go.Proofs.YtgmejaiifibfoaaGreatDoor

/-
  The bytes of a proof in a message, by the code.
-/
set_option linter.unusedSimpArgs false
set_option linter.unusedVariables false
set_option maxRecDepth 10000
namespace Go.Proofs.YtgmejaiifibfoaaGreatDoor
open Go.RowKit Go.Maps Go.Lib
open L3 (Blk Reads Owned encN encs intCells)
open L11 (Crt zeroC crtL crtC mayV bytesV okW crtInfo crtC_ones)

/-- What is held while timeouts are written. -/
structure WpAt (w : World) (l : List Tmo) (A : Option Addr) (W : World) : Prop where
  rd : Rd tmL 10 W A l
  bw : Below w.heap.size w W
theorem WpAt.below {w W W' : World} {l : List Tmo} {A : Option Addr} (h : WpAt w l A W) (hb : Below W.heap.size W W') : WpAt w l A W' := ⟨h.rd.below hb, nxt h.bw hb⟩
/-- Behind the k-th timeout. -/
structure WqAt (w : World) (l : List Tmo) (A : Option Addr) (pre : List UInt8) (k : Nat) (v : Value) (W : World) : Prop where
  at_ : WpAt w l A W
  out : ∃ B c, v = .slice B (pre ++ ((l.take k).map tmB).flatten).length c ∧ Reads W W.heap.size 1 B (pre ++ ((l.take k).map tmB).flatten).length (Lib.byteCells (pre ++ ((l.take k).map tmB).flatten))
set_option maxHeartbeats 4000000 in
set_option maxRecDepth 100000 in
theorem writ_P (l : List Tmo) (A : Option Addr) (c : Nat) (w : World) (hw : ∀ t ∈ l, t.wf) (hr : Rd tmL 10 w A l) (h0 : prfV l = true) : Calls Tryz.prog 21 #[.iface 27 (.slice A l.length c)] w (reads (encN (l[0]!).view.toNat ++ listB tmB l) w) := by
  have h0' := prf_facts h0
  have hv := (tmo_facts (h0'.2.2 (l[0]!) (by rw [bang_at (show 0 < l.length by omega)]; exact List.getElem_mem _)).1).2.1
  obtain ⟨v, ev⟩ : ∃ v, v = (l[0]!).view := ⟨_, rfl⟩
  rw [← ev] at hv
  rw [← ev]
  obtain ⟨n, en⟩ : ∃ n, n = l.length := ⟨_, rfl⟩
  have hn : 1 ≤ n ∧ n ≤ 10 := by omega
  have hok : [v, (n : Int)].all L3.okN = true := two_okN (by omega) (by omega)
  have he : encs [v, (n : Int)] = encN v.toNat ++ encN n := by rw [encs_two]; rfl
  have hN := fun (W : World) => numsM_any (some ⟨W.heap.size, 0, none⟩) 2 2 [v, (n : Int)] (W.alloc (.cells #[.int .i64 v, .int .i64 (n : Int)] 3)) (rowI_reads W #[.int .i64 v, .int .i64 (n : Int)] 2 (by omega) rfl) (by omega) hok
  rw [he] at hN
  obtain ⟨x0, e0⟩ : ∃ x, x = encN v.toNat ++ encN n := ⟨_, rfl⟩
  have hp0 : 0 < x0.length := by rw [e0, List.length_append]; have := L3.encN_pos v.toNat; omega
  have hl0 : x0.length ≤ 18 := by
    rw [e0, List.length_append]
    have a1 := encN9 (n := v.toNat) (by omega)
    have a2 := encN9 (n := n) (by omega)
    omega
  have hres : encN v.toNat ++ listB tmB l = x0 ++ ((l.take n).map tmB).flatten := by
    rw [e0, en, List.take_length]; unfold listB; rw [List.append_assoc]
  rw [← e0] at hN
  obtain ⟨y, hy⟩ : ∃ y, y = encN v.toNat ++ listB tmB l := ⟨_, rfl⟩
  rw [← hy] at hres ⊢
  obtain ⟨ad, rfl, _, hc0⟩ := hr 0 (by omega)
  have HV0 : Hid (∀ y : World, Rd tmL 10 y (some ad) l → y.cell? { block := (ad.add 0).block, off := (ad.add 0).off + 1 } = some (.int .i64 v)) := Lib.hid (fun y hy => by
    obtain ⟨ad2, e2, _, hcs⟩ := hy 0 (by omega)
    injection e2 with e2; subst e2
    have := hcs 1 _ rfl
    rw [ev, bang_at (show 0 < l.length by omega)]
    simpa [Addr.add] using this)
  have gv : w.cell? { block := (ad.add 0).block, off := (ad.add 0).off + 1 } = some (.int .i64 v) := HV0.out _ hr
  have gv2 : w.cell? { block := ad.block, off := ad.off + 1 } = some (.int .i64 v) := by have := HV0.out _ hr; simpa [Addr.add] using this
  have hA0 : WpAt w l (some ad) w := ⟨hr, Below.refl _ _⟩
  have HW := Lib.hid (fun (t : Tmo) (ht : t ∈ l) => And.intro (hw t ht) (h0'.2.2 t ht).1)
  have HN := Lib.hid hN
  have HE := Lib.hid en
  have HRES := Lib.hid hres
  rw [← en]
  clear hN he hok hv ev en e0 h0' h0 hw hres hy hr hc0 HV0
  have asB := as_PB
  have asC := as_PC
  have asT := as_PT
  have asP := as_PP
  go_enter Tryz.func21, Tryz.ntmps21
  have hN := HN.out w
  have hb1 := below_new w (.cells #[.int .i64 v, .int .i64 (n : Int)] 3)
  go_upto_region 14 with (first
    | (go_at_call 20; refine hN.mono ?_; rintro e w1 ho1; obtain ⟨A1, c1, rfl, r1, hb2⟩ := owns_reads ho1))
  have hA1 : WqAt w l (some ad) x0 0 (.slice A1 x0.length c1) w1 := ⟨(hA0.below hb1).below hb2, ⟨A1, c1, by simp, by simpa using r1⟩⟩
  clear hN HN gv gv2 hb1 hb2 r1 hA0
  go_wp2
  go_loopw [7, 61] (fun b i wr => ∃ k : Nat, i = .int .i64 k ∧ k ≤ n ∧ WqAt w l (some ad) x0 k b wr) (fun _ i _ => n - (RowKit.intOf i).toNat)
  case atStart => exact ⟨0, rfl, Nat.zero_le _, hA1⟩
  case round =>
    obtain ⟨k, rfl, hk, hP⟩ := hrel
    clear hA1
    by_cases hlt : k < n
    · have hkL : k < l.length := by have := HE.out; omega
      obtain ⟨ad2, e2, hadl, hcs⟩ := hP.at_.rd k hkL
      injection e2 with e2; subst e2
      have hx := HW.out _ (List.getElem_mem hkL)
      have hsn := listB_snoc tmB x0 l hkL
      obtain ⟨x, hxe⟩ : ∃ x, x = l[k] := ⟨_, rfl⟩
      rw [← hxe] at hcs hx hsn
      have hcs1 : ∀ j u, (tmL x)[j]? = some u → wr.cell? ((ad.add (k * 10)).add j) = some u := hcs
      have hlen : (x0 ++ ((l.take k).map tmB).flatten).length ≤ 900 := by
        have h2 := flat_len_le tmB 81 (l.take k) fun t ht => tmB_len (HW.out t (List.mem_of_mem_take ht)).2
        have h3 : (l.take k).length ≤ 10 := by rw [List.length_take]; omega
        have h4 : (l.take k).length * 81 ≤ 10 * 81 := Nat.mul_le_mul_right _ h3
        rw [List.length_append]; omega
      have hpos : 0 < (x0 ++ ((l.take k).map tmB).flatten).length := by rw [List.length_append]; omega
      obtain ⟨hat, B, cB, rfl, rB⟩ := hP
      obtain ⟨z, hz⟩ : ∃ z, z = x0 ++ ((l.take k).map tmB).flatten := ⟨_, rfl⟩
      rw [← hz] at hsn hlen hpos rB
      rw [← hz]
      obtain ⟨s1, s2, s3, s4⟩ := tmo_facts hx.2
      have hok : [x.signer].all L3.okN = true := by simp [L3.okN_mk (n := x.signer) (by omega) (by omega)]
      have htb : tmB x = encs [x.signer] ++ bytesV x.high := by unfold tmB; simp [L3.encs]
      have hNx := fun (W : World) => numsM_any (some ⟨W.heap.size, 0, none⟩) 1 1 [x.signer] (W.alloc (.cells #[.int .i64 x.signer] 3)) (rowI_reads W #[.int .i64 x.signer] 1 (by omega) rfl) (by omega) hok
      have hB := fun W => L11.bytes_ok x.high W hx.1.2.2 s4
      have hl2 := L11.bytes_len s4
      have p2 := bytesV_pos (c := x.high)
      have hl1 := numsB_le [x.signer] hok (by simp)
      have p1 := encs_pos x.signer []
      rw [htb] at hsn
      obtain ⟨x1, e1⟩ : ∃ y, y = encs [x.signer] := ⟨_, rfl⟩
      obtain ⟨x2, e2⟩ : ∃ y, y = bytesV x.high := ⟨_, rfl⟩
      rw [← e1] at hNx hl1 p1 hsn
      rw [← e2] at hB hl2 p2 hsn
      obtain ⟨zz, hzz⟩ : ∃ y, y = z ++ (x1 ++ x2) := ⟨_, rfl⟩
      rw [← hzz] at hsn
      have HNX := Lib.hid hNx
      have HB := Lib.hid hB
      have HL := Lib.hid (And.intro hl1 (And.intro hl2 (And.intro p1 (And.intro p2 (And.intro hlen hpos)))))
      have HSN := Lib.hid (And.intro hsn hzz)
      have hPb := hat.below (below_new wr (.cells (tmC x) 26))
      have hyb : Blk (wr.alloc (.cells (tmC x) 26)) wr.heap.size 26 (tmC x) := tmo_new _ _ _
      have rBb := (rB.below (below_new wr (.cells (tmC x) 26))).more (below_new wr (.cells (tmC x) 26)).size
      clear hxe hcs hz hsn hlen hpos s1 s2 s3 s4 hok htb hNx hB hl2 p2 hl1 p1 e1 e2 hzz hx hkL hat rB
      go_upto_region 17 with (first
        | (refine wpList_cells_at rfl _ _ rfl (ad.add (k * 10)) rfl (tmL x) _ hcs1 Tryz.underlying26 rfl tmInfo ?_)
        | (refine wpList_store_new rfl _ _ _ rfl _ (tmC x) rfl rfl _ _ tmInfo rfl (tmC_ones _) ?_))
      obtain ⟨G, hG⟩ : ∃ G, G = wr.heap.size := ⟨_, rfl⟩
      rw [← hG] at hyb
      rw [← hG]
      refine name_world (fun w2 hw2 => ?_)
      rw [← hw2] at hyb hPb rBb
      clear hw2 hG hcs1 hadl
      (try simp only [Act.put])
      have hdr : Below w2.heap.size w2 w2.drew := (Below.refl _ w2).drew
      have hA : WtAt w G x w2.drew := WtAt.drew ⟨hyb, hPb.bw⟩
      have hPd := hPb.below hdr
      have rBd := (rBb.below hdr).more hdr.size
      obtain ⟨w3, hw3⟩ : ∃ w3, w3 = w2.drew := ⟨_, rfl⟩
      rw [← hw3] at hA hPd rBd
      refine wp_region_K (WtAt w G x) [0, 1, 2, 5, 6, 8, 9] (by kernel_rfl) ?_
      rw [← hw3]
      clear hw3 hdr hyb hPb rBb
      refine wpK_quiet (f := 9) (by kernel_rfl) (fun _ x _ _ _ h => by cases x <;> exact h) hA [0, 1, 2, 5, 6] _ _ (by kernel_rfl) (by kernel_rfl) (by kernel_rfl) ?_
      have ne : Nonempty (WorldIn (WtAt w G x)) := ⟨⟨_, hA⟩⟩
      have g0 : ∀ y : WorldIn (WtAt w G x), y.w.cell? ⟨G, 0, none⟩ = some (.int .i64 x.signer) := fun y => y.h.bx.cell 0
      have g2 : ∀ y : WorldIn (WtAt w G x), ∀ j u, (crtL x.high)[j]? = some u → y.w.cell? ((⟨G, 2, none⟩ : Addr).add j) = some u := fun y => sub_any y.h.bx (k := 2) rfl
      have G2 := Lib.hid g2
      clear g2
      conv => arg 5; simp [pick]
      iterate 4 go_big_quiet_step (fail)
      refine wpQuiet_cells rfl _ _ rfl ⟨G, 2, none⟩ rfl (crtL x.high) _ G2.out Tryz.underlying24 rfl crtInfo ?_
      conv => arg 6; simp only [Act.put, List.setIfInBounds_toArray, List.set_cons_zero, List.set_cons_succ]
      refine wpQuiet_nil ?_
      clear ne g0 G2
      have hb4 := below_new w3 (.cells #[.int .i64 x.signer] 3)
      have hN := HNX.out w3
      refine wpK_step 3 (by kernel_rfl) rfl ?_
      go_wp2
      refine stepQ.mk ⟨fun _ => hA.below hb4, ?_⟩
      refine wpK_step 4 (by kernel_rfl) rfl ?_
      go_wp2_with (go_at_call 20; refine hN.mono ?_; rintro e w5 ho5; obtain ⟨A5, c5, rfl, r5, hb5⟩ := owns_reads ho5)
      have hA5 := (hA.below hb4).below hb5
      have hP5 := (hPd.below hb4).below hb5
      have rB5 := (((rBd.below hb4).more hb4.size).below hb5).more hb5.size
      refine stepQ.mk ⟨fun _ => hA5, ?_⟩
      clear hN hb4 hb5 hA hPd rBd
      have hB := HB.out w5
      refine wpK_step 7 (by kernel_rfl) rfl ?_
      go_wp2_with (go_at_call 56; refine hB.mono ?_; rintro e w6 ⟨A6, c6, rfl, r6, q6, hb6⟩)
      have hA6 := hA5.below hb6
      have hP6 := hP5.below hb6
      have r56 := (r5.below hb6).more hb6.size
      have rB6 := (rB5.below hb6).more hb6.size
      refine stepQ.mk ⟨fun _ => hA6, ?_⟩
      clear hB hb6 hA5 r5 hP5 rB5
      refine wpK_quiet (f := 4) (by kernel_rfl) (fun _ x _ _ _ h => by cases x <;> exact h) hA6 [8, 9] _ _ (by kernel_rfl) (by kernel_rfl) (by kernel_rfl) ?_
      have ne : Nonempty (WorldIn (WtAt w G x)) := ⟨⟨_, hA6⟩⟩
      conv => arg 5; simp [pick]
      iterate 2 go_big_quiet_step (fail)
      refine wpQuiet_nil ?_
      clear ne
      refine wpK_step 10 (by kernel_rfl) rfl ?_
      go_wp2_with (go_at_call 53; refine (sure_any _ _ _ _ _).mono ?_; rintro e w6b ⟨rfl, rfl⟩)
      refine stepQ.mk ⟨fun _ => hA6, ?_⟩
      have hb8 := below_new w6 (.cells #[.slice B z.length cB, .slice A5 x1.length c5, .slice A6 x2.length c6] 52)
      have hA8 := hA6.below hb8
      have hP8 := hP6.below hb8
      refine wpK_step 11 (by kernel_rfl) rfl ?_
      go_wp2
      refine stepQ.mk ⟨fun _ => hA8, ?_⟩
      have hrs := row_slices w6 #[.slice B z.length cB, .slice A5 x1.length c5, .slice A6 x2.length c6] 3 (by omega) rfl
      have hfl : flatS [⟨B, cB, z⟩, ⟨A5, c5, x1⟩, ⟨A6, c6, x2⟩] = z ++ (x1 ++ x2) := by unfold flatS; simp
      have hCon := concat_any (some ⟨w6.heap.size, 0, none⟩) 3 3 [⟨B, cB, z⟩, ⟨A5, c5, x1⟩, ⟨A6, c6, x2⟩] _ rfl hrs (fun s hs => by
        simp only [List.mem_cons, List.not_mem_nil, or_false] at hs
        rcases hs with rfl | rfl | rfl
        · exact ⟨(rB6.below hb8).more hb8.size, HL.out.2.2.2.2.2⟩
        · exact ⟨(r56.below hb8).more hb8.size, HL.out.2.2.1⟩
        · exact ⟨(r6.below hb8).more hb8.size, HL.out.2.2.2.1⟩) (by omega) (by omega) (by rw [hfl, List.length_append, List.length_append]; have := HL.out; omega)
      rw [hfl, ← HSN.out.2] at hCon
      have HCon := Lib.hid hCon
      clear hCon hrs hfl hA6 r56 r6 rB6 hP6
      refine wpK_step 12 (by kernel_rfl) rfl ?_
      go_wp2_with (go_at_call 19; refine HCon.out.mono ?_; rintro e w9 ho9; obtain ⟨A9, c9, rfl, r9, hb9⟩ := owns_reads ho9)
      refine stepQ.mk ⟨fun _ => hA8.below hb9, ?_⟩
      have hP9 := hP8.below hb9
      clear HCon hb9 hA8 hb8 hP8
      refine wpK_seq [13] _ _ _ (by kernel_rfl) ?_
      conv => arg 4; simp [pick]
      go_wp2_with fail
      go_roundw
      case rel =>
        refine ⟨k + 1, by go_num, by omega, ⟨hP9, ⟨A9, c9, ?_, ?_⟩⟩⟩
        · rw [HSN.out.1]
        · rw [HSN.out.1]; exact r9
      case measure => simp [RowKit.intOf]; omega
    · have hkn : k = n := by omega
      subst hkn
      obtain ⟨hat, B, cB, rfl, rB⟩ := hP
      rw [← HRES.out] at rB ⊢
      have hb := hat.bw
      clear hat
      go_wp2_with fail
      go_ret
      exact ⟨_, _, rfl, rB, hb⟩
end Go.Proofs.YtgmejaiifibfoaaGreatDoor

/-
  The bytes of what a message has, by the code.
-/
set_option linter.unusedSimpArgs false
set_option linter.unusedVariables false
set_option maxRecDepth 10000
namespace Go.Proofs.YtgmejaiifibfoaaGreatDoor
open Go.RowKit Go.Maps Go.Lib
open L3 (Blk Reads Owned encN encs intCells)
open L11 (Crt zeroC crtL crtC mayV bytesV okW crtInfo crtC_ones)

theorem encN_pos2 (a b : Nat) : 0 < (encN a ++ encN b).length := by rw [List.length_append]; have := L3.encN_pos a; omega
theorem writ_pos {k : Int} {p : Pt} (hw : PtWf p) (h0 : mayP k p = true) : 0 < (writP p).length := by
  cases p
  case blk b =>
    show 0 < (bytesB b).length
    unfold bytesB
    rw [List.length_append]
    have := encs_pos b.view [b.round, b.height, b.author]
    omega
  case crt c => exact bytesV_pos
  case tmo t => show 0 < (encN t.signer.toNat ++ _).length; rw [List.length_append]; have := L3.encN_pos t.signer.toNat; omega
  case prf l => show 0 < (encN (l[0]!).view.toNat ++ _).length; rw [List.length_append]; have := L3.encN_pos (l[0]!).view.toNat; omega
  case inv s n => exact encN_pos2 _ _
  case ele n s => exact encN_pos2 _ _
  case wan s n => exact encN_pos2 _ _
  case txx t =>
    show 0 < (bytesT t).length
    unfold bytesT; rw [List.length_append]; have := L3.encN_pos t.kind.toNat; omega
  case non => cases h0
theorem writM_any (k : Int) (p : Pt) (v : Value) (w : World) (hk : kindP k p) (hv : PtIs w p v) (hw : PtWf p) (h0 : mayP k p = true) (hT : Tabs w) : Calls Tryz.prog 21 #[v] w (reads (writP p) w) := by
  cases p
  case blk b => obtain ⟨P, T, rfl, hl⟩ := hv; exact writ_B b P T w hw hl hT (of_decide_eq_true h0)
  case crt c => obtain rfl : v = _ := hv; exact writ_C c w hw (cer_may h0)
  case tmo t => obtain rfl : v = _ := hv; exact writ_T t w hw h0
  case prf l => obtain ⟨A, c, rfl, hr⟩ := hv; exact writ_P l A c w hw.1 hr h0
  case inv s n =>
    obtain rfl : v = _ := hv
    have h := h0
    unfold mayP at h
    simp only [Bool.and_eq_true] at h
    have h1 := okW_in h.1
    have h2 := okW_in h.2
    exact writ_I s n w (by omega) (by omega)
  case ele n s =>
    obtain rfl : v = _ := hv
    have h := h0
    unfold mayP at h
    simp only [Bool.and_eq_true] at h
    have h1 := okW_in h.1
    exact writ_E n s w (by omega) hw.2
  case wan s n =>
    obtain rfl : v = _ := hv
    have h := h0
    unfold mayP at h
    simp only [Bool.and_eq_true] at h
    have h1 := okW_in h.1
    have h2 := okW_in h.2
    exact writ_W s n w (by omega) (by omega)
  case txx t => obtain rfl : v = _ := hv; exact writ_X t w hT h0
  case non => cases h0
end Go.Proofs.YtgmejaiifibfoaaGreatDoor
