/-
  A block's bytes, by the code.
-/
import Derived.Test.YtkjkkbionlmohaaDoorChkB
import Derived.Test.YtkjkkbionlmohaaDoorWriteB
import Derived.Test.YtkjkkbionlmohaaDoorConB
set_option linter.unusedSimpArgs false
set_option linter.unusedVariables false
set_option maxRecDepth 10000
namespace Go.Proofs.YtkjkkbionlmohaaDoor
open Go.RowKit Go.Maps Go.Lib
open L3 (Blk Reads Owned encN encs intCells)
open L11 (Crt zeroC crtL crtC mayV bytesV okW crtInfo crtC_ones endV)

theorem ChkAt.drew {w W : World} {b : Blo} {A : Option Addr} {c : Nat} {B : Option Addr} {d : Nat} (h : ChkAt w b A c B d W) : ChkAt w b A c B d W.drew := ⟨h.bb.drew, h.rp.below (Below.refl _ W).drew, h.rt.below (Below.refl _ W).drew, h.tb.kept (Below.refl _ W).drew, h.bw.drew⟩
theorem ChkAt.par {w W : World} {b : Blo} {A : Option Addr} {c : Nat} {B : Option Addr} {d : Nat} (h : ChkAt w b A c B d W) : ∀ j u, (crtL b.par)[j]? = some u → W.cell? ((⟨w.heap.size, 4, none⟩ : Addr).add j) = some u := sub_cells h.bb (par_at b _ _)
theorem bytesB_no (b : Blo) (P T : Value) (w : World) (hw : b.wf) (hl : Lies w b P T) (hT : Tabs w) (h0 : checkV b ≠ 0) : Calls Tryd.prog 10 #[.agg (bloC b P T)] w (gives (.tuple #[.slice none 0 0, .int .i64 (checkV b)]) w) := by
  have k0 := blo_new w 28 b P T
  have hb0 := below_new w (.cells (bloC b P T) 28)
  have hc := checkB_any b P T _ hw (hl.below hb0) (hT.kept hb0)
  obtain ⟨r, hr⟩ : ∃ r, r = checkV b := ⟨_, rfl⟩
  rw [← hr] at hc h0 ⊢
  have h1 : (r != 0) = true := by simpa using h0
  have h2 : (r == 0) = false := by simpa using h0
  have HC := Lib.hid hc
  clear hc hr hw hl hT h0
  go_enter Tryd.func10, Tryd.ntmps10
  go_wp2_with (first
    | (refine wpList_row_at rfl _ _ rfl w.heap.size rfl _ _ _ _ k0 Tryd.underlying28 rfl bloInfo ?_)
    | (go_at_call 9; refine HC.out.mono ?_; unfold gives; rintro e w1 ⟨rfl, hb1⟩))
  go_ret2
  exact ⟨rfl, nxt hb0 hb1⟩
theorem row_slices (w : World) (cs : Array Value) (n : Nat) (hn : n ≤ 100) (hs : cs.size = n) : Reads (w.alloc (.cells cs 33)) (w.alloc (.cells cs 33)).heap.size 1 (some ⟨w.heap.size, 0, none⟩) n cs.toList :=
  L3.Reads.of_own (base := w.heap.size) (World.ownsRow_lit w cs n (Nat.le_refl _) (by unfold maxLen; omega) (by omega))
theorem listB_pos {α : Type} (f : α → List UInt8) (L : List α) : 0 < (listB f L).length := by unfold listB; have := L3.encN_pos L.length; rw [List.length_append]; omega
set_option maxHeartbeats 4000000 in
set_option maxRecDepth 100000 in
theorem bytB_ok (b : Blo) (A : Option Addr) (c : Nat) (B : Option Addr) (d : Nat) (w : World) (hw : b.wf) (hp : Rd tmL 10 w A b.proof) (ht : Rd txL 7 w B b.txs) (hT : Tabs w) (h0 : checkV b = 0) :
    Calls Tryd.prog 10 #[.agg (bloC b (.slice A b.proof.length c) (.slice B b.txs.length d))] w (made (bytesB b) w) := by
  have F0 := Lib.hid (chk_mk (c := c) (d := d) hp ht hT)
  obtain ⟨hh, hpar, hpro⟩ := check_zero h0
  have F1 := head_facts hh
  have F2 := parent_facts hpar
  have Q1 := proof_mem hpro
  have Q2 := proof_len hpro
  have hlen := bytesB_len h0
  have hok : [b.view, b.round, b.height, b.author].all L3.okN = true := by
    have e : ∀ n : Int, 0 ≤ n → n ≤ 4611686018427387904 → L3.okN n = true := fun n a b => L3.okN_mk a b
    simp [e b.view (by omega) (by omega), e b.round (by omega) (by omega), e b.height (by omega) (by omega), e b.author (by omega) (by omega)]
  have hck := fun W (h : ChkAt w b A c B d W) => checkB_is b _ _ 0 W hw ⟨A, c, B, d, rfl, rfl, h.rp, h.rt⟩ h.tb h0
  have hcb := fun W => L11.bytes_ok b.par W hw.par F2.1
  have hws := fun W (h : Rd tmL 10 W A b.proof) => writeTs_any A c b.proof W h (fun t ht => ⟨hw.proof t ht, (Q1 t ht).1⟩) (by omega)
  have hwx := fun W (h : Rd txL 7 W B b.txs) (hT : Tabs W) => writeXs_any B d b.txs W h F1.2.2.2.2 hT (by omega)
  have hnb := fun W A1 n1 c1 (h : Reads W W.heap.size 1 A1 n1 (intCells [b.view, b.round, b.height, b.author])) (hl : n1 ≤ 100) => numsB_any A1 n1 c1 [b.view, b.round, b.height, b.author] W h hl hok
  obtain ⟨x1, e1⟩ : ∃ x, x = encs [b.view, b.round, b.height, b.author] := ⟨_, rfl⟩
  obtain ⟨x2, e2⟩ : ∃ x, x = bytesV b.par := ⟨_, rfl⟩
  obtain ⟨x3, e3⟩ : ∃ x, x = listB tmB b.proof := ⟨_, rfl⟩
  obtain ⟨x4, e4⟩ : ∃ x, x = listB bytesT b.txs := ⟨_, rfl⟩
  have hB : bytesB b = x1 ++ (x2 ++ (x3 ++ x4)) := by rw [e1, e2, e3, e4]; rfl
  have p1 : 0 < x1.length := by rw [e1]; have := L3.encN_pos b.view.toNat; simp only [L3.encs, List.map_cons, List.flatten_cons, List.length_append]; omega
  have p2 : 0 < x2.length := by rw [e2]; exact bytesV_pos
  have p3 : 0 < x3.length := by rw [e3]; exact listB_pos _ _
  have p4 : 0 < x4.length := by rw [e4]; exact listB_pos _ _
  rw [hB] at hlen ⊢
  rw [← e1] at hnb
  rw [← e2] at hcb
  rw [← e3] at hws
  rw [← e4] at hwx
  have HH := Lib.hid (And.intro hck (And.intro hcb (And.intro hws (And.intro hwx hnb))))
  have HL := Lib.hid hlen
  have HP := Lib.hid (And.intro p1 (And.intro p2 (And.intro p3 p4)))
  clear hck hcb hws hwx hnb hlen p1 p2 p3 p4 hok F1 F2 Q1 Q2 hh hpar hpro hw hp ht hT h0 e1 e2 e3 e4 hB
  go_enter Tryd.func10, Tryd.ntmps10
  go_upto_region 1 with fail
  refine name_world (fun w0 hw0 => ?_)
  have hA : ChkAt w b A c B d w0 := by rw [hw0]; exact F0.out
  clear hw0 F0
  go_upto_region 4 with (first
    | (refine wpList_row_at rfl _ _ rfl w.heap.size rfl _ _ _ _ hA.bb Tryd.underlying28 rfl bloInfo ?_)
    | (go_at_call 9; refine (HH.out.1 _ hA).mono ?_; unfold gives; rintro e w1 ⟨rfl, hb1⟩))
  have hC := hA.below hb1
  clear hA hb1
  have hpc := hC.par
  go_upto_region 5 with (first
    | (refine wpList_cells_at rfl _ _ rfl ⟨w.heap.size, 4, none⟩ rfl (crtL b.par) _ hpc Tryd.underlying24 rfl crtInfo ?_)
    | (go_at_call 28; refine (HH.out.2.1 _).mono ?_; rintro e w2 ⟨A2, c2, rfl, r2, q2, hb2⟩))
  have hS0 := hC.below hb2
  have hS := hS0.drew
  have r2d := (r2.below (Below.refl _ w2).drew)
  clear hpc hC hb2 hS0
  refine wp_region_K (ChkAt w b A c B d) [0, 1, 2, 3, 4, 5, 6, 7, 10, 11, 12, 14, 15] (by kernel_rfl) ?_
  refine wpK_quiet (f := 7) (by kernel_rfl) (fun _ x _ _ _ h => by cases x <;> exact h) hS [0, 1, 2, 3, 4, 5, 6, 7, 10, 11, 12, 14, 15] _ _ (by kernel_rfl) (by kernel_rfl) (by kernel_rfl) ?_
  have ne : Nonempty (WorldIn (ChkAt w b A c B d)) := ⟨⟨_, hS⟩⟩
  have g0 : ∀ y : WorldIn (ChkAt w b A c B d), y.w.cell? ⟨w.heap.size, 0, none⟩ = some (.int .i64 b.view) := fun y => y.h.bb.cell 0
  have g1 : ∀ y : WorldIn (ChkAt w b A c B d), y.w.cell? ⟨w.heap.size, 1, none⟩ = some (.int .i64 b.round) := fun y => y.h.bb.cell 1
  have g2 : ∀ y : WorldIn (ChkAt w b A c B d), y.w.cell? ⟨w.heap.size, 2, none⟩ = some (.int .i64 b.height) := fun y => y.h.bb.cell 2
  have g3 : ∀ y : WorldIn (ChkAt w b A c B d), y.w.cell? ⟨w.heap.size, 3, none⟩ = some (.int .i64 b.author) := fun y => y.h.bb.cell 3
  have g4 : ∀ y : WorldIn (ChkAt w b A c B d), y.w.cell? ⟨w.heap.size, 12, none⟩ = some (.slice A b.proof.length c) := fun y => y.h.bb.cell 12
  have g5 : ∀ y : WorldIn (ChkAt w b A c B d), y.w.cell? ⟨w.heap.size, 13, none⟩ = some (.slice B b.txs.length d) := fun y => y.h.bb.cell 13
  conv => arg 5; simp [pick]
  iterate 13 go_big_quiet_step (fail)
  refine wpQuiet_nil ?_
  obtain ⟨w3, hw3⟩ : ∃ w3, w3 = w2.drew := ⟨_, rfl⟩
  have r23 : Reads w3 w3.heap.size 1 A2 x2.length (Lib.byteCells x2) := by rw [hw3]; exact r2d.more (Nat.le_refl _)
  rw [← hw3] at hS ⊢
  clear hw3 r2 r2d ne g0 g1 g2 g3 g4 g5
  have hrd := rowI_reads w3 #[.int .i64 b.view, .int .i64 b.round, .int .i64 b.height, .int .i64 b.author] 4 (by omega) rfl
  have hb4 := below_new w3 (.cells #[.int .i64 b.view, .int .i64 b.round, .int .i64 b.height, .int .i64 b.author] 3)
  have hN := HH.out.2.2.2.2 _ _ _ 4 hrd (by omega)
  refine wpK_step 8 (by kernel_rfl) rfl ?_
  go_wp2
  refine stepQ.mk ⟨fun _ => hS.below hb4, ?_⟩
  refine wpK_step 9 (by kernel_rfl) rfl ?_
  go_wp2_with (go_at_call 30; refine hN.mono ?_; rintro e w5 ⟨v5, rfl, ho5⟩)
  have hb5 : Below w3.heap.size w3 w5 := nxt hb4 ho5.2.1
  have hS5 := hS.below hb5
  refine stepQ.mk ⟨fun _ => hS5, ?_⟩
  obtain ⟨A5, c5, rfl, r5, q5⟩ := ho5.form
  have r25 := (r23.below hb5).more hb5.size
  clear hN hrd hb4 ho5 r23 hS
  have hW := HH.out.2.2.1 w5 hS5.rp
  refine wpK_step 13 (by kernel_rfl) rfl ?_
  go_wp2_with (go_at_call 31; refine hW.mono ?_; rintro e w6 ⟨v6, rfl, ho6⟩)
  have hb6 := ho6.2.1
  have hS6 := hS5.below hb6
  refine stepQ.mk ⟨fun _ => hS6, ?_⟩
  obtain ⟨A6, c6, rfl, r6, q6⟩ := ho6.form
  have r26 := (r25.below hb6).more hb6.size
  have r56 := (r5.below hb6).more hb6.size
  clear hW ho6 hb6 r25 r5 hS5
  have hW := HH.out.2.2.2.1 w6 hS6.rt hS6.tb
  refine wpK_step 16 (by kernel_rfl) rfl ?_
  go_wp2_with (go_at_call 33; refine hW.mono ?_; rintro e w7 ⟨v7, rfl, ho7⟩)
  have hb7 := ho7.2.1
  have hS7 := hS6.below hb7
  refine stepQ.mk ⟨fun _ => hS7, ?_⟩
  obtain ⟨A7, c7, rfl, r7, q7⟩ := ho7.form
  have r27 := (r26.below hb7).more hb7.size
  have r57 := (r56.below hb7).more hb7.size
  have r67 := (r6.below hb7).more hb7.size
  clear hW ho7 hb7 r26 r56 r6 hS6
  refine wpK_step 17 (by kernel_rfl) rfl ?_
  go_wp2
  have hb8 := below_new w7 (.cells #[.slice A5 x1.length c5, .slice A2 x2.length c2, .slice A6 x3.length c6, .slice A7 x4.length c7] 33)
  have hS8 := hS7.below hb8
  refine stepQ.mk ⟨fun _ => hS8, ?_⟩
  have hrs := row_slices w7 #[.slice A5 x1.length c5, .slice A2 x2.length c2, .slice A6 x3.length c6, .slice A7 x4.length c7] 4 (by omega) rfl
  have hfl : flatS [⟨A5, c5, x1⟩, ⟨A2, c2, x2⟩, ⟨A6, c6, x3⟩, ⟨A7, c7, x4⟩] = x1 ++ (x2 ++ (x3 ++ x4)) := by unfold flatS; simp
  have hCon := concat_any (some ⟨w7.heap.size, 0, none⟩) 4 4 [⟨A5, c5, x1⟩, ⟨A2, c2, x2⟩, ⟨A6, c6, x3⟩, ⟨A7, c7, x4⟩] _ rfl hrs (fun s hs => by
    simp only [List.mem_cons, List.not_mem_nil, or_false] at hs
    rcases hs with rfl | rfl | rfl | rfl
    · exact ⟨(r57.below hb8).more hb8.size, HP.out.1⟩
    · exact ⟨(r27.below hb8).more hb8.size, HP.out.2.1⟩
    · exact ⟨(r67.below hb8).more hb8.size, HP.out.2.2.1⟩
    · exact ⟨(r7.below hb8).more hb8.size, HP.out.2.2.2⟩) (by omega) (by omega) (by rw [hfl]; have := HL.out; omega)
  rw [hfl] at hCon
  have HCon := Lib.hid hCon
  have hbw := hS8.bw
  obtain ⟨y, hy⟩ : ∃ y, y = x1 ++ (x2 ++ (x3 ++ x4)) := ⟨_, rfl⟩
  rw [← hy] at HCon HL
  have HY := Lib.hid hy
  clear hCon hrs hfl hS7 r27 r57 r67 r7 hy
  refine wpK_step 18 (by kernel_rfl) rfl ?_
  go_wp2_with (go_at_call 29; refine HCon.out.mono ?_; rintro e w9 ⟨v9, rfl, ho9⟩)
  have hb9 := ho9.2.1
  refine stepQ.mk ⟨fun _ => hS8.below hb9, ?_⟩
  obtain ⟨A9, c9, rfl, r9, q9⟩ := ho9.form
  have hfin := nxt hbw hb9
  have hle := HL.out
  clear HCon ho9 hb9 hS8 hb8 hbw
  refine wpK_seq [19] _ _ _ (by kernel_rfl) ?_
  conv => arg 4; simp [pick]
  go_wp2_with fail
  (try simp only [Act.put])
  go_ret2
  rw [← HY.out]
  exact ⟨A9, c9, rfl, r9, q9, hfin⟩
/-- The bytes of a block that may be. -/
theorem bytesB_ok (b : Blo) (P T : Value) (w : World) (hw : b.wf) (hl : Lies w b P T) (hT : Tabs w) (h0 : checkV b = 0) : Calls Tryd.prog 10 #[.agg (bloC b P T)] w (made (bytesB b) w) := by
  obtain ⟨A, c, B, d, rfl, rfl, hp, ht⟩ := hl
  exact bytB_ok b A c B d w hw hp ht hT h0
end Go.Proofs.YtkjkkbionlmohaaDoor
