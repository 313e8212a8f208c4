/-
  The bytes of a timeout in a message, by the code.
-/
import Derived.Test.YtgmejaiifibfoaaDoorWrM
import Derived.Test.YtgmejaiifibfoaaDoorB3
set_option linter.unusedSimpArgs false
set_option linter.unusedVariables false
set_option maxRecDepth 10000
namespace Go.Proofs.YtgmejaiifibfoaaDoor
open Go.RowKit Go.Maps Go.Lib
open L3 (Blk Reads Owned encN encs intCells)
open L11 (Crt zeroC crtL crtC mayV bytesV okW crtInfo crtC_ones)

/-- What is held while a timeout is written. -/
structure WtAt (w : World) (G : Nat) (t : Tmo) (W : World) : Prop where
  bx : Blk W G 26 (tmC t)
  bw : Below w.heap.size w W
theorem WtAt.below {w W W' : World} {G : Nat} {t : Tmo} (h : WtAt w G t W) (hb : Below W.heap.size W W') : WtAt w G t W' := ⟨h.bx.below hb h.bx.lt, nxt h.bw hb⟩
theorem WtAt.drew {w W : World} {G : Nat} {t : Tmo} (h : WtAt w G t W) : WtAt w G t W.drew := h.below (Below.refl _ W).drew
theorem encs_pos (z : Int) (l : List Int) : 0 < (encs (z :: l)).length := by
  have := L3.encN_pos z.toNat
  simp only [L3.encs, List.map_cons, List.flatten_cons, List.length_append]; omega
set_option maxHeartbeats 4000000 in
set_option maxRecDepth 100000 in
theorem writ_T (t : Tmo) (w : World) (hw : t.wf) (h0 : tmoV t = true) : Calls Tryd.prog 15 #[.iface 26 (.agg (tmC t))] w (reads (encN t.signer.toNat ++ (encN t.view.toNat ++ bytesV t.high)) w) := by
  obtain ⟨s1, s2, s3, s4⟩ := tmo_facts h0
  have hok : [t.signer, t.view].all L3.okN = true := two_okN (by omega) (by omega)
  have he : encs [t.signer, t.view] = encN t.signer.toNat ++ encN t.view.toNat := encs_two _ _
  have hN := fun (W : World) => numsM_any (some ⟨W.heap.size, 0, none⟩) 2 2 [t.signer, t.view] (W.alloc (.cells #[.int .i64 t.signer, .int .i64 t.view] 3)) (rowI_reads W #[.int .i64 t.signer, .int .i64 t.view] 2 (by omega) rfl) (by omega) hok
  have hB := fun W => L11.bytes_ok t.high W hw.2.2 s4
  have hl2 := L11.bytes_len s4
  have p2 := bytesV_pos (c := t.high)
  have hl1 := numsB_le [t.signer, t.view] hok (by simp)
  have p1 := encs_pos t.signer [t.view]
  rw [← List.append_assoc, ← he]
  obtain ⟨x1, e1⟩ : ∃ x, x = encs [t.signer, t.view] := ⟨_, rfl⟩
  obtain ⟨x2, e2⟩ : ∃ x, x = bytesV t.high := ⟨_, rfl⟩
  rw [← e1] at hN hl1 p1 ⊢
  rw [← e2] at hB hl2 p2 ⊢
  have HN := Lib.hid hN
  have HB := Lib.hid hB
  have HL := Lib.hid (And.intro hl1 (And.intro hl2 (And.intro p1 p2)))
  obtain ⟨y, hy⟩ : ∃ y, y = x1 ++ x2 := ⟨_, rfl⟩
  rw [← hy]
  have HY := Lib.hid hy
  clear hy
  clear hN hB hl1 hl2 p1 p2 e1 e2 he hok s1 s2 s3 s4 h0 hw
  have asB := as_TB
  have asC := as_TC
  have asT := as_TT
  go_enter Tryd.func15, Tryd.ntmps15
  have k2 : Blk (w.alloc (.cells (tmC t) 26)) w.heap.size 26 (tmC t) := Blk.new _ _ _
  have hb1 := below_new w (.cells (tmC t) 26)
  go_upto_region 10 with (refine wpList_store_new rfl _ _ _ rfl _ (tmC t) rfl rfl _ _ tmInfo rfl (tmC_ones _) ?_)
  refine name_world (fun w2 hw2 => ?_)
  rw [← hw2] at k2 hb1
  clear hw2
  obtain ⟨G, hG⟩ : ∃ G, G = w.heap.size := ⟨_, rfl⟩
  have hA : WtAt w G t w2.drew := WtAt.drew ⟨by rw [hG]; exact k2, hb1⟩
  rw [← hG]
  clear hG k2 hb1
  obtain ⟨w3, hw3⟩ : ∃ w3, w3 = w2.drew := ⟨_, rfl⟩
  rw [← hw3] at hA
  (try simp only [Act.put])
  refine wp_region_K (WtAt w G t) [0, 1, 2, 3, 6, 7, 9, 10] (by kernel_rfl) ?_
  rw [← hw3]
  clear hw3
  refine wpK_quiet (f := 9) (by kernel_rfl) (fun _ x _ _ _ h => by cases x <;> exact h) hA [0, 1, 2, 3, 6, 7] _ _ (by kernel_rfl) (by kernel_rfl) (by kernel_rfl) ?_
  have ne : Nonempty (WorldIn (WtAt w G t)) := ⟨⟨_, hA⟩⟩
  have g0 : ∀ y : WorldIn (WtAt w G t), y.w.cell? ⟨G, 0, none⟩ = some (.int .i64 t.signer) := fun y => y.h.bx.cell 0
  have g1 : ∀ y : WorldIn (WtAt w G t), y.w.cell? ⟨G, 1, none⟩ = some (.int .i64 t.view) := fun y => y.h.bx.cell 1
  have g2 : ∀ y : WorldIn (WtAt w G t), ∀ j u, (crtL t.high)[j]? = some u → y.w.cell? ((⟨G, 2, none⟩ : Addr).add j) = some u := fun y => sub_any y.h.bx (k := 2) rfl
  have G2 := Lib.hid g2
  clear g2
  conv => arg 5; simp [pick]
  iterate 5 go_big_quiet_step (fail)
  refine wpQuiet_cells rfl _ _ rfl ⟨G, 2, none⟩ rfl (crtL t.high) _ G2.out Tryd.underlying24 rfl crtInfo ?_
  conv => arg 6; simp only [Act.put, List.setIfInBounds_toArray, List.set_cons_zero, List.set_cons_succ]
  refine wpQuiet_nil ?_
  clear ne g0 g1 G2
  have hb4 := below_new w3 (.cells #[.int .i64 t.signer, .int .i64 t.view] 3)
  have hN := HN.out w3
  refine wpK_step 4 (by kernel_rfl) rfl ?_
  go_wp2
  refine stepQ.mk ⟨fun _ => hA.below hb4, ?_⟩
  refine wpK_step 5 (by kernel_rfl) rfl ?_
  go_wp2_with (go_at_call 14; refine hN.mono ?_; rintro e w5 ho5; obtain ⟨A5, c5, rfl, r5, hb5⟩ := owns_reads ho5)
  have hA5 := (hA.below hb4).below hb5
  refine stepQ.mk ⟨fun _ => hA5, ?_⟩
  clear hN hb4 hb5 hA
  have hB := HB.out w5
  refine wpK_step 8 (by kernel_rfl) rfl ?_
  go_wp2_with (go_at_call 30; refine hB.mono ?_; rintro e w6 ⟨A6, c6, rfl, r6, q6, hb6⟩)
  have hA6 := hA5.below hb6
  have r56 := (r5.below hb6).more hb6.size
  refine stepQ.mk ⟨fun _ => hA6, ?_⟩
  clear hB hb6 hA5 r5
  refine wpK_quiet (f := 4) (by kernel_rfl) (fun _ x _ _ _ h => by cases x <;> exact h) hA6 [9, 10] _ _ (by kernel_rfl) (by kernel_rfl) (by kernel_rfl) ?_
  have ne : Nonempty (WorldIn (WtAt w G t)) := ⟨⟨_, hA6⟩⟩
  conv => arg 5; simp [pick]
  iterate 2 go_big_quiet_step (fail)
  refine wpQuiet_nil ?_
  clear ne
  refine wpK_step 11 (by kernel_rfl) rfl ?_
  go_wp2_with (go_at_call 27; refine (sure_any _ _ _ _ _).mono ?_; rintro e w6b ⟨rfl, rfl⟩)
  refine stepQ.mk ⟨fun _ => hA6, ?_⟩
  have hb8 := below_new w6 (.cells #[.slice A5 x1.length c5, .slice A6 x2.length c6] 50)
  have hA8 := hA6.below hb8
  refine wpK_step 12 (by kernel_rfl) rfl ?_
  go_wp2
  refine stepQ.mk ⟨fun _ => hA8, ?_⟩
  have hrs := row_slices w6 #[.slice A5 x1.length c5, .slice A6 x2.length c6] 2 (by omega) rfl
  have hfl : flatS [⟨A5, c5, x1⟩, ⟨A6, c6, x2⟩] = x1 ++ x2 := by unfold flatS; simp
  have hCon := concat_any (some ⟨w6.heap.size, 0, none⟩) 2 2 [⟨A5, c5, x1⟩, ⟨A6, c6, x2⟩] _ rfl hrs (fun s hs => by
    simp only [List.mem_cons, List.not_mem_nil, or_false] at hs
    rcases hs with rfl | rfl
    · exact ⟨(r56.below hb8).more hb8.size, HL.out.2.2.1⟩
    · exact ⟨(r6.below hb8).more hb8.size, HL.out.2.2.2⟩) (by omega) (by omega) (by rw [hfl, List.length_append]; have := HL.out; omega)
  rw [hfl] at hCon
  rw [← HY.out] at hCon
  have HCon := Lib.hid hCon
  have hbw := hA8.bw
  clear hCon hrs hfl hA6 r56 r6
  refine wpK_step 13 (by kernel_rfl) rfl ?_
  go_wp2_with (go_at_call 13; refine HCon.out.mono ?_; rintro e w9 ho9; obtain ⟨A9, c9, rfl, r9, hb9⟩ := owns_reads ho9)
  refine stepQ.mk ⟨fun _ => hA8.below hb9, ?_⟩
  have hfin := nxt hbw hb9
  clear HCon hb9 hA8 hb8 hbw
  refine wpK_seq [14] _ _ _ (by kernel_rfl) ?_
  conv => arg 4; simp [pick]
  go_wp2_with fail
  go_ret
  exact ⟨_, _, rfl, r9, hfin⟩
end Go.Proofs.YtgmejaiifibfoaaDoor
