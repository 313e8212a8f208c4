/-
  A message's bytes, by the code.
-/
import Derived.Test.YtgmejaiifibfoaaDoorChkM
import Derived.Test.YtgmejaiifibfoaaDoorWritM
set_option linter.unusedSimpArgs false
set_option linter.unusedVariables false
set_option maxRecDepth 10000
namespace Go.Proofs.YtgmejaiifibfoaaDoor
open Go.RowKit Go.Maps Go.Lib
open L3 (Blk Reads Owned encN encs intCells)
open L11 (Crt zeroC crtL crtC mayV okW crtInfo crtC_ones)

/-- A call that hands back a text, no error, and leaves all that was there. -/
def tells (l : List UInt8) (w : World) (e : Ending) (w' : World) : Prop := e = .returned (.tuple #[.string (str l), .int .i64 0]) ∧ Below w.heap.size w w'
set_option maxHeartbeats 2000000 in
set_option maxRecDepth 100000 in
theorem bytesM_no (m : Mes) (P Q T : Value) (w : World) (hw : m.wf) (hl : LiesM w m P Q T) (hT : Tabs w) (h0 : mayM m = false) :
    Calls Tryd.prog 7 #[.agg (mesC m P Q T)] w (gives (.tuple #[.string ⟨#[]⟩, .int .i64 140]) w) := by
  have F0 := Lib.hid (boxM_mk 40 hl)
  have HC := Lib.hid (fun W (h : LiesM W m P Q T) (ht : Tabs W) => checkM_is m P Q T false W hw h ht h0)
  have HT := Lib.hid (fun W (hb : Below w.heap.size w W) => hT.kept hb)
  clear hw hl hT h0
  go_enter Tryd.func7, Tryd.ntmps7
  go_upto_region 1 with fail
  refine name_world (fun w0 hw0 => ?_)
  have hA : BoxM w w.heap.size 40 m P Q T w0 := by rw [hw0]; exact F0.out
  clear hw0 F0
  have hC := HC.out w0 hA.ls (HT.out _ hA.bw)
  go_wp2_with (first
    | (refine wpList_row_at rfl _ _ rfl w.heap.size rfl _ _ _ _ hA.bb Tryd.underlying40 rfl mesInfo ?_)
    | (go_at_call 12; refine hC.mono ?_; unfold gives errI; rintro e w1 ⟨rfl, hb1⟩))
  go_ret2
  exact ⟨rfl, nxt hA.bw hb1⟩
/-- What is held while a message is written. -/
structure BmAt (w : World) (m : Mes) (P Q T : Value) (W : World) : Prop where
  bx : BoxM w w.heap.size 40 m P Q T W
  tb : Tabs W
theorem BmAt.below {w W W' : World} {m : Mes} {P Q T : Value} (h : BmAt w m P Q T W) (hb : Below W.heap.size W W') : BmAt w m P Q T W' := ⟨h.bx.below hb, h.tb.kept hb⟩
set_option maxHeartbeats 4000000 in
set_option maxRecDepth 100000 in
theorem bytesM_ok (m : Mes) (P Q T : Value) (w : World) (hw : m.wf) (hl : LiesM w m P Q T) (hT : Tabs w) (h0 : mayM m = true) :
    Calls Tryd.prog 7 #[.agg (mesC m P Q T)] w (tells (bytesM m) w) := by
  have F0 := Lib.hid (boxM_mk 40 hl)
  have HC := Lib.hid (fun W (h : LiesM W m P Q T) (ht : Tabs W) => checkM_is m P Q T true W hw h ht h0)
  have HT := Lib.hid (fun W (hb : Below w.heap.size w W) => hT.kept hb)
  have hp0 := part_kind m
  have hpw := part_wf hw
  have hmf := may_facts h0
  have hkk := ok_kind hmf.1
  have hmp : mayP m.kind (partM m) = true := by rw [← ok_mayP]; exact hmf.1
  have hbl := bytesM_len h0
  have HP := Lib.hid (fun W (h : LiesM W m P Q T) => part_any m P Q T W h)
  unfold parted at HP
  have HWR := Lib.hid (fun v W (hv : PtIs W (partM m) v) (ht : Tabs W) => writM_any m.kind (partM m) v W hp0 hv hpw hmp ht)
  obtain ⟨p, hp⟩ : ∃ p, p = partM m := ⟨_, rfl⟩
  have hok : [m.kind].all L3.okN = true := by simp [L3.okN_mk (n := m.kind) (by omega) (by omega)]
  have hN := fun (W : World) => numsM_any (some ⟨W.heap.size, 0, none⟩) 1 1 [m.kind] (W.alloc (.cells #[.int .i64 m.kind] 3)) (rowI_reads W #[.int .i64 m.kind] 1 (by omega) rfl) (by omega) hok
  have he : encs [m.kind] = encN m.kind.toNat := by simp [L3.encs]
  rw [he] at hN
  have p1 := L3.encN_pos m.kind.toNat
  have p2 : 0 < (bodyM m).length ∨ True := .inr trivial
  obtain ⟨k, hk⟩ : ∃ k, k = m.kind := ⟨_, rfl⟩
  obtain ⟨x1, e1⟩ : ∃ x, x = encN m.kind.toNat := ⟨_, rfl⟩
  obtain ⟨x2, e2⟩ : ∃ x, x = writP p := ⟨_, rfl⟩
  obtain ⟨y, hy⟩ : ∃ y, y = bytesM m := ⟨_, rfl⟩
  have hyx : y = x1 ++ x2 := by rw [hy, e1, e2, hp]; unfold bytesM; rw [body_writ]
  have hx2 : 0 < x2.length := by rw [e2, hp]; exact writ_pos hpw hmp
  rw [← e1] at hN p1
  rw [← hp] at HP HWR
  rw [← e2] at HWR
  rw [← hy] at hbl ⊢
  rw [← hk] at hN
  have HN := Lib.hid hN
  have HY := Lib.hid hyx
  have HL := Lib.hid (And.intro p1 (And.intro hx2 hbl))
  have HK := Lib.hid hk
  clear hw hl hT h0 hp0 hpw hmf hkk hmp hbl hp hok hN he p1 p2 hk e1 e2 hy hyx hx2
  go_enter Tryd.func7, Tryd.ntmps7
  go_upto_region 1 with fail
  refine name_world (fun w0 hw0 => ?_)
  have hA : BoxM w w.heap.size 40 m P Q T w0 := by rw [hw0]; exact F0.out
  clear hw0 F0
  have hC := HC.out w0 hA.ls (HT.out _ hA.bw)
  go_upto_region 4 with (first
    | (refine wpList_row_at rfl _ _ rfl w.heap.size rfl _ _ _ _ hA.bb Tryd.underlying40 rfl mesInfo ?_)
    | (go_at_call 12; refine hC.mono ?_; unfold gives errI; rintro e w1 ⟨rfl, hb1⟩))
  have hA1 : BmAt w m P Q T w1 := ⟨hA.below hb1, HT.out _ (hA.below hb1).bw⟩
  have hB := hA1.below (Below.refl _ w1).drew
  obtain ⟨w3, hw3⟩ : ∃ w3, w3 = w1.drew := ⟨_, rfl⟩
  rw [← hw3] at hB
  clear hC hA hb1 hA1 HC
  (try simp only [Act.put])
  refine wp_region_K (BmAt w m P Q T) [0, 1, 4] (by kernel_rfl) ?_
  rw [← hw3]
  clear hw3
  refine wpK_quiet (f := 7) (by kernel_rfl) (fun _ x _ _ _ h => by cases x <;> exact h) hB [0, 1, 4] _ _ (by kernel_rfl) (by kernel_rfl) (by kernel_rfl) ?_
  have ne : Nonempty (WorldIn (BmAt w m P Q T)) := ⟨⟨_, hB⟩⟩
  have g0 : ∀ y : WorldIn (BmAt w m P Q T), y.w.cell? ⟨w.heap.size, 0, none⟩ = some (.int .i64 k) := fun y => by rw [HK.out]; exact y.h.bx.bb.cell 0
  conv => arg 5; simp [pick]
  iterate 2 go_big_quiet_step (fail)
  refine wpQuiet_row rfl _ _ rfl w.heap.size rfl _ _ _ _ (fun y => y.h.bx.bb) Tryd.underlying40 rfl mesInfo ?_
  conv => arg 6; simp only [Act.put, List.setIfInBounds_toArray, List.set_cons_zero, List.set_cons_succ]
  refine wpQuiet_nil ?_
  clear ne g0
  have hb4 := below_new w3 (.cells #[.int .i64 k] 3)
  have hN := HN.out w3
  refine wpK_step 2 (by kernel_rfl) rfl ?_
  go_wp2
  refine stepQ.mk ⟨fun _ => hB.below hb4, ?_⟩
  refine wpK_step 3 (by kernel_rfl) rfl ?_
  go_wp2_with (go_at_call 14; refine hN.mono ?_; rintro e w5 ho5; obtain ⟨A5, c5, rfl, r5, hb5⟩ := owns_reads ho5)
  have hB5 := (hB.below hb4).below hb5
  refine stepQ.mk ⟨fun _ => hB5, ?_⟩
  clear hN hb4 hb5 hB
  have hP := HP.out w5 hB5.bx.ls
  refine wpK_step 5 (by kernel_rfl) rfl ?_
  go_wp2_with (go_at_call 16; refine hP.mono ?_; rintro e w6 ⟨v, rfl, hv, hb6⟩)
  have hB6 := hB5.below hb6
  have r56 := (r5.below hb6).more hb6.size
  refine stepQ.mk ⟨fun _ => hB6, ?_⟩
  clear hP hb6 hB5 r5
  have hW := HWR.out v w6 hv hB6.tb
  refine wpK_step 6 (by kernel_rfl) rfl ?_
  go_wp2_with (go_at_call 15; refine hW.mono ?_; rintro e w7 ⟨A7, c7, rfl, r7, hb7⟩)
  have hB7 := hB6.below hb7
  have r57 := (r56.below hb7).more hb7.size
  refine stepQ.mk ⟨fun _ => hB7, ?_⟩
  clear hW hb7 hB6 r56 hv
  have hb8 := below_new w7 (.cells #[.slice A5 x1.length c5, .slice A7 x2.length c7] 50)
  have hB8 := hB7.below hb8
  refine wpK_step 7 (by kernel_rfl) rfl ?_
  go_wp2
  refine stepQ.mk ⟨fun _ => hB8, ?_⟩
  have hrs := row_slices w7 #[.slice A5 x1.length c5, .slice A7 x2.length c7] 2 (by omega) rfl
  have hfl : flatS [⟨A5, c5, x1⟩, ⟨A7, c7, x2⟩] = y := by rw [HY.out]; unfold flatS; simp
  have hCon := concat_any (some ⟨w7.heap.size, 0, none⟩) 2 2 [⟨A5, c5, x1⟩, ⟨A7, c7, x2⟩] _ rfl hrs (fun s hs => by
    simp only [List.mem_cons, List.not_mem_nil, or_false] at hs
    rcases hs with rfl | rfl
    · exact ⟨(r57.below hb8).more hb8.size, HL.out.1⟩
    · exact ⟨(r7.below hb8).more hb8.size, HL.out.2.1⟩) (by omega) (by omega) (by rw [hfl]; have := HL.out; omega)
  rw [hfl] at hCon
  have HCon := Lib.hid hCon
  have hbw := hB8.bx.bw
  clear hCon hrs hfl hB7 r57 r7
  refine wpK_step 8 (by kernel_rfl) rfl ?_
  go_wp2_with (go_at_call 13; refine HCon.out.mono ?_; rintro e w9 ho9; obtain ⟨A9, c9, rfl, r9, hb9⟩ := owns_reads ho9)
  refine stepQ.mk ⟨fun _ => hB8.below hb9, ?_⟩
  have hfin := nxt hbw hb9
  have hcv : (convert 50 9 (.slice A9 y.length c9)).run Tryd.prog w9 = .ok (.string (str y)) w9 := by
    have := L3.conv_reads (c := c9) r9 (Nat.le_refl _)
    rw [List.take_length] at this
    exact this
  have hlen : ¬ 65536 < y.length := by have := HL.out; omega
  have hlen2 : y.length ≤ 65536 := by omega
  clear HCon hb9 hB8 hb8 hbw r9
  refine wpK_seq [9] _ _ _ (by kernel_rfl) ?_
  conv => arg 4; simp [pick]
  go_wp2_with fail
  go_ret2
  exact ⟨rfl, hfin⟩
end Go.Proofs.YtgmejaiifibfoaaDoor
