/-
  Texts of one layer in one: GreatM, ChkM, BytM, ParM, AliveM, UseM.
-/
import Derived.Test.YtgmejaiifibfoaaGreatDoorGreatB
import Derived.Test.YtgmejaiifibfoaaGreatDoorM2
import Derived.Test.YtgmejaiifibfoaaGreatDoorM4
import Derived.Test.YtgmejaiifibfoaaGreatDoorM5
import Derived.Test.YtgmejaiifibfoaaGreatDoorS2
import Derived.Test.YtgmejaiifibfoaaGreatDoorM8
import Derived.Test.YtgmejaiifibfoaaGreatDoorM7
import Derived.Test.YtgmejaiifibfoaaGreatDoorB4

/-
  A message that came in; is it more than is looked at?
-/
set_option linter.unusedSimpArgs false
set_option linter.unusedVariables false
set_option maxRecDepth 10000
namespace Go.Proofs.YtgmejaiifibfoaaGreatDoor
open Go.ChangeShapes Go.WideShapes Go.ChangeAt Go.RowKit Go.Maps Go.Lib
open L3 (Blk Reads)
open L11 (crtL)

/-- A message as it came in: its numbers fit; its lists and texts are of any size. -/
structure Mes.raw (m : Mes) : Prop where
  kind : inI m.kind
  signer : inI m.signer
  view : inI m.view
  n : inI m.n
  set : L11.inU m.set
  cert : m.cert.wf
  tm : m.tm.wf
  proof : ∀ t ∈ m.proof, t.wf
  np : m.proof.length ≤ maxLen
  block : m.block.raw
  tx : m.tx.wf maxLen
def greatM (m : Mes) : Bool := decide (40 < m.proof.length) || (greatK m.block || greatB m.tx)
theorem greatM_small {m : Mes} (h : m.raw) (hg : greatM m = false) : m.wf := by
  unfold greatM at hg
  simp only [Bool.or_eq_false_iff, decide_eq_false_iff_not] at hg
  exact ⟨h.kind, h.signer, h.view, h.n, h.set, h.cert, h.tm, h.proof, by omega, (great_small h.block hg.2.1).1, (great_wf h.tx hg.2.2).le (by omega)⟩
theorem rawlies_len {m : Mes} (h : m.raw) : m.proof.length ≤ 9223372036854775807 := by have := h.np; unfold maxLen at this; omega
set_option maxHeartbeats 2000000 in
set_option maxRecDepth 100000 in
theorem greatM_any (m : Mes) (P Q T : Value) (w : World) (hw : m.raw) (hl : LiesM w m P Q T) :
    Calls Tryz.prog 6 #[.agg (mesC m P Q T)] w (gives (.bool (greatM m)) w) := by
  have F0 := Lib.hid (boxM_mk 34 hl)
  obtain ⟨A, c, rfl, hra, B, d, D, f, rfl, rfl, hp, ht⟩ := hl
  have hK := fun W (hb : Below w.heap.size w W) => greatK_any m.block B d D f W hw.block (hp.below hb) (ht.below hb)
  have hX := fun W => great_any m.tx W
  have hnp := rawlies_len hw
  have e : greatM m = (decide (40 < m.proof.length) || (greatK m.block || greatB m.tx)) := rfl
  obtain ⟨b1, h1⟩ : ∃ b, b = greatK m.block := ⟨_, rfl⟩
  obtain ⟨b2, h2⟩ : ∃ b, b = greatB m.tx := ⟨_, rfl⟩
  rw [← h1] at hK e
  rw [← h2] at hX e
  obtain ⟨V1, hV1⟩ : ∃ V, V = (Value.slice B m.block.proof.length d) := ⟨_, rfl⟩
  obtain ⟨V2, hV2⟩ : ∃ V, V = (Value.slice D m.block.txs.length f) := ⟨_, rfl⟩
  rw [← hV1, ← hV2] at hK F0 ⊢
  obtain ⟨n, hn⟩ : ∃ n, n = m.proof.length := ⟨_, rfl⟩
  rw [← hn] at hnp e F0 ⊢
  have HK := Lib.hid hK
  have HX := Lib.hid hX
  clear hK hX h1 h2 hV1 hV2 hra hp ht hw hn
  by_cases h40 : 40 < n
  · have E : Hid (greatM m = true) := Lib.hid (by rw [e, decide_eq_true h40]; rfl)
    clear e
    go_enter Tryz.func6, Tryz.ntmps6
    go_upto_region 1 with fail
    refine name_world (fun w0 hw0 => ?_)
    have hA : BoxM w w.heap.size 34 m (.slice A n c) V1 V2 w0 := by rw [hw0]; exact F0.out
    clear hw0 F0
    have c23 : w0.cell? ⟨w.heap.size, 23, none⟩ = some (.slice A n c) := hA.bb.cell 23
    have hb := hA.bw
    clear hA
    go_wp2
    go_ret
    exact ⟨by rw [E.out]; rfl, hb⟩
  have hd : decide ((40 : Int) < (n : Int)) = false := decide_eq_false (by omega)
  rw [decide_eq_false h40] at e
  clear h40
  have E := Lib.hid e
  clear e
  cases b1
  · go_enter Tryz.func6, Tryz.ntmps6
    go_upto_region 1 with fail
    refine name_world (fun w0 hw0 => ?_)
    have hA : BoxM w w.heap.size 34 m (.slice A n c) V1 V2 w0 := by rw [hw0]; exact F0.out
    clear hw0 F0
    have c23 : w0.cell? ⟨w.heap.size, 23, none⟩ = some (.slice A n c) := hA.bb.cell 23
    have hB := mes_blo hA.bb
    have hK := HK.out w0 hA.bw
    go_wp2_with (first
      | (refine wpList_cells_at rfl _ _ rfl ⟨w.heap.size, 24, none⟩ rfl (bloL m.block V1 V2) _ hB Tryz.underlying30 rfl (bloInfoL _ _ _) ?_)
      | (go_at_call 14; refine hK.mono ?_; unfold gives; rintro e w1 ⟨rfl, hb1⟩; have hA1 := hA.below hb1; have hX1 := mes_tx hA1.bb)
      | (refine wpList_cells_at rfl _ _ rfl ⟨w.heap.size, 38, none⟩ rfl (txL m.tx) _ hX1 Tryz.underlying32 rfl (txInfoL _) ?_)
      | (go_at_call 15; refine (HX.out _).mono ?_; unfold gives; rintro e w2 ⟨rfl, hb2⟩))
    go_ret
    exact ⟨by rw [E.out]; simp, nxt hA1.bw hb2⟩
  · go_enter Tryz.func6, Tryz.ntmps6
    go_upto_region 1 with fail
    refine name_world (fun w0 hw0 => ?_)
    have hA : BoxM w w.heap.size 34 m (.slice A n c) V1 V2 w0 := by rw [hw0]; exact F0.out
    clear hw0 F0
    have c23 : w0.cell? ⟨w.heap.size, 23, none⟩ = some (.slice A n c) := hA.bb.cell 23
    have hB := mes_blo hA.bb
    have hK := HK.out w0 hA.bw
    go_wp2_with (first
      | (refine wpList_cells_at rfl _ _ rfl ⟨w.heap.size, 24, none⟩ rfl (bloL m.block V1 V2) _ hB Tryz.underlying30 rfl (bloInfoL _ _ _) ?_)
      | (go_at_call 14; refine hK.mono ?_; unfold gives; rintro e w1 ⟨rfl, hb1⟩))
    go_ret
    exact ⟨by rw [E.out]; rfl, nxt hA.bw hb1⟩

/-! A message that came in. -/
theorem list5 {l : List Value} {a0 a1 a2 a3 a4 : Value} (hl : l.length = 5) (h0 : l[0]? = some a0) (h1 : l[1]? = some a1) (h2 : l[2]? = some a2) (h3 : l[3]? = some a3) (h4 : l[4]? = some a4) : l = [a0, a1, a2, a3, a4] := by
  match l, hl with
  | [b0, b1, b2, b3, b4], _ =>
    simp at h0 h1 h2 h3 h4
    subst h0 h1 h2 h3 h4
    rfl
theorem parts45 {l : List Value} (hl : l.length = 45) : l = l.take 5 ++ ((l.drop 5).take 8 ++ ((l.drop 13).take 10 ++ ((l.drop 23).take 1 ++ ((l.drop 24).take 14 ++ (l.drop 38).take 7)))) := by
  rw [show (l.drop 38).take 7 = l.drop 38 from List.take_of_length_le (by simp; omega)]
  rw [show l.drop 38 = (l.drop 24).drop 14 by rw [List.drop_drop], List.take_append_drop]
  rw [show l.drop 24 = (l.drop 23).drop 1 by rw [List.drop_drop], List.take_append_drop]
  rw [show l.drop 23 = (l.drop 13).drop 10 by rw [List.drop_drop], List.take_append_drop]
  rw [show l.drop 13 = (l.drop 5).drop 8 by rw [List.drop_drop], List.take_append_drop, List.take_append_drop]
theorem cMM : Tryz.prog.cellsOf 34 = 45 := by kernel_rfl
theorem mes_of_trod {H : Type} {enc : TypeId × Value → H} {W : World} {fuel : Nat} {l : List Value} {y : DataW H × List MemPlace} (h : DataW.trod enc Tryz.prog W 0 (fun _ => true) true fuel 34 l = some y) :
    ∃ (m : Mes) (P Q T : Value), l = (mesC m P Q T).toList ∧ LiesM W m P Q T ∧ m.raw := by
  obtain ⟨ys, n, _, _, hlen, hyl, hf⟩ := DataW.trod_struct Tryz.underlying34 h
  have hl : l.length = 45 := hlen.trans cMM
  have hy : ys.length = 10 := hyl
  obtain ⟨a0, e0, w0⟩ := int_field (off := 0) (hf 0 _ rfl) (some_of hy (by decide)) (Nat.lt_of_lt_of_eq (by decide) hl.symm)
  obtain ⟨a1, e1, w1⟩ := int_field (off := 1) (hf 1 _ rfl) (some_of hy (by decide)) (Nat.lt_of_lt_of_eq (by decide) hl.symm)
  obtain ⟨a2, e2, w2⟩ := int_field (off := 2) (hf 2 _ rfl) (some_of hy (by decide)) (Nat.lt_of_lt_of_eq (by decide) hl.symm)
  obtain ⟨a3, e3, w3⟩ := int_field (off := 3) (hf 3 _ rfl) (some_of hy (by decide)) (Nat.lt_of_lt_of_eq (by decide) hl.symm)
  obtain ⟨a4, e4, w4⟩ := u32_field (off := 4) (hf 4 _ rfl) (some_of hy (by decide)) (Nat.lt_of_lt_of_eq (by decide) hl.symm)
  obtain ⟨z5, hz5⟩ := Option.isSome_iff_exists.1 (some_of (j := 5) hy (by decide))
  obtain ⟨z6, hz6⟩ := Option.isSome_iff_exists.1 (some_of (j := 6) hy (by decide))
  obtain ⟨z7, hz7⟩ := Option.isSome_iff_exists.1 (some_of (j := 7) hy (by decide))
  obtain ⟨z8, hz8⟩ := Option.isSome_iff_exists.1 (some_of (j := 8) hy (by decide))
  obtain ⟨z9, hz9⟩ := Option.isSome_iff_exists.1 (some_of (j := 9) hy (by decide))
  have h5 : DataW.trod enc Tryz.prog W 0 (fun _ => true) true n 24 ((l.drop 5).take (Tryz.prog.cellsOf 24)) = some z5 := (hf 5 _ rfl).trans hz5
  have h6 : DataW.trod enc Tryz.prog W 0 (fun _ => true) true n 26 ((l.drop 13).take (Tryz.prog.cellsOf 26)) = some z6 := (hf 6 _ rfl).trans hz6
  have h7 : DataW.trod enc Tryz.prog W 0 (fun _ => true) true n 27 ((l.drop 23).take (Tryz.prog.cellsOf 27)) = some z7 := (hf 7 _ rfl).trans hz7
  have h8 : DataW.trod enc Tryz.prog W 0 (fun _ => true) true n 30 ((l.drop 24).take (Tryz.prog.cellsOf 30)) = some z8 := (hf 8 _ rfl).trans hz8
  have h9 : DataW.trod enc Tryz.prog W 0 (fun _ => true) true n 32 ((l.drop 38).take (Tryz.prog.cellsOf 32)) = some z9 := (hf 9 _ rfl).trans hz9
  rw [L11.cC] at h5
  rw [cT] at h6
  rw [cST] at h7
  rw [cB] at h8
  rw [cX] at h9
  obtain ⟨c, s5, w5⟩ := crt_of_trod h5
  obtain ⟨t, s6, w6⟩ := tm_of_trod h6
  obtain ⟨b, A8, c8, B8, d8, s8, p8, t8, w8⟩ := blk_of_trod h8
  obtain ⟨x, s9, w9⟩ := tx_of_trod h9
  rw [one_of (show 23 < l.length by omega)] at h7
  obtain ⟨A7, c7, L, s7, r7, q7, m7⟩ := list_of_trod (W := W) (f := tmL) (k := 10) (fun t : Tmo => t.wf) Tryz.underlying27 cT (fun _ => rfl) tm_0 (fun n cs' y h => tm_of_trod h) h7
  have s5' : l.take 5 = [.int .i64 a0, .int .i64 a1, .int .i64 a2, .int .i64 a3, .int .u32 a4] := list5 (by simp; omega) (by simpa using e0) (by simpa using e1) (by simpa using e2) (by simpa using e3) (by simpa using e4)
  refine ⟨⟨a0, a1, a2, a3, a4, c, t, L, b, x⟩, .slice A7 L.length c7, .slice A8 b.proof.length c8, .slice B8 b.txs.length d8, ?_, ⟨A7, c7, rfl, r7, A8, c8, B8, d8, rfl, rfl, p8, t8⟩, ⟨w0, w1, w2, w3, w4, w5, w6, q7, m7, w8, w9⟩⟩
  rw [parts45 hl, s5', s5, s6, one_of (show 23 < l.length by omega), s7, s8, s9]
  rfl
/-- A message that came in by value. -/
theorem open_mes {H : Type} {enc : TypeId × Value → H} {W : World} {base : Nat} {v : Value} {d : DataW H} {ps : List MemPlace} (hval : Value.okWide Tryz.prog W .any base 34 v)
    (h : DataW.Trod enc Tryz.prog W 0 (fun _ => true) true 34 v d ps) : ∃ (m : Mes) (P Q T : Value), v = .agg (mesC m P Q T) ∧ LiesM W m P Q T ∧ m.raw := by
  obtain ⟨cs, rfl, _⟩ := okWide_struct Tryz.underlying34 hval
  obtain ⟨fuel, hf⟩ := h
  obtain ⟨m, P, Q, T, hs, r1, hw⟩ := mes_of_trod hf
  refine ⟨m, P, Q, T, ?_, r1, hw⟩
  have : cs = mesC m P Q T := Array.toList_inj.1 hs
  rw [this]
end Go.Proofs.YtgmejaiifibfoaaGreatDoor

/-
  May it be a message: by the code.
-/
set_option linter.unusedSimpArgs false
set_option linter.unusedVariables false
set_option maxRecDepth 10000
namespace Go.Proofs.YtgmejaiifibfoaaGreatDoor
open Go.RowKit Go.Maps Go.Lib
open L3 (Blk Reads)
open L11 (Crt zeroC crtL crtC mayV okW crtInfo crtC_ones wpQuiet_fn)

/-- What is held while a message is looked at. -/
structure CmAt (w : World) (m : Mes) (P Q T : Value) (p : Pt) (v : Value) (m' : Mes) (P' Q' T' : Value) (W : World) : Prop where
  bb : Blk W w.heap.size 39 (mesC m P Q T)
  la : LiesM W m P Q T
  pt : PtIs W p v
  lb : LiesM W m' P' Q' T'
  tb : Tabs W
  bw : Below w.heap.size w W
theorem CmAt.below {w W W' : World} {m : Mes} {P Q T : Value} {p : Pt} {v : Value} {m' : Mes} {P' Q' T' : Value} (h : CmAt w m P Q T p v m' P' Q' T' W) (hb : Below W.heap.size W W') : CmAt w m P Q T p v m' P' Q' T' W' :=
  ⟨h.bb.below hb h.bb.lt, h.la.below hb, h.pt.below hb, h.lb.below hb, h.tb.kept hb, nxt h.bw hb⟩
set_option maxHeartbeats 4000000 in
set_option maxRecDepth 100000 in
theorem checkM_any (m : Mes) (P Q T : Value) (w : World) (hw : m.wf) (hl : LiesM w m P Q T) (hT : Tabs w) :
    Calls Tryz.prog 7 #[.agg (mesC m P Q T)] w (gives (.int .i64 (errI (mayM m) 140)) w) := by
  have F0 := Lib.hid (boxM_mk 39 hl)
  have hpw := part_wf hw
  have hpk := part_kind m
  have e : mayM m = (mayP m.kind (partM m) && sameMV m (madeM m.kind (partM m))) := by rw [may_made, sameMV_iff]
  have hmw := made_wf hw.kind hpw
  have HP := Lib.hid (fun W (h : LiesM W m P Q T) => part_any m P Q T W h)
  unfold parted at HP
  obtain ⟨p, hp⟩ : ∃ p, p = partM m := ⟨_, rfl⟩
  rw [← hp] at hpw hpk e hmw HP
  have HMAY := Lib.hid (fun v W (hv : PtIs W p v) (ht : Tabs W) => mayM_any m.kind p v W hpk hv hpw ht)
  have HMADE := Lib.hid (fun v W (hv : PtIs W p v) => made_is m.kind p v W hv)
  obtain ⟨m', hm'⟩ : ∃ m', m' = madeM m.kind p := ⟨_, rfl⟩
  rw [← hm'] at e hmw HMADE
  have HSAME := Lib.hid (fun P' Q' T' W (la : LiesM W m P Q T) (lb : LiesM W m' P' Q' T') => sameM_any m m' P Q T P' Q' T' W hw hmw la lb)
  obtain ⟨b0, hb0⟩ : ∃ b, b = mayP m.kind p := ⟨_, rfl⟩
  obtain ⟨b1, hb1⟩ : ∃ b, b = sameMV m m' := ⟨_, rfl⟩
  rw [← hb0, ← hb1] at e
  rw [← hb0] at HMAY
  rw [← hb1] at HSAME
  obtain ⟨k, hk⟩ : ∃ k, k = m.kind := ⟨_, rfl⟩
  rw [← hk] at HMAY HMADE
  rw [e]
  have HT := Lib.hid (fun W (hb : Below w.heap.size w W) => hT.kept hb)
  have HK := Lib.hid hk
  clear hpw hpk e hmw hp hm' hb0 hb1 hw hl hT hk
  go_enter Tryz.func7, Tryz.ntmps7
  go_upto_region 1 with fail
  refine name_world (fun w0 hw0 => ?_)
  have hA : BoxM w w.heap.size 39 m P Q T w0 := by rw [hw0]; exact F0.out
  clear hw0 F0
  have hP := HP.out w0 hA.ls
  go_upto_region 2 with (first
    | (refine wpList_row_at rfl _ _ rfl w.heap.size rfl _ _ _ _ hA.bb Tryz.underlying39 rfl mesInfo ?_)
    | (go_at_call 16; refine hP.mono ?_; rintro e w1 ⟨v, rfl, hv, hb1⟩))
  obtain ⟨P', Q', T', hMade, hLies⟩ := HMADE.out v w1 hv
  have hA1 := hA.below hb1
  have hC0 : CmAt w m P Q T p v m' P' Q' T' w1 := ⟨hA1.bb, hA1.ls, hv, hLies w1 (Below.refl _ _), HT.out _ hA1.bw, hA1.bw⟩
  have hC := hC0.below (Below.refl _ w1).drew
  have HMADE2 := Lib.hid hMade
  clear hP hv hb1 hA hA1 hMade hLies HP HMADE hC0
  have ne : Nonempty (WorldIn (CmAt w m P Q T p v m' P' Q' T')) := ⟨⟨_, hC⟩⟩
  have g0 : ∀ y : WorldIn (CmAt w m P Q T p v m' P' Q' T'), y.w.cell? ⟨w.heap.size, 0, none⟩ = some (.int .i64 k) := fun y => by rw [HK.out]; exact y.h.bb.cell 0
  cases b0
  · refine wp_region_S (CmAt w m P Q T p v m' P' Q' T') (by kernel_rfl) (by kernel_rfl) hC ?_
    clear hC
    iterate 14 (first
      | (refine wpQuiet_row rfl _ _ rfl w.heap.size rfl _ _ _ _ (fun y => y.h.bb) Tryz.underlying39 rfl mesInfo ?_
         conv => arg 6; simp only [Act.put, List.setIfInBounds_toArray, List.set_cons_zero, List.set_cons_succ])
      | (refine wpQuiet_fn rfl 17 _ _ rfl Tryz.call17 [.int .i64 k, v] rfl (v := .bool false) (fun x => (HMAY.out v x.w x.h.pt x.h.tb).mono fun e w' ⟨he, hb⟩ => ⟨he, x.h.below hb⟩) ?_
         conv => arg 6; simp only [Act.put, List.setIfInBounds_toArray, List.set_cons_zero, List.set_cons_succ])
      | go_big_quiet_step (fail))
    refine wpQuiet_nil ?_
    intro x
    obtain ⟨w7, hA7⟩ := x
    dsimp only
    clear ne g0
    go_wp2
    go_ret
    exact ⟨rfl, hA7.bw⟩
  · cases b1
    all_goals
      refine wp_region_S (CmAt w m P Q T p v m' P' Q' T') (by kernel_rfl) (by kernel_rfl) hC ?_
      clear hC
      iterate 14 (first
        | (refine wpQuiet_row rfl _ _ rfl w.heap.size rfl _ _ _ _ (fun y => y.h.bb) Tryz.underlying39 rfl mesInfo ?_
           conv => arg 6; simp only [Act.put, List.setIfInBounds_toArray, List.set_cons_zero, List.set_cons_succ])
        | (refine wpQuiet_fn rfl 17 _ _ rfl Tryz.call17 [.int .i64 k, v] rfl (v := .bool true) (fun x => (HMAY.out v x.w x.h.pt x.h.tb).mono fun e w' ⟨he, hb⟩ => ⟨he, x.h.below hb⟩) ?_
           conv => arg 6; simp only [Act.put, List.setIfInBounds_toArray, List.set_cons_zero, List.set_cons_succ])
        | (refine wpQuiet_fn rfl 18 _ _ rfl Tryz.call18 [.int .i64 k, v] rfl (v := .agg (mesC m' P' Q' T')) (fun x => (HMADE2.out x.w).mono fun e w' ⟨he, hb⟩ => ⟨he, x.h.below hb⟩) ?_
           conv => arg 6; simp only [Act.put, List.setIfInBounds_toArray, List.set_cons_zero, List.set_cons_succ])
        | (refine wpQuiet_fn rfl 11 _ _ rfl Tryz.call11 [.agg (mesC m P Q T), .agg (mesC m' P' Q' T')] rfl (v := .bool _) (fun x => (HSAME.out P' Q' T' x.w x.h.la x.h.lb).mono fun e w' ⟨he, hb⟩ => ⟨he, x.h.below hb⟩) ?_
           conv => arg 6; simp only [Act.put, List.setIfInBounds_toArray, List.set_cons_zero, List.set_cons_succ])
        | go_big_quiet_step (fail))
      refine wpQuiet_nil ?_
      intro x
      obtain ⟨w7, hA7⟩ := x
      dsimp only
      clear ne g0
      go_wp2
      go_ret
      exact ⟨rfl, hA7.bw⟩
theorem checkM_is (m : Mes) (P Q T : Value) (b : Bool) (w : World) (hw : m.wf) (hl : LiesM w m P Q T) (hT : Tabs w) (hb : mayM m = b) :
    Calls Tryz.prog 7 #[.agg (mesC m P Q T)] w (gives (.int .i64 (errI b 140)) w) := by
  have := checkM_any m P Q T w hw hl hT; rw [hb] at this; exact this
end Go.Proofs.YtgmejaiifibfoaaGreatDoor

/-
  A message's bytes, by the code.
-/
set_option linter.unusedSimpArgs false
set_option linter.unusedVariables false
set_option maxRecDepth 10000
namespace Go.Proofs.YtgmejaiifibfoaaGreatDoor
open Go.RowKit Go.Maps Go.Lib
open L3 (Blk Reads Owned encN encs intCells)
open L11 (Crt zeroC crtL crtC mayV okW crtInfo crtC_ones)

/-- A call that hands back a text, no error, and leaves all that was there. -/
def tells (l : List UInt8) (w : World) (e : Ending) (w' : World) : Prop := e = .returned (.tuple #[.string (str l), .int .i64 0]) ∧ Below w.heap.size w w'
set_option maxHeartbeats 2000000 in
set_option maxRecDepth 100000 in
theorem bytesM_no (m : Mes) (P Q T : Value) (w : World) (hw : m.wf) (hl : LiesM w m P Q T) (hT : Tabs w) (h0 : mayM m = false) :
    Calls Tryz.prog 8 #[.agg (mesC m P Q T)] w (gives (.tuple #[.string ⟨#[]⟩, .int .i64 140]) w) := by
  have F0 := Lib.hid (boxM_mk 39 hl)
  have HC := Lib.hid (fun W (h : LiesM W m P Q T) (ht : Tabs W) => checkM_is m P Q T false W hw h ht h0)
  have HT := Lib.hid (fun W (hb : Below w.heap.size w W) => hT.kept hb)
  clear hw hl hT h0
  go_enter Tryz.func8, Tryz.ntmps8
  go_upto_region 1 with fail
  refine name_world (fun w0 hw0 => ?_)
  have hA : BoxM w w.heap.size 39 m P Q T w0 := by rw [hw0]; exact F0.out
  clear hw0 F0
  have hC := HC.out w0 hA.ls (HT.out _ hA.bw)
  go_wp2_with (first
    | (refine wpList_row_at rfl _ _ rfl w.heap.size rfl _ _ _ _ hA.bb Tryz.underlying39 rfl mesInfo ?_)
    | (go_at_call 7; refine hC.mono ?_; unfold gives errI; rintro e w1 ⟨rfl, hb1⟩))
  go_ret2
  exact ⟨rfl, nxt hA.bw hb1⟩
/-- What is held while a message is written. -/
structure BmAt (w : World) (m : Mes) (P Q T : Value) (W : World) : Prop where
  bx : BoxM w w.heap.size 39 m P Q T W
  tb : Tabs W
theorem BmAt.below {w W W' : World} {m : Mes} {P Q T : Value} (h : BmAt w m P Q T W) (hb : Below W.heap.size W W') : BmAt w m P Q T W' := ⟨h.bx.below hb, h.tb.kept hb⟩
set_option maxHeartbeats 4000000 in
set_option maxRecDepth 100000 in
theorem bytesM_ok (m : Mes) (P Q T : Value) (w : World) (hw : m.wf) (hl : LiesM w m P Q T) (hT : Tabs w) (h0 : mayM m = true) :
    Calls Tryz.prog 8 #[.agg (mesC m P Q T)] w (tells (bytesM m) w) := by
  have F0 := Lib.hid (boxM_mk 39 hl)
  have HC := Lib.hid (fun W (h : LiesM W m P Q T) (ht : Tabs W) => checkM_is m P Q T true W hw h ht h0)
  have HT := Lib.hid (fun W (hb : Below w.heap.size w W) => hT.kept hb)
  have hp0 := part_kind m
  have hpw := part_wf hw
  have hmf := may_facts h0
  have hkk := ok_kind hmf.1
  have hmp : mayP m.kind (partM m) = true := by rw [← ok_mayP]; exact hmf.1
  have hbl := bytesM_len h0
  have HP := Lib.hid (fun W (h : LiesM W m P Q T) => part_any m P Q T W h)
  unfold parted at HP
  have HWR := Lib.hid (fun v W (hv : PtIs W (partM m) v) (ht : Tabs W) => writM_any m.kind (partM m) v W hp0 hv hpw hmp ht)
  obtain ⟨p, hp⟩ : ∃ p, p = partM m := ⟨_, rfl⟩
  have hok : [m.kind].all L3.okN = true := by simp [L3.okN_mk (n := m.kind) (by omega) (by omega)]
  have hN := fun (W : World) => numsM_any (some ⟨W.heap.size, 0, none⟩) 1 1 [m.kind] (W.alloc (.cells #[.int .i64 m.kind] 3)) (rowI_reads W #[.int .i64 m.kind] 1 (by omega) rfl) (by omega) hok
  have he : encs [m.kind] = encN m.kind.toNat := by simp [L3.encs]
  rw [he] at hN
  have p1 := L3.encN_pos m.kind.toNat
  have p2 : 0 < (bodyM m).length ∨ True := .inr trivial
  obtain ⟨k, hk⟩ : ∃ k, k = m.kind := ⟨_, rfl⟩
  obtain ⟨x1, e1⟩ : ∃ x, x = encN m.kind.toNat := ⟨_, rfl⟩
  obtain ⟨x2, e2⟩ : ∃ x, x = writP p := ⟨_, rfl⟩
  obtain ⟨y, hy⟩ : ∃ y, y = bytesM m := ⟨_, rfl⟩
  have hyx : y = x1 ++ x2 := by rw [hy, e1, e2, hp]; unfold bytesM; rw [body_writ]
  have hx2 : 0 < x2.length := by rw [e2, hp]; exact writ_pos hpw hmp
  rw [← e1] at hN p1
  rw [← hp] at HP HWR
  rw [← e2] at HWR
  rw [← hy] at hbl ⊢
  rw [← hk] at hN
  have HN := Lib.hid hN
  have HY := Lib.hid hyx
  have HL := Lib.hid (And.intro p1 (And.intro hx2 hbl))
  have HK := Lib.hid hk
  clear hw hl hT h0 hp0 hpw hmf hkk hmp hbl hp hok hN he p1 p2 hk e1 e2 hy hyx hx2
  go_enter Tryz.func8, Tryz.ntmps8
  go_upto_region 1 with fail
  refine name_world (fun w0 hw0 => ?_)
  have hA : BoxM w w.heap.size 39 m P Q T w0 := by rw [hw0]; exact F0.out
  clear hw0 F0
  have hC := HC.out w0 hA.ls (HT.out _ hA.bw)
  go_upto_region 4 with (first
    | (refine wpList_row_at rfl _ _ rfl w.heap.size rfl _ _ _ _ hA.bb Tryz.underlying39 rfl mesInfo ?_)
    | (go_at_call 7; refine hC.mono ?_; unfold gives errI; rintro e w1 ⟨rfl, hb1⟩))
  have hA1 : BmAt w m P Q T w1 := ⟨hA.below hb1, HT.out _ (hA.below hb1).bw⟩
  have hB := hA1.below (Below.refl _ w1).drew
  obtain ⟨w3, hw3⟩ : ∃ w3, w3 = w1.drew := ⟨_, rfl⟩
  rw [← hw3] at hB
  clear hC hA hb1 hA1 HC
  (try simp only [Act.put])
  refine wp_region_K (BmAt w m P Q T) [0, 1, 4] (by kernel_rfl) ?_
  rw [← hw3]
  clear hw3
  refine wpK_quiet (f := 7) (by kernel_rfl) (fun _ x _ _ _ h => by cases x <;> exact h) hB [0, 1, 4] _ _ (by kernel_rfl) (by kernel_rfl) (by kernel_rfl) ?_
  have ne : Nonempty (WorldIn (BmAt w m P Q T)) := ⟨⟨_, hB⟩⟩
  have g0 : ∀ y : WorldIn (BmAt w m P Q T), y.w.cell? ⟨w.heap.size, 0, none⟩ = some (.int .i64 k) := fun y => by rw [HK.out]; exact y.h.bx.bb.cell 0
  conv => arg 5; simp [pick]
  iterate 2 go_big_quiet_step (fail)
  refine wpQuiet_row rfl _ _ rfl w.heap.size rfl _ _ _ _ (fun y => y.h.bx.bb) Tryz.underlying39 rfl mesInfo ?_
  conv => arg 6; simp only [Act.put, List.setIfInBounds_toArray, List.set_cons_zero, List.set_cons_succ]
  refine wpQuiet_nil ?_
  clear ne g0
  have hb4 := below_new w3 (.cells #[.int .i64 k] 3)
  have hN := HN.out w3
  refine wpK_step 2 (by kernel_rfl) rfl ?_
  go_wp2
  refine stepQ.mk ⟨fun _ => hB.below hb4, ?_⟩
  refine wpK_step 3 (by kernel_rfl) rfl ?_
  go_wp2_with (go_at_call 20; refine hN.mono ?_; rintro e w5 ho5; obtain ⟨A5, c5, rfl, r5, hb5⟩ := owns_reads ho5)
  have hB5 := (hB.below hb4).below hb5
  refine stepQ.mk ⟨fun _ => hB5, ?_⟩
  clear hN hb4 hb5 hB
  have hP := HP.out w5 hB5.bx.ls
  refine wpK_step 5 (by kernel_rfl) rfl ?_
  go_wp2_with (go_at_call 16; refine hP.mono ?_; rintro e w6 ⟨v, rfl, hv, hb6⟩)
  have hB6 := hB5.below hb6
  have r56 := (r5.below hb6).more hb6.size
  refine stepQ.mk ⟨fun _ => hB6, ?_⟩
  clear hP hb6 hB5 r5
  have hW := HWR.out v w6 hv hB6.tb
  refine wpK_step 6 (by kernel_rfl) rfl ?_
  go_wp2_with (go_at_call 21; refine hW.mono ?_; rintro e w7 ⟨A7, c7, rfl, r7, hb7⟩)
  have hB7 := hB6.below hb7
  have r57 := (r56.below hb7).more hb7.size
  refine stepQ.mk ⟨fun _ => hB7, ?_⟩
  clear hW hb7 hB6 r56 hv
  have hb8 := below_new w7 (.cells #[.slice A5 x1.length c5, .slice A7 x2.length c7] 52)
  have hB8 := hB7.below hb8
  refine wpK_step 7 (by kernel_rfl) rfl ?_
  go_wp2
  refine stepQ.mk ⟨fun _ => hB8, ?_⟩
  have hrs := row_slices w7 #[.slice A5 x1.length c5, .slice A7 x2.length c7] 2 (by omega) rfl
  have hfl : flatS [⟨A5, c5, x1⟩, ⟨A7, c7, x2⟩] = y := by rw [HY.out]; unfold flatS; simp
  have hCon := concat_any (some ⟨w7.heap.size, 0, none⟩) 2 2 [⟨A5, c5, x1⟩, ⟨A7, c7, x2⟩] _ rfl hrs (fun s hs => by
    simp only [List.mem_cons, List.not_mem_nil, or_false] at hs
    rcases hs with rfl | rfl
    · exact ⟨(r57.below hb8).more hb8.size, HL.out.1⟩
    · exact ⟨(r7.below hb8).more hb8.size, HL.out.2.1⟩) (by omega) (by omega) (by rw [hfl]; have := HL.out; omega)
  rw [hfl] at hCon
  have HCon := Lib.hid hCon
  have hbw := hB8.bx.bw
  clear hCon hrs hfl hB7 r57 r7
  refine wpK_step 8 (by kernel_rfl) rfl ?_
  go_wp2_with (go_at_call 19; refine HCon.out.mono ?_; rintro e w9 ho9; obtain ⟨A9, c9, rfl, r9, hb9⟩ := owns_reads ho9)
  refine stepQ.mk ⟨fun _ => hB8.below hb9, ?_⟩
  have hfin := nxt hbw hb9
  have hcv : (convert 52 9 (.slice A9 y.length c9)).run Tryz.prog w9 = .ok (.string (str y)) w9 := by
    have := L3.conv_reads (c := c9) r9 (Nat.le_refl _)
    rw [List.take_length] at this
    exact this
  have hlen : ¬ 65536 < y.length := by have := HL.out; omega
  have hlen2 : y.length ≤ 65536 := by omega
  clear HCon hb9 hB8 hb8 hbw r9
  refine wpK_seq [9] _ _ _ (by kernel_rfl) ?_
  conv => arg 4; simp [pick]
  go_wp2_with fail
  go_ret2
  exact ⟨rfl, hfin⟩
end Go.Proofs.YtgmejaiifibfoaaGreatDoor

/-
  The message of all bytes: by the code.
-/
set_option linter.unusedSimpArgs false
set_option linter.unusedVariables false
set_option maxRecDepth 10000
namespace Go.Proofs.YtgmejaiifibfoaaGreatDoor
open Go.RowKit Go.Maps Go.Lib
open L3 (Blk Reads Rdr leaves numS failS rdN mostV mostS doneV)
open L6 (Turn)
open L11 (Crt zeroC crtL crtC mayV takeC crtInfo crtC_ones)

theorem far_none (B : Nat) : FarS B nS0 := fun ad n c e => by unfold nS0 at e; injection e with e; cases e
theorem made_far (k : Int) (p : Pt) (v : Value) (w : World) (h : PtIs w p v) : ∃ P Q T, (∀ W, Calls Tryz.prog 18 #[.int .i64 k, v] W (gives (.agg (mesC (madeM k p) P Q T)) W)) ∧ (∀ W, Below w.heap.size w W → LiesM W (madeM k p) P Q T) ∧ (∀ B, PtFar B p v → FarS B P ∧ FarS B Q ∧ FarS B T) := by
  have z : ∀ B, FarS B nS0 ∧ FarS B nS0 ∧ FarS B nS0 := fun B => ⟨far_none B, far_none B, far_none B⟩
  cases p
  case blk b =>
    obtain ⟨P, T, rfl, A, c, D, d, rfl, rfl, hp, ht⟩ := h
    exact ⟨_, _, _, fun W => made_B k b A _ c D _ d W, fun W hb => ⟨none, 0, rfl, Rd.nil, A, c, D, d, rfl, rfl, hp.below hb, ht.below hb⟩, fun B hf => ⟨far_none B, hf _ _ rfl⟩⟩
  case crt c => obtain rfl : v = _ := h; exact ⟨_, _, _, fun W => made_C k c W, fun W hb => liesM_zero W _ rfl rfl, fun B _ => z B⟩
  case tmo t => obtain rfl : v = _ := h; exact ⟨_, _, _, fun W => made_T k t W, fun W hb => liesM_zero W _ rfl rfl, fun B _ => z B⟩
  case prf l =>
    obtain ⟨A, c, rfl, hr⟩ := h
    exact ⟨_, _, _, fun W => made_P k l A _ c W, fun W hb => ⟨A, c, rfl, hr.below hb, lies_zero W⟩, fun B hf => ⟨hf _ rfl, far_none B, far_none B⟩⟩
  case inv s n => obtain rfl : v = _ := h; exact ⟨_, _, _, fun W => made_I k s n W, fun W hb => liesM_zero W _ rfl rfl, fun B _ => z B⟩
  case ele n s => obtain rfl : v = _ := h; exact ⟨_, _, _, fun W => made_E k n s W, fun W hb => liesM_zero W _ rfl rfl, fun B _ => z B⟩
  case wan s n => obtain rfl : v = _ := h; exact ⟨_, _, _, fun W => made_W k s n W, fun W hb => liesM_zero W _ rfl rfl, fun B _ => z B⟩
  case txx t => obtain rfl : v = _ := h; exact ⟨_, _, _, fun W => made_X k t W, fun W hb => liesM_zero W _ rfl rfl, fun B _ => z B⟩
  case non => obtain rfl : v = _ := h; exact ⟨_, _, _, fun W => made_N k W, fun W hb => liesM_zero W _ rfl rfl, fun B _ => z B⟩
theorem LiesM.turn {B : Nat} {S : Nat → Prop} {w w' : World} {m : Mes} {P Q T : Value} (h : LiesM w m P Q T) (hf : FarS B P ∧ FarS B Q ∧ FarS B T) (ht : Turn S w w') (hS : ∀ k, S k → k < B) : LiesM w' m P Q T := by
  obtain ⟨A, c, rfl, hr, D, d, E, e, rfl, rfl, hp, hx⟩ := h
  have off : ∀ {A : Option Addr} {n c : Nat}, FarS B (.slice A n c) → Off S A := fun {A n c} hfar => Off.of_ge (fun ad e => hfar ad n c (by rw [e])) hS
  exact ⟨A, c, rfl, hr.kept ht (off hf.1), D, d, E, e, rfl, rfl, hp.kept ht (off hf.2.1), hx.kept ht (off hf.2.2)⟩
/-- What Parse tells. -/
def parsedM (l : List UInt8) (w : World) (e : Ending) (w' : World) : Prop :=
  ∃ P Q T, e = .returned (.tuple #[.agg (mesC (parseM l).1 P Q T), .int .i64 (parseM l).2]) ∧ LiesM w' (parseM l).1 P Q T ∧ Below w.heap.size w w'
set_option maxHeartbeats 2000000 in
set_option maxRecDepth 100000 in
theorem parseM_long (l : List UInt8) (w : World) (hl : l.length ≤ 9223372036854775807) (h0 : 65536 < l.length) : Calls Tryz.prog 13 #[.string (str l)] w (parsedM l w) := by
  have hX : parseM l = (zeroM, 2) := by unfold parseM; rw [if_pos h0]
  have k0 := mes_new w 39 zeroM nS0 nS0 nS0
  have hb0 := below_new w (.cells (mesC zeroM nS0 nS0 nS0) 39)
  have Z0 := Lib.hid (And.intro k0 hb0)
  unfold parsedM
  rw [hX]
  have hsz := str_size l
  obtain ⟨s, hs⟩ : ∃ s, s = str l := ⟨_, rfl⟩
  rw [← hs] at hsz
  rw [← hs]
  have h1 : 65536 < s.size := by omega
  have h2 : s.size ≤ 9223372036854775807 := by omega
  clear k0 hb0 hX hs hsz h0 hl
  go_enter Tryz.func13, Tryz.ntmps13
  go_upto_region 1 with fail
  refine name_world (fun w0 hw0 => ?_)
  have hk0 : Blk w0 w.heap.size 39 (mesC zeroM nS0 nS0 nS0) := by rw [hw0]; exact Z0.out.1
  have hb0 : Below w.heap.size w w0 := by rw [hw0]; exact Z0.out.2
  clear hw0 Z0
  go_wp2_with (first
    | (refine wpList_build rfl _ _ rfl #[] rfl (build_m0 _) ?_)
    | (refine wpList_store_row rfl _ _ _ rfl w.heap.size (mesC zeroM nS0 nS0 nS0) rfl rfl _ _ hk0 mesInfo rfl (mesC_onesZ _) ?_))
  (try simp only [Exit.inBlock, Exit.then])
  refine bodyPost_ret (v := .tuple #[.agg (mesC zeroM nS0 nS0 nS0), .int .i64 2]) (results_row2 rfl _ _ w.heap.size rfl (.int .i64 2) rfl _ (mesC zeroM nS0 nS0 nS0) _ _ (blk_setRow hk0) Tryz.underlying39 rfl mesInfo) rfl ?_
  exact ⟨_, _, _, rfl, liesM_zero _ _ rfl rfl, below_setRow hb0 (Nat.le_refl _)⟩
set_option maxHeartbeats 4000000 in
set_option maxRecDepth 100000 in
theorem parseM_short (l : List UInt8) (w : World) (h0 : ¬ 65536 < l.length) (hT : Tabs w) : Calls Tryz.prog 13 #[.string (str l)] w (parsedM l w) := by
  have hX : parseM l = endM (readM (l, 0)) := by unfold parseM; rw [if_neg h0]
  have hRM : readM (l, 0) = (madeM (fitM (numV (l, 0))) (readP (fitM (numV (l, 0))) (numS (l, 0))).1, (readP (fitM (numV (l, 0))) (numS (l, 0))).2) := by unfold readM; rw [rest_readP]
  have k0 := mes_new w 39 zeroM nS0 nS0 nS0
  have hb0 := below_new w (.cells (mesC zeroM nS0 nS0 nS0) 39)
  have Z0 := Lib.hid (And.intro k0 hb0)
  unfold parsedM
  rw [hX, hRM]
  have hki : inI (fitM (numV (l, 0))) := fitM_in (numV_pos _)
  have hN := fun g W h => c_rnum g (l, 0) W h
  obtain ⟨a, ha⟩ : ∃ a, a = numV (l, (0 : Int)) := ⟨_, rfl⟩
  obtain ⟨q1, hq1⟩ : ∃ q, q = numS (l, (0 : Int)) := ⟨_, rfl⟩
  rw [← ha] at hki
  rw [← ha, ← hq1] at hN
  rw [← ha, ← hq1]
  obtain ⟨k, hk⟩ : ∃ k, fitM a = k := ⟨_, rfl⟩
  rw [hk] at hki
  rw [hk]
  have hF := fitM_is hk
  have HR := Lib.hid (fun g W h hT => readM_any k g q1 W h hT)
  obtain ⟨z, hz⟩ : ∃ z, z = readP k q1 := ⟨_, rfl⟩
  rw [← hz] at HR
  rw [← hz]
  obtain ⟨p, q⟩ := z
  have HMADE := Lib.hid (fun v W (hv : PtIs W p v) => made_far k p v W hv)
  have HWF := Lib.hid (fun (h : PtWf p) => made_wf hki h)
  dsimp only
  obtain ⟨m, hm⟩ : ∃ m, m = madeM k p := ⟨_, rfl⟩
  rw [← hm] at HMADE HWF
  rw [← hm]
  have HN := Lib.hid hN
  have HF := Lib.hid hF
  have HT := Lib.hid hT
  have hsz := str_size l
  have hlst := str_list l
  obtain ⟨s, hs⟩ : ∃ s, s = str l := ⟨_, rfl⟩
  rw [← hs] at hsz hlst
  rw [← hs]
  have h1 : ¬ 65536 < s.size := by omega
  have h2 : s.size ≤ 65536 := by omega
  have HSZ := Lib.hid (And.intro hsz hlst)
  clear k0 hb0 hX hRM hs hsz hlst h0 hT hki hN ha hq1 hk hF hz hm
  go_enter Tryz.func13, Tryz.ntmps13
  go_upto_region 1 with fail
  refine name_world (fun w0 hw0 => ?_)
  have hk0 : Blk w0 w.heap.size 39 (mesC zeroM nS0 nS0 nS0) := by rw [hw0]; exact Z0.out.1
  have hb0 : Below w.heap.size w w0 := by rw [hw0]; exact Z0.out.2
  clear hw0 Z0
  obtain ⟨c1, w1, hcv, hr1, hb1, hz1⟩ := L3.str_bytes w0 s
  rw [HSZ.out.2] at hr1
  have hw1 := nxt hb0 hb1
  have hk1 := hk0.below hb1 hk0.lt
  have hNw := L3.new_any _ _ _ c1 _ _ hr1 (by omega) (by omega)
  have HNw := Lib.hid hNw
  have H0 := hk0.lt
  clear hr1 hz1 hNw hk0
  go_upto_region 4 with (first
    | (go_at_call 37; refine HNw.out.mono ?_; rintro e w2 ⟨g, rfl, hg2, hrd2, hb2⟩))
  have hw2 := nxt hw1 hb2
  have hk2 := hk1.below hb2 hk1.lt
  have hgw : w.heap.size < g := by have := hk1.lt; omega
  have hTb := fun W (hW : w2.grownBy W (some g)) => tabs_grown HT.out hw2 (by omega) hW
  have hHT := Lib.hid hTb
  have hNm := HN.out g w2 hrd2
  clear hcv HNw hb1 hw1 hk1 hb2 hg2 hTb H0 hb0 HN
  go_upto_region 5 with (first
    | (go_at_call 39; refine hNm.mono ?_; rintro e w3 ⟨rfl, hl3⟩)
    | (go_at_call 38; refine (HF.out _).mono ?_; rintro e w3b ⟨rfl, rfl⟩))
  have hR := HR.out g w3 hl3.1 (fun W hW => hHT.out W (L3.grown_trans hl3.2 hW))
  clear hNm HF HR
  go_upto_region 6 with (first
    | (go_at_call 40; refine hR.mono ?_; rintro e w4 ⟨v, rfl, hv4, hpw, hl4, hfar⟩
       obtain ⟨P, Q, T, hMade, hLies, hFar⟩ := HMADE.out v w4 hv4; have hfar3 := hFar _ hfar
       obtain ⟨A0, a0, c0, B0, b0, d0, C0, e0, f0, rfl, rfl, rfl⟩ := (hLies w4 (Below.refl _ _)).form)
    | (go_at_call 18; refine (hMade _).mono ?_; unfold gives; rintro e w5 ⟨rfl, hb5⟩)
    | (refine wpList_store_new rfl _ _ _ rfl _ (mesC m (.slice A0 a0 c0) (.slice B0 b0 d0) (.slice C0 e0 f0)) rfl rfl _ _ mesInfo rfl (mesC_ones _ _ _ _ _ _ _ _ _ _) ?_))
  have hl34 := hl3.trans hl4
  have hw4 := below_leaves hw2 hl34 (by omega) (Nat.le_of_lt hk2.lt)
  have hk4 := hk2.grown hl34.2 (fun e => by injection e with e; omega)
  have hk5 := hk4.below hb5 hk4.lt
  have hw5 := nxt hw4 hb5
  have hr5 := rdr_below hl34.1 hb5 hl34.1.lt
  have hL5 := hLies w5 hb5
  have hb6 := below_new w5 (.cells (mesC m (.slice A0 a0 c0) (.slice B0 b0 d0) (.slice C0 e0 f0)) 39)
  have hx6 := mes_new w5 39 m (.slice A0 a0 c0) (.slice B0 b0 d0) (.slice C0 e0 f0)
  have hk6 := hk5.below hb6 hk5.lt
  have hr6 := rdr_below hr5 hb6 hr5.lt
  have hL6 := hL5.below hb6
  have hw6 := nxt hw5 hb6
  have hgG : w.heap.size < w5.heap.size := hk5.lt
  have hw3s : w.heap.size < w3.heap.size := Nat.lt_of_lt_of_le hk2.lt hl3.2.size
  have hFR := Lib.hid (And.intro hfar3 hw3s)
  have HWf := Lib.hid (HWF.out hpw)
  obtain ⟨G, hG⟩ : ∃ G, G = w5.heap.size := ⟨_, rfl⟩
  rw [← hG] at hx6 hgG
  rw [← hG]
  refine name_world (fun w6 hw6' => ?_)
  rw [← hw6'] at hx6 hk6 hr6 hL6 hw6
  have hT6 := HT.out.kept hw6
  clear hw6' hG hfar hFar hfar3 hw3s hl34 hw4 hk4 hk5 hw5 hr5 hL5 hb6 hb5 hLies hMade hv4 hpw hl4 hl3 hk2 hw2 hrd2 hgw hHT hR HMADE HWF
  have hD := L3.rdone_any g q w6 hr6
  obtain ⟨d, hd⟩ : ∃ d, d = doneV q := ⟨_, rfl⟩
  rw [← hd] at hD
  by_cases h0 : d ≠ 0
  · have hE : endM (m, q) = (zeroM, d) := by unfold endM; dsimp only; rw [← hd, if_pos h0]
    have HE := Lib.hid hE
    have q1 : (d != 0) = true := by simpa using h0
    have q2 : (d == 0) = false := by simpa using h0
    clear hE hd h0
    go_wp2_with (first
      | (go_at_call 41; refine hD.mono ?_; rintro e w7 ⟨rfl, rfl⟩)
      | (refine wpList_build rfl _ _ rfl #[] rfl (build_m0 _) ?_)
      | (refine wpList_store_row rfl _ _ _ rfl w.heap.size (mesC zeroM nS0 nS0 nS0) rfl rfl _ _ hk6 mesInfo rfl (mesC_onesZ _) ?_))
    (try simp only [Exit.inBlock, Exit.then])
    refine bodyPost_ret (v := .tuple #[.agg (mesC zeroM nS0 nS0 nS0), .int .i64 d]) (results_row2 rfl _ _ w.heap.size rfl (.int .i64 d) rfl _ (mesC zeroM nS0 nS0 nS0) _ _ (blk_setRow hk6) Tryz.underlying39 rfl mesInfo) rfl ?_
    rw [HE.out]
    exact ⟨_, _, _, rfl, liesM_zero _ _ rfl rfl, below_setRow hw6 (Nat.le_refl _)⟩
  have h0' : d = 0 := Decidable.not_not.1 h0
  subst h0'
  have hC := checkM_any m _ _ _ w6 HWf.out hL6 hT6
  have hE : endM (m, q) = if mayM m = false then (zeroM, 140) else (m, 0) := by unfold endM; dsimp only; rw [← hd, if_neg h0]
  clear hd h0
  obtain ⟨b, hb⟩ : ∃ b, b = mayM m := ⟨_, rfl⟩
  rw [← hb] at hC hE
  clear hb
  cases b
  · rw [if_pos rfl] at hE
    have HE := Lib.hid hE
    clear hE
    go_wp2_with (first
      | (go_at_call 41; refine hD.mono ?_; rintro e w7 ⟨rfl, rfl⟩)
      | (refine wpList_row_at rfl _ _ rfl G rfl _ _ _ _ hx6 Tryz.underlying39 rfl mesInfo ?_)
      | (go_at_call 7; refine hC.mono ?_; unfold gives errI; rintro e w7 ⟨rfl, hb7⟩; have hk7 := hk6.below hb7 hk6.lt; have hw7 := nxt hw6 hb7)
      | (refine wpList_build rfl _ _ rfl #[] rfl (build_m0 _) ?_)
      | (refine wpList_store_row rfl _ _ _ rfl w.heap.size (mesC zeroM nS0 nS0 nS0) rfl rfl _ _ hk7 mesInfo rfl (mesC_onesZ _) ?_))
    (try simp only [Exit.inBlock, Exit.then])
    refine bodyPost_ret (v := .tuple #[.agg (mesC zeroM nS0 nS0 nS0), .int .i64 140]) (results_row2 rfl _ _ w.heap.size rfl (.int .i64 140) rfl _ (mesC zeroM nS0 nS0 nS0) _ _ (blk_setRow hk7) Tryz.underlying39 rfl mesInfo) rfl ?_
    rw [HE.out]
    exact ⟨_, _, _, rfl, liesM_zero _ _ rfl rfl, below_setRow hw7 (Nat.le_refl _)⟩
  · rw [if_neg (by simp)] at hE
    have HE := Lib.hid hE
    have HLT := Lib.hid hgG
    clear hE
    go_wp2_with (first
      | (go_at_call 41; refine hD.mono ?_; rintro e w7 ⟨rfl, rfl⟩)
      | (refine wpList_row_at rfl _ _ rfl G rfl _ _ _ _ hx6 Tryz.underlying39 rfl mesInfo ?_)
      | (go_at_call 7; refine hC.mono ?_; unfold gives errI; rintro e w7 ⟨rfl, hb7⟩; have hk7 := hk6.below hb7 hk6.lt; have hw7 := nxt hw6 hb7; have hx7 := hx6.below hb7 hx6.lt; have hL7 := hL6.below hb7)
      | (refine wpList_row_at rfl _ _ rfl G rfl _ _ _ _ hx7 Tryz.underlying39 rfl mesInfo ?_)
      | (refine wpList_store_row rfl _ _ _ rfl w.heap.size (mesC m (.slice A0 a0 c0) (.slice B0 b0 d0) (.slice C0 e0 f0)) rfl rfl _ _ hk7 mesInfo rfl (mesC_ones _ _ _ _ _ _ _ _ _ _) ?_))
    (try simp only [Exit.inBlock, Exit.then])
    refine bodyPost_ret (v := .tuple #[.agg (mesC m (.slice A0 a0 c0) (.slice B0 b0 d0) (.slice C0 e0 f0)), .int .i64 0]) (results_row2 rfl _ _ w.heap.size rfl (.int .i64 0) rfl _ (mesC m (.slice A0 a0 c0) (.slice B0 b0 d0) (.slice C0 e0 f0)) _ _ (blk_setRow hk7) Tryz.underlying39 rfl mesInfo) rfl ?_
    rw [HE.out]
    exact ⟨_, _, _, rfl, hL7.turn hFR.out.1 (turn_row _ _ _) (fun k hk => by have := hFR.out.2; omega), below_setRow hw7 (Nat.le_refl _)⟩
theorem parseMs_any (l : List UInt8) (w : World) (hl : l.length ≤ 9223372036854775807) (hT : Tabs w) : Calls Tryz.prog 13 #[.string (str l)] w (parsedM l w) := by
  by_cases h : 65536 < l.length
  · exact parseM_long l w hl h
  · exact parseM_short l w h hT
end Go.Proofs.YtgmejaiifibfoaaGreatDoor

/-
  The chapter's example, by the code.
-/
set_option linter.unusedSimpArgs false
set_option linter.unusedVariables false
set_option maxRecDepth 10000
namespace Go.Proofs.YtgmejaiifibfoaaGreatDoor
open Go.RowKit Go.Maps Go.Lib
open L3 (Blk Reads encN numS failS doneV)
open L11 (Crt zeroC)

abbrev exM : Mes := ⟨6, 2, 5, 0, 0, zeroC, zeroT, [], zeroB, zeroX⟩
theorem exM_may : mayM exM = true := by decide +kernel
theorem exM_bytes : bytesM exM = [6, 2, 5] := by
  have e : bytesM exM = encN 6 ++ (encN 2 ++ encN 5) := rfl
  rw [e]
  simp [L3.encN_small]
theorem exM_parse : parseM [13, 0] = (zeroM, 140) := by
  obtain ⟨n1, n2⟩ := num_back 13 [0] (by omega)
  have e : encN 13 ++ [0] = [13, 0] := by simp [L3.encN_small]
  rw [e] at n1 n2
  unfold parseM readM
  rw [if_neg (by decide), n1, n2]
  have hf : fitM ((13 : Nat) : Int) = 13 := fitM_small (by omega)
  rw [hf]
  have hr : restM 13 ([0], 0) = ({ zeroM with kind := 13 }, failS 140 ([0], 0)) := by
    unfold restM
    rw [if_neg (by decide), if_neg (by decide), if_neg (by decide), if_neg (by decide), if_neg (by decide), if_neg (by decide), if_neg (by decide), if_neg (by decide)]
  rw [hr]
  have hs : failS 140 (([0] : List UInt8), (0 : Int)) = ([], 140) := by unfold L3.failS; rw [if_neg (by decide)]
  rw [hs]
  have hd : doneV (([] : List UInt8), (140 : Int)) = 140 := by unfold L3.doneV; rw [if_pos (by decide)]
  unfold endM
  dsimp only
  rw [hd, if_pos (by decide)]
theorem exM_wf : exM.wf := by
  have z := zeroM_wf
  exact ⟨by unfold inI exM; simp, by unfold inI exM; simp, by unfold inI exM; simp, z.n, z.set, z.cert, z.tm, z.proof, z.np, z.block, z.tx⟩
theorem build_exM (w : World) : (Instr.build 39 #[(0, .int .i64 6), (1, .int .i64 2), (2, .int .i64 5)]).run Tryz.prog w = .ok (.agg (mesC exM nS0 nS0 nS0)) w := run_build w _ _ _ (by kernel_rfl)
theorem al_bytesM (w : World) (hT : Tabs w) : Calls Tryz.prog 8 #[.agg (mesC exM nS0 nS0 nS0)] w (gives (.tuple #[.string { data := #[6, 2, 5] }, .int .i64 0]) w) := by
  have := bytesM_ok exM nS0 nS0 nS0 w exM_wf (liesM_zero w _ rfl rfl) hT exM_may
  rw [exM_bytes] at this
  exact this
theorem al_parseM (w : World) (hT : Tabs w) : Calls Tryz.prog 13 #[.string { data := #[13, 0] }] w fun e w' => ∃ A a c B b d C f g, e = .returned (.tuple #[.agg (mesC zeroM (.slice A a c) (.slice B b d) (.slice C f g)), .int .i64 140]) ∧ Below w.heap.size w w' := by
  refine (parseMs_any [13, 0] w (by simp) hT).mono ?_
  rintro e w' ⟨P, Q, T, rfl, hL, hb⟩
  rw [exM_parse] at hL ⊢
  obtain ⟨A, a, c, B, b, d, C, f, g, rfl, rfl, rfl⟩ := hL.form
  exact ⟨A, a, c, B, b, d, C, f, g, rfl, hb⟩
set_option maxHeartbeats 2000000 in
set_option maxRecDepth 100000 in
theorem aliveM_any (w : World) (hT : Tabs w) : Calls Tryz.prog 5 #[] w (gives (.bool true) w) := by
  have HT := Lib.hid (fun w' (hb : Below w.heap.size w w') => hT.kept hb)
  have HB := Lib.hid (al_bytesM w hT)
  clear hT
  go_enter Tryz.func5, Tryz.ntmps5
  go_upto_region 2 with (first
    | (refine wpList_build rfl _ _ rfl #[(0, .int .i64 6), (1, .int .i64 2), (2, .int .i64 5)] rfl (build_exM _) ?_)
    | (go_at_call 8; refine HB.out.mono ?_; unfold gives; rintro e w1 ⟨rfl, hb1⟩))
  have hP := al_parseM w1 (HT.out _ hb1)
  have HP := Lib.hid hP
  clear hP HB
  go_upto_region 3 with (first
    | (go_at_call 13; refine HP.out.mono ?_; rintro e w2 ⟨A2, n2, c2, B2, b2, d2, D2, m2, f2, rfl, hb2⟩)
    | (refine wpList_store_new rfl _ _ _ rfl _ (mesC zeroM (.slice A2 n2 c2) (.slice B2 b2 d2) (.slice D2 m2 f2)) rfl rfl _ _ mesInfo rfl (mesC_ones _ _ _ _ _ _ _ _ _ _) ?_))
  have hb3 := below_new w2 (.cells (mesC zeroM (.slice A2 n2 c2) (.slice B2 b2 d2) (.slice D2 m2 f2)) 39)
  have hbw := nxt (nxt hb1 hb2) hb3
  refine name_world (fun w3 hw3 => ?_)
  rw [← hw3] at hbw
  clear hw3 hb3 hb2 hb1 HP
  go_wp2
  go_ret
  exact ⟨rfl, hbw⟩
end Go.Proofs.YtgmejaiifibfoaaGreatDoor

/-
  What the laws on messages use: what may be fits; what Parse tells, opened.
-/
set_option linter.unusedSimpArgs false
set_option linter.unusedVariables false
set_option maxRecDepth 10000
namespace Go.Proofs.YtgmejaiifibfoaaGreatDoor
open Go.RowKit Go.Maps Go.Lib
open L3 (Blk Reads)
open L11 (Crt zeroC mayV)

theorem crt_wf {c : Crt} (hc : mayV c = true) : c.wf := by
  by_cases h0 : c.kind = 0
  · rw [L11.may_zero hc h0]; exact L11.zeroC_wf
  · by_cases h1 : c.kind = 1
    · obtain ⟨a0, a1, a2, a3⟩ := L11.may_one hc h1
      obtain ⟨s1, s2, s3, s4, s5⟩ := L11.sg_facts a0
      exact ⟨by unfold L11.inI; omega, by unfold L11.inI; omega, by unfold L11.inI; omega, by unfold L11.inI; omega, by unfold L11.inI; omega, by unfold L11.inI; omega, by unfold L11.inU; omega, by unfold L11.inU; omega⟩
    · obtain ⟨a, a0, a1, a2, a3⟩ := L11.may_two hc h0 h1
      obtain ⟨s1, s2, s3, s4, s5⟩ := L11.sg_facts a0
      exact ⟨by unfold L11.inI; omega, by unfold L11.inI; omega, by unfold L11.inI; omega, by unfold L11.inI; omega, by unfold L11.inI; omega, by unfold L11.inI; omega, by unfold L11.inU; omega, by unfold L11.inU; omega⟩
theorem tmoM_wf {t : Tmo} (h : tmoV t = true) : t.wf := by
  obtain ⟨t1, t2, t3, t4⟩ := tmo_facts h
  exact ⟨by unfold inI; omega, by unfold inI; omega, crt_wf t4⟩
theorem mayP_wf {k : Int} {p : Pt} (h : mayP k p = true) : PtWf p := by
  cases p
  case blk b => exact checkV_wf (of_decide_eq_true h)
  case crt c => exact crt_wf (cer_may h)
  case tmo t => exact tmoM_wf h
  case prf l =>
    have h0 := prf_facts h
    exact ⟨fun t ht => tmoM_wf (h0.2.2 t ht).1, by omega⟩
  case inv s n =>
    unfold mayP at h
    simp only [Bool.and_eq_true] at h
    have h1 := okW_in h.1
    have h2 := okW_in h.2
    exact ⟨by unfold inI; omega, by unfold inI; omega⟩
  case ele n s =>
    unfold mayP at h
    simp only [Bool.and_eq_true, decide_eq_true_eq] at h
    have h1 := okW_in h.1
    exact ⟨by unfold inI; omega, by unfold L11.inU; omega⟩
  case wan s n =>
    unfold mayP at h
    simp only [Bool.and_eq_true] at h
    have h1 := okW_in h.1
    have h2 := okW_in h.2
    exact ⟨by unfold inI; omega, by unfold inI; omega⟩
  case txx t => exact (right_wf h).le (by omega)
  case non => trivial
theorem mayM_wf {m : Mes} (h : mayM m = true) : m.wf := by
  have h1 := may_facts h
  have hk := ok_kind h1.1
  rw [ok_mayP] at h1
  have h2 := made_wf (k := m.kind) (by unfold inI; omega) (mayP_wf h1.1)
  rw [← only_made, ← h1.2] at h2
  exact h2
/-- What Parse tells of bytes, opened. -/
theorem parse_twoM (l : List UInt8) (z : Mes × Int) (w : World) (hT : Tabs w) (hl : l.length ≤ 9223372036854775807) (hz : z = parseM l) : Calls Tryz.prog 13 #[.string (str l)] w fun e w' => ∃ A a c B b d C f g, e = .returned (.tuple #[.agg (mesC z.1 (.slice A a c) (.slice B b d) (.slice C f g)), .int .i64 z.2]) ∧ LiesM w' z.1 (.slice A a c) (.slice B b d) (.slice C f g) ∧ Below w.heap.size w w' := by
  refine (parseMs_any l w hl hT).mono ?_
  rintro e w' ⟨P, Q, T, rfl, hL, hb⟩
  rw [← hz] at hL ⊢
  obtain ⟨A, a, c, B, b, d, C, f, g, rfl, rfl, rfl⟩ := hL.form
  exact ⟨A, a, c, B, b, d, C, f, g, rfl, hL, hb⟩
theorem same_selfM (l : List UInt8) : ((str l).toList == (str l).toList) = true := by simp
end Go.Proofs.YtgmejaiifibfoaaGreatDoor
