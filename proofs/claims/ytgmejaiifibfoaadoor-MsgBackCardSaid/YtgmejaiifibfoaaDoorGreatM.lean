/-
  A message that came in; is it more than is looked at?
-/
import Derived.Test.YtgmejaiifibfoaaDoorGreatB
import Derived.Test.YtgmejaiifibfoaaDoorMv
import Derived.Test.YtgmejaiifibfoaaDoorPartC
set_option linter.unusedSimpArgs false
set_option linter.unusedVariables false
set_option maxRecDepth 10000
namespace Go.Proofs.YtgmejaiifibfoaaDoor
open Go.ChangeShapes Go.WideShapes Go.ChangeAt Go.RowKit Go.Maps Go.Lib
open L3 (Blk Reads)
open L11 (crtL)

/-- A message as it came in: its numbers fit; its lists and texts are of any size. -/
structure Mes.raw (m : Mes) : Prop where
  kind : inI m.kind
  signer : inI m.signer
  view : inI m.view
  n : inI m.n
  set : L11.inU m.set
  cert : m.cert.wf
  tm : m.tm.wf
  proof : ∀ t ∈ m.proof, t.wf
  np : m.proof.length ≤ maxLen
  block : m.block.raw
  tx : m.tx.wf maxLen
def greatM (m : Mes) : Bool := decide (40 < m.proof.length) || (greatK m.block || greatB m.tx)
theorem greatM_small {m : Mes} (h : m.raw) (hg : greatM m = false) : m.wf := by
  unfold greatM at hg
  simp only [Bool.or_eq_false_iff, decide_eq_false_iff_not] at hg
  exact ⟨h.kind, h.signer, h.view, h.n, h.set, h.cert, h.tm, h.proof, by omega, (great_small h.block hg.2.1).1, (great_wf h.tx hg.2.2).le (by omega)⟩
theorem rawlies_len {m : Mes} (h : m.raw) : m.proof.length ≤ 9223372036854775807 := by have := h.np; unfold maxLen at this; omega
set_option maxHeartbeats 2000000 in
set_option maxRecDepth 100000 in
theorem greatM_any (m : Mes) (P Q T : Value) (w : World) (hw : m.raw) (hl : LiesM w m P Q T) :
    Calls Tryd.prog 6 #[.agg (mesC m P Q T)] w (gives (.bool (greatM m)) w) := by
  have F0 := Lib.hid (boxM_mk 34 hl)
  obtain ⟨A, c, rfl, hra, B, d, D, f, rfl, rfl, hp, ht⟩ := hl
  have hK := fun W (hb : Below w.heap.size w W) => greatK_any m.block B d D f W hw.block (hp.below hb) (ht.below hb)
  have hX := fun W => great_any m.tx W
  have hnp := rawlies_len hw
  have e : greatM m = (decide (40 < m.proof.length) || (greatK m.block || greatB m.tx)) := rfl
  obtain ⟨b1, h1⟩ : ∃ b, b = greatK m.block := ⟨_, rfl⟩
  obtain ⟨b2, h2⟩ : ∃ b, b = greatB m.tx := ⟨_, rfl⟩
  rw [← h1] at hK e
  rw [← h2] at hX e
  obtain ⟨V1, hV1⟩ : ∃ V, V = (Value.slice B m.block.proof.length d) := ⟨_, rfl⟩
  obtain ⟨V2, hV2⟩ : ∃ V, V = (Value.slice D m.block.txs.length f) := ⟨_, rfl⟩
  rw [← hV1, ← hV2] at hK F0 ⊢
  obtain ⟨n, hn⟩ : ∃ n, n = m.proof.length := ⟨_, rfl⟩
  rw [← hn] at hnp e F0 ⊢
  have HK := Lib.hid hK
  have HX := Lib.hid hX
  clear hK hX h1 h2 hV1 hV2 hra hp ht hw hn
  by_cases h40 : 40 < n
  · have E : Hid (greatM m = true) := Lib.hid (by rw [e, decide_eq_true h40]; rfl)
    clear e
    go_enter Tryd.func6, Tryd.ntmps6
    go_upto_region 1 with fail
    refine name_world (fun w0 hw0 => ?_)
    have hA : BoxM w w.heap.size 34 m (.slice A n c) V1 V2 w0 := by rw [hw0]; exact F0.out
    clear hw0 F0
    have c23 : w0.cell? ⟨w.heap.size, 23, none⟩ = some (.slice A n c) := hA.bb.cell 23
    have hb := hA.bw
    clear hA
    go_wp2
    go_ret
    exact ⟨by rw [E.out]; rfl, hb⟩
  have hd : decide ((40 : Int) < (n : Int)) = false := decide_eq_false (by omega)
  rw [decide_eq_false h40] at e
  clear h40
  have E := Lib.hid e
  clear e
  cases b1
  · go_enter Tryd.func6, Tryd.ntmps6
    go_upto_region 1 with fail
    refine name_world (fun w0 hw0 => ?_)
    have hA : BoxM w w.heap.size 34 m (.slice A n c) V1 V2 w0 := by rw [hw0]; exact F0.out
    clear hw0 F0
    have c23 : w0.cell? ⟨w.heap.size, 23, none⟩ = some (.slice A n c) := hA.bb.cell 23
    have hB := mes_blo hA.bb
    have hK := HK.out w0 hA.bw
    go_wp2_with (first
      | (refine wpList_cells_at rfl _ _ rfl ⟨w.heap.size, 24, none⟩ rfl (bloL m.block V1 V2) _ hB Tryd.underlying30 rfl (bloInfoL _ _ _) ?_)
      | (go_at_call 10; refine hK.mono ?_; unfold gives; rintro e w1 ⟨rfl, hb1⟩; have hA1 := hA.below hb1; have hX1 := mes_tx hA1.bb)
      | (refine wpList_cells_at rfl _ _ rfl ⟨w.heap.size, 38, none⟩ rfl (txL m.tx) _ hX1 Tryd.underlying32 rfl (txInfoL _) ?_)
      | (go_at_call 11; refine (HX.out _).mono ?_; unfold gives; rintro e w2 ⟨rfl, hb2⟩))
    go_ret
    exact ⟨by rw [E.out]; simp, nxt hA1.bw hb2⟩
  · go_enter Tryd.func6, Tryd.ntmps6
    go_upto_region 1 with fail
    refine name_world (fun w0 hw0 => ?_)
    have hA : BoxM w w.heap.size 34 m (.slice A n c) V1 V2 w0 := by rw [hw0]; exact F0.out
    clear hw0 F0
    have c23 : w0.cell? ⟨w.heap.size, 23, none⟩ = some (.slice A n c) := hA.bb.cell 23
    have hB := mes_blo hA.bb
    have hK := HK.out w0 hA.bw
    go_wp2_with (first
      | (refine wpList_cells_at rfl _ _ rfl ⟨w.heap.size, 24, none⟩ rfl (bloL m.block V1 V2) _ hB Tryd.underlying30 rfl (bloInfoL _ _ _) ?_)
      | (go_at_call 10; refine hK.mono ?_; unfold gives; rintro e w1 ⟨rfl, hb1⟩))
    go_ret
    exact ⟨by rw [E.out]; rfl, nxt hA.bw hb1⟩

/-! A message that came in. -/
theorem list5 {l : List Value} {a0 a1 a2 a3 a4 : Value} (hl : l.length = 5) (h0 : l[0]? = some a0) (h1 : l[1]? = some a1) (h2 : l[2]? = some a2) (h3 : l[3]? = some a3) (h4 : l[4]? = some a4) : l = [a0, a1, a2, a3, a4] := by
  match l, hl with
  | [b0, b1, b2, b3, b4], _ =>
    simp at h0 h1 h2 h3 h4
    subst h0 h1 h2 h3 h4
    rfl
theorem parts45 {l : List Value} (hl : l.length = 45) : l = l.take 5 ++ ((l.drop 5).take 8 ++ ((l.drop 13).take 10 ++ ((l.drop 23).take 1 ++ ((l.drop 24).take 14 ++ (l.drop 38).take 7)))) := by
  rw [show (l.drop 38).take 7 = l.drop 38 from List.take_of_length_le (by simp; omega)]
  rw [show l.drop 38 = (l.drop 24).drop 14 by rw [List.drop_drop], List.take_append_drop]
  rw [show l.drop 24 = (l.drop 23).drop 1 by rw [List.drop_drop], List.take_append_drop]
  rw [show l.drop 23 = (l.drop 13).drop 10 by rw [List.drop_drop], List.take_append_drop]
  rw [show l.drop 13 = (l.drop 5).drop 8 by rw [List.drop_drop], List.take_append_drop, List.take_append_drop]
theorem cMM : Tryd.prog.cellsOf 34 = 45 := by kernel_rfl
theorem mes_of_trod {H : Type} {enc : TypeId × Value → H} {W : World} {fuel : Nat} {l : List Value} {y : DataW H × List MemPlace} (h : DataW.trod enc Tryd.prog W 0 (fun _ => true) true fuel 34 l = some y) :
    ∃ (m : Mes) (P Q T : Value), l = (mesC m P Q T).toList ∧ LiesM W m P Q T ∧ m.raw := by
  obtain ⟨ys, n, _, _, hlen, hyl, hf⟩ := DataW.trod_struct Tryd.underlying34 h
  have hl : l.length = 45 := hlen.trans cMM
  have hy : ys.length = 10 := hyl
  obtain ⟨a0, e0, w0⟩ := int_field (off := 0) (hf 0 _ rfl) (some_of hy (by decide)) (Nat.lt_of_lt_of_eq (by decide) hl.symm)
  obtain ⟨a1, e1, w1⟩ := int_field (off := 1) (hf 1 _ rfl) (some_of hy (by decide)) (Nat.lt_of_lt_of_eq (by decide) hl.symm)
  obtain ⟨a2, e2, w2⟩ := int_field (off := 2) (hf 2 _ rfl) (some_of hy (by decide)) (Nat.lt_of_lt_of_eq (by decide) hl.symm)
  obtain ⟨a3, e3, w3⟩ := int_field (off := 3) (hf 3 _ rfl) (some_of hy (by decide)) (Nat.lt_of_lt_of_eq (by decide) hl.symm)
  obtain ⟨a4, e4, w4⟩ := u32_field (off := 4) (hf 4 _ rfl) (some_of hy (by decide)) (Nat.lt_of_lt_of_eq (by decide) hl.symm)
  obtain ⟨z5, hz5⟩ := Option.isSome_iff_exists.1 (some_of (j := 5) hy (by decide))
  obtain ⟨z6, hz6⟩ := Option.isSome_iff_exists.1 (some_of (j := 6) hy (by decide))
  obtain ⟨z7, hz7⟩ := Option.isSome_iff_exists.1 (some_of (j := 7) hy (by decide))
  obtain ⟨z8, hz8⟩ := Option.isSome_iff_exists.1 (some_of (j := 8) hy (by decide))
  obtain ⟨z9, hz9⟩ := Option.isSome_iff_exists.1 (some_of (j := 9) hy (by decide))
  have h5 : DataW.trod enc Tryd.prog W 0 (fun _ => true) true n 24 ((l.drop 5).take (Tryd.prog.cellsOf 24)) = some z5 := (hf 5 _ rfl).trans hz5
  have h6 : DataW.trod enc Tryd.prog W 0 (fun _ => true) true n 26 ((l.drop 13).take (Tryd.prog.cellsOf 26)) = some z6 := (hf 6 _ rfl).trans hz6
  have h7 : DataW.trod enc Tryd.prog W 0 (fun _ => true) true n 27 ((l.drop 23).take (Tryd.prog.cellsOf 27)) = some z7 := (hf 7 _ rfl).trans hz7
  have h8 : DataW.trod enc Tryd.prog W 0 (fun _ => true) true n 30 ((l.drop 24).take (Tryd.prog.cellsOf 30)) = some z8 := (hf 8 _ rfl).trans hz8
  have h9 : DataW.trod enc Tryd.prog W 0 (fun _ => true) true n 32 ((l.drop 38).take (Tryd.prog.cellsOf 32)) = some z9 := (hf 9 _ rfl).trans hz9
  rw [L11.cC] at h5
  rw [cT] at h6
  rw [cST] at h7
  rw [cB] at h8
  rw [cX] at h9
  obtain ⟨c, s5, w5⟩ := crt_of_trod h5
  obtain ⟨t, s6, w6⟩ := tm_of_trod h6
  obtain ⟨b, A8, c8, B8, d8, s8, p8, t8, w8⟩ := blk_of_trod h8
  obtain ⟨x, s9, w9⟩ := tx_of_trod h9
  rw [one_of (show 23 < l.length by omega)] at h7
  obtain ⟨A7, c7, L, s7, r7, q7, m7⟩ := list_of_trod (W := W) (f := tmL) (k := 10) (fun t : Tmo => t.wf) Tryd.underlying27 cT (fun _ => rfl) tm_0 (fun n cs' y h => tm_of_trod h) h7
  have s5' : l.take 5 = [.int .i64 a0, .int .i64 a1, .int .i64 a2, .int .i64 a3, .int .u32 a4] := list5 (by simp; omega) (by simpa using e0) (by simpa using e1) (by simpa using e2) (by simpa using e3) (by simpa using e4)
  refine ⟨⟨a0, a1, a2, a3, a4, c, t, L, b, x⟩, .slice A7 L.length c7, .slice A8 b.proof.length c8, .slice B8 b.txs.length d8, ?_, ⟨A7, c7, rfl, r7, A8, c8, B8, d8, rfl, rfl, p8, t8⟩, ⟨w0, w1, w2, w3, w4, w5, w6, q7, m7, w8, w9⟩⟩
  rw [parts45 hl, s5', s5, s6, one_of (show 23 < l.length by omega), s7, s8, s9]
  rfl
/-- A message that came in by value. -/
theorem open_mes {H : Type} {enc : TypeId × Value → H} {W : World} {base : Nat} {v : Value} {d : DataW H} {ps : List MemPlace} (hval : Value.okWide Tryd.prog W .any base 34 v)
    (h : DataW.Trod enc Tryd.prog W 0 (fun _ => true) true 34 v d ps) : ∃ (m : Mes) (P Q T : Value), v = .agg (mesC m P Q T) ∧ LiesM W m P Q T ∧ m.raw := by
  obtain ⟨cs, rfl, _⟩ := okWide_struct Tryd.underlying34 hval
  obtain ⟨fuel, hf⟩ := h
  obtain ⟨m, P, Q, T, hs, r1, hw⟩ := mes_of_trod hf
  refine ⟨m, P, Q, T, ?_, r1, hw⟩
  have : cs = mesC m P Q T := Array.toList_inj.1 hs
  rw [this]
end Go.Proofs.YtgmejaiifibfoaaDoor
