/-
  Texts of one layer in one: RefByM, RefByP, RefBytM.
-/
import Derived.Test.YtgmejaiifibfoaaGreatDoorR5
import Derived.Test.YtgmejaiifibfoaaGreatDoorM9
import Derived.Test.YtgmejaiifibfoaaGreatDoorRcM
import Derived.Test.YtgmejaiifibfoaaGreatDoorM2
import Derived.Test.YtgmejaiifibfoaaGreatDoorM1
import Derived.Test.YtgmejaiifibfoaaGreatDoorM3

/-
  A message's bytes, by the document's answer: by its kind.
-/
set_option linter.unusedSimpArgs false
set_option linter.unusedVariables false
set_option maxRecDepth 10000
namespace Go.Proofs.YtgmejaiifibfoaaGreatDoor
open Go.RowKit Go.Maps Go.Lib
open L3 (Blk Reads encN)
open L11 (Crt zeroC crtL crtC mayV bytesV okW crtInfo crtC_ones wpQuiet_fn)

theorem wpQuiet_conv {P : Program} {ops : Array Oper} {S : World → Prop} {o : Oper} {rest : List Oper} {a : Act} {Qa : Act → Prop} (hg : Region.wanted o (yielded ops a.tmps) = true) (t u : TypeId) (x : Operand) (ho : o.op = .convert t u x) (v v' : Value)
    (hx : a.eval x = v) (hc : ∀ z : WorldIn S, (convert t u v).run P z.w = .ok v' z.w)
    (h : wpQuiet P ops (fun w' => ∃ x : WorldIn S, w' = x.w) Qa rest (a.put o.dst v')) : wpQuiet P ops (fun w' => ∃ x : WorldIn S, w' = x.w) Qa (o :: rest) a := by
  refine wpQuiet_value hg (fun z => ?_) h
  simp only [execOp, ho, hx, Sem.run_bind, hc z, Result.andThen_ok, Sem.run_pure]
theorem BoxM.drew {w W : World} {g : Nat} {ty : TypeId} {m : Mes} {P Q T : Value} (h : BoxM w g ty m P Q T W) : BoxM w g ty m P Q T W.drew := h.below (Below.refl _ W).drew
theorem mes_high {W : World} {g : Nat} {ty : TypeId} {m : Mes} {P Q T : Value} (h : Blk W g ty (mesC m P Q T)) : ∀ j u, (crtL m.tm.high)[j]? = some u → W.cell? ((⟨g, 15, none⟩ : Addr).add j) = some u := sub_cells h (fun j u hj => by
  rcases j with _ | _ | _ | _ | _ | _ | _ | _ | j
  all_goals first | exact hj | exact absurd hj (by simp [L11.crtL]))
theorem conv_u32 (n : Nat) (W : World) (h : n < 4294967296) : (convert 22 3 (.int .u32 n)).run Tryz.prog W = .ok (.int .i64 n) W := by
  have h2 := run_convert_int (P := Tryz.prog) (w := W) 22 3 .u32 n (by kernel_rfl) (by kernel_rfl)
  have ek : Tryz.prog.intKind 3 = .i64 := by kernel_rfl
  rw [ek, show IntKind.i64.wrap (n : Int) = n from by simp [IntKind.wrap, IntKind.bits, IntKind.signed]; omega] at h2
  exact h2
set_option maxHeartbeats 4000000 in
set_option maxRecDepth 100000 in
theorem refby_1 (m : Mes) (P Q T : Value) (w : World) (hw : m.wf) (hl : LiesM w m P Q T) (h0 : mayM m = true) (hk : m.kind = 1) : Calls Tryz.prog 10 #[.agg (mesC m P Q T)] w (gives (.string (str (bytesM m))) w) := by
  have hbl := bytesM_len h0
  have hok : checkV m.block = 0 := by
    have h := (may_facts h0).1
    unfold okM at h
    rw [if_pos (.inl hk)] at h
    exact of_decide_eq_true h
  have hbody : bodyM m = bytesB m.block := by unfold bodyM; rw [if_pos (.inl hk)]
  have hall : bytesM m = encN (m.kind).toNat ++ (bytesB m.block) := by unfold bytesM; rw [hbody]
  have F0 := Lib.hid (boxM_mk 34 hl)
  obtain ⟨x0, e0⟩ : ∃ x, x = encN m.kind.toNat := ⟨_, rfl⟩
  have N0 := Lib.hid (fun W => N_is 1 x0 W ⟨by omega, by omega⟩ (by rw [e0, hk]))
  obtain ⟨z, hz⟩ : ∃ z, z = bytesM m := ⟨_, rfl⟩
  rw [← e0] at hall
  rw [← hz] at hall hbl ⊢
  obtain ⟨A, c, rfl, hra, B, d, E, f, rfl, rfl, hp1, ht1⟩ := hl
  obtain ⟨y, hy⟩ : ∃ y, y = bytesB m.block := ⟨_, rfl⟩
  have HB : Hid (∀ W, Below w.heap.size w W → Calls Tryz.prog 30 #[.agg (bloC m.block (.slice B m.block.proof.length d) (.slice E m.block.txs.length f))] W (gives (.string (str y)) W)) := Lib.hid (fun W hb => by rw [hy]; exact refbytB_any m.block B d E f W hw.block (hp1.below hb) (ht1.below hb) hok)
  clear hra hp1 ht1
  obtain ⟨P, hP⟩ : ∃ P, P = Value.slice A m.proof.length c := ⟨_, rfl⟩
  obtain ⟨Q, hQ⟩ : ∃ Q, Q = Value.slice B m.block.proof.length d := ⟨_, rfl⟩
  obtain ⟨T, hT⟩ : ∃ T, T = Value.slice E m.block.txs.length f := ⟨_, rfl⟩
  rw [← hQ, ← hT] at HB
  rw [← hP, ← hQ, ← hT] at F0
  rw [← hP, ← hQ, ← hT]
  have HQ := Lib.hid (And.intro hQ hT)
  clear hP hQ hT
  rw [← hy] at hall
  have l1 : x0.length + y.length ≤ 6000 := by rw [hall, List.length_append] at hbl; omega
  have a1 := str_fits l1 (by omega)
  have s1 := str_add hall
  clear hok hbody hall hbl e0 hz hy l1 hw
  go_enter Tryz.func10, Tryz.ntmps10
  go_upto_region 1 with fail
  refine name_world (fun w0 hw0 => ?_)
  have hA0 : BoxM w w.heap.size 34 m P Q T w0 := by rw [hw0]; exact F0.out
  clear hw0 F0
  have c0 : w0.cell? ⟨w.heap.size, 0, none⟩ = some (.int .i64 1) := by rw [← hk]; exact hA0.bb.cell 0
  go_upto_region 2 with (go_at_call 29; refine (N0.out _).mono ?_; unfold gives; rintro e w1 ⟨rfl, hb1⟩)
  have hA := hA0.below hb1
  clear hA0 hb1 c0 N0
  have c0 : w1.cell? ⟨w.heap.size, 0, none⟩ = some (.int .i64 1) := by rw [← hk]; exact hA.bb.cell 0
  clear hk
  have px := mes_blo hA.bb
  have hB := HB.out w1 hA.bw
  go_wp2_with (first
    | (refine wpList_cells_at rfl _ _ rfl ⟨w.heap.size, 24, none⟩ rfl (bloL m.block Q T) _ px Tryz.underlying30 rfl (bloInfoL _ _ _) ?_)
    | (go_at_call 30; refine hB.mono ?_; unfold gives; rintro e w2 ⟨rfl, hb2⟩))
  go_ret
  exact ⟨rfl, nxt hA.bw hb2⟩
set_option maxHeartbeats 4000000 in
set_option maxRecDepth 100000 in
theorem refby_9 (m : Mes) (P Q T : Value) (w : World) (hw : m.wf) (hl : LiesM w m P Q T) (h0 : mayM m = true) (hk : m.kind = 9) : Calls Tryz.prog 10 #[.agg (mesC m P Q T)] w (gives (.string (str (bytesM m))) w) := by
  have hbl := bytesM_len h0
  have hok : checkV m.block = 0 := by
    have h := (may_facts h0).1
    unfold okM at h
    rw [if_pos (.inr hk)] at h
    exact of_decide_eq_true h
  have hbody : bodyM m = bytesB m.block := by unfold bodyM; rw [if_pos (.inr hk)]
  have hall : bytesM m = encN (m.kind).toNat ++ (bytesB m.block) := by unfold bytesM; rw [hbody]
  have F0 := Lib.hid (boxM_mk 34 hl)
  obtain ⟨x0, e0⟩ : ∃ x, x = encN m.kind.toNat := ⟨_, rfl⟩
  have N0 := Lib.hid (fun W => N_is 9 x0 W ⟨by omega, by omega⟩ (by rw [e0, hk]))
  obtain ⟨z, hz⟩ : ∃ z, z = bytesM m := ⟨_, rfl⟩
  rw [← e0] at hall
  rw [← hz] at hall hbl ⊢
  obtain ⟨A, c, rfl, hra, B, d, E, f, rfl, rfl, hp1, ht1⟩ := hl
  obtain ⟨y, hy⟩ : ∃ y, y = bytesB m.block := ⟨_, rfl⟩
  have HB : Hid (∀ W, Below w.heap.size w W → Calls Tryz.prog 30 #[.agg (bloC m.block (.slice B m.block.proof.length d) (.slice E m.block.txs.length f))] W (gives (.string (str y)) W)) := Lib.hid (fun W hb => by rw [hy]; exact refbytB_any m.block B d E f W hw.block (hp1.below hb) (ht1.below hb) hok)
  clear hra hp1 ht1
  obtain ⟨P, hP⟩ : ∃ P, P = Value.slice A m.proof.length c := ⟨_, rfl⟩
  obtain ⟨Q, hQ⟩ : ∃ Q, Q = Value.slice B m.block.proof.length d := ⟨_, rfl⟩
  obtain ⟨T, hT⟩ : ∃ T, T = Value.slice E m.block.txs.length f := ⟨_, rfl⟩
  rw [← hQ, ← hT] at HB
  rw [← hP, ← hQ, ← hT] at F0
  rw [← hP, ← hQ, ← hT]
  have HQ := Lib.hid (And.intro hQ hT)
  clear hP hQ hT
  rw [← hy] at hall
  have l1 : x0.length + y.length ≤ 6000 := by rw [hall, List.length_append] at hbl; omega
  have a1 := str_fits l1 (by omega)
  have s1 := str_add hall
  clear hok hbody hall hbl e0 hz hy l1 hw
  go_enter Tryz.func10, Tryz.ntmps10
  go_upto_region 1 with fail
  refine name_world (fun w0 hw0 => ?_)
  have hA0 : BoxM w w.heap.size 34 m P Q T w0 := by rw [hw0]; exact F0.out
  clear hw0 F0
  have c0 : w0.cell? ⟨w.heap.size, 0, none⟩ = some (.int .i64 9) := by rw [← hk]; exact hA0.bb.cell 0
  go_upto_region 2 with (go_at_call 29; refine (N0.out _).mono ?_; unfold gives; rintro e w1 ⟨rfl, hb1⟩)
  have hA := hA0.below hb1
  clear hA0 hb1 c0 N0
  have c0 : w1.cell? ⟨w.heap.size, 0, none⟩ = some (.int .i64 9) := by rw [← hk]; exact hA.bb.cell 0
  clear hk
  have px := mes_blo hA.bb
  have hB := HB.out w1 hA.bw
  go_wp2_with (first
    | (refine wpList_cells_at rfl _ _ rfl ⟨w.heap.size, 24, none⟩ rfl (bloL m.block Q T) _ px Tryz.underlying30 rfl (bloInfoL _ _ _) ?_)
    | (go_at_call 30; refine hB.mono ?_; unfold gives; rintro e w2 ⟨rfl, hb2⟩))
  go_ret
  exact ⟨rfl, nxt hA.bw hb2⟩
set_option maxHeartbeats 4000000 in
set_option maxRecDepth 100000 in
theorem refby_2 (m : Mes) (P Q T : Value) (w : World) (hw : m.wf) (hl : LiesM w m P Q T) (h0 : mayM m = true) (hk : m.kind = 2) : Calls Tryz.prog 10 #[.agg (mesC m P Q T)] w (gives (.string (str (bytesM m))) w) := by
  have hbl := bytesM_len h0
  have hok : mayV m.cert = true := by
    have h := (may_facts h0).1
    unfold okM at h
    rw [if_neg (by unfold hasB; omega), if_pos (.inl hk)] at h
    exact cer_may h
  have hbody : bodyM m = bytesV m.cert := by unfold bodyM; rw [if_neg (by unfold hasB; omega), if_pos (.inl hk)]
  have hall : bytesM m = encN (m.kind).toNat ++ (bytesV m.cert) := by unfold bytesM; rw [hbody]
  have F0 := Lib.hid (boxM_mk 34 hl)
  obtain ⟨x0, e0⟩ : ∃ x, x = encN m.kind.toNat := ⟨_, rfl⟩
  have N0 := Lib.hid (fun W => N_is 2 x0 W ⟨by omega, by omega⟩ (by rw [e0, hk]))
  obtain ⟨z, hz⟩ : ∃ z, z = bytesM m := ⟨_, rfl⟩
  rw [← e0] at hall
  rw [← hz] at hall hbl ⊢
  obtain ⟨y, hy⟩ : ∃ y, y = bytesV m.cert := ⟨_, rfl⟩
  have HB : Hid (∀ W, Calls Tryz.prog 31 #[.agg (crtC m.cert)] W (gives (.string (str y)) W)) := Lib.hid (fun W => by rw [hy]; exact L11.refbytes_any m.cert W hw.cert hok)
  rw [← hy] at hall
  have l1 : x0.length + y.length ≤ 6000 := by rw [hall, List.length_append] at hbl; omega
  have a1 := str_fits l1 (by omega)
  have s1 := str_add hall
  clear hok hbody hall hbl e0 hz hy l1 hw hl
  go_enter Tryz.func10, Tryz.ntmps10
  go_upto_region 1 with fail
  refine name_world (fun w0 hw0 => ?_)
  have hA0 : BoxM w w.heap.size 34 m P Q T w0 := by rw [hw0]; exact F0.out
  clear hw0 F0
  have c0 : w0.cell? ⟨w.heap.size, 0, none⟩ = some (.int .i64 2) := by rw [← hk]; exact hA0.bb.cell 0
  go_upto_region 2 with (go_at_call 29; refine (N0.out _).mono ?_; unfold gives; rintro e w1 ⟨rfl, hb1⟩)
  have hA := hA0.below hb1
  clear hA0 hb1 c0 N0
  have c0 : w1.cell? ⟨w.heap.size, 0, none⟩ = some (.int .i64 2) := by rw [← hk]; exact hA.bb.cell 0
  clear hk
  have px := mes_crt hA.bb
  have hB := HB.out w1
  go_wp2_with (first
    | (refine wpList_cells_at rfl _ _ rfl ⟨w.heap.size, 5, none⟩ rfl (crtL m.cert) _ px Tryz.underlying24 rfl crtInfo ?_)
    | (go_at_call 31; refine hB.mono ?_; unfold gives; rintro e w2 ⟨rfl, hb2⟩))
  go_ret
  exact ⟨rfl, nxt hA.bw hb2⟩
set_option maxHeartbeats 4000000 in
set_option maxRecDepth 100000 in
theorem refby_5 (m : Mes) (P Q T : Value) (w : World) (hw : m.wf) (hl : LiesM w m P Q T) (h0 : mayM m = true) (hk : m.kind = 5) : Calls Tryz.prog 10 #[.agg (mesC m P Q T)] w (gives (.string (str (bytesM m))) w) := by
  have hbl := bytesM_len h0
  have hok : mayV m.cert = true := by
    have h := (may_facts h0).1
    unfold okM at h
    rw [if_neg (by unfold hasB; omega), if_pos (.inr (.inl hk))] at h
    exact cer_may h
  have hbody : bodyM m = bytesV m.cert := by unfold bodyM; rw [if_neg (by unfold hasB; omega), if_pos (.inr (.inl hk))]
  have hall : bytesM m = encN (m.kind).toNat ++ (bytesV m.cert) := by unfold bytesM; rw [hbody]
  have F0 := Lib.hid (boxM_mk 34 hl)
  obtain ⟨x0, e0⟩ : ∃ x, x = encN m.kind.toNat := ⟨_, rfl⟩
  have N0 := Lib.hid (fun W => N_is 5 x0 W ⟨by omega, by omega⟩ (by rw [e0, hk]))
  obtain ⟨z, hz⟩ : ∃ z, z = bytesM m := ⟨_, rfl⟩
  rw [← e0] at hall
  rw [← hz] at hall hbl ⊢
  obtain ⟨y, hy⟩ : ∃ y, y = bytesV m.cert := ⟨_, rfl⟩
  have HB : Hid (∀ W, Calls Tryz.prog 31 #[.agg (crtC m.cert)] W (gives (.string (str y)) W)) := Lib.hid (fun W => by rw [hy]; exact L11.refbytes_any m.cert W hw.cert hok)
  rw [← hy] at hall
  have l1 : x0.length + y.length ≤ 6000 := by rw [hall, List.length_append] at hbl; omega
  have a1 := str_fits l1 (by omega)
  have s1 := str_add hall
  clear hok hbody hall hbl e0 hz hy l1 hw hl
  go_enter Tryz.func10, Tryz.ntmps10
  go_upto_region 1 with fail
  refine name_world (fun w0 hw0 => ?_)
  have hA0 : BoxM w w.heap.size 34 m P Q T w0 := by rw [hw0]; exact F0.out
  clear hw0 F0
  have c0 : w0.cell? ⟨w.heap.size, 0, none⟩ = some (.int .i64 5) := by rw [← hk]; exact hA0.bb.cell 0
  go_upto_region 2 with (go_at_call 29; refine (N0.out _).mono ?_; unfold gives; rintro e w1 ⟨rfl, hb1⟩)
  have hA := hA0.below hb1
  clear hA0 hb1 c0 N0
  have c0 : w1.cell? ⟨w.heap.size, 0, none⟩ = some (.int .i64 5) := by rw [← hk]; exact hA.bb.cell 0
  clear hk
  have px := mes_crt hA.bb
  have hB := HB.out w1
  go_wp2_with (first
    | (refine wpList_cells_at rfl _ _ rfl ⟨w.heap.size, 5, none⟩ rfl (crtL m.cert) _ px Tryz.underlying24 rfl crtInfo ?_)
    | (go_at_call 31; refine hB.mono ?_; unfold gives; rintro e w2 ⟨rfl, hb2⟩))
  go_ret
  exact ⟨rfl, nxt hA.bw hb2⟩
set_option maxHeartbeats 4000000 in
set_option maxRecDepth 100000 in
theorem refby_10 (m : Mes) (P Q T : Value) (w : World) (hw : m.wf) (hl : LiesM w m P Q T) (h0 : mayM m = true) (hk : m.kind = 10) : Calls Tryz.prog 10 #[.agg (mesC m P Q T)] w (gives (.string (str (bytesM m))) w) := by
  have hbl := bytesM_len h0
  have hok : mayV m.cert = true := by
    have h := (may_facts h0).1
    unfold okM at h
    rw [if_neg (by unfold hasB; omega), if_pos (.inr (.inr hk))] at h
    exact cer_may h
  have hbody : bodyM m = bytesV m.cert := by unfold bodyM; rw [if_neg (by unfold hasB; omega), if_pos (.inr (.inr hk))]
  have hall : bytesM m = encN (m.kind).toNat ++ (bytesV m.cert) := by unfold bytesM; rw [hbody]
  have F0 := Lib.hid (boxM_mk 34 hl)
  obtain ⟨x0, e0⟩ : ∃ x, x = encN m.kind.toNat := ⟨_, rfl⟩
  have N0 := Lib.hid (fun W => N_is 10 x0 W ⟨by omega, by omega⟩ (by rw [e0, hk]))
  obtain ⟨z, hz⟩ : ∃ z, z = bytesM m := ⟨_, rfl⟩
  rw [← e0] at hall
  rw [← hz] at hall hbl ⊢
  obtain ⟨y, hy⟩ : ∃ y, y = bytesV m.cert := ⟨_, rfl⟩
  have HB : Hid (∀ W, Calls Tryz.prog 31 #[.agg (crtC m.cert)] W (gives (.string (str y)) W)) := Lib.hid (fun W => by rw [hy]; exact L11.refbytes_any m.cert W hw.cert hok)
  rw [← hy] at hall
  have l1 : x0.length + y.length ≤ 6000 := by rw [hall, List.length_append] at hbl; omega
  have a1 := str_fits l1 (by omega)
  have s1 := str_add hall
  clear hok hbody hall hbl e0 hz hy l1 hw hl
  go_enter Tryz.func10, Tryz.ntmps10
  go_upto_region 1 with fail
  refine name_world (fun w0 hw0 => ?_)
  have hA0 : BoxM w w.heap.size 34 m P Q T w0 := by rw [hw0]; exact F0.out
  clear hw0 F0
  have c0 : w0.cell? ⟨w.heap.size, 0, none⟩ = some (.int .i64 10) := by rw [← hk]; exact hA0.bb.cell 0
  go_upto_region 2 with (go_at_call 29; refine (N0.out _).mono ?_; unfold gives; rintro e w1 ⟨rfl, hb1⟩)
  have hA := hA0.below hb1
  clear hA0 hb1 c0 N0
  have c0 : w1.cell? ⟨w.heap.size, 0, none⟩ = some (.int .i64 10) := by rw [← hk]; exact hA.bb.cell 0
  clear hk
  have px := mes_crt hA.bb
  have hB := HB.out w1
  go_wp2_with (first
    | (refine wpList_cells_at rfl _ _ rfl ⟨w.heap.size, 5, none⟩ rfl (crtL m.cert) _ px Tryz.underlying24 rfl crtInfo ?_)
    | (go_at_call 31; refine hB.mono ?_; unfold gives; rintro e w2 ⟨rfl, hb2⟩))
  go_ret
  exact ⟨rfl, nxt hA.bw hb2⟩
set_option maxHeartbeats 4000000 in
set_option maxRecDepth 100000 in
theorem refby_11 (m : Mes) (P Q T : Value) (w : World) (hw : m.wf) (hl : LiesM w m P Q T) (h0 : mayM m = true) (hk : m.kind = 11) : Calls Tryz.prog 10 #[.agg (mesC m P Q T)] w (gives (.string (str (bytesM m))) w) := by
  have hbl := bytesM_len h0
  have hok : right m.tx = true := by
    have h := (may_facts h0).1
    unfold okM at h
    rw [if_neg (by unfold hasB; omega), if_neg (by unfold hasC; omega), if_neg (by omega), if_neg (by omega), if_neg (by unfold hasV; omega), if_neg (by omega), if_neg (by omega), if_pos hk] at h
    exact h
  have hbody : bodyM m = bytesT m.tx := by unfold bodyM; rw [if_neg (by unfold hasB; omega), if_neg (by unfold hasC; omega), if_neg (by omega), if_neg (by omega), if_neg (by unfold hasV; omega), if_neg (by omega), if_neg (by omega), if_pos hk]
  have hall : bytesM m = encN (m.kind).toNat ++ (bytesT m.tx) := by unfold bytesM; rw [hbody]
  have F0 := Lib.hid (boxM_mk 34 hl)
  obtain ⟨x0, e0⟩ : ∃ x, x = encN m.kind.toNat := ⟨_, rfl⟩
  have N0 := Lib.hid (fun W => N_is 11 x0 W ⟨by omega, by omega⟩ (by rw [e0, hk]))
  obtain ⟨z, hz⟩ : ∃ z, z = bytesM m := ⟨_, rfl⟩
  rw [← e0] at hall
  rw [← hz] at hall hbl ⊢
  obtain ⟨y, hy⟩ : ∃ y, y = bytesT m.tx := ⟨_, rfl⟩
  have HB : Hid (∀ W, Calls Tryz.prog 32 #[.agg (txC m.tx)] W (gives (.string (str y)) W)) := Lib.hid (fun W => by rw [hy]; exact refbytes_any m.tx W hok)
  rw [← hy] at hall
  have l1 : x0.length + y.length ≤ 6000 := by rw [hall, List.length_append] at hbl; omega
  have a1 := str_fits l1 (by omega)
  have s1 := str_add hall
  clear hok hbody hall hbl e0 hz hy l1 hw hl
  go_enter Tryz.func10, Tryz.ntmps10
  go_upto_region 1 with fail
  refine name_world (fun w0 hw0 => ?_)
  have hA0 : BoxM w w.heap.size 34 m P Q T w0 := by rw [hw0]; exact F0.out
  clear hw0 F0
  have c0 : w0.cell? ⟨w.heap.size, 0, none⟩ = some (.int .i64 11) := by rw [← hk]; exact hA0.bb.cell 0
  go_upto_region 2 with (go_at_call 29; refine (N0.out _).mono ?_; unfold gives; rintro e w1 ⟨rfl, hb1⟩)
  have hA := hA0.below hb1
  clear hA0 hb1 c0 N0
  have c0 : w1.cell? ⟨w.heap.size, 0, none⟩ = some (.int .i64 11) := by rw [← hk]; exact hA.bb.cell 0
  clear hk
  have px := mes_tx hA.bb
  have hB := HB.out w1
  go_wp2_with (first
    | (refine wpList_cells_at rfl _ _ rfl ⟨w.heap.size, 38, none⟩ rfl (txL m.tx) _ px Tryz.underlying32 rfl (txInfoL _) ?_)
    | (go_at_call 32; refine hB.mono ?_; unfold gives; rintro e w2 ⟨rfl, hb2⟩))
  go_ret
  exact ⟨rfl, nxt hA.bw hb2⟩
set_option maxHeartbeats 4000000 in
set_option maxRecDepth 100000 in
theorem refby_3 (m : Mes) (P Q T : Value) (w : World) (hw : m.wf) (hl : LiesM w m P Q T) (h0 : mayM m = true) (hk : m.kind = 3) : Calls Tryz.prog 10 #[.agg (mesC m P Q T)] w (gives (.string (str (bytesM m))) w) := by
  have hbl := bytesM_len h0
  have hok : tmoV m.tm = true := by
    have h := (may_facts h0).1
    unfold okM at h
    rw [if_neg (by unfold hasB; omega), if_neg (by unfold hasC; omega), if_pos hk] at h
    exact h
  have hbody : bodyM m = encN m.tm.signer.toNat ++ (encN m.tm.view.toNat ++ bytesV m.tm.high) := by unfold bodyM; rw [if_neg (by unfold hasB; omega), if_neg (by unfold hasC; omega), if_pos hk]
  have hall : bytesM m = encN (m.kind).toNat ++ (encN m.tm.signer.toNat ++ (encN m.tm.view.toNat ++ bytesV m.tm.high)) := by unfold bytesM; rw [hbody]
  have F0 := Lib.hid (boxM_mk 34 hl)
  obtain ⟨x0, e0⟩ : ∃ x, x = encN m.kind.toNat := ⟨_, rfl⟩
  have N0 := Lib.hid (fun W => N_is 3 x0 W ⟨by omega, by omega⟩ (by rw [e0, hk]))
  obtain ⟨z, hz⟩ : ∃ z, z = bytesM m := ⟨_, rfl⟩
  rw [← e0] at hall
  rw [← hz] at hall hbl ⊢
  obtain ⟨t1, t2, t3, t4⟩ := tmo_facts hok
  obtain ⟨x1, e1⟩ : ∃ x, x = encN m.tm.signer.toNat := ⟨_, rfl⟩
  obtain ⟨x2, e2⟩ : ∃ x, x = encN m.tm.view.toNat := ⟨_, rfl⟩
  obtain ⟨x3, e3⟩ : ∃ x, x = bytesV m.tm.high := ⟨_, rfl⟩
  have N1 := Lib.hid (fun W => N_is m.tm.signer x1 W ⟨by omega, by omega⟩ e1)
  have N2 := Lib.hid (fun W => N_is m.tm.view x2 W ⟨by omega, by omega⟩ e2)
  have N3 : Hid (∀ W, Calls Tryz.prog 31 #[.agg (crtC m.tm.high)] W (gives (.string (str x3)) W)) := Lib.hid (fun W => by rw [e3]; exact L11.refbytes_any m.tm.high W hw.tm.2.2 t4)
  obtain ⟨z1, g1⟩ : ∃ z, z = x0 ++ x1 := ⟨_, rfl⟩
  obtain ⟨z2, g2⟩ : ∃ z, z = z1 ++ x2 := ⟨_, rfl⟩
  have g3 : z = z2 ++ x3 := by rw [hall, g2, g1, e1, e2, e3]; simp only [List.append_assoc]
  have l3 : z2.length + x3.length ≤ 6000 := by rw [g3, List.length_append] at hbl; omega
  have l2 : z1.length + x2.length ≤ 6000 := by rw [g2, List.length_append] at l3; omega
  have l1 : x0.length + x1.length ≤ 6000 := by rw [g1, List.length_append] at l2; omega
  have a1 := str_fits l1 (by omega)
  have a2 := str_fits l2 (by omega)
  have a3 := str_fits l3 (by omega)
  have s1 := str_add g1
  have s2 := str_add g2
  have s3 := str_add g3
  clear hbody hall hbl e0 hz e1 e2 e3 g1 g2 g3 l1 l2 l3 t1 t2 t3 t4 hok hw hl
  go_enter Tryz.func10, Tryz.ntmps10
  go_upto_region 1 with fail
  refine name_world (fun w0 hw0 => ?_)
  have hA0 : BoxM w w.heap.size 34 m P Q T w0 := by rw [hw0]; exact F0.out
  clear hw0 F0
  have c0 : w0.cell? ⟨w.heap.size, 0, none⟩ = some (.int .i64 3) := by rw [← hk]; exact hA0.bb.cell 0
  go_upto_region 2 with (go_at_call 29; refine (N0.out _).mono ?_; unfold gives; rintro e w1 ⟨rfl, hb1⟩)
  have hA := hA0.below hb1
  clear hA0 hb1 c0 N0
  have c0 : w1.cell? ⟨w.heap.size, 0, none⟩ = some (.int .i64 3) := by rw [← hk]; exact hA.bb.cell 0
  clear hk
  go_upto_region 11 with fail
  clear c0
  have d1 : ∀ z : WorldIn (BoxM w w.heap.size 34 m P Q T), z.w.cell? ⟨w.heap.size, 13, none⟩ = some (.int .i64 m.tm.signer) := fun z => z.h.bb.cell 13
  have d2 : ∀ z : WorldIn (BoxM w w.heap.size 34 m P Q T), z.w.cell? ⟨w.heap.size, 14, none⟩ = some (.int .i64 m.tm.view) := fun z => z.h.bb.cell 14
  have d3 : ∀ z : WorldIn (BoxM w w.heap.size 34 m P Q T), ∀ j u, (crtL m.tm.high)[j]? = some u → z.w.cell? ((⟨w.heap.size, 15, none⟩ : Addr).add j) = some u := fun z => mes_high z.h.bb
  have hD := hA.drew
  clear hA
  have ne : Nonempty (WorldIn (BoxM w w.heap.size 34 m P Q T)) := ⟨⟨_, hD⟩⟩
  refine wp_region_S (BoxM w w.heap.size 34 m P Q T) (by kernel_rfl) (by kernel_rfl) hD ?_
  clear hD
  repeat (first
    | (refine wpQuiet_fn rfl 29 _ _ rfl Tryz.call29 [.int .i64 m.tm.signer] rfl (v := .string (str x1)) (fun x => (N1.out x.w).mono fun e w' ⟨he, hb⟩ => ⟨he, x.h.below hb⟩) ?_
       conv => arg 6; simp only [Act.put, List.setIfInBounds_toArray, List.set_cons_zero, List.set_cons_succ])
    | (refine wpQuiet_fn rfl 29 _ _ rfl Tryz.call29 [.int .i64 m.tm.view] rfl (v := .string (str x2)) (fun x => (N2.out x.w).mono fun e w' ⟨he, hb⟩ => ⟨he, x.h.below hb⟩) ?_
       conv => arg 6; simp only [Act.put, List.setIfInBounds_toArray, List.set_cons_zero, List.set_cons_succ])
    | (refine wpQuiet_fn rfl 31 _ _ rfl Tryz.call31 [.agg (crtC m.tm.high)] rfl (v := .string (str x3)) (fun x => (N3.out x.w).mono fun e w' ⟨he, hb⟩ => ⟨he, x.h.below hb⟩) ?_
       conv => arg 6; simp only [Act.put, List.setIfInBounds_toArray, List.set_cons_zero, List.set_cons_succ])
    | (refine wpQuiet_cells rfl _ _ rfl ⟨w.heap.size, 15, none⟩ rfl (crtL m.tm.high) _ d3 Tryz.underlying24 rfl crtInfo ?_
       conv => arg 6; simp only [Act.put, List.setIfInBounds_toArray, List.set_cons_zero, List.set_cons_succ])
    | go_big_quiet_step (fail))
  refine wpQuiet_nil ?_
  intro zz
  obtain ⟨w5, hE⟩ := zz
  dsimp only
  clear ne d1 d2 d3
  go_wp2
  go_ret
  exact ⟨rfl, hE.bw⟩
set_option maxHeartbeats 4000000 in
set_option maxRecDepth 100000 in
theorem refby_6 (m : Mes) (P Q T : Value) (w : World) (hw : m.wf) (hl : LiesM w m P Q T) (h0 : mayM m = true) (hk : m.kind = 6) : Calls Tryz.prog 10 #[.agg (mesC m P Q T)] w (gives (.string (str (bytesM m))) w) := by
  have hbl := bytesM_len h0
  have hok : okW m.signer 0 9 = true ∧ okW m.view 1 1048576 = true := by
    have h := (may_facts h0).1
    unfold okM at h
    rw [if_neg (by unfold hasB; omega), if_neg (by unfold hasC; omega), if_neg (by omega), if_neg (by omega), if_pos (.inl hk)] at h
    simp only [Bool.and_eq_true] at h; exact h
  have hbody : bodyM m = encN m.signer.toNat ++ encN m.view.toNat := by unfold bodyM; rw [if_neg (by unfold hasB; omega), if_neg (by unfold hasC; omega), if_neg (by omega), if_neg (by omega), if_pos (.inl hk)]
  have hall : bytesM m = encN (m.kind).toNat ++ (encN m.signer.toNat ++ encN m.view.toNat) := by unfold bytesM; rw [hbody]
  have F0 := Lib.hid (boxM_mk 34 hl)
  obtain ⟨x0, e0⟩ : ∃ x, x = encN m.kind.toNat := ⟨_, rfl⟩
  have N0 := Lib.hid (fun W => N_is 6 x0 W ⟨by omega, by omega⟩ (by rw [e0, hk]))
  obtain ⟨z, hz⟩ : ∃ z, z = bytesM m := ⟨_, rfl⟩
  rw [← e0] at hall
  rw [← hz] at hall hbl ⊢
  obtain ⟨x1, e1⟩ : ∃ x, x = encN m.signer.toNat := ⟨_, rfl⟩
  obtain ⟨x2, e2⟩ : ∃ x, x = encN m.view.toNat := ⟨_, rfl⟩
  obtain ⟨hk1, hk2⟩ := hok
  unfold okW at hk1 hk2
  simp only [decide_eq_true_eq] at hk1 hk2
  have N1 := Lib.hid (fun W => N_is m.signer x1 W ⟨by omega, by omega⟩ e1)
  have N2 := Lib.hid (fun W => N_is m.view x2 W ⟨by omega, by omega⟩ e2)
  obtain ⟨z1, g1⟩ : ∃ z, z = x0 ++ x1 := ⟨_, rfl⟩
  have g2 : z = z1 ++ x2 := by rw [hall, g1, e1, e2]; simp only [List.append_assoc]
  have l2 : z1.length + x2.length ≤ 6000 := by rw [g2, List.length_append] at hbl; omega
  have l1 : x0.length + x1.length ≤ 6000 := by rw [g1, List.length_append] at l2; omega
  have a1 := str_fits l1 (by omega)
  have a2 := str_fits l2 (by omega)
  have s1 := str_add g1
  have s2 := str_add g2
  clear hbody hall hbl e0 hz e1 e2 g1 g2 l1 l2 hk1 hk2 hw hl
  go_enter Tryz.func10, Tryz.ntmps10
  go_upto_region 1 with fail
  refine name_world (fun w0 hw0 => ?_)
  have hA0 : BoxM w w.heap.size 34 m P Q T w0 := by rw [hw0]; exact F0.out
  clear hw0 F0
  have c0 : w0.cell? ⟨w.heap.size, 0, none⟩ = some (.int .i64 6) := by rw [← hk]; exact hA0.bb.cell 0
  go_upto_region 2 with (go_at_call 29; refine (N0.out _).mono ?_; unfold gives; rintro e w1 ⟨rfl, hb1⟩)
  have hA := hA0.below hb1
  clear hA0 hb1 c0 N0
  have c0 : w1.cell? ⟨w.heap.size, 0, none⟩ = some (.int .i64 6) := by rw [← hk]; exact hA.bb.cell 0
  clear hk
  go_upto_region 25 with fail
  clear c0
  have d1 : ∀ z : WorldIn (BoxM w w.heap.size 34 m P Q T), z.w.cell? ⟨w.heap.size, 1, none⟩ = some (.int .i64 m.signer) := fun z => z.h.bb.cell 1
  have d2 : ∀ z : WorldIn (BoxM w w.heap.size 34 m P Q T), z.w.cell? ⟨w.heap.size, 2, none⟩ = some (.int .i64 m.view) := fun z => z.h.bb.cell 2
  have hD := hA.drew
  clear hA
  have ne : Nonempty (WorldIn (BoxM w w.heap.size 34 m P Q T)) := ⟨⟨_, hD⟩⟩
  refine wp_region_S (BoxM w w.heap.size 34 m P Q T) (by kernel_rfl) (by kernel_rfl) hD ?_
  clear hD
  repeat (first
    | (refine wpQuiet_fn rfl 29 _ _ rfl Tryz.call29 [.int .i64 m.signer] rfl (v := .string (str x1)) (fun x => (N1.out x.w).mono fun e w' ⟨he, hb⟩ => ⟨he, x.h.below hb⟩) ?_
       conv => arg 6; simp only [Act.put, List.setIfInBounds_toArray, List.set_cons_zero, List.set_cons_succ])
    | (refine wpQuiet_fn rfl 29 _ _ rfl Tryz.call29 [.int .i64 m.view] rfl (v := .string (str x2)) (fun x => (N2.out x.w).mono fun e w' ⟨he, hb⟩ => ⟨he, x.h.below hb⟩) ?_
       conv => arg 6; simp only [Act.put, List.setIfInBounds_toArray, List.set_cons_zero, List.set_cons_succ])
    | go_big_quiet_step (fail))
  refine wpQuiet_nil ?_
  intro zz
  obtain ⟨w5, hE⟩ := zz
  dsimp only
  clear ne d1 d2
  go_wp2
  go_ret
  exact ⟨rfl, hE.bw⟩
set_option maxHeartbeats 4000000 in
set_option maxRecDepth 100000 in
theorem refby_12 (m : Mes) (P Q T : Value) (w : World) (hw : m.wf) (hl : LiesM w m P Q T) (h0 : mayM m = true) (hk : m.kind = 12) : Calls Tryz.prog 10 #[.agg (mesC m P Q T)] w (gives (.string (str (bytesM m))) w) := by
  have hbl := bytesM_len h0
  have hok : okW m.signer 0 9 = true ∧ okW m.view 1 1048576 = true := by
    have h := (may_facts h0).1
    unfold okM at h
    rw [if_neg (by unfold hasB; omega), if_neg (by unfold hasC; omega), if_neg (by omega), if_neg (by omega), if_pos (.inr hk)] at h
    simp only [Bool.and_eq_true] at h; exact h
  have hbody : bodyM m = encN m.signer.toNat ++ encN m.view.toNat := by unfold bodyM; rw [if_neg (by unfold hasB; omega), if_neg (by unfold hasC; omega), if_neg (by omega), if_neg (by omega), if_pos (.inr hk)]
  have hall : bytesM m = encN (m.kind).toNat ++ (encN m.signer.toNat ++ encN m.view.toNat) := by unfold bytesM; rw [hbody]
  have F0 := Lib.hid (boxM_mk 34 hl)
  obtain ⟨x0, e0⟩ : ∃ x, x = encN m.kind.toNat := ⟨_, rfl⟩
  have N0 := Lib.hid (fun W => N_is 12 x0 W ⟨by omega, by omega⟩ (by rw [e0, hk]))
  obtain ⟨z, hz⟩ : ∃ z, z = bytesM m := ⟨_, rfl⟩
  rw [← e0] at hall
  rw [← hz] at hall hbl ⊢
  obtain ⟨x1, e1⟩ : ∃ x, x = encN m.signer.toNat := ⟨_, rfl⟩
  obtain ⟨x2, e2⟩ : ∃ x, x = encN m.view.toNat := ⟨_, rfl⟩
  obtain ⟨hk1, hk2⟩ := hok
  unfold okW at hk1 hk2
  simp only [decide_eq_true_eq] at hk1 hk2
  have N1 := Lib.hid (fun W => N_is m.signer x1 W ⟨by omega, by omega⟩ e1)
  have N2 := Lib.hid (fun W => N_is m.view x2 W ⟨by omega, by omega⟩ e2)
  obtain ⟨z1, g1⟩ : ∃ z, z = x0 ++ x1 := ⟨_, rfl⟩
  have g2 : z = z1 ++ x2 := by rw [hall, g1, e1, e2]; simp only [List.append_assoc]
  have l2 : z1.length + x2.length ≤ 6000 := by rw [g2, List.length_append] at hbl; omega
  have l1 : x0.length + x1.length ≤ 6000 := by rw [g1, List.length_append] at l2; omega
  have a1 := str_fits l1 (by omega)
  have a2 := str_fits l2 (by omega)
  have s1 := str_add g1
  have s2 := str_add g2
  clear hbody hall hbl e0 hz e1 e2 g1 g2 l1 l2 hk1 hk2 hw hl
  go_enter Tryz.func10, Tryz.ntmps10
  go_upto_region 1 with fail
  refine name_world (fun w0 hw0 => ?_)
  have hA0 : BoxM w w.heap.size 34 m P Q T w0 := by rw [hw0]; exact F0.out
  clear hw0 F0
  have c0 : w0.cell? ⟨w.heap.size, 0, none⟩ = some (.int .i64 12) := by rw [← hk]; exact hA0.bb.cell 0
  go_upto_region 2 with (go_at_call 29; refine (N0.out _).mono ?_; unfold gives; rintro e w1 ⟨rfl, hb1⟩)
  have hA := hA0.below hb1
  clear hA0 hb1 c0 N0
  have c0 : w1.cell? ⟨w.heap.size, 0, none⟩ = some (.int .i64 12) := by rw [← hk]; exact hA.bb.cell 0
  clear hk
  go_upto_region 25 with fail
  clear c0
  have d1 : ∀ z : WorldIn (BoxM w w.heap.size 34 m P Q T), z.w.cell? ⟨w.heap.size, 1, none⟩ = some (.int .i64 m.signer) := fun z => z.h.bb.cell 1
  have d2 : ∀ z : WorldIn (BoxM w w.heap.size 34 m P Q T), z.w.cell? ⟨w.heap.size, 2, none⟩ = some (.int .i64 m.view) := fun z => z.h.bb.cell 2
  have hD := hA.drew
  clear hA
  have ne : Nonempty (WorldIn (BoxM w w.heap.size 34 m P Q T)) := ⟨⟨_, hD⟩⟩
  refine wp_region_S (BoxM w w.heap.size 34 m P Q T) (by kernel_rfl) (by kernel_rfl) hD ?_
  clear hD
  repeat (first
    | (refine wpQuiet_fn rfl 29 _ _ rfl Tryz.call29 [.int .i64 m.signer] rfl (v := .string (str x1)) (fun x => (N1.out x.w).mono fun e w' ⟨he, hb⟩ => ⟨he, x.h.below hb⟩) ?_
       conv => arg 6; simp only [Act.put, List.setIfInBounds_toArray, List.set_cons_zero, List.set_cons_succ])
    | (refine wpQuiet_fn rfl 29 _ _ rfl Tryz.call29 [.int .i64 m.view] rfl (v := .string (str x2)) (fun x => (N2.out x.w).mono fun e w' ⟨he, hb⟩ => ⟨he, x.h.below hb⟩) ?_
       conv => arg 6; simp only [Act.put, List.setIfInBounds_toArray, List.set_cons_zero, List.set_cons_succ])
    | go_big_quiet_step (fail))
  refine wpQuiet_nil ?_
  intro zz
  obtain ⟨w5, hE⟩ := zz
  dsimp only
  clear ne d1 d2
  go_wp2
  go_ret
  exact ⟨rfl, hE.bw⟩
set_option maxHeartbeats 4000000 in
set_option maxRecDepth 100000 in
theorem refby_8 (m : Mes) (P Q T : Value) (w : World) (hw : m.wf) (hl : LiesM w m P Q T) (h0 : mayM m = true) (hk : m.kind = 8) : Calls Tryz.prog 10 #[.agg (mesC m P Q T)] w (gives (.string (str (bytesM m))) w) := by
  have hbl := bytesM_len h0
  have hok : okW m.signer 0 9 = true ∧ okW m.n 1 2147483647 = true := by
    have h := (may_facts h0).1
    unfold okM at h
    rw [if_neg (by unfold hasB; omega), if_neg (by unfold hasC; omega), if_neg (by omega), if_neg (by omega), if_neg (by unfold hasV; omega), if_neg (by omega), if_pos hk] at h
    simp only [Bool.and_eq_true] at h; exact h
  have hbody : bodyM m = encN m.signer.toNat ++ encN m.n.toNat := by unfold bodyM; rw [if_neg (by unfold hasB; omega), if_neg (by unfold hasC; omega), if_neg (by omega), if_neg (by omega), if_neg (by unfold hasV; omega), if_neg (by omega), if_pos hk]
  have hall : bytesM m = encN (m.kind).toNat ++ (encN m.signer.toNat ++ encN m.n.toNat) := by unfold bytesM; rw [hbody]
  have F0 := Lib.hid (boxM_mk 34 hl)
  obtain ⟨x0, e0⟩ : ∃ x, x = encN m.kind.toNat := ⟨_, rfl⟩
  have N0 := Lib.hid (fun W => N_is 8 x0 W ⟨by omega, by omega⟩ (by rw [e0, hk]))
  obtain ⟨z, hz⟩ : ∃ z, z = bytesM m := ⟨_, rfl⟩
  rw [← e0] at hall
  rw [← hz] at hall hbl ⊢
  obtain ⟨x1, e1⟩ : ∃ x, x = encN m.signer.toNat := ⟨_, rfl⟩
  obtain ⟨x2, e2⟩ : ∃ x, x = encN m.n.toNat := ⟨_, rfl⟩
  obtain ⟨hk1, hk2⟩ := hok
  unfold okW at hk1 hk2
  simp only [decide_eq_true_eq] at hk1 hk2
  have N1 := Lib.hid (fun W => N_is m.signer x1 W ⟨by omega, by omega⟩ e1)
  have N2 := Lib.hid (fun W => N_is m.n x2 W ⟨by omega, by omega⟩ e2)
  obtain ⟨z1, g1⟩ : ∃ z, z = x0 ++ x1 := ⟨_, rfl⟩
  have g2 : z = z1 ++ x2 := by rw [hall, g1, e1, e2]; simp only [List.append_assoc]
  have l2 : z1.length + x2.length ≤ 6000 := by rw [g2, List.length_append] at hbl; omega
  have l1 : x0.length + x1.length ≤ 6000 := by rw [g1, List.length_append] at l2; omega
  have a1 := str_fits l1 (by omega)
  have a2 := str_fits l2 (by omega)
  have s1 := str_add g1
  have s2 := str_add g2
  clear hbody hall hbl e0 hz e1 e2 g1 g2 l1 l2 hk1 hk2 hw hl
  go_enter Tryz.func10, Tryz.ntmps10
  go_upto_region 1 with fail
  refine name_world (fun w0 hw0 => ?_)
  have hA0 : BoxM w w.heap.size 34 m P Q T w0 := by rw [hw0]; exact F0.out
  clear hw0 F0
  have c0 : w0.cell? ⟨w.heap.size, 0, none⟩ = some (.int .i64 8) := by rw [← hk]; exact hA0.bb.cell 0
  go_upto_region 2 with (go_at_call 29; refine (N0.out _).mono ?_; unfold gives; rintro e w1 ⟨rfl, hb1⟩)
  have hA := hA0.below hb1
  clear hA0 hb1 c0 N0
  have c0 : w1.cell? ⟨w.heap.size, 0, none⟩ = some (.int .i64 8) := by rw [← hk]; exact hA.bb.cell 0
  clear hk
  go_upto_region 22 with fail
  clear c0
  have d1 : ∀ z : WorldIn (BoxM w w.heap.size 34 m P Q T), z.w.cell? ⟨w.heap.size, 1, none⟩ = some (.int .i64 m.signer) := fun z => z.h.bb.cell 1
  have d2 : ∀ z : WorldIn (BoxM w w.heap.size 34 m P Q T), z.w.cell? ⟨w.heap.size, 3, none⟩ = some (.int .i64 m.n) := fun z => z.h.bb.cell 3
  have hD := hA.drew
  clear hA
  have ne : Nonempty (WorldIn (BoxM w w.heap.size 34 m P Q T)) := ⟨⟨_, hD⟩⟩
  refine wp_region_S (BoxM w w.heap.size 34 m P Q T) (by kernel_rfl) (by kernel_rfl) hD ?_
  clear hD
  repeat (first
    | (refine wpQuiet_fn rfl 29 _ _ rfl Tryz.call29 [.int .i64 m.signer] rfl (v := .string (str x1)) (fun x => (N1.out x.w).mono fun e w' ⟨he, hb⟩ => ⟨he, x.h.below hb⟩) ?_
       conv => arg 6; simp only [Act.put, List.setIfInBounds_toArray, List.set_cons_zero, List.set_cons_succ])
    | (refine wpQuiet_fn rfl 29 _ _ rfl Tryz.call29 [.int .i64 m.n] rfl (v := .string (str x2)) (fun x => (N2.out x.w).mono fun e w' ⟨he, hb⟩ => ⟨he, x.h.below hb⟩) ?_
       conv => arg 6; simp only [Act.put, List.setIfInBounds_toArray, List.set_cons_zero, List.set_cons_succ])
    | go_big_quiet_step (fail))
  refine wpQuiet_nil ?_
  intro zz
  obtain ⟨w5, hE⟩ := zz
  dsimp only
  clear ne d1 d2
  go_wp2
  go_ret
  exact ⟨rfl, hE.bw⟩
set_option maxHeartbeats 4000000 in
set_option maxRecDepth 100000 in
theorem refby_7 (m : Mes) (P Q T : Value) (w : World) (hw : m.wf) (hl : LiesM w m P Q T) (h0 : mayM m = true) (hk : m.kind = 7) : Calls Tryz.prog 10 #[.agg (mesC m P Q T)] w (gives (.string (str (bytesM m))) w) := by
  have hbl := bytesM_len h0
  have hok : okW m.view 1 1048576 = true ∧ (1 ≤ m.set ∧ m.set ≤ 1023) := by
    have h := (may_facts h0).1
    unfold okM at h
    rw [if_neg (by unfold hasB; omega), if_neg (by unfold hasC; omega), if_neg (by omega), if_neg (by omega), if_neg (by unfold hasV; omega), if_pos hk] at h
    simp only [Bool.and_eq_true, decide_eq_true_eq] at h; exact h
  have hbody : bodyM m = encN m.view.toNat ++ encN m.set := by unfold bodyM; rw [if_neg (by unfold hasB; omega), if_neg (by unfold hasC; omega), if_neg (by omega), if_neg (by omega), if_neg (by unfold hasV; omega), if_pos hk]
  have hall : bytesM m = encN (m.kind).toNat ++ (encN m.view.toNat ++ encN m.set) := by unfold bytesM; rw [hbody]
  have F0 := Lib.hid (boxM_mk 34 hl)
  obtain ⟨x0, e0⟩ : ∃ x, x = encN m.kind.toNat := ⟨_, rfl⟩
  have N0 := Lib.hid (fun W => N_is 7 x0 W ⟨by omega, by omega⟩ (by rw [e0, hk]))
  obtain ⟨z, hz⟩ : ∃ z, z = bytesM m := ⟨_, rfl⟩
  rw [← e0] at hall
  rw [← hz] at hall hbl ⊢
  obtain ⟨x1, e1⟩ : ∃ x, x = encN m.view.toNat := ⟨_, rfl⟩
  obtain ⟨x2, e2⟩ : ∃ x, x = encN m.set := ⟨_, rfl⟩
  obtain ⟨hk1, hk2⟩ := hok
  unfold okW at hk1
  simp only [decide_eq_true_eq] at hk1
  have N1 := Lib.hid (fun W => N_is m.view x1 W ⟨by omega, by omega⟩ e1)
  have hset := hw.set
  have N2 := Lib.hid (fun W => N_is (m.set : Int) x2 W ⟨by omega, by omega⟩ (by rw [e2]; rfl))
  obtain ⟨z1, g1⟩ : ∃ z, z = x0 ++ x1 := ⟨_, rfl⟩
  have g2 : z = z1 ++ x2 := by rw [hall, g1, e1, e2]; simp only [List.append_assoc]
  have l2 : z1.length + x2.length ≤ 6000 := by rw [g2, List.length_append] at hbl; omega
  have l1 : x0.length + x1.length ≤ 6000 := by rw [g1, List.length_append] at l2; omega
  have a1 := str_fits l1 (by omega)
  have a2 := str_fits l2 (by omega)
  have s1 := str_add g1
  have s2 := str_add g2
  have hcv : Hid (∀ W : World, (convert 22 3 (.int .u32 m.set)).run Tryz.prog W = .ok (.int .i64 m.set) W) := Lib.hid (fun W => conv_u32 m.set W (by omega))
  clear hbody hall hbl e0 hz e1 e2 g1 g2 l1 l2 hk1 hk2 hw hl hset
  go_enter Tryz.func10, Tryz.ntmps10
  go_upto_region 1 with fail
  refine name_world (fun w0 hw0 => ?_)
  have hA0 : BoxM w w.heap.size 34 m P Q T w0 := by rw [hw0]; exact F0.out
  clear hw0 F0
  have c0 : w0.cell? ⟨w.heap.size, 0, none⟩ = some (.int .i64 7) := by rw [← hk]; exact hA0.bb.cell 0
  go_upto_region 2 with (go_at_call 29; refine (N0.out _).mono ?_; unfold gives; rintro e w1 ⟨rfl, hb1⟩)
  have hA := hA0.below hb1
  clear hA0 hb1 c0 N0
  have c0 : w1.cell? ⟨w.heap.size, 0, none⟩ = some (.int .i64 7) := by rw [← hk]; exact hA.bb.cell 0
  clear hk
  go_upto_region 20 with fail
  clear c0
  have d1 : ∀ z : WorldIn (BoxM w w.heap.size 34 m P Q T), z.w.cell? ⟨w.heap.size, 2, none⟩ = some (.int .i64 m.view) := fun z => z.h.bb.cell 2
  have d2 : ∀ z : WorldIn (BoxM w w.heap.size 34 m P Q T), z.w.cell? ⟨w.heap.size, 4, none⟩ = some (.int .u32 m.set) := fun z => z.h.bb.cell 4
  have hD := hA.drew
  clear hA
  have ne : Nonempty (WorldIn (BoxM w w.heap.size 34 m P Q T)) := ⟨⟨_, hD⟩⟩
  refine wp_region_S (BoxM w w.heap.size 34 m P Q T) (by kernel_rfl) (by kernel_rfl) hD ?_
  clear hD
  repeat (first
    | (refine wpQuiet_fn rfl 29 _ _ rfl Tryz.call29 [.int .i64 m.view] rfl (v := .string (str x1)) (fun x => (N1.out x.w).mono fun e w' ⟨he, hb⟩ => ⟨he, x.h.below hb⟩) ?_
       conv => arg 6; simp only [Act.put, List.setIfInBounds_toArray, List.set_cons_zero, List.set_cons_succ])
    | (refine wpQuiet_fn rfl 29 _ _ rfl Tryz.call29 [.int .i64 (m.set : Int)] rfl (v := .string (str x2)) (fun x => (N2.out x.w).mono fun e w' ⟨he, hb⟩ => ⟨he, x.h.below hb⟩) ?_
       conv => arg 6; simp only [Act.put, List.setIfInBounds_toArray, List.set_cons_zero, List.set_cons_succ])
    | (refine wpQuiet_conv rfl _ _ _ rfl (.int .u32 m.set) (.int .i64 m.set) rfl (fun z => hcv.out z.w) ?_
       conv => arg 6; simp only [Act.put, List.setIfInBounds_toArray, List.set_cons_zero, List.set_cons_succ])
    | go_big_quiet_step (fail))
  refine wpQuiet_nil ?_
  intro zz
  obtain ⟨w5, hE⟩ := zz
  dsimp only
  clear ne d1 d2
  go_wp2
  go_ret
  exact ⟨rfl, hE.bw⟩
end Go.Proofs.YtgmejaiifibfoaaGreatDoor

/-
  A proof's bytes, by the document's answer.
-/
set_option linter.unusedSimpArgs false
set_option linter.unusedVariables false
set_option maxRecDepth 10000
namespace Go.Proofs.YtgmejaiifibfoaaGreatDoor
open Go.RowKit Go.Maps Go.Lib
open L3 (Blk Reads encN)
open L11 (Crt zeroC crtL crtC mayV bytesV okW crtInfo crtC_ones wpQuiet_fn)

/-- The message's box, and the proof's timeouts. -/
structure BxP (w : World) (m : Mes) (P Q T : Value) (A : Option Addr) (W : World) : Prop where
  bb : Blk W w.heap.size 34 (mesC m P Q T)
  rp : Rd tmL 10 W A m.proof
  bw : Below w.heap.size w W
theorem BxP.below {w W W' : World} {m : Mes} {P Q T : Value} {A : Option Addr} (h : BxP w m P Q T A W) (hb : Below W.heap.size W W') : BxP w m P Q T A W' := ⟨h.bb.below hb h.bb.lt, h.rp.below hb, nxt h.bw hb⟩
theorem BxP.drew {w W : World} {m : Mes} {P Q T : Value} {A : Option Addr} (h : BxP w m P Q T A W) : BxP w m P Q T A W.drew := h.below (Below.refl _ W).drew
/-- What stands ahead of the k-th timeout's bytes. -/
def aheadQ (m : Mes) (k : Nat) : List UInt8 := (encN m.kind.toNat ++ (encN (m.proof[0]!).view.toNat ++ encN m.proof.length)) ++ ((m.proof.take k).map tmB).flatten
theorem aheadQ_le (m : Mes) (k : Nat) : (aheadQ m k).length ≤ (aheadQ m m.proof.length).length := by
  unfold aheadQ
  have := flat_take_le tmB m.proof k
  rw [List.take_length]
  simp only [List.length_append]
  omega
set_option maxHeartbeats 4000000 in
set_option maxRecDepth 100000 in
theorem refby_4 (m : Mes) (P Q T : Value) (w : World) (hw : m.wf) (hl : LiesM w m P Q T) (h0 : mayM m = true) (hk : m.kind = 4) : Calls Tryz.prog 10 #[.agg (mesC m P Q T)] w (gives (.string (str (bytesM m))) w) := by
  have hbl := bytesM_len h0
  have hok : prfV m.proof = true := by
    have h := (may_facts h0).1
    unfold okM at h
    rw [if_neg (by unfold hasB; omega), if_neg (by unfold hasC; omega), if_neg (by omega), if_pos hk] at h
    exact h
  have hbody : bodyM m = encN (m.proof[0]!).view.toNat ++ listB tmB m.proof := by unfold bodyM; rw [if_neg (by unfold hasB; omega), if_neg (by unfold hasC; omega), if_neg (by omega), if_pos hk]
  have hall : bytesM m = encN (m.kind).toNat ++ (encN (m.proof[0]!).view.toNat ++ listB tmB m.proof) := by unfold bytesM; rw [hbody]
  have F0 := Lib.hid (boxM_mk 34 hl)
  have hah : aheadQ m m.proof.length = bytesM m := by rw [hall]; unfold aheadQ listB; rw [List.take_length]; simp only [List.append_assoc]
  obtain ⟨x0, e0⟩ : ∃ x, x = encN m.kind.toNat := ⟨_, rfl⟩
  have N0 := Lib.hid (fun W => N_is 4 x0 W ⟨by omega, by omega⟩ (by rw [e0, hk]))
  rw [← e0] at hall
  obtain ⟨f1, f2, f3⟩ := prf_facts hok
  have hle := fun k => Nat.le_trans (aheadQ_le m k) (by rw [hah]; exact hbl)
  obtain ⟨A, c, rfl, hra, hlb⟩ := hl
  obtain ⟨n, hN⟩ : ∃ n, n = m.proof.length := ⟨_, rfl⟩
  have h00 : 0 < m.proof.length := by omega
  have hvw : 0 ≤ (m.proof[0]!).view ∧ (m.proof[0]!).view ≤ 4611686018427387904 := by
    rw [bang_at h00]
    obtain ⟨_, t2, _, _⟩ := tmo_facts (f3 _ (List.getElem_mem h00)).1
    omega
  obtain ⟨v, hv⟩ : ∃ v, v = (m.proof[0]!).view := ⟨_, rfl⟩
  obtain ⟨x1, e1⟩ : ∃ x, x = encN v.toNat := ⟨_, rfl⟩
  obtain ⟨x2, e2⟩ : ∃ x, x = encN n := ⟨_, rfl⟩
  rw [← hv] at hvw
  have N1 := Lib.hid (fun W => N_is v x1 W ⟨by omega, by omega⟩ e1)
  have N2 := Lib.hid (fun W => N_is (n : Int) x2 W ⟨by omega, by omega⟩ (by rw [e2]; rfl))
  obtain ⟨z1, g1⟩ : ∃ z, z = x0 ++ x1 := ⟨_, rfl⟩
  have g2 : aheadQ m 0 = z1 ++ x2 := by rw [g1, e0, e1, e2, hN, hv]; unfold aheadQ; simp
  have l2 : z1.length + x2.length ≤ 6000 := by have := hle 0; rw [g2, List.length_append] at this; omega
  have l1 : x0.length + x1.length ≤ 6000 := by rw [g1, List.length_append] at l2; omega
  have a1 := str_fits l1 (by omega)
  have a2 := str_fits l2 (by omega)
  have s1 := str_add g1
  have s2 := str_add g2
  have K : Hid (m.wf ∧ (∀ t ∈ m.proof, tmoV t = true) ∧ (∀ k, (aheadQ m k).length ≤ 6000) ∧ aheadQ m m.proof.length = bytesM m ∧ n = m.proof.length) := Lib.hid ⟨hw, fun t ht => (f3 t ht).1, hle, hah, hN⟩
  obtain ⟨ad, rfl, _, hc0⟩ := hra 0 h00
  have HV : Hid (∀ y : World, Rd tmL 10 y (some ad) m.proof → y.cell? { block := (ad.add 0).block, off := (ad.add 0).off + 1 } = some (.int .i64 v)) := Lib.hid (fun y hy => by
    obtain ⟨ad2, e2, _, hcs⟩ := hy 0 h00
    injection e2 with e2; subst e2
    have := hcs 1 _ rfl
    rw [hv, bang_at h00]
    simpa [Addr.add] using this)
  have hn1 : 1 ≤ n := by omega
  have hn2 : n ≤ 10 := by omega
  rw [← hN] at F0 ⊢
  have HRD := Lib.hid (fun W (hb : Below w.heap.size w W) => hra.below hb)
  clear hbody hall hbl e0 e1 e2 g1 g2 l1 l2 hw hlb hok f1 f2 f3 hle hah hN h00 hvw hv hc0 hra
  go_enter Tryz.func10, Tryz.ntmps10
  go_upto_region 1 with fail
  refine name_world (fun w0 hw0 => ?_)
  have hA0 : BxP w m (.slice (some ad) n c) Q T (some ad) w0 := by rw [hw0]; exact ⟨F0.out.bb, HRD.out _ F0.out.bw, F0.out.bw⟩
  clear hw0 F0 HRD
  have c0 : w0.cell? ⟨w.heap.size, 0, none⟩ = some (.int .i64 4) := by rw [← hk]; exact hA0.bb.cell 0
  go_upto_region 2 with (go_at_call 29; refine (N0.out _).mono ?_; unfold gives; rintro e w1 ⟨rfl, hb1⟩)
  have hA := hA0.below hb1
  clear hA0 hb1 c0 N0
  have c0 : w1.cell? ⟨w.heap.size, 0, none⟩ = some (.int .i64 4) := by rw [← hk]; exact hA.bb.cell 0
  clear hk
  go_upto_region 13 with fail
  clear c0
  have g23 : ∀ z : WorldIn (BxP w m (.slice (some ad) n c) Q T (some ad)), z.w.cell? ⟨w.heap.size, 23, none⟩ = some (.slice (some ad) n c) := fun z => z.h.bb.cell 23
  have gv : ∀ z : WorldIn (BxP w m (.slice (some ad) n c) Q T (some ad)), z.w.cell? { block := (ad.add 0).block, off := (ad.add 0).off + 1 } = some (.int .i64 v) := fun z => HV.out _ z.h.rp
  have gv2 : ∀ z : WorldIn (BxP w m (.slice (some ad) n c) Q T (some ad)), z.w.cell? { block := ad.block, off := ad.off + 1 } = some (.int .i64 v) := fun z => by have := HV.out _ z.h.rp; simpa [Addr.add] using this
  have hD := hA.drew
  clear hA
  have ne : Nonempty (WorldIn (BxP w m (.slice (some ad) n c) Q T (some ad))) := ⟨⟨_, hD⟩⟩
  refine wp_region_S (BxP w m (.slice (some ad) n c) Q T (some ad)) (by kernel_rfl) (by kernel_rfl) hD ?_
  clear hD
  repeat (first
    | (refine wpQuiet_fn rfl 29 _ _ rfl Tryz.call29 [.int .i64 v] rfl (v := .string (str x1)) (fun x => (N1.out x.w).mono fun e w' ⟨he, hb⟩ => ⟨he, x.h.below hb⟩) ?_
       conv => arg 6; simp only [Act.put, List.setIfInBounds_toArray, List.set_cons_zero, List.set_cons_succ])
    | (refine wpQuiet_fn rfl 29 _ _ rfl Tryz.call29 [.int .i64 (n : Int)] rfl (v := .string (str x2)) (fun x => (N2.out x.w).mono fun e w' ⟨he, hb⟩ => ⟨he, x.h.below hb⟩) ?_
       conv => arg 6; simp only [Act.put, List.setIfInBounds_toArray, List.set_cons_zero, List.set_cons_succ])
    | go_big_quiet_step (fail))
  refine wpQuiet_nil ?_
  intro zz
  obtain ⟨w5, hB⟩ := zz
  dsimp only
  clear ne g23 gv gv2 N1 N2 a1 a2 s1 s2 HV
  have c23 : w5.cell? ⟨w.heap.size, 23, none⟩ = some (.slice (some ad) n c) := hB.bb.cell 23
  go_wp2
  go_loopw [3, 4] (fun s i wr => ∃ k : Nat, s = .string (str (aheadQ m k)) ∧ i = .int .i64 k ∧ k ≤ n ∧ BxP w m (.slice (some ad) n c) Q T (some ad) wr) (fun _ i _ => n - (RowKit.intOf i).toNat)
  case atStart => exact ⟨0, rfl, rfl, Nat.zero_le _, hB⟩
  case round =>
    obtain ⟨k, rfl, rfl, hk, hP⟩ := hrel
    clear hB c23
    have c23 : wr.cell? ⟨w.heap.size, 23, none⟩ = some (.slice (some ad) n c) := hP.bb.cell 23
    by_cases hlt : k < n
    · have hkL : k < m.proof.length := by have := K.out.2.2.2.2; omega
      have hx := K.out.1.proof _ (List.getElem_mem hkL)
      have hv := K.out.2.1 _ (List.getElem_mem hkL)
      have hne := flat_take_succ tmB hkL
      have hfit := K.out.2.2.1 (k + 1)
      have HA1 : Hid (∀ z : WorldIn (BxP w m (.slice (some ad) n c) Q T (some ad)), ∀ j u, (tmL m.proof[k])[j]? = some u → z.w.cell? ((ad.add (k * 10)).add j) = some u) := Lib.hid (fun z => z.h.rp.at_ hkL)
      obtain ⟨x, hxe⟩ : ∃ x, x = m.proof[k] := ⟨_, rfl⟩
      rw [← hxe] at HA1 hx hne hv
      obtain ⟨t1, t2, t3, t4⟩ := tmo_facts hv
      obtain ⟨y1, e1⟩ : ∃ y, y = encN x.signer.toNat := ⟨_, rfl⟩
      obtain ⟨y2, e2⟩ : ∃ y, y = bytesV x.high := ⟨_, rfl⟩
      obtain ⟨Z, hZ⟩ : ∃ Z, Z = aheadQ m k := ⟨_, rfl⟩
      obtain ⟨Y, hY⟩ : ∃ Y, Y = Z ++ y1 := ⟨_, rfl⟩
      have hnx : aheadQ m (k + 1) = Y ++ y2 := by
        rw [hY, hZ, e1, e2]; unfold aheadQ; rw [hne]; unfold tmB; simp only [List.append_assoc]
      have l2 : Y.length + y2.length ≤ 6000 := by rw [hnx, List.length_append] at hfit; omega
      have l1 : Z.length + y1.length ≤ 6000 := by rw [hY, List.length_append] at l2; omega
      have a1 := str_fits l1 (by omega)
      have a2 := str_fits l2 (by omega)
      have s1 := str_add hY
      have s2 := str_add hnx
      have M1 := Lib.hid (fun W => N_is x.signer y1 W ⟨by omega, by omega⟩ e1)
      have M2 : Hid (∀ W, Calls Tryz.prog 31 #[.agg (crtC x.high)] W (gives (.string (str y2)) W)) := Lib.hid (fun W => by rw [e2]; exact L11.refbytes_any x.high W hx.2.2 t4)
      have HX2 : Hid (∀ z : WorldIn (BxP w m (.slice (some ad) n c) Q T (some ad)), ∀ j u, (crtL x.high)[j]? = some u → z.w.cell? (((ad.add (k * 10)).add 2).add j) = some u) := Lib.hid (fun z j u hj => by
        have ea : ((ad.add (k * 10)).add 2).add j = (ad.add (k * 10)).add (2 + j) := by unfold Addr.add; simp [Nat.add_assoc]
        rw [ea]
        refine HA1.out z (2 + j) u ?_
        rcases j with _ | _ | _ | _ | _ | _ | _ | _ | j
        all_goals first | exact hj | exact absurd hj (by simp [L11.crtL]))
      have g23 : ∀ z : WorldIn (BxP w m (.slice (some ad) n c) Q T (some ad)), z.w.cell? ⟨w.heap.size, 23, none⟩ = some (.slice (some ad) n c) := fun z => z.h.bb.cell 23
      have k0 : ∀ z : WorldIn (BxP w m (.slice (some ad) n c) Q T (some ad)), z.w.cell? ((ad.add (k * 10)).add 0) = some (.int .i64 x.signer) := fun z => HA1.out z 0 _ rfl
      have k0' : ∀ z : WorldIn (BxP w m (.slice (some ad) n c) Q T (some ad)), z.w.cell? (ad.add (k * 10)) = some (.int .i64 x.signer) := fun z => by simpa [Addr.add] using k0 z
      rw [← hZ]
      clear hxe hkL hx hv hne hfit e1 e2 hY hZ hnx l1 l2 t1 t2 t3 t4 HA1
      go_upto_region 17 with fail
      have ne : Nonempty (WorldIn (BxP w m (.slice (some ad) n c) Q T (some ad))) := ⟨⟨_, hP.drew⟩⟩
      refine wp_region_S (BxP w m (.slice (some ad) n c) Q T (some ad)) (by kernel_rfl) (by kernel_rfl) hP.drew ?_
      clear hP c23
      repeat (first
        | (refine wpQuiet_fn rfl 29 _ _ rfl Tryz.call29 [.int .i64 x.signer] rfl (v := .string (str y1)) (fun x => (M1.out x.w).mono fun e w' ⟨he, hb⟩ => ⟨he, x.h.below hb⟩) ?_
           conv => arg 6; simp only [Act.put, List.setIfInBounds_toArray, List.set_cons_zero, List.set_cons_succ])
        | (refine wpQuiet_fn rfl 31 _ _ rfl Tryz.call31 [.agg (crtC x.high)] rfl (v := .string (str y2)) (fun x => (M2.out x.w).mono fun e w' ⟨he, hb⟩ => ⟨he, x.h.below hb⟩) ?_
           conv => arg 6; simp only [Act.put, List.setIfInBounds_toArray, List.set_cons_zero, List.set_cons_succ])
        | (refine wpQuiet_cells rfl _ _ rfl ((ad.add (k * 10)).add 2) rfl (crtL x.high) _ HX2.out Tryz.underlying24 rfl crtInfo ?_
           conv => arg 6; simp only [Act.put, List.setIfInBounds_toArray, List.set_cons_zero, List.set_cons_succ])
        | go_big_quiet_step (fail))
      refine wpQuiet_nil ?_
      intro z
      obtain ⟨W, hW⟩ := z
      dsimp only
      clear ne k0 k0' g23 a1 a2 s1 s2
      go_wp2
      go_roundw
      case rel => exact ⟨k + 1, rfl, by go_num, by omega, hW⟩
      case measure => simp [RowKit.intOf]; omega
    obtain rfl : k = n := by omega
    have E : Hid (aheadQ m k = bytesM m) := Lib.hid (by rw [K.out.2.2.2.2]; exact K.out.2.2.2.1)
    have hb := hP.bw
    clear hP
    go_wp2_with fail
    go_ret
    exact ⟨by rw [E.out]; rfl, hb⟩
end Go.Proofs.YtgmejaiifibfoaaGreatDoor

/-
  A message's bytes, by the document's answer.
-/
set_option linter.unusedSimpArgs false
set_option linter.unusedVariables false
set_option maxRecDepth 10000
namespace Go.Proofs.YtgmejaiifibfoaaGreatDoor
open Go.RowKit Go.Maps Go.Lib
open L3 (Blk Reads encN)
open L11 (Crt zeroC crtL crtC mayV bytesV okW crtInfo crtC_ones wpQuiet_fn)

theorem refbytM_any (m : Mes) (P Q T : Value) (w : World) (hw : m.wf) (hl : LiesM w m P Q T) (h0 : mayM m = true) : Calls Tryz.prog 10 #[.agg (mesC m P Q T)] w (gives (.string (str (bytesM m))) w) := by
  have hk := ok_kind (may_facts h0).1
  by_cases h1 : m.kind = 1
  · exact refby_1 m P Q T w hw hl h0 h1
  by_cases h2 : m.kind = 2
  · exact refby_2 m P Q T w hw hl h0 h2
  by_cases h3 : m.kind = 3
  · exact refby_3 m P Q T w hw hl h0 h3
  by_cases h4 : m.kind = 4
  · exact refby_4 m P Q T w hw hl h0 h4
  by_cases h5 : m.kind = 5
  · exact refby_5 m P Q T w hw hl h0 h5
  by_cases h6 : m.kind = 6
  · exact refby_6 m P Q T w hw hl h0 h6
  by_cases h7 : m.kind = 7
  · exact refby_7 m P Q T w hw hl h0 h7
  by_cases h8 : m.kind = 8
  · exact refby_8 m P Q T w hw hl h0 h8
  by_cases h9 : m.kind = 9
  · exact refby_9 m P Q T w hw hl h0 h9
  by_cases h10 : m.kind = 10
  · exact refby_10 m P Q T w hw hl h0 h10
  by_cases h11 : m.kind = 11
  · exact refby_11 m P Q T w hw hl h0 h11
  by_cases h12 : m.kind = 12
  · exact refby_12 m P Q T w hw hl h0 h12
  exact absurd hk (by omega)
end Go.Proofs.YtgmejaiifibfoaaGreatDoor
