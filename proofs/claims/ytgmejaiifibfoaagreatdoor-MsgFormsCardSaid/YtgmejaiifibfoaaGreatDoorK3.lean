/-
  Texts of one layer in one: RchkG, RchkN.
-/
import Derived.Test.YtgmejaiifibfoaaGreatDoorRcM
import Derived.Test.YtgmejaiifibfoaaGreatDoorM5
import Derived.Test.YtgmejaiifibfoaaGreatDoorM3

/-
  May it be a message, by the document: a proof.
-/
set_option linter.unusedSimpArgs false
set_option linter.unusedVariables false
set_option maxRecDepth 10000
namespace Go.Proofs.YtgmejaiifibfoaaGreatDoor
open Go.RowKit Go.Maps Go.Lib
open L3 (Blk Reads)
open L6 (Turn)
open L11 (Crt zeroC crtL crtC mayV okW okW_mk okW_not crtInfo crtC_ones wpQuiet_fn)

/-- What is held while a proof is gone through by the document. -/
structure RcL (w : World) (M C : Nat) (m : Mes) (P Q T : Value) (o : Mes) (P' Q' T' : Value) (A : Option Addr) (W : World) : Prop where
  r : RcM w M C m P Q T o P' Q' T' W
  rp : Rd tmL 10 W A m.proof
theorem RcL.below {w W W' : World} {M C : Nat} {m o : Mes} {P Q T P' Q' T' : Value} {A : Option Addr} (h : RcL w M C m P Q T o P' Q' T' A W) (hb : Below W.heap.size W W') : RcL w M C m P Q T o P' Q' T' A W' := ⟨h.r.below hb, h.rp.below hb⟩
theorem RcL.drew {w W : World} {M C : Nat} {m o : Mes} {P Q T P' Q' T' : Value} {A : Option Addr} (h : RcL w M C m P Q T o P' Q' T' A W) : RcL w M C m P Q T o P' Q' T' A W.drew := h.below (Below.refl _ W).drew
theorem upto_yes {v : Int} {l : List Tmo} {k : Nat} (h : ∀ j, j < k → riseAt v l j = true) (hk : riseAt v l k = true) : (true = true ↔ ∀ j, j < k + 1 → riseAt v l j = true) := by
  refine ⟨fun _ j hj => ?_, fun _ => rfl⟩
  rcases Nat.lt_or_ge j k with hjk | hjk
  · exact h j hjk
  · obtain rfl : j = k := by omega
    exact hk
theorem upto_no {v : Int} {l : List Tmo} {k : Nat} (hk : riseAt v l k = false) : (false = true ↔ ∀ j, j < k + 1 → riseAt v l j = true) :=
  ⟨fun h => (nomatch h), fun h => by have := h k (by omega); rw [hk] at this; exact this⟩
theorem upto_stay {v : Int} {l : List Tmo} {k : Nat} (h : false = true ↔ ∀ j, j < k → riseAt v l j = true) : (false = true ↔ ∀ j, j < k + 1 → riseAt v l j = true) :=
  ⟨fun h => (nomatch h), fun g => h.2 (fun j hj => g j (by omega))⟩
theorem upto_all {v : Int} {l : List Tmo} {b : Bool} {n : Nat} (h : b = true ↔ ∀ j, j < n → riseAt v l j = true) (hn : n = l.length) : risesV v l = b := by
  subst hn
  cases b
  · rcases Bool.eq_false_or_eq_true (risesV v l) with h1 | h1
    · exact absurd (h.2 (fun j hj => rises_at h1 hj)) (by simp)
    · exact h1
  · exact rises_all (h.1 rfl)
set_option maxHeartbeats 12000000 in
set_option maxRecDepth 100000 in
theorem rchk_4 (m : Mes) (P Q T : Value) (w : World) (hw : m.wf) (hl : LiesM w m P Q T) (hk : m.kind = 4) : Calls Tryz.prog 9 #[.agg (mesC m P Q T)] w (gives (.bool (mayM m)) w) := by
  have hp : partM m = .prf m.proof := by unfold partM; rw [if_neg (by unfold hasB; omega), if_neg (by unfold hasC; omega), if_neg (by omega), if_pos hk]
  have hok : okM m = prfV m.proof := by rw [ok_mayP, hp, hk]; rfl
  have hmay : mayM m = (okM m && sameMV m (madeM 4 (partM m))) := by unfold mayM; rw [sameMV_iff, only_made, hk]
  have how : (madeM 4 (partM m)).wf := made_wf (by unfold inI; omega) (part_wf hw)
  rw [hp] at hmay how
  rw [hok] at hmay
  have F0 := Lib.hid (boxM_mk 34 hl)
  obtain ⟨A, c, rfl, hra, hlb⟩ := hl
  have hlo : ∀ W, Below w.heap.size w W → LiesM W (madeM 4 (.prf m.proof)) (.slice A m.proof.length c) nS0 nS0 := fun W hb => ⟨A, c, rfl, hra.below hb, lies_zero W⟩
  have hlm : ∀ W, Below w.heap.size w W → LiesM W m (.slice A m.proof.length c) Q T := fun W hb => ⟨A, c, rfl, hra.below hb, hlb.below hb⟩
  have HS := Lib.hid (fun W (hb : Below w.heap.size w W) => refSm_any m _ _ _ _ _ _ _ W hw how (hlm W hb) (hlo W hb))
  obtain ⟨b1, hb1⟩ : ∃ b, b = sameMV m (madeM 4 (.prf m.proof)) := ⟨_, rfl⟩
  rw [← hb1] at hmay HS
  rw [hmay]
  obtain ⟨n, hN⟩ : ∃ n, n = m.proof.length := ⟨_, rfl⟩
  have hpr : prfV m.proof = (decide (1 ≤ n ∧ n ≤ 10) && risesV (m.proof[0]!).view m.proof) := by rw [hN]; rfl
  have hnp := hw.np
  rw [← hN] at F0 HS hnp ⊢
  have HN := Lib.hid hN
  have HW := Lib.hid hw.proof
  have HRD := Lib.hid (fun W (hb : Below w.heap.size w W) => hra.below hb)
  have HPR := Lib.hid hpr
  clear hN hpr hra hlb hw
  clear hmay hok hp how hlo hlm hb1
  go_enter Tryz.func9, Tryz.ntmps9
  go_upto_region 1 with fail
  refine name_world (fun w0 hw0 => ?_)
  have hA0 : BoxM w w.heap.size 34 m (.slice A n c) (Q) (T) w0 := by rw [hw0]; exact F0.out
  clear hw0 F0
  have c0 : w0.cell? ⟨w.heap.size, 0, none⟩ = some (.int .i64 4) := by rw [← hk]; exact hA0.bb.cell 0
  go_upto_region 3 with (first
    | (refine wpList_build rfl _ _ rfl #[(0, .int .i64 4)] rfl (build_mkR 4 _) ?_)
    | (refine wpList_store_new rfl _ _ _ rfl _ (mesC { zeroM with kind := 4 } nS0 nS0 nS0) rfl rfl _ _ mesInfoR rfl (mesC_onesZ _) ?_))
  have hA1 := hA0.below (below_new w0 (.cells (mesC { zeroM with kind := 4 } nS0 nS0 nS0) 34))
  have k3 := mes_new w0 34 { zeroM with kind := 4 } nS0 nS0 nS0
  have hM := hA0.bb.lt
  obtain ⟨M, hMe⟩ : ∃ M, M = w0.heap.size := ⟨_, rfl⟩
  rw [← hMe] at k3 hM
  rw [← hMe]
  refine name_world (fun w1 hw1 => ?_)
  rw [← hw1] at hA1 k3
  clear hw1 hMe hA0 c0
  have pc := mes_crt hA1.bb
  go_upto_region 4 with (first
    | (refine wpList_cells_at rfl _ _ rfl ⟨w.heap.size, 5, none⟩ rfl (crtL m.cert) _ pc Tryz.underlying24 rfl crtInfo ?_)
    | (refine wpList_store_new rfl _ _ _ rfl _ (crtC m.cert) rfl rfl _ _ crtInfo rfl (crtC_ones _) ?_))
  have hb5 := below_new w1 (.cells (crtC m.cert) 24)
  have hA2 := hA1.below hb5
  have k4 := k3.below hb5 k3.lt
  have k5 := L11.box_new w1 24 m.cert
  have hC := k3.lt
  obtain ⟨C, hCe⟩ : ∃ C, C = w1.heap.size := ⟨_, rfl⟩
  rw [← hCe] at k5 hC
  rw [← hCe]
  refine name_world (fun w2 hw2 => ?_)
  rw [← hw2] at hA2 k4 k5
  have hR : RcM w M C m (.slice A n c) (Q) (T) { zeroM with kind := 4 } nS0 nS0 nS0 w2 := ⟨hA2.bb, k4, k5, hA2.bw, hM, hC⟩
  have c0 : w2.cell? ⟨w.heap.size, 0, none⟩ = some (.int .i64 4) := by rw [← hk]; exact hR.b1.cell 0
  clear hw2 hCe hA1 hA2 k3 k4 k5 hb5 pc hM hC hk
  have e0 : w2.cell? ⟨w.heap.size, 23, none⟩ = some (.slice A n c) := hR.b1.cell 23
  have o0 : w2.cell? ⟨M, 23, none⟩ = some nS0 := hR.b3.cell 23
  have f0 := hR.b3.frozen 23
  have hR3 : RcM w M C m (.slice A n c) Q T (madeM 4 (.prf m.proof)) (.slice A n c) nS0 nS0 (w2.setCell ⟨M, 23, none⟩ (.slice A n c)) := hR.cell 23 _ (by kernel_rfl)
  have hP0 : RcL w M C m (.slice A n c) Q T (madeM 4 (.prf m.proof)) (.slice A n c) nS0 nS0 A _ := ⟨hR3, HRD.out _ hR3.bw⟩
  unfold nS0 at o0
  clear hR hR3
  go_upto_region 17 with fail
  refine name_world (fun w3 hw3 => ?_)
  rw [← hw3] at hP0
  clear hw3 e0 o0 f0 c0
  have c23 : w3.cell? ⟨w.heap.size, 23, none⟩ = some (.slice A n c) := hP0.r.b1.cell 23
  by_cases h1 : n < 1
  · have E : Hid (prfV m.proof = false) := Lib.hid (by rw [HPR.out, decide_eq_false (by omega)]; rfl)
    have y0 : ¬ (1 : Int) ≤ (n : Int) := by omega
    go_wp2_with fail
    go_loopw [4, 6] (fun a i wr => ∃ k : Nat, a = .bool false ∧ i = .int .i64 k ∧ k ≤ n ∧ RcL w M C m (.slice A n c) Q T (madeM 4 (.prf m.proof)) (.slice A n c) nS0 nS0 A wr) (fun _ i _ => n - (RowKit.intOf i).toNat)
    case atStart => exact ⟨0, rfl, rfl, Nat.zero_le _, hP0⟩
    case round =>
      obtain ⟨k, rfl, rfl, hk, hP⟩ := hrel
      clear hP0 c23
      have c23 : wr.cell? ⟨w.heap.size, 23, none⟩ = some (.slice A n c) := hP.r.b1.cell 23
      by_cases hlt : k < n
      · exact absurd hlt (by omega)
      · have hb := hP.r.bw
        clear hP
        go_wp2_with fail
        go_ret
        exact ⟨by rw [E.out]; rfl, hb⟩
  have y0 : (1 : Int) ≤ (n : Int) := by omega
  by_cases h2 : 10 < n
  · have E : Hid (prfV m.proof = false) := Lib.hid (by rw [HPR.out, decide_eq_false (by omega)]; rfl)
    have y1 : ¬ (n : Int) ≤ 10 := by omega
    go_wp2_with fail
    go_loopw [4, 6] (fun a i wr => ∃ k : Nat, a = .bool false ∧ i = .int .i64 k ∧ k ≤ n ∧ RcL w M C m (.slice A n c) Q T (madeM 4 (.prf m.proof)) (.slice A n c) nS0 nS0 A wr) (fun _ i _ => n - (RowKit.intOf i).toNat)
    case atStart => exact ⟨0, rfl, rfl, Nat.zero_le _, hP0⟩
    case round =>
      obtain ⟨k, rfl, rfl, hk, hP⟩ := hrel
      clear hP0 c23
      have c23 : wr.cell? ⟨w.heap.size, 23, none⟩ = some (.slice A n c) := hP.r.b1.cell 23
      by_cases hlt : k < n
      · go_upto_region 21 with fail
        have ne : Nonempty (WorldIn (RcL w M C m (.slice A n c) Q T (madeM 4 (.prf m.proof)) (.slice A n c) nS0 nS0 A)) := ⟨⟨_, hP.drew⟩⟩
        refine wp_region_S (RcL w M C m (.slice A n c) Q T (madeM 4 (.prf m.proof)) (.slice A n c) nS0 nS0 A) (by kernel_rfl) (by kernel_rfl) hP.drew ?_
        clear hP c23
        repeat go_big_quiet_step (fail)
        refine wpQuiet_nil ?_
        intro z
        obtain ⟨W, hW⟩ := z
        dsimp only
        clear ne
        go_wp2
        go_roundw
        case rel => exact ⟨k + 1, rfl, by go_num, by omega, hW⟩
        case measure => simp [RowKit.intOf]; omega
      · have hb := hP.r.bw
        clear hP
        go_wp2_with fail
        go_ret
        exact ⟨by rw [E.out]; rfl, hb⟩
  have y1 : (n : Int) ≤ 10 := by omega
  obtain ⟨v, hv⟩ : ∃ v, v = (m.proof[0]!).view := ⟨_, rfl⟩
  have E : Hid (prfV m.proof = risesV v m.proof) := Lib.hid (by rw [HPR.out, decide_eq_true (by omega), ← hv]; rfl)
  have h0 : 0 < m.proof.length := by have := HN.out; omega
  obtain ⟨ad, rfl, _, hc0⟩ := hP0.rp 0 h0
  have HV : Hid (∀ y : World, Rd tmL 10 y (some ad) m.proof → y.cell? { block := (ad.add 0).block, off := (ad.add 0).off + 1 } = some (.int .i64 v)) := Lib.hid (fun y hy => by
    obtain ⟨ad2, e2, _, hcs⟩ := hy 0 h0
    injection e2 with e2; subst e2
    have := hcs 1 _ rfl
    rw [hv, bang_at h0]
    simpa [Addr.add] using this)
  clear hv h0 hc0
  go_wp2_with fail
  go_loopw [4, 6] (fun a i wr => ∃ (k : Nat) (b : Bool), a = .bool b ∧ i = .int .i64 k ∧ k ≤ n ∧ Hid (b = true ↔ ∀ j, j < k → riseAt v m.proof j = true) ∧ RcL w M C m (.slice (some ad) n c) Q T (madeM 4 (.prf m.proof)) (.slice (some ad) n c) nS0 nS0 (some ad) wr) (fun _ i _ => n - (RowKit.intOf i).toNat)
  case atStart => exact ⟨0, true, rfl, rfl, Nat.zero_le _, Lib.hid ⟨fun _ j hj => absurd hj (by omega), fun _ => rfl⟩, hP0⟩
  case round =>
    obtain ⟨k, b, rfl, rfl, hk, hz, hP⟩ := hrel
    clear hP0 c23
    have c23 : wr.cell? ⟨w.heap.size, 23, none⟩ = some (.slice (some ad) n c) := hP.r.b1.cell 23
    by_cases hlt : k < n
    · have g23 : ∀ z : WorldIn (RcL w M C m (.slice (some ad) n c) Q T (madeM 4 (.prf m.proof)) (.slice (some ad) n c) nS0 nS0 (some ad)), z.w.cell? ⟨w.heap.size, 23, none⟩ = some (.slice (some ad) n c) := fun z => z.h.r.b1.cell 23
      cases b
      · go_upto_region 21 with fail
        have ne : Nonempty (WorldIn (RcL w M C m (.slice (some ad) n c) Q T (madeM 4 (.prf m.proof)) (.slice (some ad) n c) nS0 nS0 (some ad))) := ⟨⟨_, hP.drew⟩⟩
        refine wp_region_S (RcL w M C m (.slice (some ad) n c) Q T (madeM 4 (.prf m.proof)) (.slice (some ad) n c) nS0 nS0 (some ad)) (by kernel_rfl) (by kernel_rfl) hP.drew ?_
        clear hP c23
        repeat go_big_quiet_step (fail)
        refine wpQuiet_nil ?_
        intro z
        obtain ⟨W, hW⟩ := z
        dsimp only
        clear ne g23
        go_wp2
        go_roundw
        case rel => exact ⟨k + 1, false, rfl, by go_num, by omega, Lib.hid (upto_stay hz.out), hW⟩
        case measure => simp [RowKit.intOf]; omega
      have hzz := Lib.hid (hz.out.1 rfl)
      have hkL : k < m.proof.length := by have := HN.out; omega
      have hx := HW.out _ (List.getElem_mem hkL)
      have hbang := bang_at hkL
      have HA1 : Hid (∀ z : WorldIn (RcL w M C m (.slice (some ad) n c) Q T (madeM 4 (.prf m.proof)) (.slice (some ad) n c) nS0 nS0 (some ad)), ∀ j u, (tmL m.proof[k])[j]? = some u → z.w.cell? ((ad.add (k * 10)).add j) = some u) := Lib.hid (fun z => z.h.rp.at_ hkL)
      obtain ⟨x, hxe⟩ : ∃ x, x = m.proof[k] := ⟨_, rfl⟩
      rw [← hxe] at HA1 hx hbang
      have hra : riseAt v m.proof k = (tmoV x && decide (x.view = v) && decide (prevS m.proof k < x.signer)) := by unfold riseAt; rw [hbang]
      have k0 : ∀ z : WorldIn (RcL w M C m (.slice (some ad) n c) Q T (madeM 4 (.prf m.proof)) (.slice (some ad) n c) nS0 nS0 (some ad)), z.w.cell? ((ad.add (k * 10)).add 0) = some (.int .i64 x.signer) := fun z => HA1.out z 0 _ rfl
      have k0' : ∀ z : WorldIn (RcL w M C m (.slice (some ad) n c) Q T (madeM 4 (.prf m.proof)) (.slice (some ad) n c) nS0 nS0 (some ad)), z.w.cell? (ad.add (k * 10)) = some (.int .i64 x.signer) := fun z => by simpa [Addr.add] using k0 z
      have k1 : ∀ z : WorldIn (RcL w M C m (.slice (some ad) n c) Q T (madeM 4 (.prf m.proof)) (.slice (some ad) n c) nS0 nS0 (some ad)), z.w.cell? ((ad.add (k * 10)).add 1) = some (.int .i64 x.view) := fun z => HA1.out z 1 _ rfl
      have k1a : ∀ z : WorldIn (RcL w M C m (.slice (some ad) n c) Q T (madeM 4 (.prf m.proof)) (.slice (some ad) n c) nS0 nS0 (some ad)), z.w.cell? (ad.add (k * 10 + 1)) = some (.int .i64 x.view) := fun z => by have := k1 z; rw [Addr.add_add] at this; exact this
      have k1c : ∀ z : WorldIn (RcL w M C m (.slice (some ad) n c) Q T (madeM 4 (.prf m.proof)) (.slice (some ad) n c) nS0 nS0 (some ad)), z.w.cell? { block := (ad.add (k * 10)).block, off := (ad.add (k * 10)).off + 1 } = some (.int .i64 x.view) := fun z => k1 z
      have gv : ∀ z : WorldIn (RcL w M C m (.slice (some ad) n c) Q T (madeM 4 (.prf m.proof)) (.slice (some ad) n c) nS0 nS0 (some ad)), z.w.cell? { block := (ad.add 0).block, off := (ad.add 0).off + 1 } = some (.int .i64 v) := fun z => HV.out _ z.h.rp
      have gv2 : ∀ z : WorldIn (RcL w M C m (.slice (some ad) n c) Q T (madeM 4 (.prf m.proof)) (.slice (some ad) n c) nS0 nS0 (some ad)), z.w.cell? { block := ad.block, off := ad.off + 1 } = some (.int .i64 v) := fun z => by have := HV.out _ z.h.rp; simpa [Addr.add] using this
      have HBG : Hid (∀ j, j < k → ∀ z : WorldIn (RcL w M C m (.slice (some ad) n c) Q T (madeM 4 (.prf m.proof)) (.slice (some ad) n c) nS0 nS0 (some ad)), z.w.cell? (ad.add (j * 10)) = some (.int .i64 (prevS m.proof (j + 1)))) := Lib.hid (fun j hj z => by
        have hjL : j < m.proof.length := by omega
        have := z.h.rp.at_ hjL 0 _ rfl
        rw [prev_next, bang_at hjL]
        simpa [Addr.add] using this)
      clear hxe hkL hbang hz
      go_upto_region 21 with fail
      have ne : Nonempty (WorldIn (RcL w M C m (.slice (some ad) n c) Q T (madeM 4 (.prf m.proof)) (.slice (some ad) n c) nS0 nS0 (some ad))) := ⟨⟨_, hP.drew⟩⟩
      refine wp_region_S (RcL w M C m (.slice (some ad) n c) Q T (madeM 4 (.prf m.proof)) (.slice (some ad) n c) nS0 nS0 (some ad)) (by kernel_rfl) (by kernel_rfl) hP.drew ?_
      clear hP c23
      iterate 6 go_big_quiet_step (fail)
      refine wpQuiet_cells rfl _ _ rfl (ad.add (k * 10)) rfl (tmL x) _ HA1.out Tryz.underlying26 rfl tmInfo ?_
      conv => arg 6; simp only [Act.put, List.setIfInBounds_toArray, List.set_cons_zero, List.set_cons_succ]
      rcases (Bool.eq_false_or_eq_true (tmoV x)).symm with a1 | a1
      · have hT : Hid (∀ W, Calls Tryz.prog 25 #[.agg (tmC x)] W (gives (.bool false) W)) := Lib.hid (fun W => by rw [← a1]; exact reftm_any x W hx)
        have E2 : Hid (riseAt v m.proof k = false) := Lib.hid (by rw [hra, a1]; rfl)
        clear hra a1 hx HBG
        refine wpQuiet_fn rfl 25 _ _ rfl Tryz.call25 [.agg (tmC x)] rfl (v := .bool false) (fun z => (hT.out z.w).mono fun e w' ⟨he, hb⟩ => ⟨he, z.h.below hb⟩) ?_
        conv => arg 6; simp only [Act.put, List.setIfInBounds_toArray, List.set_cons_zero, List.set_cons_succ]
        repeat go_big_quiet_step (fail)
        refine wpQuiet_nil ?_
        intro z
        obtain ⟨W, hW⟩ := z
        dsimp only
        clear ne g23 k0 k0' k1 k1a k1c gv gv2 HA1
        go_wp2
        go_roundw
        case rel => exact ⟨k + 1, false, rfl, by go_num, by omega, Lib.hid (upto_no E2.out), hW⟩
        case measure => simp [RowKit.intOf]; omega
      have hT : Hid (∀ W, Calls Tryz.prog 25 #[.agg (tmC x)] W (gives (.bool true) W)) := Lib.hid (fun W => by rw [← a1]; exact reftm_any x W hx)
      have hsg := (tmo_facts a1).1
      rw [a1] at hra
      clear a1 hx
      refine wpQuiet_fn rfl 25 _ _ rfl Tryz.call25 [.agg (tmC x)] rfl (v := .bool true) (fun z => (hT.out z.w).mono fun e w' ⟨he, hb⟩ => ⟨he, z.h.below hb⟩) ?_
      conv => arg 6; simp only [Act.put, List.setIfInBounds_toArray, List.set_cons_zero, List.set_cons_succ]
      by_cases h3 : x.view = v
      case neg =>
        have E2 : Hid (riseAt v m.proof k = false) := Lib.hid (by rw [hra, decide_eq_false h3]; rfl)
        have q2 : (x.view == v) = false := by simpa using h3
        clear hra h3 HBG
        repeat go_big_quiet_step (fail)
        refine wpQuiet_nil ?_
        intro z
        obtain ⟨W, hW⟩ := z
        dsimp only
        clear ne g23 k0 k0' k1 k1a k1c gv gv2 HA1
        go_wp2
        go_roundw
        case rel => exact ⟨k + 1, false, rfl, by go_num, by omega, Lib.hid (upto_no E2.out), hW⟩
        case measure => simp [RowKit.intOf]; omega
      have q2 : (x.view == v) = true := by simpa using h3
      rw [decide_eq_true h3] at hra
      clear h3
      by_cases hk0 : 0 < k
      case neg =>
        obtain rfl : k = 0 := by omega
        have E2 : Hid (riseAt v m.proof 0 = true) := Lib.hid (by
          rw [hra, show prevS m.proof 0 = -1 from rfl, decide_eq_true (by omega)]; rfl)
        clear hra HBG
        repeat go_big_quiet_step (fail)
        refine wpQuiet_nil ?_
        intro z
        obtain ⟨W, hW⟩ := z
        dsimp only
        clear ne g23 k0 k0' k1 k1a k1c gv gv2 HA1
        go_wp2
        go_roundw
        case rel => exact ⟨0 + 1, true, rfl, by go_num, by omega, Lib.hid (upto_yes hzz.out E2.out), hW⟩
        case measure => simp [RowKit.intOf]; omega
      obtain ⟨j, rfl⟩ : ∃ j, k = j + 1 := ⟨k - 1, by omega⟩
      have kp := HBG.out j (by omega)
      have z1 : (((j + 1 : Nat) : Int) == 0) = false := by simp; omega
      have z2 : ((j : Int) + 1 == 0) = false := by simp; omega
      obtain ⟨pv, hpv2⟩ : ∃ pv, pv = prevS m.proof (j + 1) := ⟨_, rfl⟩
      rw [← hpv2] at kp hra
      clear HBG hpv2
      by_cases h4 : pv < x.signer
      case neg =>
        have E2 : Hid (riseAt v m.proof (j + 1) = false) := Lib.hid (by rw [hra, decide_eq_false h4]; rfl)
        have q3 : x.signer ≤ pv := by omega
        clear hra
        repeat go_big_quiet_step (fail)
        refine wpQuiet_nil ?_
        intro z
        obtain ⟨W, hW⟩ := z
        dsimp only
        clear ne kp g23 k0 k0' k1 k1a k1c gv gv2 HA1
        go_wp2
        go_roundw
        case rel => exact ⟨j + 1 + 1, false, rfl, by go_num, by omega, Lib.hid (upto_no E2.out), hW⟩
        case measure => simp [RowKit.intOf]; omega
      have E2 : Hid (riseAt v m.proof (j + 1) = true) := Lib.hid (by rw [hra, decide_eq_true h4]; rfl)
      have q3 : ¬ x.signer ≤ pv := by omega
      clear hra
      repeat go_big_quiet_step (fail)
      refine wpQuiet_nil ?_
      intro z
      obtain ⟨W, hW⟩ := z
      dsimp only
      clear ne kp g23 k0 k0' k1 k1a k1c gv gv2 HA1
      go_wp2
      go_roundw
      case rel => exact ⟨j + 1 + 1, true, rfl, by go_num, by omega, Lib.hid (upto_yes hzz.out E2.out), hW⟩
      case measure => simp [RowKit.intOf]; omega
    · have hkn : k = n := by omega
      have E2 : Hid (prfV m.proof = b) := Lib.hid (by rw [E.out]; exact upto_all hz.out (by rw [hkn]; exact HN.out))
      have hS := HS.out wr hP.r.bw
      clear hz
      cases b
      · go_wp2_with fail
        go_ret
        exact ⟨by rw [E2.out]; rfl, hP.r.bw⟩
      · go_wp2_with (first
          | (refine wpList_row_at rfl _ _ rfl w.heap.size rfl _ _ _ _ hP.r.b1 Tryz.underlying34 rfl mesInfoR ?_)
          | (refine wpList_row_at rfl _ _ rfl M rfl _ _ _ _ hP.r.b3 Tryz.underlying34 rfl mesInfoR ?_)
          | (go_at_call 12; refine hS.mono ?_; unfold gives; rintro e w9 ⟨rfl, hb9⟩))
        go_ret
        exact ⟨by rw [E2.out]; rfl, nxt hP.r.bw hb9⟩
end Go.Proofs.YtgmejaiifibfoaaGreatDoor

/-
  May it be a message, by the document: no kind.
-/
set_option linter.unusedSimpArgs false
set_option linter.unusedVariables false
set_option maxRecDepth 10000
namespace Go.Proofs.YtgmejaiifibfoaaGreatDoor
open Go.RowKit Go.Maps Go.Lib
open L3 (Blk Reads)
open L6 (Turn)
open L11 (Crt zeroC crtL crtC mayV okW okW_mk okW_not crtInfo crtC_ones wpQuiet_fn)

set_option maxHeartbeats 4000000 in
set_option maxRecDepth 100000 in
theorem rchk_non (m : Mes) (P Q T : Value) (w : World) (hl : LiesM w m P Q T) (hn : ∀ k : Int, 1 ≤ k → k ≤ 12 → m.kind ≠ k) : Calls Tryz.prog 9 #[.agg (mesC m P Q T)] w (gives (.bool (mayM m)) w) := by
  have hmay : mayM m = false := by
    rcases Bool.eq_false_or_eq_true (mayM m) with h | h
    · have := ok_kind (may_facts h).1
      exact absurd rfl (hn m.kind this.1 this.2)
    · exact h
  rw [hmay]
  have F0 := Lib.hid (boxM_mk 34 hl)
  have q1 : (m.kind == 1) = false := by have := hn 1 (by omega) (by omega); simpa using this
  have q2 : (m.kind == 2) = false := by have := hn 2 (by omega) (by omega); simpa using this
  have q3 : (m.kind == 3) = false := by have := hn 3 (by omega) (by omega); simpa using this
  have q4 : (m.kind == 4) = false := by have := hn 4 (by omega) (by omega); simpa using this
  have q5 : (m.kind == 5) = false := by have := hn 5 (by omega) (by omega); simpa using this
  have q6 : (m.kind == 6) = false := by have := hn 6 (by omega) (by omega); simpa using this
  have q7 : (m.kind == 7) = false := by have := hn 7 (by omega) (by omega); simpa using this
  have q8 : (m.kind == 8) = false := by have := hn 8 (by omega) (by omega); simpa using this
  have q9 : (m.kind == 9) = false := by have := hn 9 (by omega) (by omega); simpa using this
  have q10 : (m.kind == 10) = false := by have := hn 10 (by omega) (by omega); simpa using this
  have q11 : (m.kind == 11) = false := by have := hn 11 (by omega) (by omega); simpa using this
  have q12 : (m.kind == 12) = false := by have := hn 12 (by omega) (by omega); simpa using this
  clear hmay hl hn
  go_enter Tryz.func9, Tryz.ntmps9
  go_upto_region 1 with fail
  refine name_world (fun w0 hw0 => ?_)
  have hA0 : BoxM w w.heap.size 34 m (P) (Q) (T) w0 := by rw [hw0]; exact F0.out
  clear hw0 F0
  have c0 : w0.cell? ⟨w.heap.size, 0, none⟩ = some (.int .i64 m.kind) := hA0.bb.cell 0
  go_upto_region 3 with (first
    | (refine wpList_build rfl _ _ rfl #[(0, .int .i64 m.kind)] rfl (build_mkR m.kind _) ?_)
    | (refine wpList_store_new rfl _ _ _ rfl _ (mesC { zeroM with kind := m.kind } nS0 nS0 nS0) rfl rfl _ _ mesInfoR rfl (mesC_onesZ _) ?_))
  have hA1 := hA0.below (below_new w0 (.cells (mesC { zeroM with kind := m.kind } nS0 nS0 nS0) 34))
  have k3 := mes_new w0 34 { zeroM with kind := m.kind } nS0 nS0 nS0
  have hM := hA0.bb.lt
  obtain ⟨M, hMe⟩ : ∃ M, M = w0.heap.size := ⟨_, rfl⟩
  rw [← hMe] at k3 hM
  rw [← hMe]
  refine name_world (fun w1 hw1 => ?_)
  rw [← hw1] at hA1 k3
  clear hw1 hMe hA0 c0
  have pc := mes_crt hA1.bb
  go_upto_region 4 with (first
    | (refine wpList_cells_at rfl _ _ rfl ⟨w.heap.size, 5, none⟩ rfl (crtL m.cert) _ pc Tryz.underlying24 rfl crtInfo ?_)
    | (refine wpList_store_new rfl _ _ _ rfl _ (crtC m.cert) rfl rfl _ _ crtInfo rfl (crtC_ones _) ?_))
  have hb5 := below_new w1 (.cells (crtC m.cert) 24)
  have hA2 := hA1.below hb5
  have k4 := k3.below hb5 k3.lt
  have k5 := L11.box_new w1 24 m.cert
  have hC := k3.lt
  obtain ⟨C, hCe⟩ : ∃ C, C = w1.heap.size := ⟨_, rfl⟩
  rw [← hCe] at k5 hC
  rw [← hCe]
  refine name_world (fun w2 hw2 => ?_)
  rw [← hw2] at hA2 k4 k5
  have hR : RcM w M C m (P) (Q) (T) { zeroM with kind := m.kind } nS0 nS0 nS0 w2 := ⟨hA2.bb, k4, k5, hA2.bw, hM, hC⟩
  have c0 : w2.cell? ⟨w.heap.size, 0, none⟩ = some (.int .i64 m.kind) := hR.b1.cell 0
  clear hw2 hCe hA1 hA2 k3 k4 k5 hb5 pc hM hC
  have hb := hR.bw
  clear hR
  go_wp2
  go_ret
  exact ⟨rfl, hb⟩
end Go.Proofs.YtgmejaiifibfoaaGreatDoor
