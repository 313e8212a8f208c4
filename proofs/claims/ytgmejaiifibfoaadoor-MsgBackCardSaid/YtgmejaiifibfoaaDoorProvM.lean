/-
  Which timeouts may be a proof: by the code.
-/
import Derived.Test.YtgmejaiifibfoaaDoorSuitM
import Derived.Test.YtgmejaiifibfoaaDoorB2
set_option linter.unusedSimpArgs false
set_option linter.unusedVariables false
set_option maxRecDepth 10000
namespace Go.Proofs.YtgmejaiifibfoaaDoor
open Go.RowKit Go.Maps Go.Lib
open L3 (Blk Reads)
open L11 (Crt zeroC crtL crtC mayV okW okW_mk okW_not crtInfo crtC_ones endV wpQuiet_fn)

/-- What is held while a proof is gone through. -/
structure PvAt (w : World) (l : List Tmo) (A : Option Addr) (W : World) : Prop where
  rd : Rd tmL 10 W A l
  bw : Below w.heap.size w W
structure PvBx (w : World) (l : List Tmo) (A : Option Addr) (G : Nat) (x : Tmo) (W : World) : Prop where
  rd : Rd tmL 10 W A l
  bx : Blk W G 26 (tmC x)
  bw : Below w.heap.size w W
theorem PvAt.below {w W W' : World} {l : List Tmo} {A : Option Addr} (h : PvAt w l A W) (hb : Below W.heap.size W W') : PvAt w l A W' := ⟨h.rd.below hb, nxt h.bw hb⟩
theorem PvBx.below {w W W' : World} {l : List Tmo} {A : Option Addr} {G : Nat} {x : Tmo} (h : PvBx w l A G x W) (hb : Below W.heap.size W W') : PvBx w l A G x W' := ⟨h.rd.below hb, h.bx.below hb h.bx.lt, nxt h.bw hb⟩
theorem PvBx.drew {w W : World} {l : List Tmo} {A : Option Addr} {G : Nat} {x : Tmo} (h : PvBx w l A G x W) : PvBx w l A G x W.drew := h.below (Below.refl _ W).drew
theorem PvAt.box {w W : World} {l : List Tmo} {A : Option Addr} (h : PvAt w l A W) (x : Tmo) : PvBx w l A W.heap.size x (W.alloc (.cells (tmC x) 26)) := ⟨(h.below (below_new _ _)).rd, tmo_new _ _ _, (h.below (below_new _ _)).bw⟩
set_option maxHeartbeats 4000000 in
set_option maxRecDepth 100000 in
theorem proves_any (A : Option Addr) (c : Nat) (l : List Tmo) (w : World) (hw : ∀ t ∈ l, t.wf) (hn : l.length ≤ 100000) (hr : Rd tmL 10 w A l) : Calls Tryd.prog 44 #[.slice A l.length c] w (gives (.bool (prfV l)) w) := by
  have e : prfV l = (decide (1 ≤ l.length ∧ l.length ≤ 10) && risesV (l[0]!).view l) := rfl
  obtain ⟨n, hN⟩ : ∃ n, n = l.length := ⟨_, rfl⟩
  rw [← hN] at hn ⊢
  by_cases h2 : 1 ≤ n ∧ n ≤ 10
  case neg =>
    have E : Hid (prfV l = false) := Lib.hid (by rw [e, ← hN, decide_eq_false h2]; rfl)
    have ho : okW (n : Int) 1 10 = false := okW_not (by omega)
    clear hN e hr h2 hw
    go_enter Tryd.func44, Tryd.ntmps44
    go_wp2_with (go_at_call 49; refine (withinM_is _ _ _ _ _ ho).mono ?_; rintro e w1 ⟨rfl, rfl⟩)
    go_ret
    exact ⟨by rw [E.out]; rfl, Below.refl _ _⟩
  have E : Hid (prfV l = risesV (l[0]!).view l) := Lib.hid (by rw [e, ← hN, decide_eq_true h2]; rfl)
  have ho : okW (n : Int) 1 10 = true := okW_mk (by omega) (by omega)
  have h0 : 0 < l.length := by omega
  obtain ⟨ad, rfl, _, hc0⟩ := hr 0 h0
  have hA : PvAt w l (some ad) w := ⟨hr, Below.refl _ _⟩
  have HN := Lib.hid hN
  have HW := Lib.hid hw
  have H0 := Lib.hid h0
  obtain ⟨v, hv⟩ : ∃ v, v = (l[0]!).view := ⟨_, rfl⟩
  rw [← hv] at E
  have HV : Hid (∀ y : World, Rd tmL 10 y (some ad) l → y.cell? { block := (ad.add 0).block, off := (ad.add 0).off + 1 } = some (.int .i64 v)) := Lib.hid (fun y hy => by
    obtain ⟨ad2, e2, _, hcs⟩ := hy 0 h0
    injection e2 with e2; subst e2
    have := hcs 1 _ rfl
    rw [hv, bang_at h0]
    simpa [Addr.add] using this)
  clear hv hN e hr h2 hw h0 hc0
  go_enter Tryd.func44, Tryd.ntmps44
  go_wp2_with (go_at_call 49; refine (withinM_is _ _ _ _ _ ho).mono ?_; rintro e w1 ⟨rfl, rfl⟩)
  go_loopw [3, 12] (fun a i wr => ∃ k : Nat, i = .int .i64 k ∧ a = .int .i64 (prevS l k) ∧ k ≤ n ∧ Hid (∀ j, j < k → riseAt v l j = true) ∧ PvAt w l (some ad) wr) (fun _ i _ => n - (RowKit.intOf i).toNat)
  case atStart => exact ⟨0, rfl, rfl, Nat.zero_le _, Lib.hid (fun j hj => by omega), hA⟩
  case round =>
    obtain ⟨k, rfl, rfl, hk, hz, hP⟩ := hrel
    clear hA
    by_cases hlt : k < n
    · have hkL : k < l.length := by have := HN.out; omega
      obtain ⟨ad2, e2, hadl, hcs⟩ := hP.rd k hkL
      injection e2 with e2; subst e2
      have hx := HW.out _ (List.getElem_mem hkL)
      have hbang := bang_at hkL
      obtain ⟨x, hxe⟩ : ∃ x, x = l[k] := ⟨_, rfl⟩
      rw [← hxe] at hcs hx hbang
      have hra : riseAt v l k = (tmoV x && decide (x.view = v) && decide (prevS l k < x.signer)) := by unfold riseAt; rw [hbang]
      obtain ⟨pv, hpv⟩ : ∃ pv, pv = prevS l k := ⟨_, rfl⟩
      rw [← hpv] at hra ⊢
      have hcs1 : ∀ j u, (tmL x)[j]? = some u → wr.cell? ((ad.add (k * 10)).add j) = some u := hcs
      have hnx : prevS l (k + 1) = x.signer := by rw [prev_next, hbang]
      have hPb := hP.box x
      have HH := Lib.hid hnx
      have HK := Lib.hid hkL
      clear hxe hcs hbang hpv hkL hnx hP
      go_upto_region 7 with (first
        | (refine wpList_cells_at rfl _ _ rfl (ad.add (k * 10)) rfl (tmL x) _ hcs1 Tryd.underlying26 rfl tmInfo ?_)
        | (refine wpList_store_new rfl _ _ _ rfl _ (tmC x) rfl rfl _ _ tmInfo rfl (tmC_ones _) ?_))
      obtain ⟨G, hG⟩ : ∃ G, G = wr.heap.size := ⟨_, rfl⟩
      rw [← hG] at hPb
      rw [← hG]
      refine name_world (fun w3 hw3 => ?_)
      rw [← hw3] at hPb
      clear hw3 hG hcs1 hadl
      have hD := hPb.drew
      have ne : Nonempty (WorldIn (PvBx w l (some ad) G x)) := ⟨⟨_, hD⟩⟩
      refine wp_region_S (PvBx w l (some ad) G x) (by kernel_rfl) (by kernel_rfl) hD ?_
      clear hD hPb
      have g0 : ∀ z : WorldIn (PvBx w l (some ad) G x), z.w.cell? ⟨G, 0, none⟩ = some (.int .i64 x.signer) := fun z => z.h.bx.cell 0
      have g1 : ∀ z : WorldIn (PvBx w l (some ad) G x), z.w.cell? ⟨G, 1, none⟩ = some (.int .i64 x.view) := fun z => z.h.bx.cell 1
      have gv : ∀ z : WorldIn (PvBx w l (some ad) G x), z.w.cell? { block := (ad.add 0).block, off := (ad.add 0).off + 1 } = some (.int .i64 v) := fun z => HV.out _ z.h.rd
      have gv2 : ∀ z : WorldIn (PvBx w l (some ad) G x), z.w.cell? { block := ad.block, off := ad.off + 1 } = some (.int .i64 v) := fun z => by have := HV.out _ z.h.rd; simpa [Addr.add] using this
      rcases (Bool.eq_false_or_eq_true (tmoV x)).symm with a1 | a1
      · have E2 : Hid (prfV l = false) := Lib.hid (by rw [E.out, rises_no HK.out (by rw [hra, a1]; rfl)])
        have hT : Hid (∀ W, Calls Tryd.prog 43 #[.agg (tmC x)] W (gives (.int .i64 121) W)) := Lib.hid (fun W => timeout_is x false W hx a1)
        clear hra a1 hx
        iterate 18 (first
          | (refine wpQuiet_row rfl _ _ rfl G rfl _ _ _ _ (fun y => y.h.bx) Tryd.underlying26 rfl tmInfo ?_
             conv => arg 6; simp only [Act.put, List.setIfInBounds_toArray, List.set_cons_zero, List.set_cons_succ])
          | (refine wpQuiet_fn rfl 43 _ _ rfl Tryd.call43 [.agg (tmC x)] rfl (v := .int .i64 121) (fun z => (hT.out z.w).mono fun e w' ⟨he, hb⟩ => ⟨he, z.h.below hb⟩) ?_
             conv => arg 6; simp only [Act.put, List.setIfInBounds_toArray, List.set_cons_zero, List.set_cons_succ])
          | go_big_quiet_step (fail))
        refine wpQuiet_nil ?_
        intro z
        obtain ⟨W, hW⟩ := z
        dsimp only
        clear ne g0 g1 gv gv2
        go_wp2
        go_ret
        exact ⟨by rw [E2.out]; rfl, hW.bw⟩
      have hT : Hid (∀ W, Calls Tryd.prog 43 #[.agg (tmC x)] W (gives (.int .i64 0) W)) := Lib.hid (fun W => timeout_is x true W hx a1)
      rw [a1] at hra
      clear a1 hx
      by_cases h2 : x.view = v
      case neg =>
        have E2 : Hid (prfV l = false) := Lib.hid (by rw [E.out, rises_no HK.out (by rw [hra, decide_eq_false h2]; rfl)])
        have q2 : (x.view != v) = true := by simpa using h2
        clear hra h2
        iterate 18 (first
          | (refine wpQuiet_row rfl _ _ rfl G rfl _ _ _ _ (fun y => y.h.bx) Tryd.underlying26 rfl tmInfo ?_
             conv => arg 6; simp only [Act.put, List.setIfInBounds_toArray, List.set_cons_zero, List.set_cons_succ])
          | (refine wpQuiet_fn rfl 43 _ _ rfl Tryd.call43 [.agg (tmC x)] rfl (v := .int .i64 0) (fun z => (hT.out z.w).mono fun e w' ⟨he, hb⟩ => ⟨he, z.h.below hb⟩) ?_
             conv => arg 6; simp only [Act.put, List.setIfInBounds_toArray, List.set_cons_zero, List.set_cons_succ])
          | go_big_quiet_step (fail))
        refine wpQuiet_nil ?_
        intro z
        obtain ⟨W, hW⟩ := z
        dsimp only
        clear ne g0 g1 gv gv2
        go_wp2
        go_ret
        exact ⟨by rw [E2.out]; rfl, hW.bw⟩
      have q2 : (x.view != v) = false := by simpa using h2
      rw [decide_eq_true h2] at hra
      clear h2
      by_cases h3 : pv < x.signer
      case neg =>
        have E2 : Hid (prfV l = false) := Lib.hid (by rw [E.out, rises_no HK.out (by rw [hra, decide_eq_false h3]; rfl)])
        have q3 : x.signer ≤ pv := by omega
        clear hra h3
        iterate 18 (first
          | (refine wpQuiet_row rfl _ _ rfl G rfl _ _ _ _ (fun y => y.h.bx) Tryd.underlying26 rfl tmInfo ?_
             conv => arg 6; simp only [Act.put, List.setIfInBounds_toArray, List.set_cons_zero, List.set_cons_succ])
          | (refine wpQuiet_fn rfl 43 _ _ rfl Tryd.call43 [.agg (tmC x)] rfl (v := .int .i64 0) (fun z => (hT.out z.w).mono fun e w' ⟨he, hb⟩ => ⟨he, z.h.below hb⟩) ?_
             conv => arg 6; simp only [Act.put, List.setIfInBounds_toArray, List.set_cons_zero, List.set_cons_succ])
          | go_big_quiet_step (fail))
        refine wpQuiet_nil ?_
        intro z
        obtain ⟨W, hW⟩ := z
        dsimp only
        clear ne g0 g1 gv gv2
        go_wp2
        go_ret
        exact ⟨by rw [E2.out]; rfl, hW.bw⟩
      have E2 : Hid (riseAt v l k = true) := Lib.hid (by rw [hra, decide_eq_true h3]; rfl)
      have q3 : ¬ x.signer ≤ pv := by omega
      clear hra h3
      iterate 18 (first
        | (refine wpQuiet_row rfl _ _ rfl G rfl _ _ _ _ (fun y => y.h.bx) Tryd.underlying26 rfl tmInfo ?_
           conv => arg 6; simp only [Act.put, List.setIfInBounds_toArray, List.set_cons_zero, List.set_cons_succ])
        | (refine wpQuiet_fn rfl 43 _ _ rfl Tryd.call43 [.agg (tmC x)] rfl (v := .int .i64 0) (fun z => (hT.out z.w).mono fun e w' ⟨he, hb⟩ => ⟨he, z.h.below hb⟩) ?_
           conv => arg 6; simp only [Act.put, List.setIfInBounds_toArray, List.set_cons_zero, List.set_cons_succ])
        | go_big_quiet_step (fail))
      refine wpQuiet_nil ?_
      intro z
      obtain ⟨W, hW⟩ := z
      dsimp only
      clear ne g0 g1 gv gv2
      have d0 : W.cell? ⟨G, 0, none⟩ = some (.int .i64 x.signer) := hW.bx.cell 0
      go_wp2
      go_roundw
      case rel =>
        refine ⟨k + 1, by go_num, by rw [HH.out], by omega, Lib.hid (fun j hj => ?_), ⟨hW.rd, hW.bw⟩⟩
        rcases Nat.lt_or_ge j k with hjk | hjk
        · exact hz.out j hjk
        · obtain rfl : j = k := by omega
          exact E2.out
      case measure => simp [RowKit.intOf]; omega
    · have hkn : k = n := by omega
      have E2 : Hid (prfV l = true) := Lib.hid (by rw [E.out, rises_all (fun j hj => hz.out j (by have := HN.out; omega))])
      have hb := hP.bw
      clear hP hz
      go_wp2_with fail
      go_ret
      exact ⟨by rw [E2.out]; rfl, hb⟩
end Go.Proofs.YtgmejaiifibfoaaDoor
