/-
  Are a block's timeouts right: by the code.
-/
import Derived.Test.YtomaaidhmccngaaGreatDoorB1
import Derived.Test.YtomaaidhmccngaaGreatDoorTxsB
set_option linter.unusedSimpArgs false
set_option linter.unusedVariables false
set_option maxRecDepth 10000
namespace Go.Proofs.YtomaaidhmccngaaGreatDoor
open Go.RowKit Go.Maps Go.Lib
open L3 (Blk Reads)
open L11 (Crt zeroC crtL crtC mayV okW crtInfo crtC_ones endV)

/-- What is held while timeouts are gone through. -/
structure ProAt (w : World) (b : Blo) (A : Option Addr) (P T : Value) (W : World) : Prop where
  bb : Blk W w.heap.size 57 (bloC b P T)
  rd : Rd tmL 10 W A b.proof
  bw : Below w.heap.size w W
theorem ProAt.below {w W W' : World} {b : Blo} {A : Option Addr} {P T : Value} (h : ProAt w b A P T W) (hb : Below W.heap.size W W') : ProAt w b A P T W' := ⟨h.bb.below hb h.bb.lt, h.rd.below hb, nxt h.bw hb⟩
theorem dneT {x y : Int} {b : Bool} (h : decide (x = y) = b) : (x != y) = !b := by rw [← h]; rfl
theorem prev_next (l : List Tmo) (k : Nat) : prevS l (k + 1) = (l[k]!).signer := rfl
theorem tmo_box_at {W : World} {g : Nat} {ty : TypeId} {t : Tmo} (h : Blk W g ty (tmC t)) : W.cell? ⟨g, 0, none⟩ = some (.int .i64 t.signer) ∧ W.cell? ⟨g, 1, none⟩ = some (.int .i64 t.view) := ⟨h.cell 0, h.cell 1⟩
set_option maxHeartbeats 4000000 in
set_option maxRecDepth 100000 in
theorem proven_any (b : Blo) (A : Option Addr) (c : Nat) (T : Value) (w : World) (hw : b.wf) (hr : Rd tmL 10 w A b.proof) : Calls Tryz.prog 172 #[.agg (bloC b (.slice A b.proof.length c) T)] w (gives (.bool (provenV b)) w) := by
  have hA0 : ProAt w b A (.slice A b.proof.length c) T (w.alloc (.cells (bloC b (.slice A b.proof.length c) T) 57)) := ⟨blo_new _ _ _ _ _, hr.below (below_new _ _), below_new _ _⟩
  have hWF := Lib.hid hw.proof
  have hnp := hw.np
  clear hw
  by_cases h1 : b.height = 1
  case neg =>
    have e : provenV b = b.proof.isEmpty := by unfold provenV; rw [if_neg h1]
    have h1' : (b.height != 1) = true := by simpa using h1
    have h1'' : (b.height == 1) = false := by simpa using h1
    rw [e]
    obtain ⟨n, hn⟩ : ∃ n, n = b.proof.length := ⟨_, rfl⟩
    have e2 : b.proof.isEmpty = ((n : Int) == 0) := by
      rw [hn]
      cases b.proof with
      | nil => rfl
      | cons t l => rw [List.isEmpty_cons]; symm; rw [beq_eq_false_iff_ne]; simp; omega
    rw [e2]
    rw [← hn] at hA0 ⊢
    obtain ⟨c0, c1⟩ : (w.alloc (.cells (bloC b (.slice A n c) T) 57)).cell? ⟨w.heap.size, 2, none⟩ = some (.int .i64 b.height) ∧ (w.alloc (.cells (bloC b (.slice A n c) T) 57)).cell? ⟨w.heap.size, 12, none⟩ = some (.slice A n c) := ⟨hA0.bb.cell 2, hA0.bb.cell 12⟩
    have hb := hA0.bw
    clear hA0 hn e e2 hr h1 hnp
    go_enter Tryz.func172, Tryz.ntmps172
    go_wp2
    go_ret
    exact ⟨rfl, hb⟩
  have h1' : (b.height != 1) = false := by simpa using h1
  have h1'' : (b.height == 1) = true := by simpa using h1
  have e : provenV b = (decide (1 ≤ b.proof.length ∧ b.proof.length ≤ 10) && risesV b.view b.proof) := by unfold provenV; rw [if_pos h1]
  obtain ⟨n, hn⟩ : ∃ n, n = b.proof.length := ⟨_, rfl⟩
  rw [← hn] at hA0 ⊢ hnp
  by_cases h2 : 1 ≤ n ∧ n ≤ 10
  case neg =>
    have E : Hid (provenV b = false) := Lib.hid (by rw [e, ← hn, decide_eq_false h2]; rfl)
    have ho : okW (n : Int) 1 10 = false := L11.okW_not (by omega)
    obtain ⟨c0, c1⟩ : (w.alloc (.cells (bloC b (.slice A n c) T) 57)).cell? ⟨w.heap.size, 2, none⟩ = some (.int .i64 b.height) ∧ (w.alloc (.cells (bloC b (.slice A n c) T) 57)).cell? ⟨w.heap.size, 12, none⟩ = some (.slice A n c) := ⟨hA0.bb.cell 2, hA0.bb.cell 12⟩
    have hb := hA0.bw
    clear hA0 hn e hr h1 hnp h2
    go_enter Tryz.func172, Tryz.ntmps172
    go_wp2_with (go_at_call 157; refine (within_is _ _ _ _ _ ho).mono ?_; rintro e w1 ⟨rfl, rfl⟩)
    go_ret
    exact ⟨by rw [E.out]; rfl, hb⟩
  have E : Hid (provenV b = risesV b.view b.proof) := Lib.hid (by rw [e, ← hn, decide_eq_true h2]; rfl)
  have ho : okW (n : Int) 1 10 = true := L11.okW_mk (by omega) (by omega)
  obtain ⟨W0, hW0⟩ : ∃ W0, W0 = w.alloc (.cells (bloC b (.slice A n c) T) 57) := ⟨_, rfl⟩
  have HW0 : (w.alloc (.cells (bloC b (.slice A n c) T) 57)) = W0 := hW0.symm
  rw [HW0] at hA0
  obtain ⟨c0, c1⟩ : W0.cell? ⟨w.heap.size, 2, none⟩ = some (.int .i64 b.height) ∧ W0.cell? ⟨w.heap.size, 12, none⟩ = some (.slice A n c) := ⟨hA0.bb.cell 2, hA0.bb.cell 12⟩
  have HN := Lib.hid hn
  clear hn e hr h1 hW0 h2
  go_enter Tryz.func172, Tryz.ntmps172
  go_upto_region 1 with fail
  clear HW0
  go_wp2_with (go_at_call 157; refine (within_is _ _ _ _ _ ho).mono ?_; rintro e w1 ⟨rfl, rfl⟩)
  go_loopw [3, 21] (fun l i wr => ∃ k : Nat, i = .int .i64 k ∧ l = .int .i64 (prevS b.proof k) ∧ k ≤ n ∧ Hid (∀ j, j < k → riseAt b.view b.proof j = true) ∧ ProAt w b A (.slice A n c) T wr) (fun _ i _ => n - (RowKit.intOf i).toNat)
  case atStart => exact ⟨0, rfl, rfl, Nat.zero_le _, Lib.hid (fun j hj => by omega), hA0⟩
  case round =>
    obtain ⟨k, rfl, rfl, hk, hz, hP⟩ := hrel
    clear c0 c1 hA0
    by_cases hlt : k < n
    · have hkL : k < b.proof.length := by have := HN.out; omega
      obtain ⟨ad, rfl, hadl, hcs⟩ := hP.rd k hkL
      have hx := hWF.out _ (List.getElem_mem hkL)
      have hbang := bang_at hkL
      obtain ⟨x, hxe⟩ : ∃ x, x = b.proof[k] := ⟨_, rfl⟩
      rw [← hxe] at hcs hx hbang
      have hra : riseAt b.view b.proof k = (tmoV x && decide (x.view = b.view) && decide (prevS b.proof k < x.signer)) := by unfold riseAt; rw [hbang]
      obtain ⟨pv, hpv⟩ : ∃ pv, pv = prevS b.proof k := ⟨_, rfl⟩
      rw [← hpv] at hra ⊢
      have hcs1 : ∀ j u, (tmL x)[j]? = some u → wr.cell? ((ad.add (k * 10)).add j) = some u := hcs
      have hnx : prevS b.proof (k + 1) = x.signer := by rw [prev_next, hbang]
      have hPb := hP.below (below_new wr (.cells (tmC x) 31))
      have hyb : Blk (wr.alloc (.cells (tmC x) 31)) wr.heap.size 31 (tmC x) := tmo_new _ _ _
      have HH := Lib.hid (And.intro hbang hnx)
      have HK := Lib.hid hkL
      clear hxe hcs hbang hpv hkL hnx
      have hti := fun W b0 hb0 => timeout_is x b0 W hx hb0
      have HT := Lib.hid hti
      clear hti
      rcases three (tmoV x) (decide (x.view = b.view)) (decide (pv < x.signer)) with a1 | ⟨a1, a2⟩ | ⟨a1, a2, a3⟩ | ⟨a1, a2, a3⟩
      · have E2 : Hid (provenV b = false) := Lib.hid (by rw [E.out, rises_no HK.out (by rw [hra, a1]; rfl)])
        have HT2 := Lib.hid (fun W => HT.out W _ a1)
        clear hra a1 HT
        go_wp2_with (first
          | (refine wpList_cells_at rfl _ _ rfl (ad.add (k * 10)) rfl (tmL x) _ hcs1 Tryz.underlying31 rfl tmInfo ?_)
          | (refine wpList_store_new rfl _ _ _ rfl _ (tmC x) rfl rfl _ _ tmInfo rfl (tmC_ones _) ?_)
          | (refine wpList_row_at rfl _ _ rfl wr.heap.size rfl _ _ _ _ hyb Tryz.underlying31 rfl tmInfo ?_)
          | (go_at_call 65; refine (HT2.out _).mono ?_; unfold gives errI; rintro e w2 ⟨rfl, hb2⟩))
        go_ret
        exact ⟨by rw [E2.out]; rfl, nxt hPb.bw hb2⟩
      · have E2 : Hid (provenV b = false) := Lib.hid (by rw [E.out, rises_no HK.out (by rw [hra, a1, a2]; rfl)])
        have HT2 := Lib.hid (fun W => HT.out W _ a1)
        have q2 := dneT a2
        clear hra a1 a2 HT
        go_wp2_with (first
          | (refine wpList_cells_at rfl _ _ rfl (ad.add (k * 10)) rfl (tmL x) _ hcs1 Tryz.underlying31 rfl tmInfo ?_)
          | (refine wpList_store_new rfl _ _ _ rfl _ (tmC x) rfl rfl _ _ tmInfo rfl (tmC_ones _) ?_)
          | (refine wpList_row_at rfl _ _ rfl wr.heap.size rfl _ _ _ _ hyb Tryz.underlying31 rfl tmInfo ?_)
          | (go_at_call 65; refine (HT2.out _).mono ?_; unfold gives errI; rintro e w2 ⟨rfl, hb2⟩; obtain ⟨d0, d1⟩ := tmo_box_at (hyb.below hb2 hyb.lt); have d2 : w2.cell? ⟨w.heap.size, 0, none⟩ = some (.int .i64 b.view) := (hPb.below hb2).bb.cell 0))
        go_ret
        exact ⟨by rw [E2.out]; rfl, nxt hPb.bw hb2⟩
      · have E2 : Hid (provenV b = false) := Lib.hid (by rw [E.out, rises_no HK.out (by rw [hra, a1, a2, a3]; rfl)])
        have HT2 := Lib.hid (fun W => HT.out W _ a1)
        have q2 := dneT a2
        have q3 : x.signer ≤ pv := by have := of_decide_eq_false a3; omega
        clear hra a1 a2 a3 HT
        go_wp2_with (first
          | (refine wpList_cells_at rfl _ _ rfl (ad.add (k * 10)) rfl (tmL x) _ hcs1 Tryz.underlying31 rfl tmInfo ?_)
          | (refine wpList_store_new rfl _ _ _ rfl _ (tmC x) rfl rfl _ _ tmInfo rfl (tmC_ones _) ?_)
          | (refine wpList_row_at rfl _ _ rfl wr.heap.size rfl _ _ _ _ hyb Tryz.underlying31 rfl tmInfo ?_)
          | (go_at_call 65; refine (HT2.out _).mono ?_; unfold gives errI; rintro e w2 ⟨rfl, hb2⟩; obtain ⟨d0, d1⟩ := tmo_box_at (hyb.below hb2 hyb.lt); have d2 : w2.cell? ⟨w.heap.size, 0, none⟩ = some (.int .i64 b.view) := (hPb.below hb2).bb.cell 0))
        go_ret
        exact ⟨by rw [E2.out]; rfl, nxt hPb.bw hb2⟩
      · have E2 : Hid (riseAt b.view b.proof k = true) := Lib.hid (by rw [hra, a1, a2, a3]; rfl)
        have HT2 := Lib.hid (fun W => HT.out W _ a1)
        have q2 := dneT a2
        have q3 : ¬ x.signer ≤ pv := by have := of_decide_eq_true a3; omega
        clear hra a1 a2 a3 HT
        go_wp2_with (first
          | (refine wpList_cells_at rfl _ _ rfl (ad.add (k * 10)) rfl (tmL x) _ hcs1 Tryz.underlying31 rfl tmInfo ?_)
          | (refine wpList_store_new rfl _ _ _ rfl _ (tmC x) rfl rfl _ _ tmInfo rfl (tmC_ones _) ?_)
          | (refine wpList_row_at rfl _ _ rfl wr.heap.size rfl _ _ _ _ hyb Tryz.underlying31 rfl tmInfo ?_)
          | (go_at_call 65; refine (HT2.out _).mono ?_; unfold gives errI; rintro e w2 ⟨rfl, hb2⟩; obtain ⟨d0, d1⟩ := tmo_box_at (hyb.below hb2 hyb.lt); have d2 : w2.cell? ⟨w.heap.size, 0, none⟩ = some (.int .i64 b.view) := (hPb.below hb2).bb.cell 0))
        go_roundw
        case rel =>
          refine ⟨k + 1, by go_num, by rw [HH.out.2], by omega, Lib.hid (fun j hj => ?_), hPb.below hb2⟩
          rcases Nat.lt_or_ge j k with hjk | hjk
          · exact hz.out j hjk
          · obtain rfl : j = k := by omega
            exact E2.out
        case measure => simp [RowKit.intOf]; omega
    · have hkn : k = n := by omega
      have E2 : Hid (provenV b = true) := Lib.hid (by rw [E.out, rises_all (fun j hj => hz.out j (by have := HN.out; omega))])
      have hb := hP.bw
      clear hP hz
      go_wp2_with fail
      go_ret
      exact ⟨by rw [E2.out]; rfl, hb⟩
theorem proven_is (b : Blo) (A : Option Addr) (c : Nat) (T : Value) (r : Bool) (w : World) (hw : b.wf) (hr : Rd tmL 10 w A b.proof) (hb : provenV b = r) : Calls Tryz.prog 172 #[.agg (bloC b (.slice A b.proof.length c) T)] w (gives (.bool r) w) := by
  have := proven_any b A c T w hw hr; rw [hb] at this; exact this
end Go.Proofs.YtomaaidhmccngaaGreatDoor
