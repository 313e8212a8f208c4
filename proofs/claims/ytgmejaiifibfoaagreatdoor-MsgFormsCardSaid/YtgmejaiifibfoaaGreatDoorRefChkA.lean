/-
  Which blocks may be, by the document's answer.
-/
import Derived.Test.YtgmejaiifibfoaaGreatDoorWalkTm
import Derived.Test.YtgmejaiifibfoaaGreatDoorGreatB
import Derived.Test.YtgmejaiifibfoaaGreatDoorB2
import Derived.Test.YtgmejaiifibfoaaGreatDoorT2
import Derived.Test.YtgmejaiifibfoaaGreatDoorR1
set_option linter.unusedSimpArgs false
set_option linter.unusedVariables false
set_option maxRecDepth 10000
namespace Go.Proofs.YtgmejaiifibfoaaGreatDoor
open Go.RowKit Go.Maps Go.Lib
open L3 (Blk Reads)
open L11 (Crt zeroC crtL crtC mayV okW crtInfo crtC_ones wpQuiet_fn)

/-- The block's box and its parent's. -/
structure RcAt (w : World) (g : Nat) (b : Blo) (A : Option Addr) (c : Nat) (B : Option Addr) (d : Nat) (W : World) : Prop where
  bb : Blk W w.heap.size 30 (bloC b (.slice A b.proof.length c) (.slice B b.txs.length d))
  bp : Blk W g 24 (crtC b.par)
  rp : Rd tmL 10 W A b.proof
  bw : Below w.heap.size w W
section
variable {w W W' : World} {g : Nat} {b : Blo} {A : Option Addr} {c : Nat} {B : Option Addr} {d : Nat}
theorem RcAt.below (h : RcAt w g b A c B d W) (hb : Below W.heap.size W W') : RcAt w g b A c B d W' := ⟨h.bb.below hb h.bb.lt, h.bp.below hb h.bp.lt, h.rp.below hb, nxt h.bw hb⟩
theorem RcAt.drew (h : RcAt w g b A c B d W) : RcAt w g b A c B d W.drew := h.below (Below.refl _ W).drew
theorem RcAt.cells (h : RcAt w g b A c B d W) : (W.cell? ⟨w.heap.size, 0, none⟩ = some (.int .i64 b.view) ∧ W.cell? ⟨w.heap.size, 1, none⟩ = some (.int .i64 b.round) ∧ W.cell? ⟨w.heap.size, 2, none⟩ = some (.int .i64 b.height) ∧ W.cell? ⟨w.heap.size, 3, none⟩ = some (.int .i64 b.author) ∧ W.cell? ⟨w.heap.size, 12, none⟩ = some (.slice A b.proof.length c)) ∧
    W.cell? ⟨g, 0, none⟩ = some (.int .i64 b.par.kind) ∧ W.cell? ⟨g, 2, none⟩ = some (.int .i64 b.par.view) ∧ W.cell? ⟨g, 3, none⟩ = some (.int .i64 b.par.round) ∧ W.cell? ⟨g, 4, none⟩ = some (.int .i64 b.par.height) ∧ W.cell? ⟨g, 5, none⟩ = some (.int .i64 b.par.author) ∧ W.cell? ⟨g, 7, none⟩ = some (.int .u32 b.par.co) :=
  ⟨⟨h.bb.cell 0, h.bb.cell 1, h.bb.cell 2, h.bb.cell 3, h.bb.cell 12⟩, h.bp.cell 0, h.bp.cell 2, h.bp.cell 3, h.bp.cell 4, h.bp.cell 5, h.bp.cell 7⟩
theorem rc_mk (h : BoxB w w.heap.size b A c B d W) : RcAt w W.heap.size b A c B d (W.alloc (.cells (crtC b.par) 24)) :=
  ⟨h.bb.below (below_new _ _) h.bb.lt, L11.box_new _ _ _, h.rp.below (below_new _ _), nxt h.bw (below_new _ _)⟩
end
theorem head_no {b : Blo} (h : ¬(1 ≤ b.view ∧ b.view ≤ 1048576) ∨ ¬(0 ≤ b.author ∧ b.author ≤ 9) ∨ ¬(0 ≤ b.height ∧ b.height ≤ 3) ∨ 8 < b.txs.length ∨ b.txs.all right = false) : checkV b = 120 := by
  refine checkV_head ?_
  unfold headV rightL L11.okW
  rcases h with h | h | h | h | h
  · rw [decide_eq_false h]; simp
  · rw [decide_eq_false h]; simp
  · rw [decide_eq_false h]; simp
  · rw [decide_eq_false (show ¬ b.txs.length ≤ 8 by omega)]; simp
  · rw [h]; simp
theorem head_yes {b : Blo} (h1 : 1 ≤ b.view ∧ b.view ≤ 1048576) (h2 : 0 ≤ b.author ∧ b.author ≤ 9) (h3 : 0 ≤ b.height ∧ b.height ≤ 3) (h4 : b.txs.length ≤ 8) (h5 : b.txs.all right = true) : headV b = true := by
  unfold headV rightL L11.okW
  rw [decide_eq_true h1, decide_eq_true h2, decide_eq_true h3, decide_eq_true h4, h5]; rfl
theorem par_no {b : Blo} (hd : headV b = true) (h : followsV b = false ∨ ¬ b.round = b.par.round + 1 ∨ ¬ b.round ≤ 1073741824) : checkV b = 122 := by
  refine checkV_par hd ?_
  unfold parentV
  rcases h with h | h | h
  · rw [h]; rfl
  · rw [decide_eq_false h]; simp
  · rw [decide_eq_false h]; simp
theorem par_yes {b : Blo} (h1 : followsV b = true) (h2 : b.round = b.par.round + 1) (h3 : b.round ≤ 1073741824) : parentV b = true := by
  unfold parentV; rw [h1, decide_eq_true h2, decide_eq_true h3]; rfl
theorem fol_no {b : Blo} (h : mayV b.par = false) : followsV b = false := by
  rcases Bool.eq_false_or_eq_true (followsV b) with h1 | h1
  · rw [follows_may h1] at h; exact absurd h (by simp)
  · exact h1
theorem not_one {b : Blo} {n : Nat} (h : ¬ b.height = 1) (hn : n = b.proof.length) : (0 < n → provenV b = false) ∧ (¬ 0 < n → provenV b = true) := by
  unfold provenV
  rw [if_neg h, hn]
  cases b.proof with
  | nil => exact ⟨fun h => absurd h (by simp), fun _ => rfl⟩
  | cons t l => exact ⟨fun _ => rfl, fun h => absurd (Nat.succ_pos _) h⟩
theorem kind_two {c : Crt} (h : mayV c = true) (hk : c.kind = 2) : 1 ≤ c.height ∧ c.height ≤ 3 := (L11.may_two h (by omega) (by omega)).2.2.1
set_option maxHeartbeats 4000000 in
set_option maxRecDepth 100000 in
theorem refchk_any (b : Blo) (A : Option Addr) (c : Nat) (B : Option Addr) (d : Nat) (w : World) (hw : b.wf) (hp : Rd tmL 10 w A b.proof) (ht : Rd txL 7 w B b.txs) :
    Calls Tryz.prog 22 #[.agg (bloC b (.slice A b.proof.length c) (.slice B b.txs.length d))] w (gives (.int .i64 (checkV b)) w) := by
  have F0 := Lib.hid (boxB_mk (c := c) (d := d) hp ht)
  have HW := Lib.hid hw
  have hnt := hw.nt
  have hnp := hw.np
  clear hw hp ht
  go_enter Tryz.func22, Tryz.ntmps22
  go_upto_region 1 with fail
  refine name_world (fun w0 hw0 => ?_)
  have hA : BoxB w w.heap.size b A c B d w0 := by rw [hw0]; exact F0.out
  clear hw0 F0
  obtain ⟨n, hn⟩ : ∃ n, n = b.proof.length := ⟨_, rfl⟩
  obtain ⟨m, hm⟩ : ∃ m, m = b.txs.length := ⟨_, rfl⟩
  have c0 : w0.cell? ⟨w.heap.size, 0, none⟩ = some (.int .i64 b.view) := hA.bb.cell 0
  have c2 : w0.cell? ⟨w.heap.size, 2, none⟩ = some (.int .i64 b.height) := hA.bb.cell 2
  have c3 : w0.cell? ⟨w.heap.size, 3, none⟩ = some (.int .i64 b.author) := hA.bb.cell 3
  have c13 : w0.cell? ⟨w.heap.size, 13, none⟩ = some (.slice B m d) := by rw [hm]; exact hA.bb.cell 13
  have HN := Lib.hid hn
  have HM := Lib.hid hm
  rw [← hn] at hnp
  rw [← hm] at hnt
  clear hn hm
  by_cases v1 : b.view < 1
  · have E : Hid (checkV b = 120) := Lib.hid (head_no (.inl (by omega)))
    have hb := hA.bw
    clear hA HN HM
    go_wp2
    go_ret
    exact ⟨by rw [E.out]; rfl, hb⟩
  by_cases v2 : 1048576 < b.view
  · have E : Hid (checkV b = 120) := Lib.hid (head_no (.inl (by omega)))
    have hb := hA.bw
    clear hA HN HM
    go_wp2
    go_ret
    exact ⟨by rw [E.out]; rfl, hb⟩
  by_cases v3 : b.author < 0
  · have E : Hid (checkV b = 120) := Lib.hid (head_no (.inr (.inl (by omega))))
    have hb := hA.bw
    clear hA HN HM
    go_wp2
    go_ret
    exact ⟨by rw [E.out]; rfl, hb⟩
  by_cases v4 : 9 < b.author
  · have E : Hid (checkV b = 120) := Lib.hid (head_no (.inr (.inl (by omega))))
    have hb := hA.bw
    clear hA HN HM
    go_wp2
    go_ret
    exact ⟨by rw [E.out]; rfl, hb⟩
  by_cases v5 : b.height < 0
  · have E : Hid (checkV b = 120) := Lib.hid (head_no (.inr (.inr (.inl (by omega)))))
    have hb := hA.bw
    clear hA HN HM
    go_wp2
    go_ret
    exact ⟨by rw [E.out]; rfl, hb⟩
  by_cases v6 : 3 < b.height
  · have E : Hid (checkV b = 120) := Lib.hid (head_no (.inr (.inr (.inl (by omega)))))
    have hb := hA.bw
    clear hA HN HM
    go_wp2
    go_ret
    exact ⟨by rw [E.out]; rfl, hb⟩
  by_cases v7 : 8 < m
  · have E : Hid (checkV b = 120) := Lib.hid (head_no (.inr (.inr (.inr (.inl (by have := HM.out; omega))))))
    have hb := hA.bw
    clear hA HN HM
    go_wp2
    go_ret
    exact ⟨by rw [E.out]; rfl, hb⟩
  go_wp2
  go_loopw [3] (fun i wr => ∃ k : Nat, i = .int .i64 k ∧ k ≤ m ∧ Hid (∀ j (hj : j < b.txs.length), j < k → right b.txs[j] = true) ∧ BoxB w w.heap.size b A c B d wr) (fun i _ => m - (RowKit.intOf i).toNat)
  case atStart => exact ⟨0, rfl, Nat.zero_le _, Lib.hid (fun j _ hj => absurd hj (by omega)), hA⟩
  case round =>
    obtain ⟨k, rfl, hk, hno, hP⟩ := hrel
    clear c0 c2 c3 c13 hA
    have c13 : wr.cell? ⟨w.heap.size, 13, none⟩ = some (.slice B m d) := by rw [HM.out]; exact hP.bb.cell 13
    by_cases hlt : k < m
    · have hkL : k < b.txs.length := by have := HM.out; omega
      obtain ⟨ad, rfl, hadl, hcs⟩ := hP.rt k hkL
      have hx := HW.out.txs _ (List.getElem_mem hkL)
      obtain ⟨x, hxe⟩ : ∃ x, x = b.txs[k] := ⟨_, rfl⟩
      rw [← hxe] at hcs hx
      have hcs1 : ∀ j u, (txL x)[j]? = some u → wr.cell? ((ad.add (k * 7)).add j) = some u := hcs
      have hgr := fun W => refcheck_any x W hx
      have HX : Hid (∃ h : k < b.txs.length, x = b.txs[k]'h) := Lib.hid ⟨hkL, hxe⟩
      clear hcs hxe hkL hx
      rcases (Bool.eq_false_or_eq_true (right x)).symm with hg | hg
      · have E : Hid (checkV b = 120) := Lib.hid (head_no (.inr (.inr (.inr (.inr (by
          rw [List.all_eq_false]
          obtain ⟨h, e⟩ := HX.out
          exact ⟨x, by rw [e]; exact List.getElem_mem _, by rw [hg]; simp⟩))))))
        rw [hg] at hgr
        clear hg
        go_wp2_with (first
          | (refine wpList_cells_at rfl _ _ rfl (ad.add (k * 7)) rfl (txL x) _ hcs1 Tryz.underlying32 rfl txInfo ?_)
          | (go_at_call 28; refine (hgr _).mono ?_; unfold gives; rintro e w2 ⟨rfl, hb2⟩)
          | go_in)
        go_ret
        exact ⟨by rw [E.out]; rfl, nxt hP.bw hb2⟩
      · have HG := Lib.hid hg
        rw [hg] at hgr
        clear hg
        go_wp2_with (first
          | (refine wpList_cells_at rfl _ _ rfl (ad.add (k * 7)) rfl (txL x) _ hcs1 Tryz.underlying32 rfl txInfo ?_)
          | (go_at_call 28; refine (hgr _).mono ?_; unfold gives; rintro e w2 ⟨rfl, hb2⟩)
          | go_in)
        go_roundw
        case rel =>
          refine ⟨k + 1, by go_num, by omega, Lib.hid (fun j hj hjk => ?_), hP.below hb2⟩
          rcases Nat.lt_or_ge j k with h | h
          · exact hno.out j hj h
          · obtain rfl : j = k := by omega
            obtain ⟨h, e⟩ := HX.out
            rw [← e]; exact HG.out
        case measure => simp [RowKit.intOf]; omega
    · have hd : Hid (headV b = true) := Lib.hid (head_yes (by omega) (by omega) (by omega) (by have := HM.out; omega) (by
        rw [List.all_eq_true]
        intro x hx
        obtain ⟨j, hj, rfl⟩ := List.getElem_of_mem hx
        exact hno.out j hj (by have := HM.out; omega)))
      have px : ∀ j u, (crtL b.par)[j]? = some u → wr.cell? ((⟨w.heap.size, 4, none⟩ : Addr).add j) = some u := sub_cells hP.bb (par_at b _ _)
      have F1 := Lib.hid (rc_mk hP)
      clear hno v1 v2 v3 v4 v7 hP hnt HM
      go_upto_region 9 with (first
        | (refine wpList_cells_at rfl _ _ rfl ⟨w.heap.size, 4, none⟩ rfl (crtL b.par) _ px Tryz.underlying24 rfl crtInfo ?_)
        | (refine wpList_store_new rfl _ _ _ rfl _ (crtC b.par) rfl rfl _ _ crtInfo rfl (crtC_ones _) ?_))
      obtain ⟨g, hg⟩ : ∃ g, g = wr.heap.size := ⟨_, rfl⟩
      rw [← hg] at F1
      rw [← hg]
      refine name_world (fun w1 hw1 => ?_)
      have hB : RcAt w g b A c B d w1 := by rw [hw1]; exact F1.out
      clear hw1 F1 px c13 hg hk hlt
      rcases (Bool.eq_false_or_eq_true (mayV b.par)).symm with a1 | a1
      · have E : Hid (checkV b = 122) := Lib.hid (par_no hd.out (.inl (fol_no a1)))
        have hm := fun W => c_refcert b.par _ W HW.out.par a1
        clear a1
        go_wp2_with (first | (refine wpList_row_at rfl _ _ rfl g rfl _ _ _ _ hB.bp Tryz.underlying24 rfl crtInfo ?_) | (go_at_call 23; refine (hm _).mono ?_; unfold gives; rintro e w2 ⟨rfl, hb2⟩; have hD := hB.below hb2; obtain ⟨⟨e0, e1, e2, e3, e12⟩, p0, p2, p3, p4, p5, p7⟩ := hD.cells))
        go_ret
        exact ⟨by rw [E.out]; rfl, hD.bw⟩
      have hm := fun W => c_refcert b.par _ W HW.out.par a1
      have hpr := may_round a1
      have hw64 : wrap64 (b.par.round + 1) = b.par.round + 1 := by unfold wrap64; omega
      clear hpr
      by_cases g2 : b.round = b.par.round + 1
      case neg =>
        have E : Hid (checkV b = 122) := Lib.hid (par_no hd.out (.inr (.inl g2)))
        have q2 : (b.round != b.par.round + 1) = true := by simpa using g2
        clear a1 g2
        go_wp2_with (first | (refine wpList_row_at rfl _ _ rfl g rfl _ _ _ _ hB.bp Tryz.underlying24 rfl crtInfo ?_) | (go_at_call 23; refine (hm _).mono ?_; unfold gives; rintro e w2 ⟨rfl, hb2⟩; have hD := hB.below hb2; obtain ⟨⟨e0, e1, e2, e3, e12⟩, p0, p2, p3, p4, p5, p7⟩ := hD.cells))
        go_ret
        exact ⟨by rw [E.out]; rfl, hD.bw⟩
      have q2 : (b.round != b.par.round + 1) = false := by simpa using g2
      by_cases g3 : b.round ≤ 1073741824
      case neg =>
        have E : Hid (checkV b = 122) := Lib.hid (par_no hd.out (.inr (.inr g3)))
        have q3 : 1073741824 < b.round := by omega
        clear a1 g2 g3
        go_wp2_with (first | (refine wpList_row_at rfl _ _ rfl g rfl _ _ _ _ hB.bp Tryz.underlying24 rfl crtInfo ?_) | (go_at_call 23; refine (hm _).mono ?_; unfold gives; rintro e w2 ⟨rfl, hb2⟩; have hD := hB.below hb2; obtain ⟨⟨e0, e1, e2, e3, e12⟩, p0, p2, p3, p4, p5, p7⟩ := hD.cells))
        go_ret
        exact ⟨by rw [E.out]; rfl, hD.bw⟩
      have q3 : ¬ 1073741824 < b.round := by omega
      have HP := Lib.hid (And.intro g2 g3)
      have HMay := Lib.hid a1
      clear a1 g2 g3
      go_upto_region 11 with (first | (refine wpList_row_at rfl _ _ rfl g rfl _ _ _ _ hB.bp Tryz.underlying24 rfl crtInfo ?_) | (go_at_call 23; refine (hm _).mono ?_; unfold gives; rintro e w2 ⟨rfl, hb2⟩; have hD := hB.below hb2; obtain ⟨⟨e0, e1, e2, e3, e12⟩, p0, p2, p3, p4, p5, p7⟩ := hD.cells))
      clear hm q2 q3 hw64 hb2 hB e0 e1 e2 e3 e12 p0 p2 p3 p4 p5 p7
      obtain ⟨⟨e0, e1, e2, e3, e12⟩, p0, p2, p3, p4, p5, p7⟩ := hD.cells
      by_cases g4 : b.height < 2
      · have hf : followsV b = openV b.par b.view := by unfold followsV; rw [if_pos (by omega)]
        rcases (Bool.eq_false_or_eq_true (openV b.par b.view)).symm with a2 | a2
        · have E : Hid (checkV b = 122) := Lib.hid (par_no hd.out (.inl (by rw [hf, a2])))
          have ho := fun W => refopen_is b.par b.view _ W HW.out.par a2
          clear a2 hf
          go_wp2_with (first
            | (refine wpList_row_at rfl _ _ rfl g rfl _ _ _ _ hD.bp Tryz.underlying24 rfl crtInfo ?_)
            | (go_at_call 58; refine (ho _).mono ?_; unfold gives; rintro e w3 ⟨rfl, hb3⟩))
          go_ret
          exact ⟨by rw [E.out]; rfl, nxt hD.bw hb3⟩
        have ho := fun W => refopen_is b.par b.view _ W HW.out.par a2
        have hpv : Hid (parentV b = true) := Lib.hid (par_yes (by rw [hf, a2]) HP.out.1 HP.out.2)
        clear a2 hf
        go_upto_region 13 with (first
          | (refine wpList_row_at rfl _ _ rfl g rfl _ _ _ _ hD.bp Tryz.underlying24 rfl crtInfo ?_)
          | (go_at_call 58; refine (ho _).mono ?_; unfold gives; rintro e w3 ⟨rfl, hb3⟩))
        have hE := hD.below hb3
        clear e0 e1 e2 e3 e12 p0 p2 p3 p4 p5 p7 hD ho hb3
        obtain ⟨⟨e0, e1, e2, e3, e12⟩, p0, p2, p3, p4, p5, p7⟩ := hE.cells
        go_upto_region 15 with fail
        clear e0 e1 e3 p0 p2 p3 p4 p5 p7
        by_cases g5 : b.height = 1
        case neg =>
          have q5 : (b.height != 1) = true := by simpa using g5
          have e12' : w3.cell? ⟨w.heap.size, 12, none⟩ = some (.slice A n c) := by rw [HN.out]; exact e12
          have hz := not_one g5 HN.out
          by_cases g6 : 0 < n
          · have E : Hid (checkV b = 121) := Lib.hid (checkV_pro hd.out hpv.out (hz.1 g6))
            clear hz e12
            go_wp2
            go_ret
            exact ⟨by rw [E.out]; rfl, hE.bw⟩
          · have E : Hid (checkV b = 0) := Lib.hid (checkV_ok hd.out hpv.out (hz.2 g6))
            clear hz e12
            go_wp2
            go_ret
            exact ⟨by rw [E.out]; rfl, hE.bw⟩
        have q5 : (b.height != 1) = false := by simpa using g5
        have e12' : w3.cell? ⟨w.heap.size, 12, none⟩ = some (.slice A n c) := by rw [HN.out]; exact e12
        have hpro : provenV b = (decide (1 ≤ n ∧ n ≤ 10) && risesV b.view b.proof) := by unfold provenV; rw [if_pos g5, HN.out]
        clear e12 g4 g5
        by_cases g6 : n < 1
        · have E : Hid (checkV b = 121) := Lib.hid (checkV_pro hd.out hpv.out (by rw [hpro, decide_eq_false (by omega)]; rfl))
          clear hpro
          go_wp2
          go_ret
          exact ⟨by rw [E.out]; rfl, hE.bw⟩
        by_cases g7 : 10 < n
        · have E : Hid (checkV b = 121) := Lib.hid (checkV_pro hd.out hpv.out (by rw [hpro, decide_eq_false (by omega)]; rfl))
          clear hpro
          go_wp2
          go_ret
          exact ⟨by rw [E.out]; rfl, hE.bw⟩
        rw [decide_eq_true (by omega)] at hpro
        have HPR := Lib.hid hpro
        clear hpro
        go_wp2
        go_loopw [5] (fun i wr => ∃ k : Nat, i = .int .i64 k ∧ k ≤ n ∧ Hid (∀ j, j < k → riseAt b.view b.proof j = true) ∧ RcAt w g b A c B d wr) (fun i _ => n - (RowKit.intOf i).toNat)
        case atStart => exact ⟨0, rfl, Nat.zero_le _, Lib.hid (fun j hj => absurd hj (by omega)), hE⟩
        case round =>
          obtain ⟨k, rfl, hk, hno, hP⟩ := hrel
          clear e12' hE e2
          have e12' : wr.cell? ⟨w.heap.size, 12, none⟩ = some (.slice A n c) := by rw [HN.out]; exact hP.bb.cell 12
          by_cases hlt : k < n
          · have hkL : k < b.proof.length := by have := HN.out; omega
            obtain ⟨ad, rfl, hadl, hcs⟩ := hP.rp k hkL
            have hx := HW.out.proof _ (List.getElem_mem hkL)
            have hbang := bang_at hkL
            have HA1 : Hid (∀ z : WorldIn (RcAt w g b (some ad) c B d), ∀ j u, (tmL b.proof[k])[j]? = some u → z.w.cell? ((ad.add (k * 10)).add j) = some u) := Lib.hid (fun z => z.h.rp.at_ hkL)
            obtain ⟨x, hxe⟩ : ∃ x, x = b.proof[k] := ⟨_, rfl⟩
            rw [← hxe] at HA1 hx hbang
            have hra : riseAt b.view b.proof k = (tmoV x && decide (x.view = b.view) && decide (prevS b.proof k < x.signer)) := by unfold riseAt; rw [hbang]
            have g12 : ∀ z : WorldIn (RcAt w g b (some ad) c B d), z.w.cell? ⟨w.heap.size, 12, none⟩ = some (.slice (some ad) n c) := fun z => by rw [HN.out]; exact z.h.bb.cell 12
            have g0 : ∀ z : WorldIn (RcAt w g b (some ad) c B d), z.w.cell? ⟨w.heap.size, 0, none⟩ = some (.int .i64 b.view) := fun z => z.h.bb.cell 0
            have k0 : ∀ z : WorldIn (RcAt w g b (some ad) c B d), z.w.cell? ((ad.add (k * 10)).add 0) = some (.int .i64 x.signer) := fun z => HA1.out z 0 _ rfl
            have k0' : ∀ z : WorldIn (RcAt w g b (some ad) c B d), z.w.cell? (ad.add (k * 10)) = some (.int .i64 x.signer) := fun z => by simpa [Addr.add] using k0 z
            have k1 : ∀ z : WorldIn (RcAt w g b (some ad) c B d), z.w.cell? ((ad.add (k * 10)).add 1) = some (.int .i64 x.view) := fun z => HA1.out z 1 _ rfl
            have k1a : ∀ z : WorldIn (RcAt w g b (some ad) c B d), z.w.cell? (ad.add (k * 10 + 1)) = some (.int .i64 x.view) := fun z => by have := k1 z; rw [Addr.add_add] at this; exact this
            have k1c : ∀ z : WorldIn (RcAt w g b (some ad) c B d), z.w.cell? { block := (ad.add (k * 10)).block, off := (ad.add (k * 10)).off + 1 } = some (.int .i64 x.view) := fun z => k1 z
            have HK := Lib.hid hkL
            have HBG : Hid (∀ j, j < k → ∀ z : WorldIn (RcAt w g b (some ad) c B d), z.w.cell? (ad.add (j * 10)) = some (.int .i64 (prevS b.proof (j + 1)))) := Lib.hid (fun j hj z => by
              have hjL : j < b.proof.length := by omega
              have := z.h.rp.at_ hjL 0 _ rfl
              rw [prev_next, bang_at hjL]
              simpa [Addr.add] using this)
            clear hcs hxe hkL hbang
            go_upto_region 24 with fail
            have ne : Nonempty (WorldIn (RcAt w g b (some ad) c B d)) := ⟨⟨_, hP.drew⟩⟩
            refine wp_region_S (RcAt w g b (some ad) c B d) (by kernel_rfl) (by kernel_rfl) hP.drew ?_
            clear hP e12'
            iterate 4 go_big_quiet_step (fail)
            refine wpQuiet_cells rfl _ _ rfl (ad.add (k * 10)) rfl (tmL x) _ HA1.out Tryz.underlying26 rfl tmInfo ?_
            conv => arg 6; simp only [Act.put, List.setIfInBounds_toArray, List.set_cons_zero, List.set_cons_succ]
            rcases (Bool.eq_false_or_eq_true (tmoV x)).symm with a1 | a1
            · have E : Hid (checkV b = 121) := Lib.hid (checkV_pro hd.out hpv.out (by rw [HPR.out, rises_no HK.out (by rw [hra, a1]; rfl)]; rfl))
              have hT : Hid (∀ W, Calls Tryz.prog 25 #[.agg (tmC x)] W (gives (.bool false) W)) := Lib.hid (fun W => by rw [← a1]; exact reftm_any x W hx)
              clear hra a1 hx HBG
              refine wpQuiet_fn rfl 25 _ _ rfl Tryz.call25 [.agg (tmC x)] rfl (v := .bool false) (fun z => (hT.out z.w).mono fun e w' ⟨he, hb⟩ => ⟨he, z.h.below hb⟩) ?_
              conv => arg 6; simp only [Act.put, List.setIfInBounds_toArray, List.set_cons_zero, List.set_cons_succ]
              repeat go_big_quiet_step (fail)
              refine wpQuiet_nil ?_
              intro z
              obtain ⟨W, hW⟩ := z
              dsimp only
              clear ne
              go_wp2
              go_ret
              exact ⟨by rw [E.out]; rfl, hW.bw⟩
            have hT : Hid (∀ W, Calls Tryz.prog 25 #[.agg (tmC x)] W (gives (.bool true) W)) := Lib.hid (fun W => by rw [← a1]; exact reftm_any x W hx)
            have hsg := (tmo_facts a1).1
            rw [a1] at hra
            clear a1 hx
            refine wpQuiet_fn rfl 25 _ _ rfl Tryz.call25 [.agg (tmC x)] rfl (v := .bool true) (fun z => (hT.out z.w).mono fun e w' ⟨he, hb⟩ => ⟨he, z.h.below hb⟩) ?_
            conv => arg 6; simp only [Act.put, List.setIfInBounds_toArray, List.set_cons_zero, List.set_cons_succ]
            by_cases h2 : x.view = b.view
            case neg =>
              have E : Hid (checkV b = 121) := Lib.hid (checkV_pro hd.out hpv.out (by rw [HPR.out, rises_no HK.out (by rw [hra, decide_eq_false h2]; rfl)]; rfl))
              have q2 : (x.view != b.view) = true := by simpa using h2
              clear hra h2 HBG
              repeat go_big_quiet_step (fail)
              refine wpQuiet_nil ?_
              intro z
              obtain ⟨W, hW⟩ := z
              dsimp only
              clear ne
              go_wp2
              go_ret
              exact ⟨by rw [E.out]; rfl, hW.bw⟩
            have q2 : (x.view != b.view) = false := by simpa using h2
            rw [decide_eq_true h2] at hra
            clear h2
            by_cases hk0 : 0 < k
            case neg =>
              have hrt : Hid (riseAt b.view b.proof k = true) := Lib.hid (by
                rw [hra]
                obtain rfl : k = 0 := by omega
                rw [show prevS b.proof 0 = -1 from rfl, decide_eq_true (by omega)]; rfl)
              clear hra HBG
              repeat go_big_quiet_step (fail)
              refine wpQuiet_nil ?_
              intro z
              obtain ⟨W, hW⟩ := z
              dsimp only
              clear ne
              go_wp2
              go_roundw
              case rel =>
                refine ⟨k + 1, by go_num, by omega, Lib.hid (fun j hj => ?_), hW⟩
                obtain rfl : j = k := by omega
                exact hrt.out
              case measure => simp [RowKit.intOf]; omega
            obtain ⟨j, rfl⟩ : ∃ j, k = j + 1 := ⟨k - 1, by omega⟩
            have kp := HBG.out j (by omega)
            obtain ⟨pv, hpv2⟩ : ∃ pv, pv = prevS b.proof (j + 1) := ⟨_, rfl⟩
            rw [← hpv2] at kp hra
            clear HBG hpv2
            by_cases h3 : pv < x.signer
            case neg =>
              have E : Hid (checkV b = 121) := Lib.hid (checkV_pro hd.out hpv.out (by rw [HPR.out, rises_no HK.out (by rw [hra, decide_eq_false h3]; rfl)]; rfl))
              have q3 : x.signer ≤ pv := by omega
              clear hra h3
              repeat go_big_quiet_step (fail)
              refine wpQuiet_nil ?_
              intro z
              obtain ⟨W, hW⟩ := z
              dsimp only
              clear ne
              go_wp2
              go_ret
              exact ⟨by rw [E.out]; rfl, hW.bw⟩
            have hrt : Hid (riseAt b.view b.proof (j + 1) = true) := Lib.hid (by rw [hra, decide_eq_true h3]; rfl)
            have q3 : ¬ x.signer ≤ pv := by omega
            clear hra h3
            repeat go_big_quiet_step (fail)
            refine wpQuiet_nil ?_
            intro z
            obtain ⟨W, hW⟩ := z
            dsimp only
            clear ne
            go_wp2
            go_roundw
            case rel =>
              refine ⟨j + 2, by go_num, by omega, Lib.hid (fun i hi => ?_), hW⟩
              rcases Nat.lt_or_ge i (j + 1) with h | h
              · exact hno.out i h
              · obtain rfl : i = j + 1 := by omega
                exact hrt.out
            case measure => simp [RowKit.intOf]; omega
          · have E : Hid (checkV b = 0) := Lib.hid (checkV_ok hd.out hpv.out (by rw [HPR.out, rises_all (fun j hj => hno.out j (by have := HN.out; omega))]; rfl))
            have hb := hP.bw
            clear hP hno
            go_wp2_with fail
            go_ret
            exact ⟨by rw [E.out]; rfl, hb⟩
      · have hf : followsV b = (mayV b.par && decide (b.par.kind = 2) && decide (b.par.co = 0) && decide (b.par.view = b.view) && decide (b.par.author = b.author) && decide (b.par.height = b.height - 1)) := by unfold followsV; rw [if_neg (by omega)]
        rw [HMay.out] at hf
        by_cases s1 : b.par.kind = 2
        case neg =>
          have E : Hid (checkV b = 122) := Lib.hid (par_no hd.out (.inl (by rw [hf, decide_eq_false s1]; rfl)))
          have r1 : (b.par.kind != 2) = true := by simpa using s1
          clear hf s1
          go_wp2
          go_ret
          exact ⟨by rw [E.out]; rfl, hD.bw⟩
        have r1 : (b.par.kind != 2) = false := by simpa using s1
        have hph := kind_two HMay.out s1
        have hw65 : wrap64 (b.par.height + 1) = b.par.height + 1 := by unfold wrap64; omega
        rw [decide_eq_true s1] at hf
        clear s1 hph
        rcases Bool.eq_false_or_eq_true (!decide (b.par.co = 0)) with s2 | s2
        · obtain ⟨f1, f2⟩ := L11.nat_no0 s2
          have E : Hid (checkV b = 122) := Lib.hid (par_no hd.out (.inl (by rw [hf, show decide (b.par.co = 0) = false by simpa using s2]; rfl)))
          clear hf s2
          go_wp2
          go_ret
          exact ⟨by rw [E.out]; rfl, hD.bw⟩
        obtain ⟨f1, f2⟩ := L11.nat_is0 s2
        rw [show decide (b.par.co = 0) = true by simpa using s2] at hf
        clear s2
        by_cases s3 : b.par.view = b.view
        case neg =>
          have E : Hid (checkV b = 122) := Lib.hid (par_no hd.out (.inl (by rw [hf, decide_eq_false s3]; rfl)))
          have r3 : (b.par.view != b.view) = true := by simpa using s3
          clear hf s3
          go_wp2
          go_ret
          exact ⟨by rw [E.out]; rfl, hD.bw⟩
        have r3 : (b.par.view != b.view) = false := by simpa using s3
        rw [decide_eq_true s3] at hf
        clear s3
        by_cases s4 : b.par.author = b.author
        case neg =>
          have E : Hid (checkV b = 122) := Lib.hid (par_no hd.out (.inl (by rw [hf, decide_eq_false s4]; rfl)))
          have r4 : (b.par.author != b.author) = true := by simpa using s4
          clear hf s4
          go_wp2
          go_ret
          exact ⟨by rw [E.out]; rfl, hD.bw⟩
        have r4 : (b.par.author != b.author) = false := by simpa using s4
        rw [decide_eq_true s4] at hf
        clear s4
        by_cases s5 : b.par.height = b.height - 1
        case neg =>
          have E : Hid (checkV b = 122) := Lib.hid (par_no hd.out (.inl (by rw [hf, decide_eq_false s5]; rfl)))
          have r5 : (b.par.height + 1 != b.height) = true := by simp; omega
          clear hf s5
          go_wp2
          go_ret
          exact ⟨by rw [E.out]; rfl, hD.bw⟩
        have r5 : (b.par.height + 1 != b.height) = false := by simp; omega
        have hpv : Hid (parentV b = true) := Lib.hid (par_yes (by rw [hf, decide_eq_true s5]; rfl) HP.out.1 HP.out.2)
        have q5 : (b.height != 1) = true := by simp; omega
        have g5 : ¬ b.height = 1 := by omega
        clear hf s5
        go_upto_region 15 with fail
        clear r1 r3 r4 r5 f1 f2 hw65 e0 e1 e3 p0 p2 p3 p4 p5 p7
        have hE := hD
        clear hD
        have e12' : w2.cell? ⟨w.heap.size, 12, none⟩ = some (.slice A n c) := by rw [HN.out]; exact e12
        have hz := not_one g5 HN.out
        by_cases g6 : 0 < n
        · have E : Hid (checkV b = 121) := Lib.hid (checkV_pro hd.out hpv.out (hz.1 g6))
          clear hz e12
          go_wp2
          go_ret
          exact ⟨by rw [E.out]; rfl, hE.bw⟩
        · have E : Hid (checkV b = 0) := Lib.hid (checkV_ok hd.out hpv.out (hz.2 g6))
          clear hz e12
          go_wp2
          go_ret
          exact ⟨by rw [E.out]; rfl, hE.bw⟩
end Go.Proofs.YtgmejaiifibfoaaGreatDoor
