/-
  What any calls answer is the document's: the walk.
-/
import Derived.Test.YtohkjleppohinaaDoorPlayAt
import Derived.Deep.CutBlock
set_option linter.unusedSimpArgs false
set_option linter.unusedVariables false
set_option maxRecDepth 10000
namespace Go.Proofs.YtohkjleppohinaaDoor
open Go.RowKit Go.Lib
open L3 (Blk Reads block_of_add add_of_add)
open L6 (Turn moreB fresh From In)

theorem PlayAt.made {w w1 w2 : World} {g : Nat} {most : Int} (hb1 : Below w.heap.size w w1) (hp : Pl w2 (fresh w1 w2) g most []) (hb : Below w1.heap.size w1 w2) :
    PlayAt w g w2.heap.size most [] [] (fresh w1 w2) none 0 (w2.alloc (.cells (plC most none 0 0) 30)) := by
  have hB := BaAt.new hb1 hp hb
  have ha : Below w2.heap.size w2 (w2.alloc (.cells (plC most none 0 0) 30)) := (Below.refl _ _).alloc (Nat.le_refl _) _
  have h2 := hB.below ha
  exact ⟨h2.pl, h2.inn, h2.frm, h2.bw, Blk.new _ _ _, Rd.nil, fun ad e => (by cases e), fun hk => Nat.lt_irrefl _ hk.2, hB.bw.size⟩
/-- A call's first transaction. -/
def firstX (a : Pact) : Txx := if a.len = 0 then zeroX else a.D 0
/-- What reads of the document's pool meet. -/
def holdT (gm : Nat) (cs : Array Value) (X : World) : Prop := Blk X gm 30 cs
/-- .. and of the call. -/
def holdU (gm p : Nat) (cs : Array Value) (a : Pact) (X : World) : Prop := Blk X gm 30 cs ∧ Blk X p 32 (pactC a)
/-- .. and of its first transaction. -/
def holdV (gm p q : Nat) (cs : Array Value) (a : Pact) (x : Txx) (X : World) : Prop := Blk X gm 30 cs ∧ Blk X p 32 (pactC a) ∧ Blk X q 35 (txC x)
set_option maxHeartbeats 8000000 in
set_option maxRecDepth 100000 in
theorem plays_any (most : Int) (A0 : Option Addr) (n0 c0 : Nat) (D0 : Nat → Pact) (w : World) (h0 : Pacts w A0 n0 D0) (hn0 : n0 ≤ maxLen) (hT : Tabs w) :
    Calls Tryd.prog 3 #[.int .i64 most, .slice A0 n0 c0] w (gives (.bool true) w) := by
  unfold maxLen at hn0
  have HA := Lib.hid (alive_any w hT)
  have HT := Lib.hid (fun w' (hb : Below w.heap.size w w') => hT.kept hb)
  have HACT := Lib.hid h0
  clear hT h0
  by_cases hn : 60 < n0
  · go_enter Tryd.func3, Tryd.ntmps3
    go_wp2_with (first | (go_at_call 6; refine HA.out.mono ?_; unfold gives; rintro e w1 ⟨rfl, hb1⟩) | go_in)
    go_ret
    exact ⟨rfl, hb1⟩
  have hn' : decide ((60 : Int) < (n0 : Int)) = false := by simp; omega
  by_cases hmo : most < 1 ∨ 64 < most
  · have HN := Lib.hid (fun W => new_not most W hmo)
    rcases (show most < 1 ∨ (¬ most < 1 ∧ 64 < most) by omega) with g1 | ⟨g1, g2⟩
    all_goals
      clear hmo
      go_enter Tryd.func3, Tryd.ntmps3
      go_wp2_with (first | (go_at_call 6; refine HA.out.mono ?_; unfold gives; rintro e w1 ⟨rfl, hb1⟩) | (go_at_call 7; refine (HN.out _).mono ?_; unfold gives; rintro e w2 ⟨rfl, hb2⟩) | go_in)
      go_ret
      exact ⟨rfl, nxt hb1 hb2⟩
  have HN := Lib.hid (fun W => new_ok most W (by omega) (by omega))
  have g1 : ¬ most < 1 := by omega
  have g2 : ¬ 64 < most := by omega
  clear hmo
  go_enter Tryd.func3, Tryd.ntmps3
  go_upto_region 9 with (first
    | (go_at_call 6; refine HA.out.mono ?_; unfold gives; rintro e w1 ⟨rfl, hb1⟩)
    | (go_at_call 7; refine (HN.out _).mono ?_; rintro e w2 ⟨rfl, hp2, hb2⟩)
    | (refine wpList_build rfl _ _ rfl #[(0, .int .i64 most)] rfl (build_pl1 most _) ?_)
    | (refine wpList_store_new rfl _ _ _ rfl _ (plC most none 0 0) rfl rfl _ _ plInfo rfl (plC_ones _ _ _ _) ?_)
    | go_in)
  have hF := PlayAt.made hb1 hp2 hb2
  obtain ⟨g, hg⟩ : ∃ g, g = w1.heap.size := ⟨_, rfl⟩
  obtain ⟨gm, hgm⟩ : ∃ gm, gm = w2.heap.size := ⟨_, rfl⟩
  obtain ⟨wz, hwz⟩ : ∃ wz, wz = w2.alloc (.cells (plC most none 0 0) 30) := ⟨_, rfl⟩
  rw [← hwz, ← hgm, ← hg] at hF
  rw [← hwz, ← hgm, ← hg]
  clear hg hgm hwz hp2 hb1 hb2 HN HA
  go_wp2
  go_loopw [8] (fun i wr => ∃ (k : Nat) (S : Nat → Prop) (L : List Txx) (A : Option Addr) (c : Nat), i = .int .i64 k ∧ k ≤ n0 ∧ PlayAt w g gm most L L S A c wr) (fun i _ => n0 - (RowKit.intOf i).toNat)
  case atStart => exact ⟨0, _, [], none, 0, rfl, Nat.zero_le _, hF⟩
  case round =>
    obtain ⟨k, S, L, A, c, rfl, hk, hR⟩ := hrel
    clear hF
    by_cases hlt : k < n0
    · obtain ⟨ad, rfl, had, hcell, htx, hlen, hin⟩ := HACT.out k hlt
      obtain ⟨a, ha⟩ : ∃ a, a = D0 k := ⟨_, rfl⟩
      rw [← ha] at hcell htx hlen hin
      have hcw : ∀ j u, (pactL a)[j]? = some u → wr.cell? ((ad.add (k * 3)).add j) = some u := fun j u hj => (hR.bw.cell (by rw [block_of_add, block_of_add]; exact had)).trans (hcell j u hj)
      have HCW := Lib.hid hcw
      have HR := Lib.hid hR
      have HG := Lib.hid (fun W (hb : Below w.heap.size w W) => greatX_any a.A a.len a.cap a.D W (htx.below hb) hlen)
      clear hcw hcell ha hR
      go_upto_region 15 with (first
        | (refine wpList_cells_at rfl _ _ rfl (ad.add (k * 3)) rfl (pactL a) _ HCW.out Tryd.underlying32 rfl (by kernel_rfl) ?_)
        | (refine wpList_store_new rfl _ _ _ rfl wr (pactC a) rfl rfl _ _ actInfo rfl (pactC_ones _) ?_)
        | go_in)
      refine name_world (fun wa hwa => ?_)
      have hxa : Blk wa wr.heap.size 32 (pactC a) := by rw [hwa]; exact Blk.new _ _ _
      have hba : Below wr.heap.size wr wa := by rw [hwa]; exact (Below.refl _ _).alloc (Nat.le_refl _) _
      obtain ⟨p, hp⟩ : ∃ p, p = wr.heap.size := ⟨_, rfl⟩
      have hnp : ¬ S p := fun h => by have := HR.out.inn _ h; omega
      have hpg : p ≠ gm := fun h => by have := HR.out.mb.lt; omega
      have hpl : ∀ ad, A = some ad → ad.block ≠ p := fun ad e h => by have := (HR.out.off ad e).2.1; omega
      rw [← hp] at hxa ⊢
      have HRA := Lib.hid (HR.out.below hba)
      clear hwa hba hp HR HCW
      have a2 : wa.cell? ⟨p, 2, none⟩ = some (.slice a.A a.len a.cap) := hxa.cell 2
      have hG := HG.out wa HRA.out.bw
      rcases Bool.eq_false_or_eq_true (greatX a.len a.D) with hg | hg
      · rw [hg] at hG
        clear hg HG
        go_wp2_with (first
          | (go_at_call 8; refine hG.mono ?_; unfold gives; rintro e w3 ⟨rfl, hb3⟩)
          | go_in)
        go_ret
        exact ⟨rfl, nxt HRA.out.bw hb3⟩
      rw [hg] at hG
      obtain ⟨hWw, hWn⟩ := small_txs htx hg
      have hWr := htx.rd
      have hWl := txsL_len a.len a.D
      have hx0 : firstX a = if a.len = 0 then zeroX else a.D 0 := rfl
      have hxw : (firstX a).wf 1000 := by
        unfold firstX
        split
        · exact zeroX_wf 1000
        · rename_i h
          exact hWw _ (by unfold txsL; exact List.mem_map.2 ⟨0, List.mem_range.2 (by omega), rfl⟩)
      have HT0 := Lib.hid htx
      obtain ⟨Wl, hWe⟩ : ∃ Wl, Wl = txsL a.len a.D := ⟨_, rfl⟩
      rw [← hWe] at hWw hWn hWr hWl
      obtain ⟨x, hx⟩ : ∃ x, x = firstX a := ⟨_, rfl⟩
      rw [← hx] at hxw hx0
      have HX0 := Lib.hid hx0
      clear hg HG hWe htx hx hx0
      go_upto_region 17 with (first
        | (go_at_call 8; refine hG.mono ?_; unfold gives; rintro e w3 ⟨rfl, hb3⟩)
        | go_in)
      have HRB := Lib.hid (HRA.out.below hb3)
      have hxb := hxa.below hb3 hxa.lt
      clear hxa HRA hb3 a2 hG
      go_upto_region 18 with (first
        | (refine wpList_build rfl _ _ rfl #[] rfl (build_zero _) ?_)
        | (refine wpList_store_new rfl _ _ _ rfl w3 (txC zeroX) rfl rfl _ _ tx_info rfl (txC_ones _) ?_)
        | go_in)
      refine name_world (fun wb hwb => ?_)
      have hq0 : Blk wb w3.heap.size 35 (txC zeroX) := by rw [hwb]; exact Blk.new _ _ _
      have hbb : Below w3.heap.size w3 wb := by rw [hwb]; exact (Below.refl _ _).alloc (Nat.le_refl _) _
      obtain ⟨q, hq⟩ : ∃ q, q = w3.heap.size := ⟨_, rfl⟩
      have hnq : ¬ S q := fun h => by have := HRB.out.inn _ h; omega
      have hqg : q ≠ gm := fun h => by have := HRB.out.mb.lt; omega
      have hql : ∀ ad, A = some ad → ad.block ≠ q := fun ad e h => by have := (HRB.out.off ad e).2.1; omega
      have hqp : q ≠ p := fun h => by have := hxb.lt; omega
      have hwq : w.heap.size ≤ q := by have := HRB.out.bw.size; omega
      rw [← hq] at hq0 ⊢
      have hR1 : RnAt w g gm p q most L L S A c a zeroX wb := ⟨HRB.out.below hbb, hxb.below hbb hxb.lt, hq0, hnp, hnq, hpg, hqg⟩
      have HR1 := Lib.hid hR1
      have a2 : wb.cell? ⟨p, 2, none⟩ = some (.slice a.A a.len a.cap) := hR1.act.cell 2
      clear hwb hbb hq hxb HRB hR1 hpl
      go_upto_if 61 with fail
      go_cut [] from 44 to 150 (fun wx => RnAt w g gm p q most L L S A c a x wx)
      case first =>
        by_cases hz : 0 < a.len
        · obtain ⟨ad0, hA0, hl0, hc0, _⟩ := HT0.out 0 hz
          have hxe : a.D 0 = x := by rw [HX0.out, if_neg (by omega)]
          rw [hxe] at hc0
          have hc1 : ∀ j u, (txL x)[j]? = some u → wb.cell? ((ad0.add (0 * 7)).add j) = some u := fun j u hj => (HR1.out.py.bw.cell (p := (ad0.add (0 * 7)).add j) (by rw [block_of_add, block_of_add]; exact hl0)).trans (hc0 j u hj)
          have hc2 : ∀ j u, (txL x)[j]? = some u → wb.cell? (ad0.add j) = some u := fun j u hj => by have := hc1 j u hj; rwa [show ad0.add (0 * 7) = ad0 from by simp [Addr.add]] at this
          have hz' : ((0 : Int) < (a.len : Int)) := by omega
          rw [hA0] at a2
          clear hc0 hc1 hxe hl0
          go_wp2_with (first
            | (refine wpList_cells_at rfl _ _ rfl ad0 rfl (txL x) _ hc2 Tryd.underlying35 rfl txInfo ?_)
            | (refine wpList_store_row rfl _ _ _ rfl q (txC x) rfl rfl _ _ hq0 tx_info rfl (txC_ones _) ?_)
            | go_in)
          go_meet
          have ht := turn_row wb q (txC x)
          exact ⟨HR1.out.py.row hnq hqg hwq hql _, ht.blk HR1.out.act (fun e => hqp e.symm), blk_setRow hq0, hnp, hnq, hpg, hqg⟩
        · have hxe : x = zeroX := by rw [HX0.out, if_pos (by omega)]
          go_wp2_with fail
          go_meet
          rw [hxe]
          exact HR1.out
      case rest =>
        have HRC := Lib.hid hcut
        have HMB := Lib.hid hcut.py.mb
        have k0 : wc.cell? ⟨p, 0, none⟩ = some (.int .i64 a.kind) := hcut.act.cell 0
        have k1 : wc.cell? ⟨gm, 1, none⟩ = some (.slice A L.length c) := hcut.py.mb.cell 1
        obtain ⟨m1, hm1⟩ : ∃ m1, m1 = L.length := ⟨_, rfl⟩
        rw [← hm1] at k1
        have HM1 := Lib.hid hm1
        clear hcut HR1 hq0 hql hqp hnp hnq hpg hqg a2 hm1
        go_upto_block 2 with fail
        go_cut [12, 13] from 44 to 150 (fun s12 s13 wx => ∃ (S' : Nat → Prop) (L' : List Txx) (A' : Option Addr) (c' : Nat), RnAt w g gm p q most L' L' S' A' c' a x wx)
        case first =>
          rcases kinds a.kind with h0 | ⟨h0, h1⟩ | ⟨h0, h1, h2⟩ | ⟨h0, h1, h2, h3⟩ | ⟨h0, h1, h2, h3⟩
          · -- case 0
            have hRc := HRC.out
            have hmb := hRc.py.mb
            have hfs := hRc.fst
            have HRA := Lib.hid (refadd_any most A c L x wc hRc.py.pl.fine.wf hxw hRc.py.rd (by have := hRc.py.pl.fine.len; omega))
            unfold refaddPost at HRA
            obtain ⟨e0, he0⟩ : ∃ e0, e0 = addE most L x := ⟨_, rfl⟩
            obtain ⟨L2, hL2⟩ : ∃ L2, L2 = addL most L x := ⟨_, rfl⟩
            obtain ⟨m2, hm2⟩ : ∃ m2, m2 = L2.length := ⟨_, rfl⟩
            rw [← he0, ← hL2, ← hm2, ← HM1.out] at HRA
            rw [← HM1.out] at hmb
            have HE0 := Lib.hid he0
            have HL2 := Lib.hid hL2
            have HM2 := Lib.hid hm2
            clear he0 hL2 hm2 hRc
            go_upto_region 24 with (first
              | (refine wpList_row_at rfl _ _ rfl gm rfl _ _ _ _ hmb Tryd.underlying30 rfl plInfo ?_)
              | (refine wpList_row_at rfl _ _ rfl q rfl _ _ _ _ hfs Tryd.underlying35 rfl (by kernel_rfl) ?_)
              | (go_at_call 9; (with_reducible refine HRA.out.mono ?_); rintro e w2 ⟨A2, c2, rfl, hr2, hA2, hb2⟩)
              | (refine wpList_store_new rfl _ _ _ rfl _ (plC most A2 m2 c2) rfl rfl _ _ plInfo rfl (plC_ones _ _ _ _) ?_)
              | go_in)
            obtain ⟨w3, hw3⟩ : ∃ w3, w3 = w2.alloc (.cells (plC most A2 m2 c2) 30) := ⟨_, rfl⟩
            have hk3 : Blk w3 w2.heap.size 30 (plC most A2 m2 c2) := by rw [hw3]; exact Blk.new _ _ _
            have hb3 : Below w2.heap.size w2 w3 := by rw [hw3]; exact (Below.refl _ _).alloc (Nat.le_refl _) _
            rw [← hw3]
            have hb23 := nxt hb2 hb3
            have hg3 : Blk w3 gm 30 (plC most A m1 c) := hmb.below hb23 hmb.lt
            have hR4 := HRC.out.doc hb23 (c' := c2) (hr2.below hb3) (fun ad e => (hA2 ad e).imp id fun h => ⟨h.1, Nat.lt_of_lt_of_le h.2 hb3.size⟩)
            rw [← HM2.out] at hR4
            clear hw3 hr2 hA2 hb2 hb3 hb23 hmb hfs HRA
            go_upto_region 25 with (first
              | (refine wpList_row_at rfl _ _ rfl w2.heap.size rfl _ _ _ _ hk3 Tryd.underlying30 rfl plInfo ?_)
              | (refine wpList_store_row rfl _ _ _ rfl gm (plC most A2 m2 c2) rfl rfl _ _ hg3 plInfo rfl (plC_ones _ _ _ _) ?_)
              | go_in)
            refine name_world (fun w4 hw4 => ?_)
            rw [← hw4] at hR4
            have hfs4 := hR4.fst
            have HAD := Lib.hid (add_any hR4.py.pl x hxw (HT.out _ hR4.py.bw))
            rw [← HE0.out, ← HL2.out] at HAD
            have HR4 := Lib.hid hR4
            have hne : (e0 != e0) = false := by simp
            clear hw4 hk3 hg3 hR4
            go_wp2_with (first
              | (refine wpList_row_at rfl _ _ rfl q rfl _ _ _ _ hfs4 Tryd.underlying35 rfl (by kernel_rfl) ?_)
              | (go_at_call 10; (with_reducible refine HAD.out.mono ?_); rintro e w5 ⟨rfl, hp5, ht5⟩)
              | go_in)
            go_meet
            exact ⟨_, _, _, _, HR4.out.turn hp5 ht5⟩
          · -- case 1
            have hRc := HRC.out
            have hfin := hRc.py.pl.fine
            have HPB := Lib.hid (fun W (hb : Below wc.heap.size wc W) => batch_any (hRc.py.pl.below hb) a.n a.A a.cap Wl (hWr.below (nxt hRc.py.bw hb)) hWw (by omega))
            have HRB := Lib.hid (fun W (hb : Below wc.heap.size wc W) => refbatch_any most A c L a.n a.A a.cap Wl W hfin.wf hWw (hRc.py.rd.below hb) (hWr.below (nxt hRc.py.bw hb)) (by have := hfin.len; omega) (by omega))
            unfold backL at HPB HRB
            obtain ⟨b, hb⟩ : ∃ b, b = batchL a.n Wl L := ⟨_, rfl⟩
            obtain ⟨o, ho⟩ : ∃ o, o = b.length := ⟨_, rfl⟩
            have hbw : ∀ t ∈ b, t.wf 1000 := fun t ht => hfin.wf t (batch_sub (by rw [← hb]; exact ht)).1
            have hbl : b.length ≤ 64 := by have := batch_le a.n Wl L; have := hfin.len; rw [hb]; omega
            have HSA := Lib.hid (fun (W : World) (A5 A6 : Option Addr) (c5 c6 : Nat) (h5 : Rd txL 7 W A5 b) (h6 : Rd txL 7 W A6 b) => refsame_any A5 A6 c5 c6 b b W hbw hbw h5 h6 (by omega) (by omega))
            simp only [decide_true] at HSA
            rw [hWl, ← hb, ← ho] at HPB
            rw [hWl, ← HM1.out, ← hb, ← ho] at HRB
            simp only [← ho] at HSA
            have hmb := hRc.py.mb
            have hac := hRc.act
            rw [← HM1.out] at hmb
            clear hb ho hbw hbl hfin hRc
            go_upto_region 28 with fail
            have hS : holdU gm p (plC most A m1 c) a wc.drew := ⟨hmb, hac⟩
            refine wp_region_K (holdU gm p (plC most A m1 c) a) [0, 1, 2, 3, 4, 6, 7, 8, 9, 10] (by kernel_rfl) ?_
            refine wpK_quiet (f := 4) (by kernel_rfl) (fun _ x _ _ _ h => by cases x <;> exact h) hS [0, 1, 2, 3, 4, 6, 7, 8, 9, 10] _ _ (by kernel_rfl) (by kernel_rfl) (by kernel_rfl) ?_
            have ne : Nonempty (WorldIn (holdU gm p (plC most A m1 c) a)) := ⟨⟨_, hS⟩⟩
            have p1 : ∀ y : WorldIn (holdU gm p (plC most A m1 c) a), y.w.cell? ⟨p, 1, none⟩ = some (.int .i64 a.n) := fun y => y.h.2.cell 1
            have p2 : ∀ y : WorldIn (holdU gm p (plC most A m1 c) a), y.w.cell? ⟨p, 2, none⟩ = some (.slice a.A a.len a.cap) := fun y => y.h.2.cell 2
            conv => arg 5; simp [pick]
            iterate 5 go_big_quiet_step (fail)
            refine wpQuiet_row rfl _ _ rfl gm rfl _ _ _ _ (fun y => y.h.1) Tryd.underlying30 rfl plInfo ?_
            conv => arg 6; simp only [Act.put, List.setIfInBounds_toArray, List.set_cons_zero, List.set_cons_succ]
            iterate 4 go_big_quiet_step (fail)
            refine wpQuiet_nil ?_
            have hbd : Below wc.heap.size wc wc.drew := (Below.refl _ _).drew
            refine wpK_step 5 (by kernel_rfl) rfl ?_
            go_wp2_with (go_at_call 12; (with_reducible refine (HPB.out _ hbd).mono ?_); rintro e w3 ⟨A3, c3, rfl, hr3, _, hb3⟩)
            have hbc3 : Below wc.heap.size wc w3 := nxt hbd hb3
            have hS3 : holdU gm p (plC most A m1 c) a w3 := ⟨hmb.below hbc3 hmb.lt, hac.below hbc3 hac.lt⟩
            refine stepQ.mk ⟨fun _ => hS3, ?_⟩
            refine wpK_step 11 (by kernel_rfl) rfl ?_
            go_wp2_with (go_at_call 13; (with_reducible refine (HRB.out _ hbc3).mono ?_); rintro e w4 ⟨A4, c4, rfl, hr4, _, hb4⟩)
            have hbc4 : Below wc.heap.size wc w4 := nxt hbc3 hb4
            have hS4 : holdU gm p (plC most A m1 c) a w4 := ⟨hmb.below hbc4 hmb.lt, hac.below hbc4 hac.lt⟩
            refine stepQ.mk ⟨fun _ => hS4, ?_⟩
            refine wpK_step 12 (by kernel_rfl) rfl ?_
            go_wp2_with (go_at_call 11; (with_reducible refine (HSA.out _ _ _ _ _ (hr3.below hb4) hr4).mono ?_); unfold gives; rintro e w6 ⟨rfl, hb6⟩)
            have hS6 : holdU gm p (plC most A m1 c) a w6 := ⟨(hS4).1.below hb6 (hS4).1.lt, (hS4).2.below hb6 (hS4).2.lt⟩
            refine stepQ.mk ⟨fun _ => hS6, ?_⟩
            refine wpK_step 13 (by kernel_rfl) rfl ?_
            go_wp2
            refine stepQ.mk ⟨fun _ => hS6, ?_⟩
            refine wpK_seq [] _ _ _ (by kernel_rfl) ?_
            conv => arg 4; simp [pick]
            go_wp2
            go_meet
            exact ⟨_, _, _, _, HRC.out.below (nxt hbc4 hb6)⟩
          · -- case 2
            have hRc := HRC.out
            have hfin := hRc.py.pl.fine
            have hmb := hRc.py.mb
            have hac := hRc.act
            have hfs := hRc.fst
            have HRD := Lib.hid (refdrop_any most A c L a.A a.cap Wl wc hfin.wf hWw hRc.py.rd (hWr.below hRc.py.bw) (by have := hfin.len; omega) (by omega))
            unfold backP at HRD
            obtain ⟨L2, hL2⟩ : ∃ L2, L2 = dropL Wl L := ⟨_, rfl⟩
            obtain ⟨m2, hm2⟩ : ∃ m2, m2 = L2.length := ⟨_, rfl⟩
            have hl2 : m2 ≤ m1 := by rw [hm2, HM1.out, hL2]; exact List.length_filter_le _ _
            have hl1 : m1 ≤ 64 := by rw [HM1.out]; exact hfin.len
            rw [← HM1.out, ← hL2, ← hm2, hWl] at HRD
            rw [← HM1.out] at hmb
            have HL2 := Lib.hid hL2
            have HM2 := Lib.hid hm2
            have a1 : wc.cell? ⟨p, 1, none⟩ = some (.int .i64 a.n) := hac.cell 1
            have a2 : wc.cell? ⟨p, 2, none⟩ = some (.slice a.A a.len a.cap) := hac.cell 2
            have x1 : wc.cell? ⟨q, 1, none⟩ = some (.string (str x.frm)) := hfs.cell 1
            clear hL2 hm2 hfin hRc hfs hac
            go_upto_region 32 with (first
              | (refine wpList_row_at rfl _ _ rfl gm rfl _ _ _ _ hmb Tryd.underlying30 rfl plInfo ?_)
              | (go_at_call 14; (with_reducible refine HRD.out.mono ?_); rintro e w2 ⟨A2, c2, rfl, hr2, hA2, hb2⟩
                 have hg2 : Blk w2 gm 30 (plC most A m1 c) := hmb.below hb2 hmb.lt)
              | (refine wpList_store_row rfl _ _ _ rfl gm (plC most A2 m2 c2) rfl rfl _ _ hg2 plInfo rfl (plC_ones _ _ _ _) ?_)
              | go_in)
            have hR4 := HRC.out.doc hb2 (c' := c2) hr2 (fun ad e => .inr (hA2 ad e))
            rw [← HM2.out] at hR4
            refine name_world (fun w4 hw4 => ?_)
            rw [← hw4] at hR4
            clear hw4 hr2 hA2 hb2 hg2 hmb a1 a2 x1 HRD
            have HDR := Lib.hid (drop_any (hR4.py.below (Below.refl _ _).drew).pl (hR4.py.below (Below.refl _ _).drew).inn a.A a.cap Wl (hWr.below (nxt hR4.py.bw (Below.refl _ _).drew)) hWw (by omega) (fun h0 ad e hk => by have := rd_lt hWr h0 ad e; have := hR4.py.frm _ hk; omega))
            unfold lessP at HDR
            rw [← HM1.out, ← HL2.out, ← HM2.out, hWl] at HDR
            have HR4 := Lib.hid hR4
            have hmb := hR4.py.mb
            have hac := hR4.act
            have hfs := hR4.fst
            rw [← HM2.out] at hmb
            clear hR4
            have hS : holdU gm p (plC most A2 m2 c2) a w4.drew := ⟨hmb, hac⟩
            (try simp only [Act.put])
            refine wp_region_K (holdU gm p (plC most A2 m2 c2) a) [0, 1, 2, 4, 5, 6, 8] (by kernel_rfl) ?_
            refine wpK_quiet (f := 4) (by kernel_rfl) (fun _ x _ _ _ h => by cases x <;> exact h) hS [0, 1, 2, 4, 5, 6] _ _ (by kernel_rfl) (by kernel_rfl) (by kernel_rfl) ?_
            have ne : Nonempty (WorldIn (holdU gm p (plC most A2 m2 c2) a)) := ⟨⟨_, hS⟩⟩
            have p1 : ∀ y : WorldIn (holdU gm p (plC most A2 m2 c2) a), y.w.cell? ⟨gm, 1, none⟩ = some (.slice A2 m2 c2) := fun y => y.h.1.cell 1
            have p2 : ∀ y : WorldIn (holdU gm p (plC most A2 m2 c2) a), y.w.cell? ⟨p, 2, none⟩ = some (.slice a.A a.len a.cap) := fun y => y.h.2.cell 2
            conv => arg 5; simp [pick]
            iterate 6 go_big_quiet_step (fail)
            refine wpQuiet_nil ?_
            have hne : ((m1 : Int) - (m2 : Int) != (m1 : Int) - (m2 : Int)) = false := by simp
            have hsub : IntKind.i64.wrap ((m1 : Int) - (m2 : Int)) = (m1 : Int) - (m2 : Int) := IntWalk.i64_in _ (by omega)
            refine wpK_two 3 7 (by kernel_rfl) rfl rfl ?_ ?_
            · go_wp2_with (go_at_call 15; (with_reducible refine HDR.out.mono ?_); rintro e w5 ⟨rfl, hp5, ht5⟩)
              have hR5 := (HR4.out.below (Below.refl _ _).drew).turn hp5 ht5
              have hS5 : holdU gm p (plC most A2 m2 c2) a w5 := ⟨by have := hR5.py.mb; rwa [← HM2.out] at this, hR5.act⟩
              refine stepQ.mk ⟨fun _ => hS5, ?_⟩
              refine wpK_step 7 (by kernel_rfl) rfl ?_
              go_wp2
              refine stepQ.mk ⟨fun _ => hS5, ?_⟩
              refine wpK_step 8 (by kernel_rfl) rfl ?_
              go_wp2
              refine stepQ.mk ⟨fun _ => hS5, ?_⟩
              refine wpK_step 9 (by kernel_rfl) rfl ?_
              go_wp2
              refine stepQ.mk ⟨fun _ => hS5, ?_⟩
              refine wpK_seq [] _ _ _ (by kernel_rfl) ?_
              conv => arg 4; simp [pick]
              go_wp2
              go_meet
              exact ⟨_, _, _, _, hR5⟩
            · go_wp2
              refine stepQ.mk ⟨fun _ => hS, ?_⟩
              refine wpK_quiet (f := 2) (by kernel_rfl) (fun _ x _ _ _ h => by cases x <;> exact h) hS [8] _ _ (by kernel_rfl) (by kernel_rfl) (by kernel_rfl) ?_
              conv => arg 5; simp [pick]
              go_big_quiet_step (fail)
              refine wpQuiet_nil ?_
              refine wpK_step 3 (by kernel_rfl) rfl ?_
              go_wp2_with (go_at_call 15; (with_reducible refine HDR.out.mono ?_); rintro e w5 ⟨rfl, hp5, ht5⟩)
              have hR5 := (HR4.out.below (Below.refl _ _).drew).turn hp5 ht5
              have hS5 : holdU gm p (plC most A2 m2 c2) a w5 := ⟨by have := hR5.py.mb; rwa [← HM2.out] at this, hR5.act⟩
              refine stepQ.mk ⟨fun _ => hS5, ?_⟩
              refine wpK_step 9 (by kernel_rfl) rfl ?_
              go_wp2
              refine stepQ.mk ⟨fun _ => hS5, ?_⟩
              refine wpK_seq [] _ _ _ (by kernel_rfl) ?_
              conv => arg 4; simp [pick]
              go_wp2
              go_meet
              exact ⟨_, _, _, _, hR5⟩
          · -- case 3
            have hRc := HRC.out
            have hfin := hRc.py.pl.fine
            have hmb := hRc.py.mb
            have hac := hRc.act
            have hfs := hRc.fst
            have HRD := Lib.hid (refpast_any most A c L x.frm a.n wc hfin.wf hRc.py.rd (by have := hfin.len; omega))
            unfold backP at HRD
            obtain ⟨L2, hL2⟩ : ∃ L2, L2 = pastL x.frm a.n L := ⟨_, rfl⟩
            obtain ⟨m2, hm2⟩ : ∃ m2, m2 = L2.length := ⟨_, rfl⟩
            have hl2 : m2 ≤ m1 := by rw [hm2, HM1.out, hL2]; exact List.length_filter_le _ _
            have hl1 : m1 ≤ 64 := by rw [HM1.out]; exact hfin.len
            rw [← HM1.out, ← hL2, ← hm2] at HRD
            rw [← HM1.out] at hmb
            have HL2 := Lib.hid hL2
            have HM2 := Lib.hid hm2
            have a1 : wc.cell? ⟨p, 1, none⟩ = some (.int .i64 a.n) := hac.cell 1
            have a2 : wc.cell? ⟨p, 2, none⟩ = some (.slice a.A a.len a.cap) := hac.cell 2
            have x1 : wc.cell? ⟨q, 1, none⟩ = some (.string (str x.frm)) := hfs.cell 1
            clear hL2 hm2 hfin hRc hfs hac
            go_upto_region 36 with (first
              | (refine wpList_row_at rfl _ _ rfl gm rfl _ _ _ _ hmb Tryd.underlying30 rfl plInfo ?_)
              | (go_at_call 16; (with_reducible refine HRD.out.mono ?_); rintro e w2 ⟨A2, c2, rfl, hr2, hA2, hb2⟩
                 have hg2 : Blk w2 gm 30 (plC most A m1 c) := hmb.below hb2 hmb.lt)
              | (refine wpList_store_row rfl _ _ _ rfl gm (plC most A2 m2 c2) rfl rfl _ _ hg2 plInfo rfl (plC_ones _ _ _ _) ?_)
              | go_in)
            have hR4 := HRC.out.doc hb2 (c' := c2) hr2 (fun ad e => .inr (hA2 ad e))
            rw [← HM2.out] at hR4
            refine name_world (fun w4 hw4 => ?_)
            rw [← hw4] at hR4
            clear hw4 hr2 hA2 hb2 hg2 hmb a1 a2 x1 HRD
            have HDR := Lib.hid (past_any (hR4.py.below (Below.refl _ _).drew).pl (hR4.py.below (Below.refl _ _).drew).inn x.frm a.n)
            unfold lessP at HDR
            rw [← HM1.out, ← HL2.out, ← HM2.out] at HDR
            have HR4 := Lib.hid hR4
            have hmb := hR4.py.mb
            have hac := hR4.act
            have hfs := hR4.fst
            rw [← HM2.out] at hmb
            clear hR4
            have hS : holdV gm p q (plC most A2 m2 c2) a x w4.drew := ⟨hmb, hac, hfs⟩
            (try simp only [Act.put])
            refine wp_region_K (holdV gm p q (plC most A2 m2 c2) a x) [0, 1, 2, 3, 4, 6, 7, 8, 10] (by kernel_rfl) ?_
            refine wpK_quiet (f := 4) (by kernel_rfl) (fun _ x _ _ _ h => by cases x <;> exact h) hS [0, 1, 2, 3, 4, 6, 7, 8] _ _ (by kernel_rfl) (by kernel_rfl) (by kernel_rfl) ?_
            have ne : Nonempty (WorldIn (holdV gm p q (plC most A2 m2 c2) a x)) := ⟨⟨_, hS⟩⟩
            have p1 : ∀ y : WorldIn (holdV gm p q (plC most A2 m2 c2) a x), y.w.cell? ⟨gm, 1, none⟩ = some (.slice A2 m2 c2) := fun y => y.h.1.cell 1
            have p2 : ∀ y : WorldIn (holdV gm p q (plC most A2 m2 c2) a x), y.w.cell? ⟨p, 1, none⟩ = some (.int .i64 a.n) := fun y => y.h.2.1.cell 1
            have p3 : ∀ y : WorldIn (holdV gm p q (plC most A2 m2 c2) a x), y.w.cell? ⟨q, 1, none⟩ = some (.string (str x.frm)) := fun y => y.h.2.2.cell 1
            conv => arg 5; simp [pick]
            iterate 8 go_big_quiet_step (fail)
            refine wpQuiet_nil ?_
            have hne : ((m1 : Int) - (m2 : Int) != (m1 : Int) - (m2 : Int)) = false := by simp
            have hsub : IntKind.i64.wrap ((m1 : Int) - (m2 : Int)) = (m1 : Int) - (m2 : Int) := IntWalk.i64_in _ (by omega)
            refine wpK_two 5 9 (by kernel_rfl) rfl rfl ?_ ?_
            · go_wp2_with (go_at_call 17; (with_reducible refine HDR.out.mono ?_); rintro e w5 ⟨rfl, hp5, ht5⟩)
              have hR5 := (HR4.out.below (Below.refl _ _).drew).turn hp5 ht5
              have hS5 : holdV gm p q (plC most A2 m2 c2) a x w5 := ⟨by have := hR5.py.mb; rwa [← HM2.out] at this, hR5.act, hR5.fst⟩
              refine stepQ.mk ⟨fun _ => hS5, ?_⟩
              refine wpK_step 9 (by kernel_rfl) rfl ?_
              go_wp2
              refine stepQ.mk ⟨fun _ => hS5, ?_⟩
              refine wpK_step 10 (by kernel_rfl) rfl ?_
              go_wp2
              refine stepQ.mk ⟨fun _ => hS5, ?_⟩
              refine wpK_step 11 (by kernel_rfl) rfl ?_
              go_wp2
              refine stepQ.mk ⟨fun _ => hS5, ?_⟩
              refine wpK_seq [] _ _ _ (by kernel_rfl) ?_
              conv => arg 4; simp [pick]
              go_wp2
              go_meet
              exact ⟨_, _, _, _, hR5⟩
            · go_wp2
              refine stepQ.mk ⟨fun _ => hS, ?_⟩
              refine wpK_quiet (f := 2) (by kernel_rfl) (fun _ x _ _ _ h => by cases x <;> exact h) hS [10] _ _ (by kernel_rfl) (by kernel_rfl) (by kernel_rfl) ?_
              conv => arg 5; simp [pick]
              go_big_quiet_step (fail)
              refine wpQuiet_nil ?_
              refine wpK_step 5 (by kernel_rfl) rfl ?_
              go_wp2_with (go_at_call 17; (with_reducible refine HDR.out.mono ?_); rintro e w5 ⟨rfl, hp5, ht5⟩)
              have hR5 := (HR4.out.below (Below.refl _ _).drew).turn hp5 ht5
              have hS5 : holdV gm p q (plC most A2 m2 c2) a x w5 := ⟨by have := hR5.py.mb; rwa [← HM2.out] at this, hR5.act, hR5.fst⟩
              refine stepQ.mk ⟨fun _ => hS5, ?_⟩
              refine wpK_step 11 (by kernel_rfl) rfl ?_
              go_wp2
              refine stepQ.mk ⟨fun _ => hS5, ?_⟩
              refine wpK_seq [] _ _ _ (by kernel_rfl) ?_
              conv => arg 4; simp [pick]
              go_wp2
              go_meet
              exact ⟨_, _, _, _, hR5⟩
          · -- case 4
            go_wp2_with fail
            go_meet
            exact ⟨_, _, _, _, HRC.out⟩
        case rest =>
          obtain ⟨S2, L2, A2, c2, hR2⟩ := hcut
          have hfin := hR2.py.pl.fine
          have hpl := hR2.py.pl
          have HPA := Lib.hid (fun W (hb : Below wc.heap.size wc W) => all_any (hpl.below hb))
          have HPL := Lib.hid (fun W (hb : Below wc.heap.size wc W) => len_any (hpl.below hb))
          have HSA := Lib.hid (fun (W : World) (A5 : Option Addr) (c5 : Nat) (h5 : Rd txL 7 W A5 L2) (h6 : Rd txL 7 W A2 L2) => refsame_any A5 A2 c5 c2 L2 L2 W hfin.wf hfin.wf h5 h6 (by have := hfin.len; omega) (by have := hfin.len; omega))
          simp only [decide_true] at HSA
          unfold backL at HPA
          obtain ⟨m2, hm2⟩ : ∃ m2, m2 = L2.length := ⟨_, rfl⟩
          have hmb := hR2.py.mb
          rw [← hm2] at HPA HPL HSA hmb
          have hrd := hR2.py.rd
          have HR2 := Lib.hid hR2
          have hne : ((m2 : Int) != (m2 : Int)) = false := by simp
          clear hm2 hfin hpl hR2
          go_upto_region 38 with fail
          have hS : holdT gm (plC most A2 m2 c2) wc.drew := hmb
          refine wp_region_K (holdT gm (plC most A2 m2 c2)) [0, 2, 3, 5, 6, 7, 9, 10] (by kernel_rfl) ?_
          refine wpK_quiet (f := 11) (by kernel_rfl) (fun _ x _ _ _ h => by cases x <;> exact h) hS [0, 2, 3] _ _ (by kernel_rfl) (by kernel_rfl) (by kernel_rfl) ?_
          have ne : Nonempty (WorldIn (holdT gm (plC most A2 m2 c2))) := ⟨⟨_, hS⟩⟩
          have p1 : ∀ y : WorldIn (holdT gm (plC most A2 m2 c2)), y.w.cell? ⟨gm, 1, none⟩ = some (.slice A2 m2 c2) := fun y => Blk.cell y.h 1
          conv => arg 5; simp [pick]
          iterate 3 go_big_quiet_step (fail)
          refine wpQuiet_nil ?_
          have hbd : Below wc.heap.size wc wc.drew := (Below.refl _ _).drew
          refine wpK_step 1 (by kernel_rfl) rfl ?_
          go_wp2_with (go_at_call 18; (with_reducible refine (HPA.out _ hbd).mono ?_); rintro e w3 ⟨A3, c3, rfl, hr3, _, hb3⟩)
          have hbc3 : Below wc.heap.size wc w3 := nxt hbd hb3
          have hS3 : holdT gm (plC most A2 m2 c2) w3 := Blk.below hmb hbc3 hmb.lt
          refine stepQ.mk ⟨fun _ => hS3, ?_⟩
          refine wpK_step 4 (by kernel_rfl) rfl ?_
          go_wp2_with (go_at_call 11; (with_reducible refine (HSA.out _ _ _ hr3 (hrd.below hbc3)).mono ?_); unfold gives; rintro e w4 ⟨rfl, hb4⟩)
          have hbc4 : Below wc.heap.size wc w4 := nxt hbc3 hb4
          have hS4 : holdT gm (plC most A2 m2 c2) w4 := Blk.below hmb hbc4 hmb.lt
          refine stepQ.mk ⟨fun _ => hS4, ?_⟩
          refine wpK_quiet (f := 4) (by kernel_rfl) (fun _ x _ _ _ h => by cases x <;> exact h) hS4 [5, 6, 7, 9, 10] _ _ (by kernel_rfl) (by kernel_rfl) (by kernel_rfl) ?_
          conv => arg 5; simp [pick]
          iterate 5 go_big_quiet_step (fail)
          refine wpQuiet_nil ?_
          refine wpK_two 8 11 (by kernel_rfl) rfl rfl ?_ ?_
          · go_wp2_with (go_at_call 19; (with_reducible refine (HPL.out _ hbc4).mono ?_); unfold gives; rintro e w5 ⟨rfl, hb5⟩)
            have hbc5 : Below wc.heap.size wc w5 := nxt hbc4 hb5
            have hS5 : holdT gm (plC most A2 m2 c2) w5 := Blk.below hmb hbc5 hmb.lt
            refine stepQ.mk ⟨fun _ => hS5, ?_⟩
            refine wpK_step 11 (by kernel_rfl) rfl ?_
            go_wp2
            refine stepQ.mk ⟨fun _ => hS5, ?_⟩
            refine wpK_step 12 (by kernel_rfl) rfl ?_
            go_wp2
            refine stepQ.mk ⟨fun _ => hS5, ?_⟩
            refine wpK_step 13 (by kernel_rfl) rfl ?_
            go_wp2
            refine stepQ.mk ⟨fun _ => hS5, ?_⟩
            refine wpK_seq [] _ _ _ (by kernel_rfl) ?_
            conv => arg 4; simp [pick]
            go_wp2
            go_roundw
            case rel => exact ⟨k + 1, _, _, _, _, by go_num, by omega, HR2.out.py.below hbc5⟩
            case measure => simp [RowKit.intOf]; omega
          · go_wp2
            refine stepQ.mk ⟨fun _ => hS4, ?_⟩
            refine wpK_step 8 (by kernel_rfl) rfl ?_
            go_wp2_with (go_at_call 19; (with_reducible refine (HPL.out _ hbc4).mono ?_); unfold gives; rintro e w5 ⟨rfl, hb5⟩)
            have hbc5 : Below wc.heap.size wc w5 := nxt hbc4 hb5
            have hS5 : holdT gm (plC most A2 m2 c2) w5 := Blk.below hmb hbc5 hmb.lt
            refine stepQ.mk ⟨fun _ => hS5, ?_⟩
            refine wpK_step 12 (by kernel_rfl) rfl ?_
            go_wp2
            refine stepQ.mk ⟨fun _ => hS5, ?_⟩
            refine wpK_step 13 (by kernel_rfl) rfl ?_
            go_wp2
            refine stepQ.mk ⟨fun _ => hS5, ?_⟩
            refine wpK_seq [] _ _ _ (by kernel_rfl) ?_
            conv => arg 4; simp [pick]
            go_wp2
            go_roundw
            case rel => exact ⟨k + 1, _, _, _, _, by go_num, by omega, HR2.out.py.below hbc5⟩
            case measure => simp [RowKit.intOf]; omega
    · obtain rfl : k = n0 := by omega
      go_wp2
      go_ret
      exact ⟨rfl, hR.bw⟩
end Go.Proofs.YtohkjleppohinaaDoor
