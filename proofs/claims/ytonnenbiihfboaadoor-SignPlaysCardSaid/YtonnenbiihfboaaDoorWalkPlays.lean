/-
  The walk of the law on what any calls answer.
-/
import Derived.Test.YtonnenbiihfboaaDoorKeeps
import Derived.Test.YtonnenbiihfboaaDoorRefSignC
import Derived.Deep.Cut
set_option linter.unusedSimpArgs false
set_option linter.unusedVariables false
namespace Go.Proofs.YtonnenbiihfboaaDoor
open Go.RowKit Go.Maps Go.Lib

/-- Both registers hold the same shares, each in its own blocks, and nothing else has turned since w. -/
def Both (w : World) (g r : Nat) (f : Int) (bad : Nat) (k : Nat) (wr : World) : Prop :=
  ∃ (S T : Nat → Prop) (L : List Shr), Sg wr S g f bad L ∧ Rs wr T r f bad L ∧ Apart S T ∧ From w.heap.size S ∧ From w.heap.size T ∧ In wr S ∧ In wr T ∧ L.length ≤ k ∧ (∀ y ∈ L, y.wf) ∧ Below w.heap.size w wr
/-- Whatever keeps what is there keeps both. -/
theorem Both.keep {w wr wx : World} {g r k k' : Nat} {f : Int} {bad : Nat} (h : Both w g r f bad k wr) (hb : Below wr.heap.size wr wx) (hk : k ≤ k') : Both w g r f bad k' wx := by
  obtain ⟨S, T, L, h1, h2, h3, h4, h5, h6, h7, h8, h9, h10⟩ := h
  exact ⟨S, T, L, h1.below hb, h2.below hb, h3, h4, h5, h6.le hb.size, h7.le hb.size, Nat.le_trans h8 hk, h9, nxt h10 hb h10.size⟩
/-- One turns, then the other. -/
theorem Both.turn {w wb w4 w5 : World} {S T : Nat → Prop} {g r k : Nat} {f : Int} {bad : Nat} {L' : List Shr} (hap : Apart S T) (hfS : From w.heap.size S) (hfT : From w.heap.size T) (hiS : In wb S) (hiT : In wb T) (hbw : Below w.heap.size w wb)
    (hS4 : Sg w4 (moreB S wb w4) g f bad L') (ht4 : Turn S wb w4) (hR5 : Rs w5 (moreB T w4 w5) r f bad L') (ht5 : Turn T w4 w5) (hl : L'.length ≤ k) (hw : ∀ y ∈ L', y.wf) : Both w g r f bad k w5 := by
  have hb4 := nxtT hbw ht4 hfS
  have ha1 := hap.more (w := wb) (w' := w4) hiT
  exact ⟨moreB S wb w4, moreB T w4 w5, L', hS4.kept ht5 (fun j _ h => ha1 j h), hR5, (ha1.symm.more (hiS.more ht4.size)).symm, hfS.more hbw.size, hfT.more hb4.size, (hiS.more ht4.size).le ht5.size, (hiT.le ht4.size).more ht5.size, hl, hw, nxtT hb4 ht5 hfT⟩
theorem act_blk {W : World} {g : Nat} {t : TypeId} {a : Actx} (h : Blk W g t (actC a)) : ∀ j u, (actL a)[j]? = some u → W.cell? ((⟨g, 0, none⟩ : Addr).add j) = some u := by
  intro j u hj
  have hadd : (⟨g, 0, none⟩ : Addr).add j = ⟨g, j, none⟩ := by unfold Addr.add; split <;> simp_all
  rw [hadd, h.cell j]
  have : (actL a).toArray[j]? = some u := by simpa using hj
  exact this
theorem act_sees {W : World} {g : Nat} {t : TypeId} {a : Actx} (h : Blk W g t (actC a)) :
    W.cell? ⟨g, 0, none⟩ = some (.int .i64 a.kind) ∧ W.cell? ⟨g, 1, none⟩ = some (.int .i64 a.signer) ∧ W.cell? ⟨g, 2, none⟩ = some (.int .i64 a.least) ∧ W.cell? ⟨g, 3, none⟩ = some (.int .u32 a.set) ∧
      ∀ j u, (stmL a.s)[j]? = some u → W.cell? ((⟨g, 4, none⟩ : Addr).add j) = some u := act_parts (b := ⟨g, 0, none⟩) (act_blk h)
theorem kinds (k : Int) : (k == 0) = true ∨ ((k == 0) = false ∧ (k == 1) = true) ∨ ((k == 0) = false ∧ (k == 1) = false ∧ (k == 2) = true) ∨ ((k == 0) = false ∧ (k == 1) = false ∧ (k == 2) = false ∧ (k == 3) = true) ∨ ((k == 0) = false ∧ (k == 1) = false ∧ (k == 2) = false ∧ (k == 3) = false) := by
  cases (k == 0) <;> cases (k == 1) <;> cases (k == 2) <;> cases (k == 3) <;> simp
theorem enough_zero (f : Int) (bad : Nat) (L : List Shr) (s : Stm) (n : Nat) : enoughE f bad L s n 0 = allE f bad L s n := by
  unfold enoughE
  split
  · rename_i h
    rw [if_neg (by omega)]
    exact h.symm
  · rfl
/-- What the reads of a call's statement meet. -/
def holdP (p q : Nat) (a : Actx) (W : World) : Prop := Blk W p 35 (actC a) ∧ Blk W q 37 (shrC ⟨a.signer, a.s⟩)
/-- What the reads of a round meet, that holds one share against the other. -/
def holdY (r j n c : Nat) (x : Shr) (b1 b2 : Addr) (W : World) : Prop :=
  W.cell? ⟨r, 2, none⟩ = some (.slice (some b2) n c) ∧ (∀ i u, (shrL x)[i]? = some u → W.cell? ((b1.add (j * 11)).add i) = some u) ∧ (∀ i u, (shrL x)[i]? = some u → W.cell? ((b2.add (j * 11)).add i) = some u)
set_option maxHeartbeats 8000000 in
set_option maxRecDepth 100000 in
theorem plays_walk (f : Int) (bad : Nat) (A : Option Addr) (n c : Nat) (D : Nat → Actx) (w : World) (hf : inI f) (hbad : bad < 4294967296) (h0 : Acts w A n D) (hT : Tab w) :
    Calls Tryd.prog 3 #[.int .i64 f, .int .u32 bad, .slice A n c] w (alivePost w) := by
  have hal := alive_any _ hT
  have HT := Lib.hid hT
  have HA := Lib.hid hal
  have HACT := Lib.hid h0
  clear hal hT h0
  by_cases hn : 100 < n
  · go_enter Tryd.func3, Tryd.ntmps3
    go_wp2_with (first
      | (go_at_call 6; refine HA.out.mono ?_; unfold alivePost; rintro e w1 ⟨rfl, hb1⟩))
    go_ret
    exact ⟨rfl, hb1⟩
  · have hn' : decide ((100 : Int) < (n : Int)) = false := by simp; omega
    by_cases he : newE f bad = 0
    · have hnew := fun w => new_ok f bad w hbad he
      have hrnew := fun w => refnew_ok f bad w hf hbad he
      have HN := Lib.hid hnew
      have HR := Lib.hid hrnew
      clear hnew hrnew he
      go_enter Tryd.func3, Tryd.ntmps3
      go_wp2_with (first
        | (go_at_call 6; refine HA.out.mono ?_; unfold alivePost; rintro e w1 ⟨rfl, hb1⟩)
        | (go_at_call 7; refine (HN.out _).mono ?_; rintro e w2 ⟨g, rfl, hS2, hb2⟩)
        | (go_at_call 8; refine (HR.out _).mono ?_; rintro e w3 ⟨r, rfl, hR3, hb3⟩))
      have hb02 := nxt hb1 hb2 hb1.size
      have hB3 : Both w g r f bad 0 w3 := ⟨fresh w1 w2, fresh w2 w3, [], hS2.below hb3, hR3, fun j h h' => Nat.lt_irrefl _ (Nat.lt_of_lt_of_le h.2 h'.1), fun j h => Nat.le_trans hb1.size h.1, fun j h => Nat.le_trans hb02.size h.1, fun j h => Nat.lt_of_lt_of_le h.2 hb3.size, fun j h => h.2, Nat.le_refl _, fun y hy => (by cases hy), nxt hb02 hb3 hb02.size⟩
      have hw0 : n ≤ 100 := by omega
      clear hS2 hb2 hR3 hb3 hb02 hb1 hn
      go_loopw [11] (fun i wr => ∃ k : Nat, i = .int .i64 k ∧ k ≤ n ∧ Both w g r f bad k wr) (fun i _ => n - (intOf i).toNat)
      case atStart => exact ⟨0, rfl, Nat.zero_le _, hB3⟩
      case round =>
        obtain ⟨k, rfl, hk, S, T, L, hS, hR, hap, hfS, hfT, hiS, hiT, hml, hLs, hbw⟩ := hrel
        clear hB3
        by_cases hlt : k < n
        · obtain ⟨ad, rfl, had, hcell, hfit⟩ := HACT.out k hlt
          obtain ⟨⟨kd, sg, le, st, s⟩, ha⟩ : ∃ a, a = D k := ⟨_, rfl⟩
          rw [← ha] at hcell hfit
          obtain ⟨hkd, hsg, hle, hst, hsw⟩ := hfit
          dsimp only at hkd hsg hle hst hsw
          have hcw : ∀ j u, (actL ⟨kd, sg, le, st, s⟩)[j]? = some u → wr.cell? ((ad.add (k * 14)).add j) = some u := fun j u hj => (hbw.cell (by rw [block_of_add, block_of_add]; exact had)).trans (hcell j u hj)
          have HCW := Lib.hid hcw
          have HLS := Lib.hid hLs
          have hxw : Shr.wf ⟨sg, s⟩ := ⟨hsg, hsw⟩
          have HXW := Lib.hid hxw
          have HSW := Lib.hid hsw
          have HAP := Lib.hid hap
          have HFS := Lib.hid hfS
          have HFT := Lib.hid hfT
          have HIS := Lib.hid hiS
          have HIT := Lib.hid hiT
          clear hcw hLs hxw hsw hap hfS hfT hiS hiT hcell ha
          go_upto_region 13 with (first
            | (refine wpList_cells_at rfl _ _ rfl (ad.add (k * 14)) rfl (actL ⟨kd, sg, le, st, s⟩) _ HCW.out Tryd.underlying35 rfl (by kernel_rfl) ?_)
            | (refine wpList_store_new rfl _ _ _ rfl wr (actC ⟨kd, sg, le, st, s⟩) rfl rfl _ _ (by kernel_rfl) rfl (by kernel_rfl) ?_))
          refine name_world (fun wa hwa => ?_)
          have hxa : Blk wa wr.heap.size 35 (actC ⟨kd, sg, le, st, s⟩) := by rw [hwa]; exact Blk.new _ _ _
          have hba : Below wr.heap.size wr wa := by rw [hwa]; exact (Below.refl _ _).alloc (Nat.le_refl _) _
          have hlta : wr.heap.size < wa.heap.size := by rw [hwa]; simp
          clear hwa
          have a1 := (act_sees hxa).2.1
          have HA4 := Lib.hid (act_sees hxa).2.2.2.2
          dsimp only at a1
          go_upto_region 14 with (first
            | (refine wpList_cells_at rfl _ _ rfl ⟨wr.heap.size, 4, none⟩ rfl (stmL s) _ HA4.out Tryd.underlying33 rfl (by kernel_rfl) ?_)
            | (refine wpList_build rfl _ _ rfl #[(0, .int .i64 sg), (1, .agg (stmC s))] rfl (build_shr _ s _) ?_)
            | (refine wpList_store_new rfl _ _ _ rfl wa (shrC ⟨sg, s⟩) rfl rfl _ _ (by kernel_rfl) rfl (by kernel_rfl) ?_))
          refine name_world (fun wb hwb => ?_)
          have hxp : Blk wb wr.heap.size 35 (actC ⟨kd, sg, le, st, s⟩) := by rw [hwb]; exact hxa.alloc _
          have hxq : Blk wb wa.heap.size 37 (shrC ⟨sg, s⟩) := by rw [hwb]; exact Blk.new _ _ _
          have hbb : Below wr.heap.size wr wb := by rw [hwb]; exact hba.alloc hba.size _
          clear hwb a1 HA4 hxa hba
          obtain ⟨p, hp⟩ : ∃ p, p = wr.heap.size := ⟨_, rfl⟩
          obtain ⟨q, hq⟩ : ∃ q, q = wa.heap.size := ⟨_, rfl⟩
          rw [← hp] at hxp
          rw [← hq] at hxq
          have hpp : wr.heap.size ≤ p := by omega
          have hqq : wr.heap.size ≤ q := by omega
          rw [← hp, ← hq]
          have hSp : ¬ S p := fun h => by have := HIS.out _ h; omega
          have hSq : ¬ S q := fun h => by have := HIS.out _ h; omega
          have hTp : ¬ T p := fun h => by have := HIT.out _ h; omega
          have hTq : ¬ T q := fun h => by have := HIT.out _ h; omega
          have HNOT := Lib.hid (And.intro hSp (And.intro hSq (And.intro hTp hTq)))
          clear hp hq hSp hSq hTp hTq hpp hqq hlta
          have hSb := hS.below hbb
          have hRb := hR.below hbb
          have hIS := HIS.out.le hbb.size
          have hIT := HIT.out.le hbb.size
          have hbwb := nxt hbw hbb hbw.size
          have HISb := Lib.hid hIS
          have HITb := Lib.hid hIT
          have hBb : Both w g r f bad k wb := ⟨S, T, L, hSb, hRb, HAP.out, HFS.out, HFT.out, hIS, hIT, hml, HLS.out, hbwb⟩
          have a0 := (act_sees hxp).1
          dsimp only at a0
          have hLl : L.length ≤ 1000000000 := by omega
          clear hIS hIT hS hR
          have ne : Nonempty (WorldIn (holdP p q ⟨kd, sg, le, st, s⟩)) := ⟨⟨wb, hxp, hxq⟩⟩
          have px := fun y : WorldIn (holdP p q ⟨kd, sg, le, st, s⟩) => y.h.2
          have pl := fun y : WorldIn (holdP p q ⟨kd, sg, le, st, s⟩) => (act_sees y.h.1).2.2.1
          have pu := fun y : WorldIn (holdP p q ⟨kd, sg, le, st, s⟩) => (act_sees y.h.1).2.2.2.1
          have ps := fun y : WorldIn (holdP p q ⟨kd, sg, le, st, s⟩) => (act_sees y.h.1).2.2.2.2
          dsimp only at pl pu ps px
          rcases kinds kd with e0 | ⟨e0, e1⟩ | ⟨e0, e1, e2⟩ | ⟨e0, e1, e2, e3⟩ | ⟨e0, e1, e2, e3⟩
          · have hlen := issL_len f L ⟨sg, s⟩
            have hwf : ∀ y ∈ issL f L ⟨sg, s⟩, y.wf := fun y hy => (issL_mem hy).elim (fun h => HLS.out y h) (fun h => by rw [h]; exact HXW.out)
            have hI : ∀ W, Sg W S g f bad L → Calls Tryd.prog 9 #[.pointer (some ⟨g, 0, none⟩), .agg (shrC ⟨sg, s⟩)] W fun e w' => e = .returned (.int .i64 (repE f sg)) ∧ Sg w' (moreB S W w') g f bad (issL f L ⟨sg, s⟩) ∧ Turn S W w' := fun W h => issue_any S g f bad L ⟨sg, s⟩ W h HXW.out hLl
            have hJ : ∀ W, Rs W T r f bad L → Calls Tryd.prog 10 #[.pointer (some ⟨r, 0, none⟩), .agg (shrC ⟨sg, s⟩)] W fun e w' => e = .returned (.int .i64 (repE f sg)) ∧ Rs w' (moreB T W w') r f bad (issL f L ⟨sg, s⟩) ∧ Turn T W w' := fun W h => refissue_any T r f bad L ⟨sg, s⟩ W h hf HXW.out HLS.out hLl
            obtain ⟨L4, hL4⟩ : ∃ L4, L4 = issL f L ⟨sg, s⟩ := ⟨_, rfl⟩
            obtain ⟨v, hv⟩ : ∃ v, v = repE f sg := ⟨_, rfl⟩
            rw [← hL4] at hlen hwf
            simp only [← hL4, ← hv] at hI hJ
            have HI := Lib.hid hI
            have HJ := Lib.hid hJ
            have HWF := Lib.hid hwf
            clear hI hJ hL4 hv hwf
            go_wp2_with fail
            refine wp_region_K (holdP p q ⟨kd, sg, le, st, s⟩) [0, 1, 3, 4] (by kernel_rfl) ?_
            refine wpK_quiet (f := 4) (by kernel_rfl) (fun _ x _ _ _ h => by cases x <;> exact h) (⟨hxp, hxq⟩ : holdP p q ⟨kd, sg, le, st, s⟩ wb.drew) [0, 1, 3, 4] _ _ (by kernel_rfl) (by kernel_rfl) (by kernel_rfl) ?_
            conv => arg 5; simp [pick]
            go_big_quiet_step (fail)
            refine wpQuiet_row rfl _ _ rfl _ rfl _ _ _ _ px Tryd.underlying37 rfl (by kernel_rfl) ?_
            conv => arg 6; simp only [Act.put, List.setIfInBounds_toArray, List.set_cons_zero, List.set_cons_succ]
            go_big_quiet_step (fail)
            refine wpQuiet_row rfl _ _ rfl _ rfl _ _ _ _ px Tryd.underlying37 rfl (by kernel_rfl) ?_
            conv => arg 6; simp only [Act.put, List.setIfInBounds_toArray, List.set_cons_zero, List.set_cons_succ]
            refine wpQuiet_nil ?_
            refine wpK_step 2 (by kernel_rfl) rfl ?_
            go_wp2_with (go_at_call 9; refine (HI.out _ (hSb.below (below_drew (Below.refl _ _)))).mono ?_; rintro e w4 ⟨rfl, hS4, ht4'⟩)
            have ht4 : Turn S wb w4 := undrewT ht4'
            refine stepQ.mk ⟨fun _ => ⟨ht4.blk hxp HNOT.out.1, ht4.blk hxq HNOT.out.2.1⟩, ?_⟩
            refine wpK_step 5 (by kernel_rfl) rfl ?_
            go_wp2_with (go_at_call 10; refine (HJ.out _ (hRb.kept ht4 (fun j _ h => HAP.out.symm j h))).mono ?_; rintro e w5 ⟨rfl, hR5, ht5⟩)
            have h5x : holdP p q ⟨kd, sg, le, st, s⟩ w5 := ⟨ht5.blk (ht4.blk hxp HNOT.out.1) HNOT.out.2.2.1, ht5.blk (ht4.blk hxq HNOT.out.2.1) HNOT.out.2.2.2⟩
            refine stepQ.mk ⟨fun _ => h5x, ?_⟩
            have H5 := Lib.hid h5x
            clear h5x
            have hB5 : Both w g r f bad (k + 1) w5 := Both.turn HAP.out HFS.out HFT.out HISb.out HITb.out hbwb hS4 ht4 hR5 ht5 (by omega) HWF.out
            clear hS4 ht4' ht4 hR5 ht5 HI HJ HWF hlen
            clear ne px pl pu ps hxp hxq HNOT a0 HISb HITb hBb hSb hRb hbwb hbb hml
            have HB5 := Lib.hid hB5
            obtain ⟨S5, T5, L5, hS5, hR5, _, _, _, _, _, hml5, hLs5, hbw5⟩ := hB5
            have hl5 : L5.length ≤ 1000000000 := by omega
            have HLS5 := Lib.hid hLs5
            obtain ⟨v5, hbl5, hr5, _, _⟩ := hR5
            obtain ⟨A5, c5, rfl, hc5, hrd5⟩ := row_reads hr5
            have HSH := Lib.hid (shares_any S5 g f bad L5 w5 hS5 hl5)
            have HS5 := Lib.hid hS5
            have HBL5 := Lib.hid hbl5
            have HRD5 := Lib.hid hrd5
            clear hS5 hbl5 hrd5 hr5 hLs5 hc5
            refine wpK_step 6 (by kernel_rfl) rfl ?_
            go_wp2
            refine stepQ.mk ⟨fun _ => H5.out, ?_⟩
            refine wpK_seq [7] _ _ _ (by kernel_rfl) ?_
            conv => arg 4; simp [pick]
            go_wp2_with (first
              | (go_at_call 16; refine HSH.out.mono ?_; rintro e w6 ⟨A6, c6, rfl, hrd6, hb6⟩; have c26 : w6.cell? ⟨r, 2, none⟩ = some (.slice A5 L5.length c5) := (hb6.cell HBL5.out.lt).trans (HBL5.out.cell 2); have HR6 := Lib.hid hrd6; clear hrd6)
              | (go_at_call 17; refine (f_any S5 g f bad L5 _ (HS5.out.below hb6)).mono ?_; rintro e w7 ⟨rfl, rfl⟩)
              | (go_at_call 18; refine (bad_any S5 g f bad L5 _ (HS5.out.below hb6)).mono ?_; rintro e w8 ⟨rfl, rfl⟩))
            obtain ⟨m, hm⟩ : ∃ m, m = L5.length := ⟨_, rfl⟩
            go_loopw [17] (fun i wx => ∃ j : Nat, i = .int .i64 j ∧ j ≤ L5.length ∧ Below w6.heap.size w6 wx) (fun i _ => L5.length - (intOf i).toNat)
            case atStart => exact ⟨0, rfl, Nat.zero_le _, Below.refl _ _⟩
            case round =>
              obtain ⟨j, rfl, hj, hbx⟩ := hrel
              by_cases hjl : j < L5.length
              · obtain ⟨b1, rfl, hb1l, hc1⟩ := Reads.shr HR6.out hjl
                obtain ⟨b2, rfl, hb2l, hc2⟩ := Reads.shr HRD5.out hjl
                obtain ⟨x, hx⟩ : ∃ x, x = L5[j] := ⟨_, rfl⟩
                have hxw : x.wf := by rw [hx]; exact HLS5.out _ (List.getElem_mem hjl)
                have hne : ∀ W, (binOp .neq 37 (.agg (shrC x)) (.agg (shrC x))).run Tryd.prog W = .ok (.bool false) W := fun W => by have := neqS hxw hxw W; simpa using this
                rw [← hx] at hc1 hc2
                have hY : holdY r j L5.length c5 x b1 b2 wr := ⟨(hbx.cell (World.block_lt_of_cell? _ _ c26)).trans c26, fun i u hi => (hbx.cell (by rw [block_of_add, block_of_add]; exact hb1l)).trans (hc1 i u hi), fun i u hi => ((nxt hb6 hbx hb6.size).cell (by rw [block_of_add, block_of_add]; exact hb2l)).trans (hc2 i u hi)⟩
                have HNE := Lib.hid hne
                have HY := Lib.hid hY
                clear hne hY hc1 hc2 hx
                have nn : Nonempty (WorldIn (holdY r j L5.length c5 x b1 b2)) := ⟨⟨wr, HY.out⟩⟩
                have y0 := fun y : WorldIn (holdY r j L5.length c5 x b1 b2) => y.h.1
                have y1 := fun y : WorldIn (holdY r j L5.length c5 x b1 b2) => y.h.2.1
                have y2 := fun y : WorldIn (holdY r j L5.length c5 x b1 b2) => y.h.2.2
                have hw' : IntKind.i64.wrap (j : Int) = (j : Int) := IntWalk.i64_in _ (by omega)
                go_wp2_with fail
                refine wp_region_K (holdY r j L5.length c5 x b1 b2) [0, 1, 2, 3, 4, 5, 6, 7, 8, 9, 10, 11] (by kernel_rfl) ?_
                refine wpK_quiet (f := 0) (by kernel_rfl) (fun _ x _ _ _ h => by cases x <;> exact h) (⟨HY.out.1, HY.out.2.1, HY.out.2.2⟩ : holdY r j L5.length c5 x b1 b2 wr.drew) [0, 1, 2, 3, 4, 5, 6, 7, 8, 9, 10, 11] _ _ (by kernel_rfl) (by kernel_rfl) (by kernel_rfl) ?_
                conv => arg 5; simp [pick]
                go_big_quiet_step (fail)
                go_big_quiet_step (fail)
                go_big_quiet_step (fail)
                refine wpQuiet_cells rfl _ _ rfl _ rfl (shrL x) _ y1 Tryd.underlying37 rfl (by kernel_rfl) ?_
                conv => arg 6; simp only [Act.put, List.setIfInBounds_toArray, List.set_cons_zero, List.set_cons_succ]
                go_big_quiet_step (fail)
                go_big_quiet_step (fail)
                go_big_quiet_step (fail)
                go_big_quiet_step (fail)
                go_big_quiet_step (fail)
                go_big_quiet_step (fail)
                refine wpQuiet_cells rfl _ _ rfl _ rfl (shrL x) _ y2 Tryd.underlying37 rfl (by kernel_rfl) ?_
                conv => arg 6; simp only [Act.put, List.setIfInBounds_toArray, List.set_cons_zero, List.set_cons_succ]
                refine wpQuiet_binop rfl _ _ _ _ _ rfl (shrC x) (shrC x) rfl rfl (by kernel_rfl) HNE.out ?_
                conv => arg 6; simp only [Act.put, List.setIfInBounds_toArray, List.set_cons_zero, List.set_cons_succ]
                refine wpQuiet_nil ?_
                refine wpK_seq [] _ _ _ (by kernel_rfl) ?_
                conv => arg 4; simp [pick]
                go_wp2
                go_roundw
                case rel => exact ⟨j + 1, by go_num, by omega, below_drew hbx⟩
                case measure => simp [intOf]; omega
              · have hjn : j = L5.length := by omega
                go_wp2_with fail
                go_roundw
                case rel => exact ⟨k + 1, by go_num, by omega, (HB5.out.keep hb6 (Nat.le_refl _)).keep hbx (Nat.le_refl _)⟩
                case measure => simp [intOf]; omega
          · have hI : ∀ W, Below wb.heap.size wb W → Calls Tryd.prog 11 #[.pointer (some ⟨g, 0, none⟩), .agg (shrC ⟨sg, s⟩)] W fun e w' => e = .returned (.int .i64 (cntE f bad L ⟨sg, s⟩)) ∧ Below W.heap.size W w' := fun W hW => counts_any S g f bad L ⟨sg, s⟩ W (hSb.below hW) HXW.out hbad
            have hJ : ∀ W, Below wb.heap.size wb W → Calls Tryd.prog 12 #[.pointer (some ⟨r, 0, none⟩), .agg (shrC ⟨sg, s⟩)] W fun e w' => e = .returned (.int .i64 (cntE f bad L ⟨sg, s⟩)) ∧ Below W.heap.size W w' := fun W hW => refcounts_any T r f bad L ⟨sg, s⟩ W (hRb.below hW) hf hbad HXW.out HLS.out hLl
            obtain ⟨v, hv⟩ : ∃ v, v = cntE f bad L ⟨sg, s⟩ := ⟨_, rfl⟩
            simp only [← hv] at hI hJ
            have HI := Lib.hid hI
            have HJ := Lib.hid hJ
            clear hI hJ hv
            go_wp2_with fail
            refine wp_region_K (holdP p q ⟨kd, sg, le, st, s⟩) [0, 1, 3, 4] (by kernel_rfl) ?_
            refine wpK_quiet (f := 4) (by kernel_rfl) (fun _ x _ _ _ h => by cases x <;> exact h) (⟨hxp, hxq⟩ : holdP p q ⟨kd, sg, le, st, s⟩ wb.drew) [0, 1, 3, 4] _ _ (by kernel_rfl) (by kernel_rfl) (by kernel_rfl) ?_
            conv => arg 5; simp [pick]
            go_big_quiet_step (fail)
            refine wpQuiet_row rfl _ _ rfl _ rfl _ _ _ _ px Tryd.underlying37 rfl (by kernel_rfl) ?_
            conv => arg 6; simp only [Act.put, List.setIfInBounds_toArray, List.set_cons_zero, List.set_cons_succ]
            go_big_quiet_step (fail)
            refine wpQuiet_row rfl _ _ rfl _ rfl _ _ _ _ px Tryd.underlying37 rfl (by kernel_rfl) ?_
            conv => arg 6; simp only [Act.put, List.setIfInBounds_toArray, List.set_cons_zero, List.set_cons_succ]
            refine wpQuiet_nil ?_
            refine wpK_step 2 (by kernel_rfl) rfl ?_
            go_wp2_with (go_at_call 11; refine (HI.out _ (below_drew (Below.refl _ _))).mono ?_; rintro e w4 ⟨rfl, hb4'⟩)
            have hb4 : Below wb.heap.size wb w4 := undrew hb4'
            refine stepQ.mk ⟨fun _ => ⟨hxp.below hb4 hxp.lt, hxq.below hb4 hxq.lt⟩, ?_⟩
            refine wpK_step 5 (by kernel_rfl) rfl ?_
            go_wp2_with (go_at_call 12; refine (HJ.out _ hb4).mono ?_; rintro e w5 ⟨rfl, hb5'⟩)
            have hb5 : Below wb.heap.size wb w5 := nxt hb4 hb5' hb4.size
            have h5x : holdP p q ⟨kd, sg, le, st, s⟩ w5 := ⟨hxp.below hb5 hxp.lt, hxq.below hb5 hxq.lt⟩
            refine stepQ.mk ⟨fun _ => h5x, ?_⟩
            have H5 := Lib.hid h5x
            clear h5x
            have hB5 : Both w g r f bad (k + 1) w5 := hBb.keep hb5 (Nat.le_succ _)
            clear hb4' hb4 hb5' hb5 HI HJ
            clear ne px pl pu ps hxp hxq HNOT a0 HISb HITb hBb hSb hRb hbwb hbb hml
            have HB5 := Lib.hid hB5
            obtain ⟨S5, T5, L5, hS5, hR5, _, _, _, _, _, hml5, hLs5, hbw5⟩ := hB5
            have hl5 : L5.length ≤ 1000000000 := by omega
            have HLS5 := Lib.hid hLs5
            obtain ⟨v5, hbl5, hr5, _, _⟩ := hR5
            obtain ⟨A5, c5, rfl, hc5, hrd5⟩ := row_reads hr5
            have HSH := Lib.hid (shares_any S5 g f bad L5 w5 hS5 hl5)
            have HS5 := Lib.hid hS5
            have HBL5 := Lib.hid hbl5
            have HRD5 := Lib.hid hrd5
            clear hS5 hbl5 hrd5 hr5 hLs5 hc5
            refine wpK_step 6 (by kernel_rfl) rfl ?_
            go_wp2
            refine stepQ.mk ⟨fun _ => H5.out, ?_⟩
            refine wpK_seq [7] _ _ _ (by kernel_rfl) ?_
            conv => arg 4; simp [pick]
            go_wp2_with (first
              | (go_at_call 16; refine HSH.out.mono ?_; rintro e w6 ⟨A6, c6, rfl, hrd6, hb6⟩; have c26 : w6.cell? ⟨r, 2, none⟩ = some (.slice A5 L5.length c5) := (hb6.cell HBL5.out.lt).trans (HBL5.out.cell 2); have HR6 := Lib.hid hrd6; clear hrd6)
              | (go_at_call 17; refine (f_any S5 g f bad L5 _ (HS5.out.below hb6)).mono ?_; rintro e w7 ⟨rfl, rfl⟩)
              | (go_at_call 18; refine (bad_any S5 g f bad L5 _ (HS5.out.below hb6)).mono ?_; rintro e w8 ⟨rfl, rfl⟩))
            obtain ⟨m, hm⟩ : ∃ m, m = L5.length := ⟨_, rfl⟩
            go_loopw [17] (fun i wx => ∃ j : Nat, i = .int .i64 j ∧ j ≤ L5.length ∧ Below w6.heap.size w6 wx) (fun i _ => L5.length - (intOf i).toNat)
            case atStart => exact ⟨0, rfl, Nat.zero_le _, Below.refl _ _⟩
            case round =>
              obtain ⟨j, rfl, hj, hbx⟩ := hrel
              by_cases hjl : j < L5.length
              · obtain ⟨b1, rfl, hb1l, hc1⟩ := Reads.shr HR6.out hjl
                obtain ⟨b2, rfl, hb2l, hc2⟩ := Reads.shr HRD5.out hjl
                obtain ⟨x, hx⟩ : ∃ x, x = L5[j] := ⟨_, rfl⟩
                have hxw : x.wf := by rw [hx]; exact HLS5.out _ (List.getElem_mem hjl)
                have hne : ∀ W, (binOp .neq 37 (.agg (shrC x)) (.agg (shrC x))).run Tryd.prog W = .ok (.bool false) W := fun W => by have := neqS hxw hxw W; simpa using this
                rw [← hx] at hc1 hc2
                have hY : holdY r j L5.length c5 x b1 b2 wr := ⟨(hbx.cell (World.block_lt_of_cell? _ _ c26)).trans c26, fun i u hi => (hbx.cell (by rw [block_of_add, block_of_add]; exact hb1l)).trans (hc1 i u hi), fun i u hi => ((nxt hb6 hbx hb6.size).cell (by rw [block_of_add, block_of_add]; exact hb2l)).trans (hc2 i u hi)⟩
                have HNE := Lib.hid hne
                have HY := Lib.hid hY
                clear hne hY hc1 hc2 hx
                have nn : Nonempty (WorldIn (holdY r j L5.length c5 x b1 b2)) := ⟨⟨wr, HY.out⟩⟩
                have y0 := fun y : WorldIn (holdY r j L5.length c5 x b1 b2) => y.h.1
                have y1 := fun y : WorldIn (holdY r j L5.length c5 x b1 b2) => y.h.2.1
                have y2 := fun y : WorldIn (holdY r j L5.length c5 x b1 b2) => y.h.2.2
                have hw' : IntKind.i64.wrap (j : Int) = (j : Int) := IntWalk.i64_in _ (by omega)
                go_wp2_with fail
                refine wp_region_K (holdY r j L5.length c5 x b1 b2) [0, 1, 2, 3, 4, 5, 6, 7, 8, 9, 10, 11] (by kernel_rfl) ?_
                refine wpK_quiet (f := 0) (by kernel_rfl) (fun _ x _ _ _ h => by cases x <;> exact h) (⟨HY.out.1, HY.out.2.1, HY.out.2.2⟩ : holdY r j L5.length c5 x b1 b2 wr.drew) [0, 1, 2, 3, 4, 5, 6, 7, 8, 9, 10, 11] _ _ (by kernel_rfl) (by kernel_rfl) (by kernel_rfl) ?_
                conv => arg 5; simp [pick]
                go_big_quiet_step (fail)
                go_big_quiet_step (fail)
                go_big_quiet_step (fail)
                refine wpQuiet_cells rfl _ _ rfl _ rfl (shrL x) _ y1 Tryd.underlying37 rfl (by kernel_rfl) ?_
                conv => arg 6; simp only [Act.put, List.setIfInBounds_toArray, List.set_cons_zero, List.set_cons_succ]
                go_big_quiet_step (fail)
                go_big_quiet_step (fail)
                go_big_quiet_step (fail)
                go_big_quiet_step (fail)
                go_big_quiet_step (fail)
                go_big_quiet_step (fail)
                refine wpQuiet_cells rfl _ _ rfl _ rfl (shrL x) _ y2 Tryd.underlying37 rfl (by kernel_rfl) ?_
                conv => arg 6; simp only [Act.put, List.setIfInBounds_toArray, List.set_cons_zero, List.set_cons_succ]
                refine wpQuiet_binop rfl _ _ _ _ _ rfl (shrC x) (shrC x) rfl rfl (by kernel_rfl) HNE.out ?_
                conv => arg 6; simp only [Act.put, List.setIfInBounds_toArray, List.set_cons_zero, List.set_cons_succ]
                refine wpQuiet_nil ?_
                refine wpK_seq [] _ _ _ (by kernel_rfl) ?_
                conv => arg 4; simp [pick]
                go_wp2
                go_roundw
                case rel => exact ⟨j + 1, by go_num, by omega, below_drew hbx⟩
                case measure => simp [intOf]; omega
              · have hjn : j = L5.length := by omega
                go_wp2_with fail
                go_roundw
                case rel => exact ⟨k + 1, by go_num, by omega, (HB5.out.keep hb6 (Nat.le_refl _)).keep hbx (Nat.le_refl _)⟩
                case measure => simp [intOf]; omega
          · have hI : ∀ W, Below wb.heap.size wb W → Calls Tryd.prog 13 #[.pointer (some ⟨g, 0, none⟩), .agg (stmC s), .int .u32 st] W fun e w' => e = .returned (.int .i64 (allE f bad L s st)) ∧ Below W.heap.size W w' := fun W hW => sall_any S g f bad L s st W (hSb.below hW) HSW.out hbad hst (HT.out.kept (nxt hbwb hW hbwb.size))
            have hJ : ∀ W, Below wb.heap.size wb W → Calls Tryd.prog 14 #[.pointer (some ⟨r, 0, none⟩), .agg (stmC s), .int .u32 st, .int .i64 0] W fun e w' => e = .returned (.int .i64 (allE f bad L s st)) ∧ Below W.heap.size W w' := fun W hW => by have := refenough_any T r f bad L s st 0 W (hRb.below hW) hf hbad HSW.out HLS.out hLl hst; rw [enough_zero] at this; exact this
            obtain ⟨v, hv⟩ : ∃ v, v = allE f bad L s st := ⟨_, rfl⟩
            simp only [← hv] at hI hJ
            have HI := Lib.hid hI
            have HJ := Lib.hid hJ
            clear hI hJ hv
            go_wp2_with fail
            refine wp_region_K (holdP p q ⟨kd, sg, le, st, s⟩) [0, 1, 2, 3, 4, 6, 7, 8, 9, 10] (by kernel_rfl) ?_
            refine wpK_quiet (f := 4) (by kernel_rfl) (fun _ x _ _ _ h => by cases x <;> exact h) (⟨hxp, hxq⟩ : holdP p q ⟨kd, sg, le, st, s⟩ wb.drew) [0, 1, 2, 3, 4, 6, 7, 8, 9, 10] _ _ (by kernel_rfl) (by kernel_rfl) (by kernel_rfl) ?_
            conv => arg 5; simp [pick]
            go_big_quiet_step (fail)
            go_big_quiet_step (fail)
            refine wpQuiet_cells rfl _ _ rfl _ rfl (stmL s) _ ps Tryd.underlying33 rfl (by kernel_rfl) ?_
            conv => arg 6; simp only [Act.put, List.setIfInBounds_toArray, List.set_cons_zero, List.set_cons_succ]
            go_big_quiet_step (fail)
            go_big_quiet_step (fail)
            go_big_quiet_step (fail)
            go_big_quiet_step (fail)
            refine wpQuiet_cells rfl _ _ rfl _ rfl (stmL s) _ ps Tryd.underlying33 rfl (by kernel_rfl) ?_
            conv => arg 6; simp only [Act.put, List.setIfInBounds_toArray, List.set_cons_zero, List.set_cons_succ]
            go_big_quiet_step (fail)
            go_big_quiet_step (fail)
            refine wpQuiet_nil ?_
            refine wpK_step 5 (by kernel_rfl) rfl ?_
            go_wp2_with (go_at_call 13; refine (HI.out _ (below_drew (Below.refl _ _))).mono ?_; rintro e w4 ⟨rfl, hb4'⟩)
            have hb4 : Below wb.heap.size wb w4 := undrew hb4'
            refine stepQ.mk ⟨fun _ => ⟨hxp.below hb4 hxp.lt, hxq.below hb4 hxq.lt⟩, ?_⟩
            refine wpK_step 11 (by kernel_rfl) rfl ?_
            go_wp2_with (go_at_call 14; refine (HJ.out _ hb4).mono ?_; rintro e w5 ⟨rfl, hb5'⟩)
            have hb5 : Below wb.heap.size wb w5 := nxt hb4 hb5' hb4.size
            have h5x : holdP p q ⟨kd, sg, le, st, s⟩ w5 := ⟨hxp.below hb5 hxp.lt, hxq.below hb5 hxq.lt⟩
            refine stepQ.mk ⟨fun _ => h5x, ?_⟩
            have H5 := Lib.hid h5x
            clear h5x
            have hB5 : Both w g r f bad (k + 1) w5 := hBb.keep hb5 (Nat.le_succ _)
            clear hb4' hb4 hb5' hb5 HI HJ
            clear ne px pl pu ps hxp hxq HNOT a0 HISb HITb hBb hSb hRb hbwb hbb hml
            have HB5 := Lib.hid hB5
            obtain ⟨S5, T5, L5, hS5, hR5, _, _, _, _, _, hml5, hLs5, hbw5⟩ := hB5
            have hl5 : L5.length ≤ 1000000000 := by omega
            have HLS5 := Lib.hid hLs5
            obtain ⟨v5, hbl5, hr5, _, _⟩ := hR5
            obtain ⟨A5, c5, rfl, hc5, hrd5⟩ := row_reads hr5
            have HSH := Lib.hid (shares_any S5 g f bad L5 w5 hS5 hl5)
            have HS5 := Lib.hid hS5
            have HBL5 := Lib.hid hbl5
            have HRD5 := Lib.hid hrd5
            clear hS5 hbl5 hrd5 hr5 hLs5 hc5
            refine wpK_step 12 (by kernel_rfl) rfl ?_
            go_wp2
            refine stepQ.mk ⟨fun _ => H5.out, ?_⟩
            refine wpK_seq [13] _ _ _ (by kernel_rfl) ?_
            conv => arg 4; simp [pick]
            go_wp2_with (first
              | (go_at_call 16; refine HSH.out.mono ?_; rintro e w6 ⟨A6, c6, rfl, hrd6, hb6⟩; have c26 : w6.cell? ⟨r, 2, none⟩ = some (.slice A5 L5.length c5) := (hb6.cell HBL5.out.lt).trans (HBL5.out.cell 2); have HR6 := Lib.hid hrd6; clear hrd6)
              | (go_at_call 17; refine (f_any S5 g f bad L5 _ (HS5.out.below hb6)).mono ?_; rintro e w7 ⟨rfl, rfl⟩)
              | (go_at_call 18; refine (bad_any S5 g f bad L5 _ (HS5.out.below hb6)).mono ?_; rintro e w8 ⟨rfl, rfl⟩))
            obtain ⟨m, hm⟩ : ∃ m, m = L5.length := ⟨_, rfl⟩
            go_loopw [17] (fun i wx => ∃ j : Nat, i = .int .i64 j ∧ j ≤ L5.length ∧ Below w6.heap.size w6 wx) (fun i _ => L5.length - (intOf i).toNat)
            case atStart => exact ⟨0, rfl, Nat.zero_le _, Below.refl _ _⟩
            case round =>
              obtain ⟨j, rfl, hj, hbx⟩ := hrel
              by_cases hjl : j < L5.length
              · obtain ⟨b1, rfl, hb1l, hc1⟩ := Reads.shr HR6.out hjl
                obtain ⟨b2, rfl, hb2l, hc2⟩ := Reads.shr HRD5.out hjl
                obtain ⟨x, hx⟩ : ∃ x, x = L5[j] := ⟨_, rfl⟩
                have hxw : x.wf := by rw [hx]; exact HLS5.out _ (List.getElem_mem hjl)
                have hne : ∀ W, (binOp .neq 37 (.agg (shrC x)) (.agg (shrC x))).run Tryd.prog W = .ok (.bool false) W := fun W => by have := neqS hxw hxw W; simpa using this
                rw [← hx] at hc1 hc2
                have hY : holdY r j L5.length c5 x b1 b2 wr := ⟨(hbx.cell (World.block_lt_of_cell? _ _ c26)).trans c26, fun i u hi => (hbx.cell (by rw [block_of_add, block_of_add]; exact hb1l)).trans (hc1 i u hi), fun i u hi => ((nxt hb6 hbx hb6.size).cell (by rw [block_of_add, block_of_add]; exact hb2l)).trans (hc2 i u hi)⟩
                have HNE := Lib.hid hne
                have HY := Lib.hid hY
                clear hne hY hc1 hc2 hx
                have nn : Nonempty (WorldIn (holdY r j L5.length c5 x b1 b2)) := ⟨⟨wr, HY.out⟩⟩
                have y0 := fun y : WorldIn (holdY r j L5.length c5 x b1 b2) => y.h.1
                have y1 := fun y : WorldIn (holdY r j L5.length c5 x b1 b2) => y.h.2.1
                have y2 := fun y : WorldIn (holdY r j L5.length c5 x b1 b2) => y.h.2.2
                have hw' : IntKind.i64.wrap (j : Int) = (j : Int) := IntWalk.i64_in _ (by omega)
                go_wp2_with fail
                refine wp_region_K (holdY r j L5.length c5 x b1 b2) [0, 1, 2, 3, 4, 5, 6, 7, 8, 9, 10, 11] (by kernel_rfl) ?_
                refine wpK_quiet (f := 0) (by kernel_rfl) (fun _ x _ _ _ h => by cases x <;> exact h) (⟨HY.out.1, HY.out.2.1, HY.out.2.2⟩ : holdY r j L5.length c5 x b1 b2 wr.drew) [0, 1, 2, 3, 4, 5, 6, 7, 8, 9, 10, 11] _ _ (by kernel_rfl) (by kernel_rfl) (by kernel_rfl) ?_
                conv => arg 5; simp [pick]
                go_big_quiet_step (fail)
                go_big_quiet_step (fail)
                go_big_quiet_step (fail)
                refine wpQuiet_cells rfl _ _ rfl _ rfl (shrL x) _ y1 Tryd.underlying37 rfl (by kernel_rfl) ?_
                conv => arg 6; simp only [Act.put, List.setIfInBounds_toArray, List.set_cons_zero, List.set_cons_succ]
                go_big_quiet_step (fail)
                go_big_quiet_step (fail)
                go_big_quiet_step (fail)
                go_big_quiet_step (fail)
                go_big_quiet_step (fail)
                go_big_quiet_step (fail)
                refine wpQuiet_cells rfl _ _ rfl _ rfl (shrL x) _ y2 Tryd.underlying37 rfl (by kernel_rfl) ?_
                conv => arg 6; simp only [Act.put, List.setIfInBounds_toArray, List.set_cons_zero, List.set_cons_succ]
                refine wpQuiet_binop rfl _ _ _ _ _ rfl (shrC x) (shrC x) rfl rfl (by kernel_rfl) HNE.out ?_
                conv => arg 6; simp only [Act.put, List.setIfInBounds_toArray, List.set_cons_zero, List.set_cons_succ]
                refine wpQuiet_nil ?_
                refine wpK_seq [] _ _ _ (by kernel_rfl) ?_
                conv => arg 4; simp [pick]
                go_wp2
                go_roundw
                case rel => exact ⟨j + 1, by go_num, by omega, below_drew hbx⟩
                case measure => simp [intOf]; omega
              · have hjn : j = L5.length := by omega
                go_wp2_with fail
                go_roundw
                case rel => exact ⟨k + 1, by go_num, by omega, (HB5.out.keep hb6 (Nat.le_refl _)).keep hbx (Nat.le_refl _)⟩
                case measure => simp [intOf]; omega
          · have hI : ∀ W, Below wb.heap.size wb W → Calls Tryd.prog 15 #[.pointer (some ⟨g, 0, none⟩), .agg (stmC s), .int .u32 st, .int .i64 le] W fun e w' => e = .returned (.int .i64 (enoughE f bad L s st le)) ∧ Below W.heap.size W w' := fun W hW => enough_any S g f bad L s st le W (hSb.below hW) HSW.out hbad hst (HT.out.kept (nxt hbwb hW hbwb.size))
            have hJ : ∀ W, Below wb.heap.size wb W → Calls Tryd.prog 14 #[.pointer (some ⟨r, 0, none⟩), .agg (stmC s), .int .u32 st, .int .i64 le] W fun e w' => e = .returned (.int .i64 (enoughE f bad L s st le)) ∧ Below W.heap.size W w' := fun W hW => refenough_any T r f bad L s st le W (hRb.below hW) hf hbad HSW.out HLS.out hLl hst
            obtain ⟨v, hv⟩ : ∃ v, v = enoughE f bad L s st le := ⟨_, rfl⟩
            simp only [← hv] at hI hJ
            have HI := Lib.hid hI
            have HJ := Lib.hid hJ
            clear hI hJ hv
            go_wp2_with fail
            refine wp_region_K (holdP p q ⟨kd, sg, le, st, s⟩) [0, 1, 2, 3, 4, 5, 6, 8, 9, 10, 11, 12, 13, 14] (by kernel_rfl) ?_
            refine wpK_quiet (f := 4) (by kernel_rfl) (fun _ x _ _ _ h => by cases x <;> exact h) (⟨hxp, hxq⟩ : holdP p q ⟨kd, sg, le, st, s⟩ wb.drew) [0, 1, 2, 3, 4, 5, 6, 8, 9, 10, 11, 12, 13, 14] _ _ (by kernel_rfl) (by kernel_rfl) (by kernel_rfl) ?_
            conv => arg 5; simp [pick]
            go_big_quiet_step (fail)
            go_big_quiet_step (fail)
            refine wpQuiet_cells rfl _ _ rfl _ rfl (stmL s) _ ps Tryd.underlying33 rfl (by kernel_rfl) ?_
            conv => arg 6; simp only [Act.put, List.setIfInBounds_toArray, List.set_cons_zero, List.set_cons_succ]
            go_big_quiet_step (fail)
            go_big_quiet_step (fail)
            go_big_quiet_step (fail)
            go_big_quiet_step (fail)
            go_big_quiet_step (fail)
            go_big_quiet_step (fail)
            refine wpQuiet_cells rfl _ _ rfl _ rfl (stmL s) _ ps Tryd.underlying33 rfl (by kernel_rfl) ?_
            conv => arg 6; simp only [Act.put, List.setIfInBounds_toArray, List.set_cons_zero, List.set_cons_succ]
            go_big_quiet_step (fail)
            go_big_quiet_step (fail)
            go_big_quiet_step (fail)
            go_big_quiet_step (fail)
            refine wpQuiet_nil ?_
            refine wpK_step 7 (by kernel_rfl) rfl ?_
            go_wp2_with (go_at_call 15; refine (HI.out _ (below_drew (Below.refl _ _))).mono ?_; rintro e w4 ⟨rfl, hb4'⟩)
            have hb4 : Below wb.heap.size wb w4 := undrew hb4'
            refine stepQ.mk ⟨fun _ => ⟨hxp.below hb4 hxp.lt, hxq.below hb4 hxq.lt⟩, ?_⟩
            refine wpK_step 15 (by kernel_rfl) rfl ?_
            go_wp2_with (go_at_call 14; refine (HJ.out _ hb4).mono ?_; rintro e w5 ⟨rfl, hb5'⟩)
            have hb5 : Below wb.heap.size wb w5 := nxt hb4 hb5' hb4.size
            have h5x : holdP p q ⟨kd, sg, le, st, s⟩ w5 := ⟨hxp.below hb5 hxp.lt, hxq.below hb5 hxq.lt⟩
            refine stepQ.mk ⟨fun _ => h5x, ?_⟩
            have H5 := Lib.hid h5x
            clear h5x
            have hB5 : Both w g r f bad (k + 1) w5 := hBb.keep hb5 (Nat.le_succ _)
            clear hb4' hb4 hb5' hb5 HI HJ
            clear ne px pl pu ps hxp hxq HNOT a0 HISb HITb hBb hSb hRb hbwb hbb hml
            have HB5 := Lib.hid hB5
            obtain ⟨S5, T5, L5, hS5, hR5, _, _, _, _, _, hml5, hLs5, hbw5⟩ := hB5
            have hl5 : L5.length ≤ 1000000000 := by omega
            have HLS5 := Lib.hid hLs5
            obtain ⟨v5, hbl5, hr5, _, _⟩ := hR5
            obtain ⟨A5, c5, rfl, hc5, hrd5⟩ := row_reads hr5
            have HSH := Lib.hid (shares_any S5 g f bad L5 w5 hS5 hl5)
            have HS5 := Lib.hid hS5
            have HBL5 := Lib.hid hbl5
            have HRD5 := Lib.hid hrd5
            clear hS5 hbl5 hrd5 hr5 hLs5 hc5
            refine wpK_step 16 (by kernel_rfl) rfl ?_
            go_wp2
            refine stepQ.mk ⟨fun _ => H5.out, ?_⟩
            refine wpK_seq [17] _ _ _ (by kernel_rfl) ?_
            conv => arg 4; simp [pick]
            go_wp2_with (first
              | (go_at_call 16; refine HSH.out.mono ?_; rintro e w6 ⟨A6, c6, rfl, hrd6, hb6⟩; have c26 : w6.cell? ⟨r, 2, none⟩ = some (.slice A5 L5.length c5) := (hb6.cell HBL5.out.lt).trans (HBL5.out.cell 2); have HR6 := Lib.hid hrd6; clear hrd6)
              | (go_at_call 17; refine (f_any S5 g f bad L5 _ (HS5.out.below hb6)).mono ?_; rintro e w7 ⟨rfl, rfl⟩)
              | (go_at_call 18; refine (bad_any S5 g f bad L5 _ (HS5.out.below hb6)).mono ?_; rintro e w8 ⟨rfl, rfl⟩))
            obtain ⟨m, hm⟩ : ∃ m, m = L5.length := ⟨_, rfl⟩
            go_loopw [17] (fun i wx => ∃ j : Nat, i = .int .i64 j ∧ j ≤ L5.length ∧ Below w6.heap.size w6 wx) (fun i _ => L5.length - (intOf i).toNat)
            case atStart => exact ⟨0, rfl, Nat.zero_le _, Below.refl _ _⟩
            case round =>
              obtain ⟨j, rfl, hj, hbx⟩ := hrel
              by_cases hjl : j < L5.length
              · obtain ⟨b1, rfl, hb1l, hc1⟩ := Reads.shr HR6.out hjl
                obtain ⟨b2, rfl, hb2l, hc2⟩ := Reads.shr HRD5.out hjl
                obtain ⟨x, hx⟩ : ∃ x, x = L5[j] := ⟨_, rfl⟩
                have hxw : x.wf := by rw [hx]; exact HLS5.out _ (List.getElem_mem hjl)
                have hne : ∀ W, (binOp .neq 37 (.agg (shrC x)) (.agg (shrC x))).run Tryd.prog W = .ok (.bool false) W := fun W => by have := neqS hxw hxw W; simpa using this
                rw [← hx] at hc1 hc2
                have hY : holdY r j L5.length c5 x b1 b2 wr := ⟨(hbx.cell (World.block_lt_of_cell? _ _ c26)).trans c26, fun i u hi => (hbx.cell (by rw [block_of_add, block_of_add]; exact hb1l)).trans (hc1 i u hi), fun i u hi => ((nxt hb6 hbx hb6.size).cell (by rw [block_of_add, block_of_add]; exact hb2l)).trans (hc2 i u hi)⟩
                have HNE := Lib.hid hne
                have HY := Lib.hid hY
                clear hne hY hc1 hc2 hx
                have nn : Nonempty (WorldIn (holdY r j L5.length c5 x b1 b2)) := ⟨⟨wr, HY.out⟩⟩
                have y0 := fun y : WorldIn (holdY r j L5.length c5 x b1 b2) => y.h.1
                have y1 := fun y : WorldIn (holdY r j L5.length c5 x b1 b2) => y.h.2.1
                have y2 := fun y : WorldIn (holdY r j L5.length c5 x b1 b2) => y.h.2.2
                have hw' : IntKind.i64.wrap (j : Int) = (j : Int) := IntWalk.i64_in _ (by omega)
                go_wp2_with fail
                refine wp_region_K (holdY r j L5.length c5 x b1 b2) [0, 1, 2, 3, 4, 5, 6, 7, 8, 9, 10, 11] (by kernel_rfl) ?_
                refine wpK_quiet (f := 0) (by kernel_rfl) (fun _ x _ _ _ h => by cases x <;> exact h) (⟨HY.out.1, HY.out.2.1, HY.out.2.2⟩ : holdY r j L5.length c5 x b1 b2 wr.drew) [0, 1, 2, 3, 4, 5, 6, 7, 8, 9, 10, 11] _ _ (by kernel_rfl) (by kernel_rfl) (by kernel_rfl) ?_
                conv => arg 5; simp [pick]
                go_big_quiet_step (fail)
                go_big_quiet_step (fail)
                go_big_quiet_step (fail)
                refine wpQuiet_cells rfl _ _ rfl _ rfl (shrL x) _ y1 Tryd.underlying37 rfl (by kernel_rfl) ?_
                conv => arg 6; simp only [Act.put, List.setIfInBounds_toArray, List.set_cons_zero, List.set_cons_succ]
                go_big_quiet_step (fail)
                go_big_quiet_step (fail)
                go_big_quiet_step (fail)
                go_big_quiet_step (fail)
                go_big_quiet_step (fail)
                go_big_quiet_step (fail)
                refine wpQuiet_cells rfl _ _ rfl _ rfl (shrL x) _ y2 Tryd.underlying37 rfl (by kernel_rfl) ?_
                conv => arg 6; simp only [Act.put, List.setIfInBounds_toArray, List.set_cons_zero, List.set_cons_succ]
                refine wpQuiet_binop rfl _ _ _ _ _ rfl (shrC x) (shrC x) rfl rfl (by kernel_rfl) HNE.out ?_
                conv => arg 6; simp only [Act.put, List.setIfInBounds_toArray, List.set_cons_zero, List.set_cons_succ]
                refine wpQuiet_nil ?_
                refine wpK_seq [] _ _ _ (by kernel_rfl) ?_
                conv => arg 4; simp [pick]
                go_wp2
                go_roundw
                case rel => exact ⟨j + 1, by go_num, by omega, below_drew hbx⟩
                case measure => simp [intOf]; omega
              · have hjn : j = L5.length := by omega
                go_wp2_with fail
                go_roundw
                case rel => exact ⟨k + 1, by go_num, by omega, (HB5.out.keep hb6 (Nat.le_refl _)).keep hbx (Nat.le_refl _)⟩
                case measure => simp [intOf]; omega
          · obtain ⟨w5, hw5⟩ : ∃ w5, w5 = wb := ⟨_, rfl⟩
            have hB5 : Both w g r f bad (k + 1) w5 := by rw [hw5]; exact hBb.keep (Below.refl _ _) (Nat.le_succ _)
            rw [← hw5]
            rw [← hw5] at a0
            have a0' := a0
            clear hw5
            clear ne px pl pu ps hxp hxq HNOT HISb HITb hBb hSb hRb hbwb hbb hml
            have HB5 := Lib.hid hB5
            obtain ⟨S5, T5, L5, hS5, hR5, _, _, _, _, _, hml5, hLs5, hbw5⟩ := hB5
            have hl5 : L5.length ≤ 1000000000 := by omega
            have HLS5 := Lib.hid hLs5
            obtain ⟨v5, hbl5, hr5, _, _⟩ := hR5
            obtain ⟨A5, c5, rfl, hc5, hrd5⟩ := row_reads hr5
            have HSH := Lib.hid (shares_any S5 g f bad L5 w5 hS5 hl5)
            have HS5 := Lib.hid hS5
            have HBL5 := Lib.hid hbl5
            have HRD5 := Lib.hid hrd5
            clear hS5 hbl5 hrd5 hr5 hLs5 hc5
            go_wp2_with (first
              | (go_at_call 16; refine HSH.out.mono ?_; rintro e w6 ⟨A6, c6, rfl, hrd6, hb6⟩; have c26 : w6.cell? ⟨r, 2, none⟩ = some (.slice A5 L5.length c5) := (hb6.cell HBL5.out.lt).trans (HBL5.out.cell 2); have HR6 := Lib.hid hrd6; clear hrd6)
              | (go_at_call 17; refine (f_any S5 g f bad L5 _ (HS5.out.below hb6)).mono ?_; rintro e w7 ⟨rfl, rfl⟩)
              | (go_at_call 18; refine (bad_any S5 g f bad L5 _ (HS5.out.below hb6)).mono ?_; rintro e w8 ⟨rfl, rfl⟩))
            obtain ⟨m, hm⟩ : ∃ m, m = L5.length := ⟨_, rfl⟩
            go_loopw [17] (fun i wx => ∃ j : Nat, i = .int .i64 j ∧ j ≤ L5.length ∧ Below w6.heap.size w6 wx) (fun i _ => L5.length - (intOf i).toNat)
            case atStart => exact ⟨0, rfl, Nat.zero_le _, Below.refl _ _⟩
            case round =>
              obtain ⟨j, rfl, hj, hbx⟩ := hrel
              by_cases hjl : j < L5.length
              · obtain ⟨b1, rfl, hb1l, hc1⟩ := Reads.shr HR6.out hjl
                obtain ⟨b2, rfl, hb2l, hc2⟩ := Reads.shr HRD5.out hjl
                obtain ⟨x, hx⟩ : ∃ x, x = L5[j] := ⟨_, rfl⟩
                have hxw : x.wf := by rw [hx]; exact HLS5.out _ (List.getElem_mem hjl)
                have hne : ∀ W, (binOp .neq 37 (.agg (shrC x)) (.agg (shrC x))).run Tryd.prog W = .ok (.bool false) W := fun W => by have := neqS hxw hxw W; simpa using this
                rw [← hx] at hc1 hc2
                have hY : holdY r j L5.length c5 x b1 b2 wr := ⟨(hbx.cell (World.block_lt_of_cell? _ _ c26)).trans c26, fun i u hi => (hbx.cell (by rw [block_of_add, block_of_add]; exact hb1l)).trans (hc1 i u hi), fun i u hi => ((nxt hb6 hbx hb6.size).cell (by rw [block_of_add, block_of_add]; exact hb2l)).trans (hc2 i u hi)⟩
                have HNE := Lib.hid hne
                have HY := Lib.hid hY
                clear hne hY hc1 hc2 hx
                have nn : Nonempty (WorldIn (holdY r j L5.length c5 x b1 b2)) := ⟨⟨wr, HY.out⟩⟩
                have y0 := fun y : WorldIn (holdY r j L5.length c5 x b1 b2) => y.h.1
                have y1 := fun y : WorldIn (holdY r j L5.length c5 x b1 b2) => y.h.2.1
                have y2 := fun y : WorldIn (holdY r j L5.length c5 x b1 b2) => y.h.2.2
                have hw' : IntKind.i64.wrap (j : Int) = (j : Int) := IntWalk.i64_in _ (by omega)
                go_wp2_with fail
                refine wp_region_K (holdY r j L5.length c5 x b1 b2) [0, 1, 2, 3, 4, 5, 6, 7, 8, 9, 10, 11] (by kernel_rfl) ?_
                refine wpK_quiet (f := 0) (by kernel_rfl) (fun _ x _ _ _ h => by cases x <;> exact h) (⟨HY.out.1, HY.out.2.1, HY.out.2.2⟩ : holdY r j L5.length c5 x b1 b2 wr.drew) [0, 1, 2, 3, 4, 5, 6, 7, 8, 9, 10, 11] _ _ (by kernel_rfl) (by kernel_rfl) (by kernel_rfl) ?_
                conv => arg 5; simp [pick]
                go_big_quiet_step (fail)
                go_big_quiet_step (fail)
                go_big_quiet_step (fail)
                refine wpQuiet_cells rfl _ _ rfl _ rfl (shrL x) _ y1 Tryd.underlying37 rfl (by kernel_rfl) ?_
                conv => arg 6; simp only [Act.put, List.setIfInBounds_toArray, List.set_cons_zero, List.set_cons_succ]
                go_big_quiet_step (fail)
                go_big_quiet_step (fail)
                go_big_quiet_step (fail)
                go_big_quiet_step (fail)
                go_big_quiet_step (fail)
                go_big_quiet_step (fail)
                refine wpQuiet_cells rfl _ _ rfl _ rfl (shrL x) _ y2 Tryd.underlying37 rfl (by kernel_rfl) ?_
                conv => arg 6; simp only [Act.put, List.setIfInBounds_toArray, List.set_cons_zero, List.set_cons_succ]
                refine wpQuiet_binop rfl _ _ _ _ _ rfl (shrC x) (shrC x) rfl rfl (by kernel_rfl) HNE.out ?_
                conv => arg 6; simp only [Act.put, List.setIfInBounds_toArray, List.set_cons_zero, List.set_cons_succ]
                refine wpQuiet_nil ?_
                refine wpK_seq [] _ _ _ (by kernel_rfl) ?_
                conv => arg 4; simp [pick]
                go_wp2
                go_roundw
                case rel => exact ⟨j + 1, by go_num, by omega, below_drew hbx⟩
                case measure => simp [intOf]; omega
              · have hjn : j = L5.length := by omega
                go_wp2_with fail
                go_roundw
                case rel => exact ⟨k + 1, by go_num, by omega, (HB5.out.keep hb6 (Nat.le_refl _)).keep hbx (Nat.le_refl _)⟩
                case measure => simp [intOf]; omega
        · have hkn : k = n := by omega
          go_wp2_with fail
          go_ret
          exact ⟨rfl, hbw⟩
    · have hnew := fun w => new_not f bad w hbad he
      have hrnew := fun w => refnew_not f bad w hf hbad he
      obtain ⟨e, hq⟩ : ∃ e, e = newE f bad := ⟨_, rfl⟩
      rw [← hq] at he
      simp only [← hq] at hnew hrnew
      have h0' : (e == 0) = false := by simpa using he
      have h1' : (e != 0) = true := by simpa using he
      have HN := Lib.hid hnew
      have HR := Lib.hid hrnew
      clear hnew hrnew he hq
      go_enter Tryd.func3, Tryd.ntmps3
      go_wp2_with (first
        | (go_at_call 6; refine HA.out.mono ?_; unfold alivePost; rintro e w1 ⟨rfl, hb1⟩)
        | (go_at_call 7; refine (HN.out _).mono ?_; rintro e w2 ⟨rfl, rfl⟩)
        | (go_at_call 8; refine (HR.out _).mono ?_; rintro e w3 ⟨rfl, hb3⟩))
      have hb03 := nxt hb1 hb3 hb1.size
      go_loopw [11] (fun i wr => i = .int .i64 0 ∧ wr = w3) (fun _ _ => 0)
      case atStart => exact ⟨rfl, rfl⟩
      case round =>
        obtain ⟨rfl, rfl⟩ := hrel
        by_cases hz : 0 < n
        · have hz' : decide ((0 : Int) < (n : Int)) = true := by simp; omega
          go_wp2_with fail
          go_ret
          exact ⟨rfl, hb03⟩
        · have hz' : decide ((0 : Int) < (n : Int)) = false := by simp; omega
          go_wp2_with fail
          go_ret
          exact ⟨rfl, hb03⟩
end Go.Proofs.YtonnenbiihfboaaDoor
