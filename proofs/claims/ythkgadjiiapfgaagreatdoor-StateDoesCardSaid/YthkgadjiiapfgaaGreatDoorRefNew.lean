/-
  The document's: a state made of accounts.
-/
import Derived.Test.YthkgadjiiapfgaaGreatDoorRefPut
import Derived.Test.YthkgadjiiapfgaaGreatDoorNewS
set_option linter.unusedSimpArgs false
set_option linter.unusedVariables false
set_option maxRecDepth 10000
namespace Go.Proofs.YthkgadjiiapfgaaGreatDoor
open Go.RowKit Go.Maps Go.Lib
open L2 (chk)
open L3 (Blk Reads block_of_add add_of_add)
open L6 (Turn moreB fresh From In)

theorem build_stt0 (w : World) : (Instr.build 34 #[]).run Tryz.prog w = .ok (.agg (mC none none 0 0 0 0)) w := run_build w _ _ _ (by kernel_rfl)
theorem build_acc2 (l : List UInt8) (i : Int) (w : World) : (Instr.build 64 #[(0, .string (str l)), (1, .int .i64 i)]).run Tryz.prog w = .ok (.agg (accC ⟨l, i, 0⟩)) w := run_build w _ _ _ (by kernel_rfl)
/-- What New tells and leaves. -/
def refnewPost (n : Nat) (L : List Am) (w : World) (e : Ending) (w' : World) : Prop :=
  ∃ A c z, e = .returned (.tuple #[.agg (mC A none z.length 0 c 0), .int .i64 (newE [] L)]) ∧ Rd accL 3 w' A z ∧ (newE [] L = 0 → z = L.map acc0) ∧ (∀ ad, A = some ad → w.heap.size ≤ ad.block ∧ ad.block < w'.heap.size) ∧ Below w.heap.size w w'
/-- What stands while accounts are looked at. -/
structure NewAt (w : World) (A : Option Addr) (c : Nat) (z : List Acc) (wr : World) : Prop where
  re : Blk wr w.heap.size 34 (mC none none 0 0 0 0)
  st : Blk wr (w.heap.size + 1) 34 (mC A none z.length 0 c 0)
  rd : Rd accL 3 wr A z
  off : ∀ ad, A = some ad → w.heap.size + 2 ≤ ad.block ∧ ad.block < wr.heap.size
  bw : Below w.heap.size w wr
theorem NewAt.below {w wr wr' : World} {A : Option Addr} {c : Nat} {z : List Acc} (h : NewAt w A c z wr) (hb : Below wr.heap.size wr wr') : NewAt w A c z wr' :=
  ⟨h.re.below hb h.re.lt, h.st.below hb h.st.lt, h.rd.below hb, fun ad e => ⟨(h.off ad e).1, Nat.lt_of_lt_of_le (h.off ad e).2 hb.size⟩, nxt h.bw hb⟩
theorem refnew_err {n : Nat} {L : List Am} {w w' : World} {k : Int} (h : k = newE [] L) (h0 : k ≠ 0) (hb : Below w.heap.size w w') : refnewPost n L w (.returned (.tuple #[.agg (mC none none 0 0 0 0), .int .i64 k])) w' := by
  subst h
  exact ⟨none, 0, [], rfl, Rd.nil, fun h => absurd h h0, (fun ad e => by cases e), hb⟩
/-- What the reads of an account meet. -/
def holdN (w : World) (A : Option Addr) (c : Nat) (z : List Acc) (ad : Addr) (p : Am) (W : World) : Prop :=
  Blk W (w.heap.size + 1) 34 (mC A none z.length 0 c 0) ∧ W.cell? ad = some (.string (str p.nm)) ∧ W.cell? ⟨ad.block, ad.off + 1, none⟩ = some (.int .i64 p.am)
set_option maxHeartbeats 8000000 in
set_option maxRecDepth 100000 in
theorem refnew_any (A0 : Option Addr) (n c0 : Nat) (D : Nat → Am) (w : World) (h : Ams w A0 n D) (hn : n ≤ 60) (hnm : ∀ i, i < n → (D i).nm.length ≤ 1000) :
    Calls Tryz.prog 8 #[.slice A0 n c0] w (refnewPost n (amsL n D) w) := by
  go_enter Tryz.func8, Tryz.ntmps8
  go_upto_region 2 with (first
    | (refine wpList_build rfl _ _ rfl #[] rfl (build_stt0 _) ?_)
    | (refine wpList_store_last rfl _ _ _ rfl _ (w.heap.size + 1) (by simp) (mC none none 0 0 0 0) rfl rfl _ _ sttInfo rfl (mC_ones _ _ _ _ _ _) ?_)
    | go_in)
  try simp only [Act.put]
  obtain ⟨W, hW⟩ : ∃ W, W = (w.alloc (.cells (mC none none 0 0 0 0) 34)).alloc (.cells (mC none none 0 0 0 0) 34) := ⟨_, rfl⟩
  have hN0 : NewAt w none 0 [] W := by
    have k2 := Blk.new (w.alloc (.cells (mC none none 0 0 0 0) 34)) 34 (mC none none 0 0 0 0)
    rw [hW]
    exact ⟨(Blk.new _ _ _).alloc _, by simpa using k2, Rd.nil, (fun ad e => by cases e), ((Below.refl _ _).alloc (Nat.le_refl _) _).alloc (by simp) _⟩
  have hWe : (w.alloc (.cells #[.slice none 0 0, .slice none 0 0] 34)).alloc (.cells (mC none none 0 0 0 0) 34) = W := hW.symm
  rw [hWe]
  clear hW hWe
  go_wp2
  go_loopw [5, 6] (fun t i wr => ∃ (k : Nat) (A : Option Addr) (c : Nat), i = .int .i64 k ∧ k ≤ n ∧ t = .int .i64 (totM ((amsL n D).take k)) ∧ Hid (Good ((amsL n D).take k)) ∧ Hid (newE ((amsL n D).take k) ((amsL n D).drop k) = newE [] (amsL n D)) ∧ NewAt w A c (((amsL n D).take k).map acc0) wr)
    (fun _ i _ => n - (intOf i).toNat)
  case atStart => exact ⟨0, none, 0, rfl, Nat.zero_le _, by rw [List.take_zero]; rfl, Lib.hid (by rw [List.take_zero]; exact good_nil), Lib.hid (by rw [List.take_zero, List.drop_zero]), hN0⟩
  case round =>
    obtain ⟨k, A, c, rfl, hk, rfl, hg, he, hN⟩ := hrel
    by_cases hlt : k < n
    · obtain ⟨ad, rfl, hadl, q0, q1, hpl, hpi⟩ := (h.below hN.bw) k hlt
      have hp1 := hnm k hlt
      obtain ⟨e1, e2⟩ := amsL_step D hlt
      have he' := he.out
      rw [e2, newE_cons] at he'
      obtain ⟨p, hp⟩ : ∃ p, p = D k := ⟨_, rfl⟩
      rw [← hp] at q0 q1 hpl hpi e1 he' hp1
      obtain ⟨P, hP⟩ : ∃ P, P = (amsL n D).take k := ⟨_, rfl⟩
      rw [← hP] at hg hN e1 he' ⊢
      have HPk : Hid (P = (amsL n D).take k) := Lib.hid hP
      rw [add_field _ _ _ (by decide)] at q1
      have HP := Lib.hid (show (amsL n D).take (k + 1) = P ++ [p] from e1)
      have HPD := Lib.hid hp
      obtain ⟨wo, hwo⟩ : ∃ wo, wo = wr := ⟨_, rfl⟩
      subst hwo
      have hck := fun W => c_refname p.nm W (by omega)
      obtain ⟨tt, htt⟩ : ∃ tt, tt = totM P := ⟨_, rfl⟩
      rw [← htt]
      have HTT := Lib.hid htt
      clear e1 e2 hP he hp htt
      by_cases hbad : chk p.nm = false ∨ p.am < 0
      · have h1 := oneE_named (P := P) hbad
        rw [h1, if_pos (by omega)] at he'
        have HE := Lib.hid he'
        clear he' h1
        rcases Bool.eq_false_or_eq_true (chk p.nm) with hc | hc
        · have hneg : p.am < 0 := hbad.elim (fun h => by rw [hc] at h; cases h) id
          rw [hc] at hck
          clear hbad hc
          go_wp2_with (first
            | (go_at_call 19; refine (hck _).mono ?_; unfold gives; rintro e w2 ⟨rfl, hb2⟩
               have hN2 := hN.below hb2
               have q12 := (hb2.cell (p := ⟨(ad.add (k * 2)).block, (ad.add (k * 2)).off + 1, none⟩) (L2.cell_in q1)).trans q1)
            | (refine wpList_build rfl _ _ rfl #[] rfl (build_stt0 _) ?_)
            | (refine wpList_store_row rfl _ _ _ rfl w.heap.size (mC none none 0 0 0 0) rfl rfl _ _ hN2.re sttInfo rfl (mC_ones _ _ _ _ _ _) ?_)
            | go_in)
          (try simp only [Exit.inBlock, Exit.then])
          refine bodyPost_ret (results_row2 rfl _ _ w.heap.size rfl (.int .i64 1) rfl _ (mC none none 0 0 0 0) _ _ (blk_setRow hN2.re) Tryz.underlying34 rfl sttInfo) rfl ?_
          exact refnew_err HE.out (by decide) (below_setRow hN2.bw (Nat.le_refl _))
        · rw [hc] at hck
          clear hbad hc
          go_wp2_with (first
            | (go_at_call 19; refine (hck _).mono ?_; unfold gives; rintro e w2 ⟨rfl, hb2⟩
               have hN2 := hN.below hb2)
            | (refine wpList_build rfl _ _ rfl #[] rfl (build_stt0 _) ?_)
            | (refine wpList_store_row rfl _ _ _ rfl w.heap.size (mC none none 0 0 0 0) rfl rfl _ _ hN2.re sttInfo rfl (mC_ones _ _ _ _ _ _) ?_)
            | go_in)
          (try simp only [Exit.inBlock, Exit.then])
          refine bodyPost_ret (results_row2 rfl _ _ w.heap.size rfl (.int .i64 1) rfl _ (mC none none 0 0 0 0) _ _ (blk_setRow hN2.re) Tryz.underlying34 rfl sttInfo) rfl ?_
          exact refnew_err HE.out (by decide) (below_setRow hN2.bw (Nat.le_refl _))
      · have hc : chk p.nm = true := by cases hx : chk p.nm with
          | true => rfl
          | false => exact absurd (.inl hx) hbad
        have hneg : ¬ p.am < 0 := fun h => hbad (.inr h)
        rw [hc] at hck
        go_upto_region 8 with (first
            | (go_at_call 19; refine (hck _).mono ?_; unfold gives; rintro e w2 ⟨rfl, hb2⟩
               have hN2 := hN.below hb2
               have q12 := (hb2.cell (p := ⟨(ad.add (k * 2)).block, (ad.add (k * 2)).off + 1, none⟩) (L2.cell_in q1)).trans q1
               have q02 := (hb2.cell (p := ad.add (k * 2)) (L2.cell_in q0)).trans q0)
            | go_in)
        have hw2 := hN2.bw
        go_wp2
        go_loopw [7] (fun j wr => ∃ q : Nat, j = .int .i64 q ∧ q ≤ k ∧ Hid (∀ r, r < q → (D r).nm ≠ p.nm) ∧ Below w2.heap.size w2 wr) (fun j _ => k - (intOf j).toNat)
        case atStart => exact ⟨0, rfl, Nat.zero_le _, Lib.hid (fun r hr => absurd hr (by omega)), Below.refl _ _⟩
        case round =>
          obtain ⟨q, rfl, hq, hno, hbr⟩ := hrel
          have hN3 := hN2.below hbr
          have q03 := (hbr.cell (p := ad.add (k * 2)) (L2.cell_in q02)).trans q02
          have q13 := (hbr.cell (p := ⟨(ad.add (k * 2)).block, (ad.add (k * 2)).off + 1, none⟩) (L2.cell_in q12)).trans q12
          by_cases hlq : q < k
          · obtain ⟨ad2, e2, _, d0, _, _, _⟩ := (h.below hN3.bw) q (by omega)
            injection e2 with e2
            subst e2
            obtain ⟨x, hx⟩ : ∃ x, x = (D q).nm := ⟨_, rfl⟩
            rw [← hx] at d0
            by_cases hs : x = p.nm
            · have s1 := str_eq hs
              have hin : inM P p.nm = true := (inM_iff P p.nm).2 ⟨D q, by
                rw [HPk.out]
                have : (amsL n D)[q]'(by rw [amsL_len]; omega) = D q := by simp [amsL]
                rw [← this]
                exact List.mem_take_iff_getElem.2 ⟨q, by rw [amsL_len]; omega, rfl⟩, by rw [← hx]; exact hs⟩
              have h1 := oneE_there hbad hin
              rw [h1, if_pos (by omega)] at he'
              have HE := Lib.hid he'
              clear hs hx he' h1 hin hbad hc
              go_wp2
              go_quiet (fail)
              have hre : Blk (wr.drewN nq) w.heap.size 34 (mC none none 0 0 0 0) := hN3.re
              go_wp2_with (first
                | (refine wpList_build rfl _ _ rfl #[] rfl (build_stt0 _) ?_)
                | (refine wpList_store_row rfl _ _ _ rfl w.heap.size (mC none none 0 0 0 0) rfl rfl _ _ hre sttInfo rfl (mC_ones _ _ _ _ _ _) ?_)
                | go_in)
              (try simp only [Exit.inBlock, Exit.then])
              refine bodyPost_ret (results_row2 rfl _ _ w.heap.size rfl (.int .i64 100) rfl _ (mC none none 0 0 0 0) _ _ (blk_setRow hre) Tryz.underlying34 rfl sttInfo) rfl ?_
              exact refnew_err HE.out (by decide) (below_setRow (L6.below_drewN hN3.bw _) (Nat.le_refl _))
            · have s1 := str_ne hs
              have HN : Hid (∀ r, r < q + 1 → (D r).nm ≠ p.nm) := Lib.hid fun r hr => by
                rcases Nat.lt_or_ge r q with h1 | h1
                · exact hno.out r h1
                · obtain rfl : r = q := by omega
                  rw [← hx]; exact hs
              clear hs hx
              go_wp2
              go_quiet (fail)
              go_wp2
              go_roundw
              case rel => exact ⟨q + 1, by go_num, by omega, HN, L6.below_drewN hbr _⟩
              case measure => simp [intOf]; omega
          · obtain rfl : q = k := by omega
            obtain ⟨wi, hwi⟩ : ∃ wi, wi = wr := ⟨_, rfl⟩
            subst hwi
            have hi : inM P p.nm = false := (inM_not P p.nm).2 fun x hx => by
              rw [HPk.out] at hx
              obtain ⟨r, hr, rfl⟩ := List.mem_take_iff_getElem.1 hx
              have : (amsL n D)[r]'(by omega) = D r := by simp [amsL]
              rw [this]
              exact hno.out r (by omega)
            have htl := hg.out.tot
            have htm := hg.out.low
            have hadd := fun w => L1.refadd_any (totM P) p.am w (by omega) (by omega) (by have := hpi.1; omega) hpi.2
            rw [val_sum hg.out hbad hi, ← oneE_sum hg.out hbad hi] at hadd
            unfold L1.two at hadd
            have hgs := fun h0 => hg.out.snoc (p := p) h0
            have htn := totM_snoc P p
            have hput := Good.put (P := P) (p := p) ((inM_not P p.nm).1 hi)
            obtain ⟨r1, hr1⟩ : ∃ r, r = if oneE P p = 0 then totM P + p.am else 0 := ⟨_, rfl⟩
            obtain ⟨r2, hr2⟩ : ∃ r, r = oneE P p := ⟨_, rfl⟩
            rw [← hr1, ← hr2, ← HTT.out] at hadd
            rw [← hr2] at he' hgs
            have HR1 : Hid (r2 = 0 → r1 = totM (P ++ [p])) := Lib.hid fun h0 => by rw [hr1, ← hr2, if_pos h0, htn]
            have HGS := Lib.hid hgs
            have HPUT := Lib.hid hput
            clear hr1 hr2 htn hgs hput hi hno htl htm
            by_cases h0 : r2 = 0
            · subst h0
              rw [if_neg (by simp)] at he'
              have HE := Lib.hid he'
              have HR2 := Lib.hid (HR1.out rfl)
              have HG2 := Lib.hid (HGS.out rfl)
              clear he' HR1 HGS hbad hc
              go_upto_region 17 with (first
                | (go_at_call 20; refine (hadd _).mono ?_; rintro e w5 ⟨rfl, rfl⟩)
                | go_in)
              obtain ⟨z, hz⟩ : ∃ z, z = P.map acc0 := ⟨_, rfl⟩
              have hzl : z.length ≤ 1000000 := by rw [hz, List.length_map, HPk.out, List.length_take]; omega
              rw [← hz] at hN3
              have HPUT2 : Hid (putA z (acc0 p) = (P ++ [p]).map acc0) := Lib.hid (by rw [hz]; exact HPUT.out)
              clear hz
              have hNd : NewAt w A c z wi.drew := ⟨hN3.re, hN3.st, hN3.rd, hN3.off, hN3.bw.drew⟩
              have hS : holdN w A c z (ad.add (q * 2)) p wi.drew := ⟨hNd.st, q03, q13⟩
              refine wp_region_K (holdN w A c z (ad.add (q * 2)) p) [0, 1, 2, 3, 4, 5, 6, 7, 8, 9, 10, 11] (by kernel_rfl) ?_
              refine wpK_quiet (f := 2) (by kernel_rfl) (fun _ x _ _ _ h => by cases x <;> exact h) hS [0, 1, 2, 3, 4, 5, 6, 7, 8, 9, 10, 11] _ _ (by kernel_rfl) (by kernel_rfl) (by kernel_rfl) ?_
              have ne : Nonempty (WorldIn (holdN w A c z (ad.add (q * 2)) p)) := ⟨⟨_, hS⟩⟩
              have p0 : ∀ y : WorldIn (holdN w A c z (ad.add (q * 2)) p), y.w.cell? (ad.add (q * 2)) = some (.string (str p.nm)) := fun y => y.h.2.1
              have p1 : ∀ y : WorldIn (holdN w A c z (ad.add (q * 2)) p), y.w.cell? ⟨(ad.add (q * 2)).block, (ad.add (q * 2)).off + 1, none⟩ = some (.int .i64 p.am) := fun y => y.h.2.2
              have hqn : q < n := hlt
              conv => arg 5; simp [pick]
              refine wpQuiet_row rfl _ _ rfl (w.heap.size + 1) rfl _ _ _ _ (fun y => y.h.1) Tryz.underlying34 rfl sttInfo ?_
              conv => arg 6; simp only [Act.put, List.setIfInBounds_toArray, List.set_cons_zero, List.set_cons_succ]
              iterate 10 go_big_quiet_step (fail)
              refine wpQuiet_build rfl _ _ rfl #[(0, .string (str p.nm)), (1, .int .i64 p.am)] rfl (fun y => build_acc2 p.nm p.am y) ?_
              conv => arg 6; simp only [Act.put, List.setIfInBounds_toArray, List.set_cons_zero, List.set_cons_succ]
              refine wpQuiet_nil ?_
              have hcp := refput_any A none c 0 0 z (acc0 p) wi.drew hNd.rd hzl
              refine wpK_step 12 (by kernel_rfl) rfl ?_
              go_wp2_with (go_at_call 21; refine hcp.mono ?_; rintro e w6 ⟨A2, c2, rfl, hrd2, hoff2, hb6⟩)
              have hN6 := hNd.below hb6
              refine stepQ.mk ⟨fun _ => ⟨hN6.st, (hb6.cell (L2.cell_in hS.2.1)).trans hS.2.1, (hb6.cell (p := ⟨(ad.add (q * 2)).block, (ad.add (q * 2)).off + 1, none⟩) (L2.cell_in hS.2.2)).trans hS.2.2⟩, ?_⟩
              refine wpK_seq [13] _ _ _ (by kernel_rfl) ?_
              conv => arg 4; simp [pick]
              obtain ⟨m, hm⟩ : ∃ m, m = (putA z (acc0 p)).length := ⟨_, rfl⟩
              rw [← hm]
              have HM := Lib.hid hm
              clear hm
              refine wpList_store_row rfl _ _ _ rfl (w.heap.size + 1) (mC A2 none m 0 c2 0) rfl rfl _ _ hN6.st sttInfo rfl (mC_ones _ _ _ _ _ _) ?_
              go_wp2
              have ht : Turn (fun k => k = w.heap.size + 1) w6 (w6.setRow (w.heap.size + 1) (mC A2 none m 0 c2 0)) := by
                refine ⟨rfl, rfl, rfl, by simp [World.setRow], fun i hi hn => ?_⟩
                have : ¬ w.heap.size + 1 = i := fun e => hn e.symm
                simp [World.setRow, Array.getElem?_modify, this]
              have hsz : w.heap.size + 2 ≤ wi.heap.size := by have := hN3.st.lt; omega
              have hst := blk_setRow (cs := mC A2 none m 0 c2 0) hN6.st
              have hN7 : NewAt w A2 c2 ((P ++ [p]).map acc0) (w6.setRow (w.heap.size + 1) (mC A2 none m 0 c2 0)) := by
                have hm := HM.out
                rw [HPUT2.out] at hrd2 hm
                rw [hm] at hst ht ⊢
                refine ⟨ht.blk hN6.re (by omega), hst, ?_, fun ad e => ⟨Nat.le_trans hsz (hoff2 ad e).1, Nat.lt_of_lt_of_le (hoff2 ad e).2 ht.size⟩, below_setRow hN6.bw (by omega)⟩
                exact hrd2.kept ht (fun ad e h2 => by have := (hoff2 ad e).1; have : wi.drew.heap.size = wi.heap.size := rfl; omega)
              go_roundw
              case rel => exact ⟨q + 1, A2, c2, by go_num, by omega, by rw [HP.out, HR2.out], by rw [HP.out]; exact HG2, by rw [HP.out]; exact HE, by rw [HP.out]; exact hN7⟩
              case measure => simp [intOf]; omega
            · have h2 : (r2 != 0) = true := by rw [bne_iff_ne]; exact h0
              rw [if_pos h0] at he'
              have HE := Lib.hid he'
              have H0 := Lib.hid h0
              clear he' h0 hbad hc
              go_wp2_with (first
                | (go_at_call 20; refine (hadd _).mono ?_; rintro e w5 ⟨rfl, rfl⟩)
                | (refine wpList_build rfl _ _ rfl #[] rfl (build_stt0 _) ?_)
                | (refine wpList_store_row rfl _ _ _ rfl w.heap.size (mC none none 0 0 0 0) rfl rfl _ _ hN3.re sttInfo rfl (mC_ones _ _ _ _ _ _) ?_)
                | go_in)
              (try simp only [Exit.inBlock, Exit.then])
              refine bodyPost_ret (results_row2 rfl _ _ w.heap.size rfl (.int .i64 r2) rfl _ (mC none none 0 0 0 0) _ _ (blk_setRow hN3.re) Tryz.underlying34 rfl sttInfo) rfl ?_
              exact refnew_err HE.out H0.out (below_setRow hN3.bw (Nat.le_refl _))
    · obtain rfl : k = n := by omega
      have ht : (amsL k D).take k = amsL k D := List.take_of_length_le (by rw [amsL_len]; omega)
      have hd : (amsL k D).drop k = [] := List.drop_of_length_le (by rw [amsL_len]; omega)
      rw [ht] at hN he ⊢
      have he' := he.out
      rw [hd] at he'
      have HE := Lib.hid (he'.symm.trans rfl : newE [] (amsL k D) = 0)
      obtain ⟨z, hz⟩ : ∃ z, z = (amsL k D).map acc0 := ⟨_, rfl⟩
      rw [← hz] at hN
      have HZ := Lib.hid hz
      obtain ⟨tt, htt⟩ : ∃ tt, tt = totM (amsL k D) := ⟨_, rfl⟩
      rw [← htt]
      have kst := hN.st
      clear he he' ht hd hz htt
      go_wp2_with (first
        | (refine wpList_row_at rfl _ _ rfl (w.heap.size + 1) rfl _ _ _ _ kst Tryz.underlying34 rfl sttInfo ?_)
        | (refine wpList_store_row rfl _ _ _ rfl w.heap.size (mC A none z.length 0 c 0) rfl rfl _ _ hN.re sttInfo rfl (mC_ones _ _ _ _ _ _) ?_)
        | go_in)
      (try simp only [Exit.inBlock, Exit.then])
      refine bodyPost_ret (results_row2 rfl _ _ w.heap.size rfl (.int .i64 0) rfl _ (mC A none z.length 0 c 0) _ _ (blk_setRow hN.re) Tryz.underlying34 rfl sttInfo) rfl ?_
      have hT : Turn (fun k => k = w.heap.size) wr (wr.setRow w.heap.size (mC A none z.length 0 c 0)) := by
        refine ⟨rfl, rfl, rfl, by simp [World.setRow], fun i hi hn => ?_⟩
        have : ¬ w.heap.size = i := fun e => hn e.symm
        simp [World.setRow, Array.getElem?_modify, this]
      refine ⟨A, c, z, by rw [HE.out], hN.rd.kept hT (fun ad e h2 => by have := (hN.off ad e).1; omega), fun _ => HZ.out, fun ad e => ⟨by have := (hN.off ad e).1; omega, Nat.lt_of_lt_of_le (hN.off ad e).2 hT.size⟩, below_setRow hN.bw (Nat.le_refl _)⟩
end Go.Proofs.YthkgadjiiapfgaaGreatDoor
