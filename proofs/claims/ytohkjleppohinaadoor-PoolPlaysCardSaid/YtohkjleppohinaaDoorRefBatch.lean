/-
  The document's pool: the first ones.
-/
import Derived.Test.YtohkjleppohinaaDoorRefAdd
set_option linter.unusedSimpArgs false
set_option linter.unusedVariables false
set_option maxRecDepth 10000
namespace Go.Proofs.YtohkjleppohinaaDoor
open Go.RowKit Go.Lib
open L3 (Blk Reads block_of_add add_of_add)
open L6 (Turn moreB fresh From In)

/-- What is held: the pool's block, and its list. -/
structure PbAt (w : World) (most : Int) (A : Option Addr) (c : Nat) (L : List Txx) (wr : World) : Prop where
  pl : Blk wr w.heap.size 30 (plC most A L.length c)
  rd : Rd txL 7 wr A L
  bw : Below w.heap.size w wr
theorem PbAt.below {w wr wr' : World} {most : Int} {A : Option Addr} {c : Nat} {L : List Txx} (h : PbAt w most A c L wr) (hb : Below wr.heap.size wr wr') : PbAt w most A c L wr' := ⟨h.pl.below hb h.pl.lt, h.rd.below hb, nxt h.bw hb⟩
theorem PbAt.grown {w wr wr' : World} {most : Int} {A : Option Addr} {c : Nat} {L : List Txx} (h : PbAt w most A c L wr) {row : Option Nat} (hg : wr.grownBy wr' row) (hr : ∀ g, row = some g → w.heap.size + 1 ≤ g) (hA : L.length ≠ 0 → ∀ ad, A = some ad → ad.block < w.heap.size) : PbAt w most A c L wr' := by
  have ht : Turn (fun k => w.heap.size + 1 ≤ k) wr wr' := L6.Turn.of_grown hg hr
  exact ⟨ht.blk h.pl (by omega), h.rd.kept2 ht (fun h0 ad e h2 => by have := hA h0 ad e; omega), h.bw.trans (ht.below (B := w.heap.size) (fun i hi => by omega) h.bw.size)⟩
theorem row_more {w : World} {b b' size n : Nat} {e : TypeId} {v : Value} {xs : List Value} (h : w.ownsRow b' e size v n xs) (hb : b ≤ b') : w.ownsRow b e size v n xs := by
  refine ⟨h.1, ?_⟩
  rcases h.2 with h0 | ⟨g, cap, cur, h1, h2, h3⟩
  · exact .inl h0
  · exact .inr ⟨g, cap, cur, h1, Nat.le_trans hb h2, h3⟩
theorem any_snoc {L : List Txx} {p : Txx → Bool} {k : Nat} (h : k < L.length) : (L.take (k + 1)).any p = ((L.take k).any p || p L[k]) := by
  rw [List.take_succ_eq_append_getElem h, List.any_append]
  simp
theorem same_three (y x : Txx) : (y.frm ≠ x.frm ∧ sameT y x = false) ∨ (y.frm = x.frm ∧ y.nonce = x.nonce ∧ sameT y x = true) ∨ (y.frm = x.frm ∧ y.nonce ≠ x.nonce ∧ sameT y x = false) := by
  by_cases h1 : y.frm = x.frm
  · by_cases h2 : y.nonce = x.nonce
    · exact .inr (.inl ⟨h1, h2, by simp [sameT, h1, h2]⟩)
    · exact .inr (.inr ⟨h1, h2, by simp [sameT, h2]⟩)
  · exact .inl ⟨h1, by simp [sameT, h1]⟩
set_option maxHeartbeats 4000000 in
set_option maxRecDepth 100000 in
theorem refbatch_any (most : Int) (A : Option Addr) (c : Nat) (L : List Txx) (n : Int) (B : Option Addr) (d : Nat) (Wl : List Txx) (w : World) (hl : ∀ t ∈ L, t.wf 1000) (hw : ∀ t ∈ Wl, t.wf 1000) (hr : Rd txL 7 w A L) (hs : Rd txL 7 w B Wl) (hn : L.length ≤ 1000000) (hm : Wl.length ≤ 1000000) :
    Calls Tryd.prog 13 #[.agg (plC most A L.length c), .int .i64 n, .slice B Wl.length d] w (backL (batchL n Wl L) w) := by
  obtain ⟨i0, hi, hz0, hz1, hz2⟩ := tx_parts
  have HAL := Lib.hid (rd_lt hr)
  have HL := Lib.hid hl
  have HHAS := Lib.hid (fun W x (hb : Below w.heap.size w W) (hx : x.wf 1000) => refhas_any B d Wl x W hw hx (hs.below hb) hm)
  obtain ⟨z, hz⟩ : ∃ z, z = Wl.length := ⟨_, rfl⟩
  rw [← hz] at HHAS ⊢
  have hP : PbAt w most A c L (w.alloc (.cells (plC most A L.length c) 30)) := by
    have hb : Below w.heap.size w (w.alloc (.cells (plC most A L.length c) 30)) := (Below.refl _ _).alloc (Nat.le_refl _) _
    exact ⟨Blk.new _ _ _, hr.below hb, hb⟩
  obtain ⟨m, hm2⟩ : ∃ m, m = L.length := ⟨_, rfl⟩
  rw [← hm2] at hn hP ⊢
  have HM := Lib.hid hm2
  obtain ⟨W0, hW0⟩ : ∃ W0, W0 = w.alloc (.cells (plC most A m c) 30) := ⟨_, rfl⟩
  have hs0 : W0.heap.size = w.heap.size + 1 := by rw [hW0]; simp
  rw [← hW0] at hP
  have hE := hW0.symm
  have HS0 := Lib.hid hs0
  clear hz hm2 hW0 hs0 hr hs hl hw hm
  go_enter Tryd.func13, Tryd.ntmps13
  go_upto_region 1 with fail
  clear hE
  go_wp2
  go_loopw [7, 8] (fun l i wr => ∃ k : Nat, i = .int .i64 k ∧ k ≤ m ∧ wr.ownsRow (w.heap.size + 1) 35 7 l (batchL n Wl (L.take k)).length ((batchL n Wl (L.take k)).flatMap txL) ∧ PbAt w most A c L wr ∧ w.heap.size + 1 ≤ wr.heap.size) (fun _ i _ => m - (RowKit.intOf i).toNat)
  case atStart => exact ⟨0, rfl, Nat.zero_le _, ⟨by simp [batchL, batA], .inl ⟨rfl, by simp [batchL, batA]⟩⟩, hP, by have := HS0.out; omega⟩
  case round =>
    obtain ⟨k, rfl, hk, hrow, hPr, hsz⟩ := hrel
    obtain ⟨wo, hwo⟩ : ∃ wo, wo = wr := ⟨_, rfl⟩
    subst hwo
    have c1 : wo.cell? ⟨w.heap.size, 1, none⟩ = some (.slice A L.length c) := hPr.pl.cell 1
    rw [← HM.out] at c1
    obtain ⟨out, hout⟩ : ∃ out, out = batchL n Wl (L.take k) := ⟨_, rfl⟩
    have hol : out.length ≤ 1000000 := by have := batch_le n Wl (L.take k); rw [List.length_take] at this; rw [hout]; omega
    have hbf := batch_full (n := n) (W := Wl) (L := L) (k := k)
    rw [← hout] at hrow hbf
    obtain ⟨O, co, rfl, hrdo, hOb⟩ := Rd.of_row (f := txL) (k := 7) (fun _ => rfl) hrow
    obtain ⟨ol, hole⟩ : ∃ ol, ol = out.length := ⟨_, rfl⟩
    rw [← hole] at hrow hol hbf ⊢
    have HOL := Lib.hid hole
    have HOUT := Lib.hid hout
    have HBF := Lib.hid hbf
    have hbwo := hPr.bw
    clear hole hout hbf hOb
    by_cases hlt : k < m
    · by_cases hfull : n ≤ (ol : Int)
      · have g1 : ¬ (ol : Int) < n := by omega
        have HE := Lib.hid (HBF.out hfull)
        clear hfull hPr
        go_wp2
        go_ret
        rw [HE.out]
        rw [HOL.out] at hrow ⊢
        exact backL.of (row_more hrow (Nat.le_succ _)) hbwo
      · have g1 : (ol : Int) < n := by omega
        have hkL : k < L.length := by have := HM.out; omega
        obtain ⟨ad, rfl, hadl, hcs⟩ := hPr.rd k hkL
        have hx := HL.out _ (List.getElem_mem hkL)
        have hsn := batch_snoc (n := n) (W := Wl) hkL
        obtain ⟨x, hxe⟩ : ∃ x, x = L[k] := ⟨_, rfl⟩
        rw [← hxe] at hcs hx hsn
        rw [← HOUT.out] at hsn
        have hcs1 : ∀ j u, (txL x)[j]? = some u → wo.cell? ((ad.add (k * 7)).add j) = some u := hcs
        have HSN := Lib.hid hsn
        have HH := Lib.hid (HHAS.out wo x hPr.bw hx)
        have HXL := Lib.hid (show 7 * k + 7 ≤ 7 * L.length by omega)
        clear hxe hsn hcs hx hkL hfull
        go_upto_region 6 with (first
          | (refine wpList_cells_at rfl _ _ rfl (ad.add (k * 7)) rfl (txL x) _ hcs1 Tryd.underlying35 rfl txInfo ?_)
          | (go_at_call 20; refine HH.out.mono ?_; unfold gives; rintro e w2 ⟨rfl, hb2⟩)
          | go_in)
        obtain ⟨b0, hb0⟩ : ∃ b0, b0 = hasX Wl x := ⟨_, rfl⟩
        rw [← hb0]
        have HB0 := Lib.hid hb0
        have hP2 := hPr.below hb2
        have hr2 := row_below hrow hb2
        have hrd2 := hrdo.below (hb2)
        have hs2 := Nat.le_trans hsz hb2.size
        have hcs2 : ∀ j u, (txL x)[j]? = some u → w2.cell? ((ad.add (k * 7)).add j) = some u := fun j u hj => (hb2.cell (p := (ad.add (k * 7)).add j) (L2.cell_in (hcs1 j u hj))).trans (hcs1 j u hj)
        have HP2 := Lib.hid hP2
        have HR2 := Lib.hid hr2
        have HD2 := Lib.hid hrd2
        have HC2 := Lib.hid hcs2
        clear hb0 hPr hrow hrdo hsz hcs1 c1 hb2 hP2 hr2 hrd2 hcs2 HH hbwo
        go_wp2
        go_loopw [9, 10] (fun s9 s10 wi => ∃ (q : Nat) (b : Bool), s10 = .int .i64 q ∧ q ≤ ol ∧ s9 = .bool b ∧ Hid (b = (b0 || (out.take q).any (fun y => sameT y x))) ∧ Below w2.heap.size w2 wi) (fun _ s10 _ => ol - (RowKit.intOf s10).toNat)
        case atStart => exact ⟨0, b0, rfl, Nat.zero_le _, rfl, Lib.hid (by simp), Below.refl _ _⟩
        case round =>
          obtain ⟨q, b, rfl, hq, rfl, hb, hbi⟩ := hrel
          by_cases hql : q < ol
          · have hqL : q < out.length := by have := HOL.out; omega
            obtain ⟨ae, rfl, _, hes⟩ := (HD2.out.below hbi) q hqL
            have hpi := HP2.out.below hbi
            have hsn := any_snoc (p := fun y => sameT y x) hqL
            obtain ⟨y, hye⟩ : ∃ y, y = out[q] := ⟨_, rfl⟩
            rw [← hye] at hes hsn
            have hsn' : (b0 || (out.take (q + 1)).any (fun y => sameT y x)) = (b || sameT y x) := by rw [hsn, ← Bool.or_assoc, ← hb.out]
            have c1 : wr.cell? ⟨w.heap.size, 1, none⟩ = some (.slice (some ad) L.length c) := hpi.pl.cell 1
            rw [← HM.out] at c1
            have r1 : wr.cell? ⟨(ae.add (q * 7)).block, (ae.add (q * 7)).off + 1, none⟩ = some (.string (str y.frm)) := by have := hes 1 _ rfl; rwa [add_pos _ _ (by decide)] at this
            have r6 : wr.cell? ⟨(ae.add (q * 7)).block, (ae.add (q * 7)).off + 6, none⟩ = some (.int .i64 y.nonce) := by have := hes 6 _ rfl; rwa [add_pos _ _ (by decide)] at this
            have x1 : wr.cell? ⟨(ad.add (k * 7)).block, (ad.add (k * 7)).off + 1, none⟩ = some (.string (str x.frm)) := by
              have := HC2.out 1 _ rfl
              have := (hbi.cell (p := (ad.add (k * 7)).add 1) (L2.cell_in this)).trans this
              rwa [add_pos _ _ (by decide)] at this
            have x6 : wr.cell? ⟨(ad.add (k * 7)).block, (ad.add (k * 7)).off + 6, none⟩ = some (.int .i64 x.nonce) := by
              have := HC2.out 6 _ rfl
              have := (hbi.cell (p := (ad.add (k * 7)).add 6) (L2.cell_in this)).trans this
              rwa [add_pos _ _ (by decide)] at this
            have HS := Lib.hid hsn'
            clear hes hpi hsn hsn' hye hqL
            cases b with
            | true =>
              go_upto_region 9 with fail
              go_quiet (fail)
              go_wp2
              go_roundw
              case rel => exact ⟨q + 1, true, by go_num, by omega, rfl, Lib.hid (by rw [HS.out]; rfl), L6.below_drewN hbi _⟩
              case measure => simp [RowKit.intOf]; omega
            | false =>
              rcases same_three y x with ⟨h1, h3⟩ | ⟨h1, h2, h3⟩ | ⟨h1, h2, h3⟩
              · have e1 := str_ne h1
                have HE := Lib.hid (HS.out.trans (by rw [h3]))
                clear h1 h3
                go_upto_region 9 with fail
                go_quiet (fail)
                go_wp2
                go_roundw
                case rel => exact ⟨q + 1, false, by go_num, by omega, rfl, Lib.hid (by rw [HE.out]; rfl), L6.below_drewN hbi _⟩
                case measure => simp [RowKit.intOf]; omega
              · have e1 := str_eq h1
                have e2 : (y.nonce == x.nonce) = true := by simpa using h2
                have HE := Lib.hid (HS.out.trans (by rw [h3]))
                clear h1 h2 h3
                go_upto_region 9 with fail
                go_quiet (fail)
                go_wp2
                go_roundw
                case rel => exact ⟨q + 1, true, by go_num, by omega, rfl, Lib.hid (by rw [HE.out]; rfl), L6.below_drewN hbi _⟩
                case measure => simp [RowKit.intOf]; omega
              · have e1 := str_eq h1
                have e2 : (y.nonce == x.nonce) = false := by simpa using h2
                have HE := Lib.hid (HS.out.trans (by rw [h3]))
                clear h1 h2 h3
                go_upto_region 9 with fail
                go_quiet (fail)
                go_wp2
                go_roundw
                case rel => exact ⟨q + 1, false, by go_num, by omega, rfl, Lib.hid (by rw [HE.out]; rfl), L6.below_drewN hbi _⟩
                case measure => simp [RowKit.intOf]; omega
          · obtain rfl : q = ol := by omega
            have HBF2 : Hid (b = (b0 || out.any (fun y => sameT y x))) := Lib.hid (by have := hb.out; rwa [List.take_of_length_le (by rw [← HOL.out]; exact Nat.le_refl _)] at this)
            have hpi := HP2.out.below hbi
            have hri := row_below HR2.out hbi
            have hsi := Nat.le_trans hs2 hbi.size
            have c1 : wr.cell? ⟨w.heap.size, 1, none⟩ = some (.slice (some ad) L.length c) := hpi.pl.cell 1
            rw [← HM.out] at c1
            have hcsi : ∀ j u, (txL x)[j]? = some u → wr.cell? ((ad.add (k * 7)).add j) = some u := fun j u hj => (hbi.cell (p := (ad.add (k * 7)).add j) (L2.cell_in (HC2.out j u hj))).trans (HC2.out j u hj)
            obtain ⟨wn, hwn⟩ : ∃ wn, wn = wr := ⟨_, rfl⟩
            subst hwn
            cases b with
            | true =>
              have HE := Lib.hid (HSN.out.trans (takes_not (by
                have := HBF2.out.symm
                rw [HB0.out, Bool.or_eq_true] at this
                exact this)))
              clear hcsi
              go_wp2
              go_roundw
              case rel => exact ⟨k + 1, by go_num, by omega, by rw [HE.out, ← HOL.out]; exact hri, hpi, hsi⟩
              case measure => simp [RowKit.intOf]; omega
            | false =>
              have HE := Lib.hid (HSN.out.trans (takes_yes (by rw [← HOL.out]; exact g1) (by
                have := HBF2.out.symm
                rw [HB0.out, Bool.or_eq_false_iff] at this
                exact this.1) (by
                have := HBF2.out.symm
                rw [Bool.or_eq_false_iff] at this
                exact this.2)))
              have hyb : Blk (wn.alloc (.cells (txC x) 35)) wn.heap.size 35 (txC x) := Blk.new _ _ _
              have hp3 := hpi.below (below_box 35 x)
              go_upto_region 11 with fail
              go_wp2_with (first
                | (refine wpList_cells_at rfl _ _ rfl (ad.add (k * 7)) rfl (txL x) _ hcsi Tryd.underlying35 rfl txInfo ?_)
                | (refine wpList_buildSlice rfl _ _ _ rfl #[(0, .agg (txC x))] rfl (slice_tx x _) ?_)
                | (at_builtin; refine L3.wpList_append_any _ rfl (.tmp 68) (.tmp 74) 28 rfl (w.heap.size + 1) 35 i0 _ 7 88 Tryd.underlying28 hi hz0 hz1 hz2 rfl (by decide) (.slice O q co) q (out.flatMap txL) rfl (hri.alloc _) (wn.heap.size + 1) (some ⟨wn.heap.size, 0, none⟩) 1 1 (txL x) rfl (reads_one (k := 7) rfl hyb) (one_txL x) (by unfold maxLen; omega) (by omega) (by simp; omega) ?_
                   intro v3 w3 hr3 hg3 hat3
                   have hp4 := hp3.grown hg3 (fun i e => (hri.lt i e).1) HAL.out
                   have hs3 := hg3.size)
                | go_in)
              go_roundw
              case rel => exact ⟨k + 1, by go_num, by omega, by rw [HE.out, List.length_append, List.flatMap_append, ← HOL.out]; simpa using hr3, hp4, by simp at hs3; omega⟩
              case measure => simp [RowKit.intOf]; omega
    · obtain rfl : k = m := by omega
      have HT : Hid (L.take k = L) := Lib.hid (by rw [HM.out, List.take_length])
      clear hPr
      go_wp2
      go_ret
      have h1 := HOUT.out
      rw [HT.out] at h1
      rw [← h1]
      rw [HOL.out] at hrow ⊢
      exact backL.of (row_more hrow (Nat.le_succ _)) hbwo
end Go.Proofs.YtohkjleppohinaaDoor
