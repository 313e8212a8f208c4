/-
  What any transactions do, one behind the other, is the document's: the walk.
-/
import Derived.Test.YthkgadjiiapfgaaGreatDoorShows
import Derived.Test.YthkgadjiiapfgaaGreatDoorRefNew
set_option linter.unusedSimpArgs false
set_option linter.unusedVariables false
set_option maxRecDepth 10000
namespace Go.Proofs.YthkgadjiiapfgaaGreatDoor
open Go.RowKit Go.Maps Go.Lib
open L2 (less nums chk vlu)
open L3 (Blk)
open L6 (Turn moreB fresh From In)

/-- What reads meet while the document's transaction is done. -/
structure holdD (wr : World) (gm : Nat) (m : Array Value) (p : Addr) (t : Txx) (X : World) : Prop where
  blk : Blk X gm 34 m
  tx : ∀ j u, (txL t)[j]? = some u → X.cell? (p.add j) = some u
  bw : Below wr.heap.size wr X
theorem holdD.below {wr : World} {gm : Nat} {m : Array Value} {p : Addr} {t : Txx} {X X' : World} (h : holdD wr gm m p t X) (hb : Below X.heap.size X X') : holdD wr gm m p t X' :=
  ⟨h.blk.below hb h.blk.lt, fun j u hj => (hb.cell (p := p.add j) (L2.cell_in (h.tx j u hj))).trans (h.tx j u hj), nxt h.bw hb⟩
theorem holdD.row {wr : World} {gm : Nat} {m : Array Value} {p : Addr} {t : Txx} {X : World} (h : holdD wr gm m p t X) (g : Nat) (cs : Array Value) (hg : wr.heap.size ≤ g) (hm : gm < wr.heap.size) (hp : p.block < wr.heap.size) : holdD wr gm m p t (X.setRow g cs) :=
  ⟨(turn_row X g cs).blk h.blk (by omega), fun j u hj => (turn_row X g cs).cell (h.tx j u hj) (by rw [L3.block_of_add]; omega), below_setRow h.bw hg⟩
/-- What stands while transactions are done. -/
structure DoesAt (w : World) (g gm n0 k : Nat) (S : Nat → Prop) (s : Stt) (A V : Option Addr) (ca cv : Nat) (wr : World) : Prop where
  st : Sx wr S g s (n0 + 4 * k)
  inn : In wr S
  frm : From w.heap.size S
  blk : Blk wr gm 34 (mC A V s.A.length s.V.length ca cv)
  ngm : ¬ S gm
  geg : w.heap.size ≤ gm
  rd : Rm wr A V s
  offA : ∀ ad, A = some ad → ¬ S ad.block ∧ ad.block < wr.heap.size ∧ ad.block ≠ gm
  offV : ∀ ad, V = some ad → ¬ S ad.block ∧ ad.block < wr.heap.size ∧ ad.block ≠ gm
  sm : Small s (n0 + 2 * k) k
  bw : Below w.heap.size w wr
/-- What stands when the document's answer is there. -/
structure MidAt (wr wB : World) (gm gn : Nat) (m : Array Value) (p : Addr) (t : Txx) (s : Stt) (A V A' V' : Option Addr) (ca cv : Nat) (wD : World) : Prop where
  hd : holdD wr gm m p t wD
  cp : Below wB.heap.size wB wD
  kn : Blk wD gn 34 (mC A' V' s.A.length s.V.length ca cv)
  ge : wr.heap.size ≤ gn
  rd : Rm wD A' V' s
  offA : ∀ ad, A' = some ad → A = some ad ∨ (wr.heap.size ≤ ad.block ∧ ad.block < wD.heap.size)
  offV : ∀ ad, V' = some ad → V = some ad ∨ (wr.heap.size ≤ ad.block ∧ ad.block < wD.heap.size)
section
variable {wr wB w3 wC : World} {gm : Nat} {m : Array Value} {p : Addr} {t : Txx} {s : Stt} {A V A' V' : Option Addr} {ca cv : Nat}
/-- The answer's box is laid behind the call. -/
theorem mid_a (hS : holdD wr gm m p t w3) (hw : Below wB.heap.size wB w3) (hb : Below w3.heap.size w3 wC) (hr : Rm wC A' V' s)
    (hA : ∀ ad, A' = some ad → A = some ad ∨ (w3.heap.size ≤ ad.block ∧ ad.block < wC.heap.size)) (hV : ∀ ad, V' = some ad → V = some ad ∨ (w3.heap.size ≤ ad.block ∧ ad.block < wC.heap.size)) :
    MidAt wr wB gm wC.heap.size m p t s A V A' V' ca cv (wC.alloc (.cells (mC A' V' s.A.length s.V.length ca cv) 34)) := by
  have hl : Below wC.heap.size wC (wC.alloc (.cells (mC A' V' s.A.length s.V.length ca cv) 34)) := (Below.refl _ _).alloc (Nat.le_refl _) _
  have h3 := hS.bw.size
  have h4 := hb.size
  have h5 := hl.size
  exact ⟨(hS.below hb).below hl, nxt (nxt hw hb) hl, Blk.new _ _ _, by omega, ⟨hr.1.below hl, hr.2.below hl⟩,
    fun ad e => (hA ad e).imp id fun h => ⟨by omega, by omega⟩, fun ad e => (hV ad e).imp id fun h => ⟨by omega, by omega⟩⟩
/-- The answer's box is laid ahead of the call. -/
theorem mid_b {old : Array Value} (hS : holdD wr gm m p t w3) (hw : Below wB.heap.size wB w3) (hb : Below (w3.alloc (.cells old 34)).heap.size (w3.alloc (.cells old 34)) wC) (hr : Rm wC A' V' s)
    (hm : gm < wr.heap.size) (hp : p.block < wr.heap.size) (hoA : ∀ ad, A = some ad → ad.block < wr.heap.size) (hoV : ∀ ad, V = some ad → ad.block < wr.heap.size)
    (hA : ∀ ad, A' = some ad → A = some ad ∨ ((w3.alloc (.cells old 34)).heap.size ≤ ad.block ∧ ad.block < wC.heap.size)) (hV : ∀ ad, V' = some ad → V = some ad ∨ ((w3.alloc (.cells old 34)).heap.size ≤ ad.block ∧ ad.block < wC.heap.size)) :
    MidAt wr wB gm w3.heap.size m p t s A V A' V' ca cv (wC.setRow w3.heap.size (mC A' V' s.A.length s.V.length ca cv)) := by
  have hl : Below w3.heap.size w3 (w3.alloc (.cells old 34)) := (Below.refl _ _).alloc (Nat.le_refl _) _
  have hz : (w3.alloc (.cells old 34)).heap.size = w3.heap.size + 1 := by simp
  have hk : Blk (w3.alloc (.cells old 34)) w3.heap.size 34 old := Blk.new _ _ _
  have h3 := hS.bw.size
  have h2 := hw.size
  have h4 := hb.size
  have ht := turn_row wC w3.heap.size (mC A' V' s.A.length s.V.length ca cv)
  have h5 := ht.size
  refine ⟨((hS.below hl).below hb).row _ _ (by omega) hm hp, below_setRow (nxt (nxt hw hl) hb) (by omega), blk_setRow (hk.below hb hk.lt), by omega, ⟨hr.1.kept ht ?_, hr.2.kept ht ?_⟩,
    fun ad e => (hA ad e).imp id fun h => ⟨by omega, by omega⟩, fun ad e => (hV ad e).imp id fun h => ⟨by omega, by omega⟩⟩
  · intro ad e h
    rcases hA ad e with e1 | ⟨e1, _⟩
    · have := hoA ad e1; omega
    · omega
  · intro ad e h
    rcases hV ad e with e1 | ⟨e1, _⟩
    · have := hoV ad e1; omega
    · omega
end
/-- Where the document's lists lie behind one more transaction. -/
theorem off_next {S : Nat → Prop} {wr wD : World} {A A' : Option Addr} {gm : Nat} (hi : In wr S) (hg : gm < wr.heap.size) (hr : wr.heap.size ≤ wD.heap.size)
    (hA : ∀ ad, A = some ad → ¬ S ad.block ∧ ad.block < wr.heap.size ∧ ad.block ≠ gm) (hA' : ∀ ad, A' = some ad → A = some ad ∨ (wr.heap.size ≤ ad.block ∧ ad.block < wD.heap.size)) :
    ∀ ad, A' = some ad → (∀ wE : World, ¬ moreB S wD wE ad.block) ∧ ad.block < wD.heap.size ∧ ad.block ≠ gm := fun ad e => by
  rcases hA' ad e with e1 | ⟨e1, e2⟩
  · obtain ⟨h1, h2, h3⟩ := hA ad e1
    exact ⟨fun wE h => h.elim h1 (fun h => by have := h.1; omega), by omega, h3⟩
  · exact ⟨fun wE h => h.elim (fun h => by have := hi _ h; omega) (fun h => by have := h.1; omega), e2, by omega⟩
theorem Small.le {s : Stt} {a v a' v' : Nat} (h : Small s a v) (ha : a ≤ a') (hv : v ≤ v') : Small s a' v' := ⟨Nat.le_trans h.la ha, Nat.le_trans h.lv hv, h.nm, h.vl⟩

set_option maxHeartbeats 4000000 in
set_option maxRecDepth 100000 in
theorem does_any (A0 : Option Addr) (n0 c0 : Nat) (D0 : Nat → Am) (A1 : Option Addr) (n1 c1 : Nat) (D1 : Nat → Txx) (w : World) (h0 : Ams w A0 n0 D0) (hn0 : n0 ≤ maxLen) (h1 : Txs w A1 n1 D1) (hn1 : n1 ≤ maxLen) (hT : Tabs w) :
    Calls Tryz.prog 3 #[.slice A0 n0 c0, .slice A1 n1 c1] w (gives (.bool true) w) := by
  have HA := Lib.hid (alive_any w hT)
  have HT := Lib.hid (fun w' (hb : Below w.heap.size w w') => hT.kept hb)
  clear hT
  have hga := fun W (hb : Below w.heap.size w W) => refgreat_any A0 n0 c0 D0 W (h0.below hb) hn0
  have hgx := fun W (hb : Below w.heap.size w W) => greatX_any A1 n1 c1 D1 W (h1.below hb) hn1
  rcases Bool.eq_false_or_eq_true (greatA n0 D0) with ha | ha
  · rw [ha] at hga
    have HGA := Lib.hid hga
    clear hga hgx ha
    go_enter Tryz.func3, Tryz.ntmps3
    go_wp2_with (first
      | (go_at_call 4; refine HA.out.mono ?_; unfold gives; rintro e w1 ⟨rfl, hb1⟩)
      | (go_at_call 5; refine (HGA.out _ hb1).mono ?_; unfold gives; rintro e w2 ⟨rfl, hb2⟩)
      | go_in)
    go_ret
    exact ⟨rfl, nxt hb1 hb2⟩
  rw [ha] at hga
  have HGA := Lib.hid hga
  rcases Bool.eq_false_or_eq_true (greatX n1 D1) with hx | hx
  · rw [hx] at hgx
    have HGX := Lib.hid hgx
    clear hga hgx ha hx
    go_enter Tryz.func3, Tryz.ntmps3
    go_wp2_with (first
      | (go_at_call 4; refine HA.out.mono ?_; unfold gives; rintro e w1 ⟨rfl, hb1⟩)
      | (go_at_call 5; refine (HGA.out _ hb1).mono ?_; unfold gives; rintro e w2 ⟨rfl, hb2⟩; have hb3 := nxt hb1 hb2)
      | (go_at_call 6; refine (HGX.out _ hb3).mono ?_; unfold gives; rintro e w4 ⟨rfl, hb4⟩)
      | go_in)
    go_ret
    exact ⟨rfl, nxt hb3 hb4⟩
  rw [hx] at hgx
  have HGX := Lib.hid hgx
  obtain ⟨hl0, hnm⟩ := greatA_not ha
  obtain ⟨hl1, hgr⟩ := greatX_not hx
  clear hga hgx ha hx
  have HW : Hid (∀ k, k < n1 → (D1 k).wf 1000) := Lib.hid (fun k hk => by obtain ⟨_, _, _, _, hwf0⟩ := h1 k hk; exact great_wf hwf0 (hgr k hk))
  have hrn := fun W (hb : Below w.heap.size w W) => refnew_any A0 n0 c0 D0 W (h0.below hb) hl0 hnm
  by_cases hq : newE [] (amsL n0 D0) = 0
  · have HN := Lib.hid (fun W (hb : Below w.heap.size w W) => new_ok A0 n0 c0 D0 W (h0.below hb) hn0 hq)
    obtain ⟨σ0, hσ0⟩ : ∃ σ0, σ0 = (⟨(amsL n0 D0).map acc0, []⟩ : Stt) := ⟨_, rfl⟩
    have HRE : Hid (∀ W, Below w.heap.size w W → Calls Tryz.prog 8 #[.slice A0 n0 c0] W fun e w' => ∃ A c, e = .returned (.tuple #[.agg (mC A none σ0.A.length 0 c 0), .int .i64 0]) ∧ Rd accL 3 w' A σ0.A ∧ (∀ ad, A = some ad → W.heap.size ≤ ad.block ∧ ad.block < w'.heap.size) ∧ Below W.heap.size W w') := Lib.hid (fun W hb => (hrn W hb).mono fun e w' ⟨A, c, y, he, hrd, hy, hof, hb'⟩ => by
      have hy' : y = σ0.A := by rw [hy hq, hσ0]
      subst hy'
      exact ⟨A, c, by rw [he, hq], hrd, hof, hb'⟩)
    have hv0 : σ0.V = [] := by rw [hσ0]
    have hsm0 : Small σ0 n0 0 := by
      rw [hσ0]
      refine ⟨by simp [amsL], by simp, fun x hx => ?_, fun x hx => by simp at hx⟩
      obtain ⟨y, hy, rfl⟩ := List.mem_map.1 hx
      obtain ⟨i, hi, rfl⟩ := List.mem_map.1 hy
      exact hnm i (List.mem_range.1 hi)
    rw [← hσ0] at HN
    clear hσ0 hrn hq
    go_enter Tryz.func3, Tryz.ntmps3
    go_wp2_with (first
      | (go_at_call 4; refine HA.out.mono ?_; unfold gives; rintro e w1 ⟨rfl, hb1⟩)
      | (go_at_call 5; refine (HGA.out _ hb1).mono ?_; unfold gives; rintro e w2 ⟨rfl, hb2⟩; have hb3 := nxt hb1 hb2)
      | (go_at_call 6; refine (HGX.out _ hb3).mono ?_; unfold gives; rintro e w4 ⟨rfl, hb4⟩; have hb5 := nxt hb3 hb4)
      | (go_at_call 7; refine (HN.out _ hb5).mono ?_; rintro e w6 ⟨g, rfl, hs6, hb6⟩; have hb7 := nxt hb5 hb6
         have hi6 : In w6 (fresh w4 w6) := In.fresh _ _)
      | (go_at_call 8; refine (HRE.out _ hb7).mono ?_; rintro e w8 ⟨A, c, rfl, hrd8, hof8, hb8⟩; have hb9 := nxt hb7 hb8)
      | (refine wpList_store_new rfl _ _ _ rfl _ (mC A none σ0.A.length 0 c 0) rfl rfl _ _ sttInfo rfl (mC_ones _ _ _ _ _ _) ?_)
      | go_in)
    have hD0 : DoesAt w g w8.heap.size n0 0 (fresh w4 w6) σ0 A none c 0 (w8.alloc (.cells (mC A none σ0.A.length 0 c 0) 34)) := by
      have hl : Below w8.heap.size w8 (w8.alloc (.cells (mC A none σ0.A.length 0 c 0) 34)) := (Below.refl _ _).alloc (Nat.le_refl _) _
      have e0 : σ0.V.length = 0 := by rw [hv0]; rfl
      have h5 := hl.size
      have h8 := hb8.size
      refine ⟨((hs6.below hb8).below hl).le (by omega), hi6.le (by omega), fun k hk => Nat.le_trans hb5.size hk.1, by rw [e0]; exact Blk.new _ _ _, fun h => by have := h.2; omega, hb9.size, ⟨hrd8.below hl, by rw [hv0]; exact Rd.nil⟩,
        fun ad e => ⟨fun h => ?_, ?_, ?_⟩, fun ad e => (by cases e), hsm0, nxt hb9 hl⟩
      · have := h.2; have := (hof8 ad e).1; omega
      · have := (hof8 ad e).2; omega
      · have := (hof8 ad e).2; omega
    obtain ⟨wA, hwA⟩ : ∃ wA, wA = w8.alloc (.cells (mC A none σ0.A.length 0 c 0) 34) := ⟨_, rfl⟩
    obtain ⟨gm, hgm⟩ : ∃ gm, gm = w8.heap.size := ⟨_, rfl⟩
    rw [← hwA] at hD0 ⊢
    rw [← hgm] at hD0 ⊢
    clear hwA hgm hrd8 hof8 hb8 hb9 hs6 hi6 hb6 hb7 hb5 hb4 hb3 hb2 hb1 hv0 hsm0 HN HRE HA HGA HGX hnm hgr
    have HT2 := Lib.hid h1
    go_loopw [9] (fun i wr => ∃ (k : Nat) (S : Nat → Prop) (σ : Stt) (A V : Option Addr) (ca cv : Nat), i = .int .i64 k ∧ k ≤ n1 ∧ DoesAt w g gm n0 k S σ A V ca cv wr) (fun i _ => n1 - (intOf i).toNat)
    case atStart => exact ⟨0, _, σ0, A, none, c, 0, rfl, Nat.zero_le _, hD0⟩
    case round =>
      clear hD0
      obtain ⟨k, S, σ, A, V, ca, cv, rfl, hk, hR⟩ := hrel
      by_cases hlt : k < n1
      · obtain ⟨ad, rfl, hadl, hcs, hwf0⟩ := (h1.below hR.bw) k hlt
        have hwf := HW.out k hlt
        obtain ⟨t, ht⟩ : ∃ t, t = D1 k := ⟨_, rfl⟩
        rw [← ht] at hcs hwf
        clear ht hwf0
        have hwf6 := hwf.le (show 1000 ≤ 1000000 by omega)
        have hla := hR.sm.la
        have hlv := hR.sm.lv
        obtain ⟨q, hq⟩ : ∃ q, q = doE σ t := ⟨_, rfl⟩
        obtain ⟨σ1, hσ1⟩ : ∃ σ1, σ1 = doS σ t := ⟨_, rfl⟩
        have HE := Lib.hid hq
        have HZ := Lib.hid hσ1
        have hsm1 : Small σ1 (n0 + 2 * (k + 1)) (k + 1) := by rw [hσ1]; exact (hR.sm.done t hwf.2.1 hwf.2.2.1 hwf.2.2.2.1 hwf.2.2.2.2.1).le (by omega) (by omega)
        have hdo := fun W (hb : Below wr.heap.size wr W) => refdo_any A V ca cv σ t W ⟨hR.rd.1.below hb, hR.rd.2.below hb⟩ hR.st.2 hwf6 (by omega) (by omega)
        unfold refdoPost at hdo
        rw [← hq, ← hσ1] at hdo
        have HDO := Lib.hid hdo
        clear hdo hq hσ1
        have hpb : (ad.add (k * 7)).block < wr.heap.size := by rw [L3.block_of_add]; exact hadl
        have hmg : gm < wr.heap.size := hR.blk.lt
        go_upto_region 13 with (first
          | (go_at_call 9; refine (copy_any hR.st).mono ?_; rintro e wB ⟨c2, rfl, hcB, hbB⟩)
          | go_in)
        have hS : holdD wr gm (mC A V σ.A.length σ.V.length ca cv) (ad.add (k * 7)) t wB.drew := ⟨(hR.blk.below hbB hmg).drew, fun j u hj => (hbB.cell (p := (ad.add (k * 7)).add j) (L2.cell_in (hcs j u hj))).trans (hcs j u hj), hbB.drew⟩
        have hwB : Below wB.heap.size wB wB.drew := (Below.refl _ _).drew
        refine wp_region_K (holdD wr gm (mC A V σ.A.length σ.V.length ca cv) (ad.add (k * 7)) t) [0, 1, 2, 3, 4, 6, 7, 8] (by kernel_rfl) ?_
        refine wpK_quiet (f := 7) (by kernel_rfl) (fun _ x _ _ _ h => by cases x <;> exact h) hS [0, 1, 2, 3, 4] _ _ (by kernel_rfl) (by kernel_rfl) (by kernel_rfl) ?_
        have ne : Nonempty (WorldIn (holdD wr gm (mC A V σ.A.length σ.V.length ca cv) (ad.add (k * 7)) t)) := ⟨⟨_, hS⟩⟩
        conv => arg 5; simp [pick]
        refine wpQuiet_row rfl _ _ rfl gm rfl _ _ _ _ (fun y => y.h.1) Tryz.underlying34 rfl sttInfo ?_
        conv => arg 6; simp only [Act.put, List.setIfInBounds_toArray, List.set_cons_zero, List.set_cons_succ]
        iterate 3 go_big_quiet_step (fail)
        refine wpQuiet_cells rfl _ _ rfl (ad.add (k * 7)) rfl (txL t) _ (fun y => y.h.2) Tryz.underlying40 rfl txInfo ?_
        conv => arg 6; simp only [Act.put, List.setIfInBounds_toArray, List.set_cons_zero, List.set_cons_succ]
        refine wpQuiet_nil ?_
        obtain ⟨w3, hw3⟩ : ∃ w3, w3 = wB.drew := ⟨_, rfl⟩
        rw [← hw3] at hS hwB ⊢
        clear hw3
        have hC := fun W (hb : Below w3.heap.size w3 W) => HDO.out W (nxt hS.bw hb)
        have HDO3 := Lib.hid hC
        clear hC
        refine wpK_two 5 9 (by kernel_rfl) rfl rfl ?_ ?_
        · go_wp2_with (go_at_call 10; refine (HDO3.out _ (Below.refl _ _)).mono ?_; rintro e wC ⟨A', V', ca', cv', rfl, hrC, hoA, hoV, hbC⟩)
          have hSC := hS.below hbC
          refine stepQ.mk ⟨fun _ => hSC, ?_⟩
          refine wpK_quiet (f := 3) (by kernel_rfl) (fun _ x _ _ _ h => by cases x <;> exact h) hSC [6, 7, 8] _ _ (by kernel_rfl) (by kernel_rfl) (by kernel_rfl) ?_
          conv => arg 5; simp [pick]
          iterate 3 go_big_quiet_step (fail)
          refine wpQuiet_nil ?_
          refine wpK_step 9 (by kernel_rfl) rfl ?_
          go_wp2
          refine stepQ.mk ⟨fun _ => hSC.below ((Below.refl _ _).alloc (Nat.le_refl _) _), ?_⟩
          refine wpK_step 10 (by kernel_rfl) rfl ?_
          refine wpList_store_new rfl _ _ _ rfl wC (mC A' V' σ1.A.length σ1.V.length ca' cv') rfl rfl _ _ sttInfo rfl (mC_ones _ _ _ _ _ _) ?_
          go_wp2
          refine stepQ.mk ⟨fun _ => hSC.below ((Below.refl _ _).alloc (Nat.le_refl _) _), ?_⟩
          refine wpK_seq [11] _ _ _ (by kernel_rfl) ?_
          conv => arg 4; simp [pick]
          go_upto_region 14 with (fail)
          (try simp only [Act.put])
          have hM : MidAt wr wB gm wC.heap.size (mC A V σ.A.length σ.V.length ca cv) (ad.add (k * 7)) t σ1 A V A' V' ca' cv' (wC.alloc (.cells (mC A' V' σ1.A.length σ1.V.length ca' cv') 34)) := mid_a hS hwB hbC hrC hoA hoV
          obtain ⟨wD, hwD⟩ : ∃ wD, wD = wC.alloc (.cells (mC A' V' σ1.A.length σ1.V.length ca' cv') 34) := ⟨_, rfl⟩
          obtain ⟨gn, hgn⟩ : ∃ gn, gn = wC.heap.size := ⟨_, rfl⟩
          rw [← hwD, ← hgn] at hM
          rw [← hwD, ← hgn]
          clear hwD hgn hbC hSC hoA hoV hrC hS hwB ne HDO3 HDO
          have hd := hM.hd
          have hbwD : Below w.heap.size w wD := nxt hR.bw hd.bw
          have hsD := hR.st.below hd.bw
          have hiD : In wD S := hR.inn.le hd.bw.size
          have hcD := hcB.below hM.cp
          have hOA := off_next hR.inn hmg hd.bw.size hR.offA hM.offA
          have hOV := off_next hR.inn hmg hd.bw.size hR.offV hM.offV
          have hq0 : (q != q) = false := by simp
          have hnS : ¬ S gn := fun h => by have := hR.inn _ h; have := hM.ge; omega
          have hcS : ∀ j, j < wD.heap.size → fresh wr wB j → ¬ S j := fun j _ h h2 => by have := hR.inn _ h2; have := h.1; omega
          have hnm' : ∀ wE : World, ¬ moreB S wD wE gm := fun wE h => h.elim hR.ngm (fun h => by have := h.1; have := hd.bw.size; omega)
          go_upto_region 16 with (first
            | (refine wpList_cells_at rfl _ _ rfl (ad.add (k * 7)) rfl (txL t) _ hd.tx Tryz.underlying40 rfl txInfo ?_)
            | (refine wpList_row_at rfl _ _ rfl gm rfl _ _ _ _ hkE Tryz.underlying34 rfl sttInfo ?_)
            | (go_at_call 11; refine (do_is hsD hiD t hwf6 (HT.out _ hbwD) (by unfold maxLen; omega) HE HZ).mono ?_; rintro e wE ⟨rfl, hsE, hiE, htE⟩
               have hkE := htE.blk hd.blk hR.ngm
               have hbwE := L6.nxtT hbwD htE hR.frm
               have hfE : From w.heap.size (moreB S wD wE) := hR.frm.more hbwD.size
               have hcE := hcD.kept htE hcS
               have hrE : Rm wE A V σ := ⟨(hR.rd.1.below hd.bw).kept htE (fun ad e => (hR.offA ad e).1), (hR.rd.2.below hd.bw).kept htE (fun ad e => (hR.offV ad e).1)⟩
               have hpE : Rm wE A' V' σ1 := ⟨hM.rd.1.kept htE (fun ad e h => (hOA ad e).1 wE (.inl h)), hM.rd.2.kept htE (fun ad e h => (hOV ad e).1 wE (.inl h))⟩
               have hnE := htE.blk hM.kn hnS)
            | (go_at_call 12; refine (shows_any hcE (HT.out _ hbwE) (by omega) A V ca cv hrE hR.sm (by omega) (by omega) _ n1 c1 D1 (h1.below hbwE) (by omega) HW.out).mono ?_; unfold gives; rintro e wF ⟨rfl, hbF⟩
               have hbwF := nxt hbwE hbF
               have hsF := hsE.below hbF
               have hiF := hiE.le hbF.size
               have hpF : Rm wF A' V' σ1 := ⟨hpE.1.below hbF, hpE.2.below hbF⟩
               have hnF := hnE.below hbF hnE.lt
               have hkF := hkE.below hbF hkE.lt)
            | go_in)
          clear hcS hcE hrE hpE hnE hkE hsE hiE hcD hsD hiD
          go_upto_region 17 with (first
            | (refine wpList_row_at rfl _ _ rfl gn rfl _ _ _ _ hnF Tryz.underlying34 rfl sttInfo ?_)
            | (refine wpList_store_row rfl _ _ _ rfl gm (mC A' V' σ1.A.length σ1.V.length ca' cv') rfl rfl _ _ hkF sttInfo rfl (mC_ones _ _ _ _ _ _) ?_)
            | go_in)
          (try simp only [Act.put])
          have htG := turn_row wF gm (mC A' V' σ1.A.length σ1.V.length ca' cv')
          have hkG : Blk (wF.setRow gm (mC A' V' σ1.A.length σ1.V.length ca' cv')) gm 34 (mC A' V' σ1.A.length σ1.V.length ca' cv') := blk_setRow hkF
          have hbwG := below_setRow (cs := mC A' V' σ1.A.length σ1.V.length ca' cv') hbwF hR.geg
          have hsG := hsF.kept htG (fun j _ h e => hnm' _ (by rw [← (show j = gm from e)]; exact h))
          have hpG : Rm (wF.setRow gm (mC A' V' σ1.A.length σ1.V.length ca' cv')) A' V' σ1 := ⟨hpF.1.kept htG (fun ad e h => (hOA ad e).2.2 h), hpF.2.kept htG (fun ad e h => (hOV ad e).2.2 h)⟩
          have hiG := hiF.le htG.size
          have hszG : wD.heap.size ≤ (wF.setRow gm (mC A' V' σ1.A.length σ1.V.length ca' cv')).heap.size := Nat.le_trans htE.size (Nat.le_trans hbF.size htG.size)
          obtain ⟨wG, hwG⟩ : ∃ wG, wG = wF.setRow gm (mC A' V' σ1.A.length σ1.V.length ca' cv') := ⟨_, rfl⟩
          rw [← hwG] at hkG hbwG hsG hpG hiG hszG ⊢
          clear hwG htG hkF hnF hpF hsF hiF hbwF
          go_wp2_with (first
            | (refine wpList_row_at rfl _ _ rfl gm rfl _ _ _ _ hkG Tryz.underlying34 rfl sttInfo ?_)
            | (go_at_call 12; refine (shows_any hsG (HT.out _ hbwG) (by omega) A' V' ca' cv' hpG hsm1 (by omega) (by omega) _ n1 c1 D1 (h1.below hbwG) (by omega) HW.out).mono ?_; unfold gives; rintro e wH ⟨rfl, hbH⟩)
            | go_in)
          go_roundw
          case rel => exact ⟨k + 1, _, σ1, A', V', ca', cv', by go_num, by omega, ⟨(hsG.below hbH).le (by omega), hiG.le hbH.size, hfE, hkG.below hbH hkG.lt, hnm' _, hR.geg, ⟨hpG.1.below hbH, hpG.2.below hbH⟩,
              fun ad e => ⟨(hOA ad e).1 _, Nat.lt_of_lt_of_le (hOA ad e).2.1 (Nat.le_trans hszG hbH.size), (hOA ad e).2.2⟩, fun ad e => ⟨(hOV ad e).1 _, Nat.lt_of_lt_of_le (hOV ad e).2.1 (Nat.le_trans hszG hbH.size), (hOV ad e).2.2⟩, hsm1, nxt hbwG hbH⟩⟩
          case measure => simp [intOf]; omega
        · go_wp2
          have hl4 : Below w3.heap.size w3 (w3.alloc (.cells (mC none none 0 0 0 0) 34)) := (Below.refl _ _).alloc (Nat.le_refl _) _
          have hS4 := hS.below hl4
          refine stepQ.mk ⟨fun _ => hS4, ?_⟩
          refine wpK_step 5 (by kernel_rfl) rfl ?_
          go_wp2_with (go_at_call 10; refine (HDO3.out _ hl4).mono ?_; rintro e wC ⟨A', V', ca', cv', rfl, hrC, hoA, hoV, hbC⟩)
          have hSC := hS4.below hbC
          have hkn : Blk wC w3.heap.size 34 (mC none none 0 0 0 0) := (Blk.new _ _ _).below hbC (by simp)
          refine stepQ.mk ⟨fun _ => hSC, ?_⟩
          refine wpK_quiet (f := 2) (by kernel_rfl) (fun _ x _ _ _ h => by cases x <;> exact h) hSC [6, 7, 8] _ _ (by kernel_rfl) (by kernel_rfl) (by kernel_rfl) ?_
          conv => arg 5; simp [pick]
          iterate 3 go_big_quiet_step (fail)
          refine wpQuiet_nil ?_
          refine wpK_step 10 (by kernel_rfl) rfl ?_
          refine wpList_store_row rfl _ _ _ rfl w3.heap.size (mC A' V' σ1.A.length σ1.V.length ca' cv') rfl rfl _ _ hkn sttInfo rfl (mC_ones _ _ _ _ _ _) ?_
          go_wp2
          refine stepQ.mk ⟨fun _ => hSC.row _ _ hS.bw.size hmg hpb, ?_⟩
          refine wpK_seq [11] _ _ _ (by kernel_rfl) ?_
          conv => arg 4; simp [pick]
          go_upto_region 14 with (fail)
          (try simp only [Act.put])
          have hM : MidAt wr wB gm w3.heap.size (mC A V σ.A.length σ.V.length ca cv) (ad.add (k * 7)) t σ1 A V A' V' ca' cv' (wC.setRow w3.heap.size (mC A' V' σ1.A.length σ1.V.length ca' cv')) :=
            mid_b hS hwB hbC hrC hmg hpb (fun ad e => (hR.offA ad e).2.1) (fun ad e => (hR.offV ad e).2.1) hoA hoV
          obtain ⟨wD, hwD⟩ : ∃ wD, wD = wC.setRow w3.heap.size (mC A' V' σ1.A.length σ1.V.length ca' cv') := ⟨_, rfl⟩
          obtain ⟨gn, hgn⟩ : ∃ gn, gn = w3.heap.size := ⟨_, rfl⟩
          rw [← hwD, ← hgn] at hM
          rw [← hwD, ← hgn]
          clear hwD hgn hbC hSC hkn hS4 hl4 hoA hoV hrC hS hwB ne HDO3 HDO
          have hd := hM.hd
          have hbwD : Below w.heap.size w wD := nxt hR.bw hd.bw
          have hsD := hR.st.below hd.bw
          have hiD : In wD S := hR.inn.le hd.bw.size
          have hcD := hcB.below hM.cp
          have hOA := off_next hR.inn hmg hd.bw.size hR.offA hM.offA
          have hOV := off_next hR.inn hmg hd.bw.size hR.offV hM.offV
          have hq0 : (q != q) = false := by simp
          have hnS : ¬ S gn := fun h => by have := hR.inn _ h; have := hM.ge; omega
          have hcS : ∀ j, j < wD.heap.size → fresh wr wB j → ¬ S j := fun j _ h h2 => by have := hR.inn _ h2; have := h.1; omega
          have hnm' : ∀ wE : World, ¬ moreB S wD wE gm := fun wE h => h.elim hR.ngm (fun h => by have := h.1; have := hd.bw.size; omega)
          go_upto_region 16 with (first
            | (refine wpList_cells_at rfl _ _ rfl (ad.add (k * 7)) rfl (txL t) _ hd.tx Tryz.underlying40 rfl txInfo ?_)
            | (refine wpList_row_at rfl _ _ rfl gm rfl _ _ _ _ hkE Tryz.underlying34 rfl sttInfo ?_)
            | (go_at_call 11; refine (do_is hsD hiD t hwf6 (HT.out _ hbwD) (by unfold maxLen; omega) HE HZ).mono ?_; rintro e wE ⟨rfl, hsE, hiE, htE⟩
               have hkE := htE.blk hd.blk hR.ngm
               have hbwE := L6.nxtT hbwD htE hR.frm
               have hfE : From w.heap.size (moreB S wD wE) := hR.frm.more hbwD.size
               have hcE := hcD.kept htE hcS
               have hrE : Rm wE A V σ := ⟨(hR.rd.1.below hd.bw).kept htE (fun ad e => (hR.offA ad e).1), (hR.rd.2.below hd.bw).kept htE (fun ad e => (hR.offV ad e).1)⟩
               have hpE : Rm wE A' V' σ1 := ⟨hM.rd.1.kept htE (fun ad e h => (hOA ad e).1 wE (.inl h)), hM.rd.2.kept htE (fun ad e h => (hOV ad e).1 wE (.inl h))⟩
               have hnE := htE.blk hM.kn hnS)
            | (go_at_call 12; refine (shows_any hcE (HT.out _ hbwE) (by omega) A V ca cv hrE hR.sm (by omega) (by omega) _ n1 c1 D1 (h1.below hbwE) (by omega) HW.out).mono ?_; unfold gives; rintro e wF ⟨rfl, hbF⟩
               have hbwF := nxt hbwE hbF
               have hsF := hsE.below hbF
               have hiF := hiE.le hbF.size
               have hpF : Rm wF A' V' σ1 := ⟨hpE.1.below hbF, hpE.2.below hbF⟩
               have hnF := hnE.below hbF hnE.lt
               have hkF := hkE.below hbF hkE.lt)
            | go_in)
          clear hcS hcE hrE hpE hnE hkE hsE hiE hcD hsD hiD
          go_upto_region 17 with (first
            | (refine wpList_row_at rfl _ _ rfl gn rfl _ _ _ _ hnF Tryz.underlying34 rfl sttInfo ?_)
            | (refine wpList_store_row rfl _ _ _ rfl gm (mC A' V' σ1.A.length σ1.V.length ca' cv') rfl rfl _ _ hkF sttInfo rfl (mC_ones _ _ _ _ _ _) ?_)
            | go_in)
          (try simp only [Act.put])
          have htG := turn_row wF gm (mC A' V' σ1.A.length σ1.V.length ca' cv')
          have hkG : Blk (wF.setRow gm (mC A' V' σ1.A.length σ1.V.length ca' cv')) gm 34 (mC A' V' σ1.A.length σ1.V.length ca' cv') := blk_setRow hkF
          have hbwG := below_setRow (cs := mC A' V' σ1.A.length σ1.V.length ca' cv') hbwF hR.geg
          have hsG := hsF.kept htG (fun j _ h e => hnm' _ (by rw [← (show j = gm from e)]; exact h))
          have hpG : Rm (wF.setRow gm (mC A' V' σ1.A.length σ1.V.length ca' cv')) A' V' σ1 := ⟨hpF.1.kept htG (fun ad e h => (hOA ad e).2.2 h), hpF.2.kept htG (fun ad e h => (hOV ad e).2.2 h)⟩
          have hiG := hiF.le htG.size
          have hszG : wD.heap.size ≤ (wF.setRow gm (mC A' V' σ1.A.length σ1.V.length ca' cv')).heap.size := Nat.le_trans htE.size (Nat.le_trans hbF.size htG.size)
          obtain ⟨wG, hwG⟩ : ∃ wG, wG = wF.setRow gm (mC A' V' σ1.A.length σ1.V.length ca' cv') := ⟨_, rfl⟩
          rw [← hwG] at hkG hbwG hsG hpG hiG hszG ⊢
          clear hwG htG hkF hnF hpF hsF hiF hbwF
          go_wp2_with (first
            | (refine wpList_row_at rfl _ _ rfl gm rfl _ _ _ _ hkG Tryz.underlying34 rfl sttInfo ?_)
            | (go_at_call 12; refine (shows_any hsG (HT.out _ hbwG) (by omega) A' V' ca' cv' hpG hsm1 (by omega) (by omega) _ n1 c1 D1 (h1.below hbwG) (by omega) HW.out).mono ?_; unfold gives; rintro e wH ⟨rfl, hbH⟩)
            | go_in)
          go_roundw
          case rel => exact ⟨k + 1, _, σ1, A', V', ca', cv', by go_num, by omega, ⟨(hsG.below hbH).le (by omega), hiG.le hbH.size, hfE, hkG.below hbH hkG.lt, hnm' _, hR.geg, ⟨hpG.1.below hbH, hpG.2.below hbH⟩,
              fun ad e => ⟨(hOA ad e).1 _, Nat.lt_of_lt_of_le (hOA ad e).2.1 (Nat.le_trans hszG hbH.size), (hOA ad e).2.2⟩, fun ad e => ⟨(hOV ad e).1 _, Nat.lt_of_lt_of_le (hOV ad e).2.1 (Nat.le_trans hszG hbH.size), (hOV ad e).2.2⟩, hsm1, nxt hbwG hbH⟩⟩
          case measure => simp [intOf]; omega
      · obtain rfl : k = n1 := by omega
        go_wp2_with (first
          | (refine wpList_row_at rfl _ _ rfl gm rfl _ _ _ _ hR.blk Tryz.underlying34 rfl sttInfo ?_)
          | (go_at_call 12; refine (shows_any hR.st (HT.out _ hR.bw) (by omega) A V ca cv hR.rd hR.sm (by omega) (by omega) _ k c1 D1 (h1.below hR.bw) (by omega) HW.out).mono ?_; unfold gives; rintro e wH ⟨rfl, hbH⟩)
          | go_in)
        go_ret
        exact ⟨rfl, nxt hR.bw hbH⟩
  · have HN := Lib.hid (fun W (hb : Below w.heap.size w W) => new_err A0 n0 c0 D0 W (h0.below hb) hn0 hq)
    have HRN := Lib.hid hrn
    obtain ⟨z, hz⟩ : ∃ z, z = newE [] (amsL n0 D0) := ⟨_, rfl⟩
    rw [← hz] at HN hq
    have HZ := Lib.hid hz
    have hz1 : (z != z) = false := by simp
    have hz2 : (z != 0) = true := by rw [bne_iff_ne]; exact hq
    have HRE : Hid (∀ W, Below w.heap.size w W → Calls Tryz.prog 8 #[.slice A0 n0 c0] W fun e w' => ∃ A c zz, e = .returned (.tuple #[.agg (mC A none zz 0 c 0), .int .i64 z]) ∧ Below W.heap.size W w') := Lib.hid (fun W hb => (hrn W hb).mono fun e w' ⟨A, c, y, he, _, _, _, hb'⟩ => ⟨A, c, y.length, by rw [he, ← hz], hb'⟩)
    clear hz hrn hq
    go_enter Tryz.func3, Tryz.ntmps3
    go_wp2_with (first
      | (go_at_call 4; refine HA.out.mono ?_; unfold gives; rintro e w1 ⟨rfl, hb1⟩)
      | (go_at_call 5; refine (HGA.out _ hb1).mono ?_; unfold gives; rintro e w2 ⟨rfl, hb2⟩; have hb3 := nxt hb1 hb2)
      | (go_at_call 6; refine (HGX.out _ hb3).mono ?_; unfold gives; rintro e w4 ⟨rfl, hb4⟩; have hb5 := nxt hb3 hb4)
      | (go_at_call 7; refine (HN.out _ hb5).mono ?_; unfold gives; rintro e w6 ⟨rfl, hb6⟩; have hb7 := nxt hb5 hb6)
      | (go_at_call 8; refine (HRE.out _ hb7).mono ?_; rintro e w8 ⟨A, c, zz, rfl, hb8⟩; have hb9 := nxt hb7 hb8)
      | (refine wpList_store_new rfl _ _ _ rfl _ (mC A none zz 0 c 0) rfl rfl _ _ sttInfo rfl (mC_ones _ _ _ _ _ _) ?_)
      | go_in)
    have hbA : Below w.heap.size w (w8.alloc (.cells (mC A none zz 0 c 0) 34)) := hb9.alloc hb9.size _
    obtain ⟨wA, hwA⟩ : ∃ wA, wA = w8.alloc (.cells (mC A none zz 0 c 0) 34) := ⟨_, rfl⟩
    rw [← hwA] at hbA ⊢
    clear hwA
    go_loopw [9] (fun i wr => i = .int .i64 0 ∧ Below w.heap.size w wr) (fun i _ => 0)
    case atStart => exact ⟨rfl, hbA⟩
    case round =>
      obtain ⟨rfl, hbr⟩ := hrel
      by_cases h00 : (0 : Int) < n1
      · go_wp2
        go_ret
        exact ⟨rfl, hbr⟩
      · go_wp2
        go_ret
        exact ⟨rfl, hbr⟩
end Go.Proofs.YthkgadjiiapfgaaGreatDoor
