/-
  Program and document, side by side: a state shows what the document's holds.
-/
import Derived.Test.YthkgadjiiapfgaaGreatDoorSmall
import Derived.Test.YthkgadjiiapfgaaGreatDoorNamed
import Derived.Test.YthkgadjiiapfgaaGreatDoorGreats
set_option linter.unusedSimpArgs false
set_option linter.unusedVariables false
set_option maxRecDepth 10000
namespace Go.Proofs.YthkgadjiiapfgaaGreatDoor
open Go.RowKit Go.Maps Go.Lib
open L2 (less)
open L3 (Blk Reads block_of_add add_of_add)
open L6 (Turn moreB fresh From In)
/-- What region 10 reads. -/
structure holdX (w : World) (m : Array Value) (gA : Nat) (i j : Int) (q : Addr) (key : List UInt8) (X : World) : Prop where
  blk : Blk X w.heap.size 34 m
  bw : Below w.heap.size w X
  am : X.cell? ⟨gA, 1, none⟩ = some (.int .i64 i)
  no : X.cell? ⟨gA, 2, none⟩ = some (.int .i64 j)
  key : X.cell? q = some (.string (str key))
theorem holdX.below {w : World} {m : Array Value} {gA : Nat} {i j : Int} {q : Addr} {key : List UInt8} {X X' : World} (h : holdX w m gA i j q key X) (hb : Below X.heap.size X X') : holdX w m gA i j q key X' :=
  ⟨h.blk.below hb h.blk.lt, nxt h.bw hb, (hb.cell (p := ⟨gA, 1, none⟩) (L2.cell_in h.am)).trans h.am, (hb.cell (p := ⟨gA, 2, none⟩) (L2.cell_in h.no)).trans h.no, (hb.cell (p := q) (L2.cell_in h.key)).trans h.key⟩
theorem slice_two (a b : ByteArray) (w : World) : (Instr.buildSlice 77 2 #[(0, .string a), (1, .string b)]).run Tryz.prog w = .ok (.slice (some ⟨w.heap.size, 0, none⟩) 2 2) (w.alloc (.cells #[.string a, .string b] 9)) := by kernel_rfl
structure holdS (w : World) (m : Array Value) (X : World) : Prop where
  blk : Blk X w.heap.size 34 m
  bw : Below w.heap.size w X
theorem holdS.below {w : World} {m : Array Value} {X X' : World} (h : holdS w m X) (hb : Below X.heap.size X X') : holdS w m X' := ⟨h.1.below hb h.1.lt, nxt h.2 hb⟩
set_option maxHeartbeats 4000000 in
set_option maxRecDepth 100000 in
theorem shows_any {S : Nat → Prop} {g n : Nat} {s : Stt} {w : World} (h : Sx w S g s n) (hT : Tabs w) (hn : n ≤ 1000000) (A V : Option Addr) (ca cv : Nat) (hr : Rm w A V s) {a v : Nat} (hsm : Small s a v) (ha : a ≤ 1000) (hv : v ≤ 1000)
    (A1 : Option Addr) (n1 c1 : Nat) (D1 : Nat → Txx) (h1 : Txs w A1 n1 D1) (hn1 : n1 ≤ 1000) (hw1 : ∀ k, k < n1 → (D1 k).wf 1000) :
    Calls Tryz.prog 12 #[.pointer (some ⟨g, 0, none⟩), .agg (mC A V s.A.length s.V.length ca cv), .slice A1 n1 c1] w (gives (.bool true) w) := by
  obtain ⟨D, hD⟩ : ∃ D, D = digT less s := ⟨_, rfl⟩
  obtain ⟨T, hTt⟩ : ∃ T, T = totA s.A := ⟨_, rfl⟩
  have HDD := Lib.hid hD
  have HTT := Lib.hid hTt
  have hdr : Hid (D = digR less s) := Lib.hid (by rw [hD, digR_is lessOrd h.2.ok])
  have hla := hsm.la
  have hlv := hsm.lv
  have htx := hsm.text h.2 ha hv
  have hdig := fun W (hb : Below w.heap.size w W) => refdig_any A V ca cv s W ⟨hr.1.below hb, hr.2.below hb⟩ h.2 (by omega) (by omega) hsm.nm hsm.vl htx
  rw [← hdr.out] at hdig
  have htot := fun W (hb : Below w.heap.size w W) => reftotal_any A V s.V.length ca cv s.A W (hr.1.below hb) (by omega) h.2.full h.2.low
  rw [← hTt] at htot
  have HDIG := Lib.hid hdig
  have HTOT := Lib.hid htot
  have HT := Lib.hid (fun W (hb : Below w.heap.size w W) => hT.kept hb)
  have HH := Lib.hid h
  have hq : ((str D).toList != (str D).toList) = false := by simp
  have hbW : Below w.heap.size w (w.alloc (.cells (mC A V s.A.length s.V.length ca cv) 34)) := (Below.refl _ _).alloc (Nat.le_refl _) _
  have ks : Blk (w.alloc (.cells (mC A V s.A.length s.V.length ca cv) 34)) w.heap.size 34 (mC A V s.A.length s.V.length ca cv) := Blk.new _ _ _
  clear hD hTt hdig htot htx hT
  go_enter Tryz.func12, Tryz.ntmps12
  go_upto_region 1 with (fail)
  obtain ⟨W, hW⟩ : ∃ W, W = w.alloc (.cells (mC A V s.A.length s.V.length ca cv) 34) := ⟨_, rfl⟩
  rw [← hW] at hbW ks
  rw [← hW]
  clear hW
  have hS : holdS w (mC A V s.A.length s.V.length ca cv) W.drew := ⟨ks, hbW.drew⟩
  refine wp_region_K (holdS w (mC A V s.A.length s.V.length ca cv)) [0, 2, 4, 5, 6, 8, 10, 11] (by kernel_rfl) ?_
  refine wpK_quiet (f := 10) (by kernel_rfl) (fun _ x _ _ _ h => by cases x <;> exact h) hS [0, 2] _ _ (by kernel_rfl) (by kernel_rfl) (by kernel_rfl) ?_
  have ne : Nonempty (WorldIn (holdS w (mC A V s.A.length s.V.length ca cv))) := ⟨⟨_, hS⟩⟩
  conv => arg 5; simp [pick]
  go_big_quiet_step (fail)
  refine wpQuiet_row rfl _ _ rfl w.heap.size rfl _ _ _ _ (fun y => y.h.1) Tryz.underlying34 rfl sttInfo ?_
  conv => arg 6; simp only [Act.put, List.setIfInBounds_toArray, List.set_cons_zero, List.set_cons_succ]
  refine wpQuiet_nil ?_
  refine wpK_step 1 (by kernel_rfl) rfl ?_
  go_wp2_with ((go_at_call 14; (with_reducible refine (text_is (HH.out.below hS.2) (HT.out _ hS.2) hn HDD).mono ?_); unfold gives; rintro e w2 ⟨rfl, hb2⟩))
  have hS2 := hS.below hb2
  refine stepQ.mk ⟨fun _ => hS2, ?_⟩
  refine wpK_step 3 (by kernel_rfl) rfl ?_
  go_wp2_with (go_at_call 29; (with_reducible refine (HDIG.out _ hS2.2).mono ?_); unfold gives; rintro e w3 ⟨rfl, hb3⟩)
  have hS3 := hS2.below hb3
  refine stepQ.mk ⟨fun _ => hS3, ?_⟩
  refine wpK_quiet (f := 4) (by kernel_rfl) (fun _ x _ _ _ h => by cases x <;> exact h) hS3 [4, 5, 6, 8] _ _ (by kernel_rfl) (by kernel_rfl) (by kernel_rfl) ?_
  conv => arg 5; simp [pick]
  iterate 3 go_big_quiet_step (fail)
  refine wpQuiet_row rfl _ _ rfl w.heap.size rfl _ _ _ _ (fun y => y.h.1) Tryz.underlying34 rfl sttInfo ?_
  conv => arg 6; simp only [Act.put, List.setIfInBounds_toArray, List.set_cons_zero, List.set_cons_succ]
  refine wpQuiet_nil ?_
  refine wpK_step 7 (by kernel_rfl) rfl ?_
  go_wp2_with (go_at_call 30; (with_reducible refine (total_is (HH.out.below hS3.2) HTT).mono ?_); unfold gives; rintro e w4 ⟨rfl, hb4⟩)
  have hS4 := hS3.below hb4
  refine stepQ.mk ⟨fun _ => hS4, ?_⟩
  refine wpK_step 9 (by kernel_rfl) rfl ?_
  go_wp2_with (go_at_call 31; (with_reducible refine (HTOT.out _ hS4.2).mono ?_); unfold gives; rintro e w5 ⟨rfl, hb5⟩)
  have hS5 := hS4.below hb5
  refine stepQ.mk ⟨fun _ => hS5, ?_⟩
  refine wpK_quiet (f := 0) (by kernel_rfl) (fun _ x _ _ _ h => by cases x <;> exact h) hS5 [10, 11] _ _ (by kernel_rfl) (by kernel_rfl) (by kernel_rfl) ?_
  conv => arg 5; simp [pick]
  iterate 2 go_big_quiet_step (fail)
  refine wpQuiet_nil ?_
  refine wpK_seq [] _ _ _ (by kernel_rfl) ?_
  conv => arg 4; simp [pick]
  obtain ⟨c, hc⟩ : ∃ c, c = hS5 := ⟨_, rfl⟩
  clear hc c hS hS2 hS3 hS4 ne
  go_upto_region 4 with (fail)
  go_loopw [7] (fun i wr => ∃ k : Nat, i = .int .i64 k ∧ k ≤ n1 ∧ holdS w (mC A V s.A.length s.V.length ca cv) wr) (fun i _ => n1 - (intOf i).toNat)
  case atStart => exact ⟨0, rfl, Nat.zero_le _, hS5⟩
  case round =>
    obtain ⟨k, rfl, hk, hSr⟩ := hrel
    by_cases hlt : k < n1
    · obtain ⟨ad, rfl, hadl, hcs, hwf0⟩ := (h1.below hSr.bw) k hlt
      have hwf := hw1 k hlt
      obtain ⟨t, ht⟩ : ∃ t, t = D1 k := ⟨_, rfl⟩
      rw [← ht] at hcs hwf
      clear ht hwf0
      have q1 : wr.cell? ⟨(ad.add (k * 7)).block, (ad.add (k * 7)).off + 1, none⟩ = some (.string (str t.frm)) := by have := hcs 1 _ rfl; rwa [add_of_add, add_off _ _ _ (by decide)] at this
      have q2 : wr.cell? ⟨(ad.add (k * 7)).block, (ad.add (k * 7)).off + 2, none⟩ = some (.string (str t.to)) := by have := hcs 2 _ rfl; rwa [add_of_add, add_off _ _ _ (by decide)] at this
      have q3 : wr.cell? ⟨(ad.add (k * 7)).block, (ad.add (k * 7)).off + 3, none⟩ = some (.string (str t.key)) := by have := hcs 3 _ rfl; rwa [add_of_add, add_off _ _ _ (by decide)] at this
      go_upto_region 6 with (fail)
      have hH : hold2 wr ⟨(ad.add (k * 7)).block, (ad.add (k * 7)).off + 1, none⟩ ⟨(ad.add (k * 7)).block, (ad.add (k * 7)).off + 2, none⟩ t.frm t.to wr.drew := ⟨q1, q2, (Below.refl _ _).drew⟩
      refine wp_region_K (hold2 wr ⟨(ad.add (k * 7)).block, (ad.add (k * 7)).off + 1, none⟩ ⟨(ad.add (k * 7)).block, (ad.add (k * 7)).off + 2, none⟩ t.frm t.to) [0, 1, 2, 3, 4, 5, 6, 7, 8, 9, 12] (by kernel_rfl) ?_
      refine wpK_quiet (f := 2) (by kernel_rfl) (fun _ x _ _ _ h => by cases x <;> exact h) hH [0, 1, 2, 3, 4, 5, 6, 7, 8, 9, 12] _ _ (by kernel_rfl) (by kernel_rfl) (by kernel_rfl) ?_
      have ne : Nonempty (WorldIn (hold2 wr ⟨(ad.add (k * 7)).block, (ad.add (k * 7)).off + 1, none⟩ ⟨(ad.add (k * 7)).block, (ad.add (k * 7)).off + 2, none⟩ t.frm t.to)) := ⟨⟨_, hH⟩⟩
      have p1 := fun y : WorldIn (hold2 wr ⟨(ad.add (k * 7)).block, (ad.add (k * 7)).off + 1, none⟩ ⟨(ad.add (k * 7)).block, (ad.add (k * 7)).off + 2, none⟩ t.frm t.to) => y.h.1
      have p2 := fun y : WorldIn (hold2 wr ⟨(ad.add (k * 7)).block, (ad.add (k * 7)).off + 1, none⟩ ⟨(ad.add (k * 7)).block, (ad.add (k * 7)).off + 2, none⟩ t.frm t.to) => y.h.2.1
      conv => arg 5; simp [pick]
      iterate 11 go_big_quiet_step (fail)
      refine wpQuiet_nil ?_
      refine wpK_step 10 (by kernel_rfl) rfl ?_
      refine wpList_buildSlice rfl _ _ _ rfl #[(0, .string (str t.frm)), (1, .string (str t.to))] rfl (slice_two _ _ _) ?_
      go_wp2
      have kb : Blk (wr.drew.alloc (.cells #[.string (str t.frm), .string (str t.to)] 9)) wr.drew.heap.size 9 #[.string (str t.frm), .string (str t.to)] := Blk.new _ _ _
      have hbb : Below wr.drew.heap.size wr.drew (wr.drew.alloc (.cells #[.string (str t.frm), .string (str t.to)] 9)) := (Below.refl _ _).alloc (Nat.le_refl _) _
      have hSd : holdS w (mC A V s.A.length s.V.length ca cv) wr.drew := ⟨hSr.blk, hSr.bw.drew⟩
      refine stepQ.mk ⟨fun _ => hH.below hbb, ?_⟩
      have hS7 := hSd.below hbb
      have hH7 := hH.below hbb
      have q3b : (wr.drew.alloc (.cells #[.string (str t.frm), .string (str t.to)] 9)).cell? ⟨(ad.add (k * 7)).block, (ad.add (k * 7)).off + 3, none⟩ = some (.string (str t.key)) := (hbb.cell (p := ⟨(ad.add (k * 7)).block, (ad.add (k * 7)).off + 3, none⟩) (L2.cell_in q3)).trans q3
      obtain ⟨w7, hw7⟩ : ∃ w7, w7 = wr.drew.alloc (.cells #[.string (str t.frm), .string (str t.to)] 9) := ⟨_, rfl⟩
      obtain ⟨gr, hgr⟩ : ∃ gr, gr = wr.drew.heap.size := ⟨_, rfl⟩
      rw [← hw7] at kb hS7 hH7 q3b ⊢
      rw [← hgr] at kb ⊢
      clear hw7 hgr hbb hH p1 p2 ne q1 q2 q3
      refine wpK_step 11 (by kernel_rfl) rfl ?_
      go_wp2
      refine stepQ.mk ⟨fun _ => hH7, ?_⟩
      refine wpK_seq [] _ _ _ (by kernel_rfl) ?_
      conv => arg 4; simp [pick]
      clear hH7
      obtain ⟨wo, hwo⟩ : ∃ wo, wo = wr := ⟨_, rfl⟩
      subst hwo
      go_upto_region 7 with (fail)
      go_loopw [41] (fun i wx => ∃ m : Nat, i = .int .i64 m ∧ m ≤ 2 ∧ holdS w (mC A V s.A.length s.V.length ca cv) wx ∧ Blk wx gr 9 #[.string (str t.frm), .string (str t.to)] ∧ Below w7.heap.size w7 wx) (fun i _ => 2 - (intOf i).toNat)
      case atStart => exact ⟨0, rfl, by omega, hS7, kb, Below.refl _ _⟩
      case round =>
        obtain ⟨m, rfl, hm, hSx, kbx, hbx⟩ := hrel
        by_cases hm2 : m < 2
        · obtain ⟨who, hwho, hwl⟩ : ∃ who, wr.cell? ⟨gr, m, none⟩ = some (.string (str who)) ∧ who.length ≤ 1000 := by
            rcases (show m = 0 ∨ m = 1 by omega) with rfl | rfl
            · exact ⟨t.frm, kbx.cell 0, hwf.2.1⟩
            · exact ⟨t.to, kbx.cell 1, hwf.2.2.1⟩
          go_upto_region 9 with (fail)
          have q3x : wr.cell? ⟨(ad.add (k * 7)).block, (ad.add (k * 7)).off + 3, none⟩ = some (.string (str t.key)) := (hbx.cell (p := ⟨(ad.add (k * 7)).block, (ad.add (k * 7)).off + 3, none⟩) (L2.cell_in q3b)).trans q3b
          have hof := refof_any A V ca cv s.V.length s.A who wr (hr.1.below hSx.bw) (by omega)
          obtain ⟨x, hx⟩ : ∃ x, x = ofA s.A who := ⟨_, rfl⟩
          rw [← hx] at hof
          have HAM : Hid (x.am = (ofA s.A who).am) := Lib.hid (by rw [hx])
          have HNO : Hid (x.no = (ofA s.A who).no) := Lib.hid (by rw [hx])
          clear hx hwho
          go_upto_region 10 with (first
            | (refine wpList_row_at rfl _ _ rfl w.heap.size rfl _ _ _ _ hSx.blk Tryz.underlying34 rfl sttInfo ?_)
            | (go_at_call 25; refine hof.mono ?_; unfold gives; rintro e w8 ⟨rfl, hb8⟩)
            | (refine wpList_store_new rfl _ _ _ rfl _ (accC x) rfl rfl _ _ accInfo rfl (accC_ones _) ?_)
            | go_in)
          try simp only [Act.put]
          obtain ⟨w9, hw9⟩ : ∃ w9, w9 = w8.alloc (.cells (accC x) 64) := ⟨_, rfl⟩
          have kx : Blk w9 w8.heap.size 64 (accC x) := by rw [hw9]; exact Blk.new _ _ _
          have hb9 : Below wr.heap.size wr w9 := nxt hb8 (by rw [hw9]; exact (Below.refl _ _).alloc (Nat.le_refl _) _)
          obtain ⟨gA, hgA⟩ : ∃ gA, gA = w8.heap.size := ⟨_, rfl⟩
          rw [← hgA] at kx ⊢
          rw [← hw9]
          have hS9 := hSx.below hb9
          have q39 := (hb9.cell (p := ⟨(ad.add (k * 7)).block, (ad.add (k * 7)).off + 3, none⟩) (L2.cell_in q3x)).trans q3x
          clear hw9 hgA hb8 hof q3x
          have hX : holdX w (mC A V s.A.length s.V.length ca cv) gA x.am x.no ⟨(ad.add (k * 7)).block, (ad.add (k * 7)).off + 3, none⟩ t.key w9.drew := ⟨hS9.blk, hS9.bw.drew, kx.cell 1, kx.cell 2, q39⟩
          have hwh := HH.out
          refine wp_region_K (holdX w (mC A V s.A.length s.V.length ca cv) gA x.am x.no ⟨(ad.add (k * 7)).block, (ad.add (k * 7)).off + 3, none⟩ t.key) [0, 1, 3, 4, 5, 6, 7, 8, 10, 11, 12, 13, 14, 15, 16, 17, 18, 19, 20, 21, 23, 24, 25, 26, 27, 28, 29, 31, 32] (by kernel_rfl) ?_
          refine wpK_quiet (f := 29) (by kernel_rfl) (fun _ x _ _ _ h => by cases x <;> exact h) hX [0, 1, 3, 4] _ _ (by kernel_rfl) (by kernel_rfl) (by kernel_rfl) ?_
          have ne : Nonempty (WorldIn (holdX w (mC A V s.A.length s.V.length ca cv) gA x.am x.no ⟨(ad.add (k * 7)).block, (ad.add (k * 7)).off + 3, none⟩ t.key)) := ⟨⟨_, hX⟩⟩
          have p1 := fun y : WorldIn (holdX w (mC A V s.A.length s.V.length ca cv) gA x.am x.no ⟨(ad.add (k * 7)).block, (ad.add (k * 7)).off + 3, none⟩ t.key) => y.h.am
          have p2 := fun y : WorldIn (holdX w (mC A V s.A.length s.V.length ca cv) gA x.am x.no ⟨(ad.add (k * 7)).block, (ad.add (k * 7)).off + 3, none⟩ t.key) => y.h.no
          have p3 := fun y : WorldIn (holdX w (mC A V s.A.length s.V.length ca cv) gA x.am x.no ⟨(ad.add (k * 7)).block, (ad.add (k * 7)).off + 3, none⟩ t.key) => y.h.key
          conv => arg 5; simp [pick]
          iterate 4 go_big_quiet_step (fail)
          refine wpQuiet_nil ?_
          refine wpK_step 2 (by kernel_rfl) rfl ?_
          obtain ⟨gv, hgv⟩ : ∃ gv, gv = getV s.V who t.key := ⟨_, rfl⟩
          have HGV := Lib.hid hgv
          have hget := fun W (hb : Below w.heap.size w W) => refget_any A V s.A.length ca cv s.V who t.key W (hr.2.below hb) (by omega)
          rw [← hgv] at hget
          have HGET := Lib.hid hget
          have hqv : ((str gv).toList != (str gv).toList) = false := by simp
          have hkl : t.key.length ≤ 1000000 := by have := hwf.2.2.2.1; omega
          have hwl2 : who.length ≤ 1000000 := by omega
          clear hgv hget
          go_wp2_with ((go_at_call 13; (with_reducible refine (amount_is (HH.out.below hX.bw) who hwl2 HAM).mono ?_); rintro e wq ⟨rfl, rfl⟩))
          refine stepQ.mk ⟨fun _ => hX, ?_⟩
          refine wpK_quiet (f := 22) (by kernel_rfl) (fun _ x _ _ _ h => by cases x <;> exact h) hX [5, 6, 7, 8, 10, 11] _ _ (by kernel_rfl) (by kernel_rfl) (by kernel_rfl) ?_
          conv => arg 5; simp [pick]
          iterate 6 go_big_quiet_step (fail)
          refine wpQuiet_nil ?_
          refine wpK_step 9 (by kernel_rfl) rfl ?_
          go_wp2_with ((go_at_call 32; (with_reducible refine (nonce_is (HH.out.below hX.bw) who hwl2 HNO).mono ?_); rintro e wq ⟨rfl, rfl⟩))
          refine stepQ.mk ⟨fun _ => hX, ?_⟩
          refine wpK_quiet (f := 4) (by kernel_rfl) (fun _ x _ _ _ h => by cases x <;> exact h) hX [12, 13, 14, 15, 16, 17, 18, 19, 20, 21, 23, 24, 25, 26, 27, 28, 29] _ _ (by kernel_rfl) (by kernel_rfl) (by kernel_rfl) ?_
          conv => arg 5; simp [pick]
          iterate 10 go_big_quiet_step (fail)
          refine wpQuiet_row rfl _ _ rfl w.heap.size rfl _ _ _ _ (fun y => y.h.1) Tryz.underlying34 rfl sttInfo ?_
          conv => arg 6; simp only [Act.put, List.setIfInBounds_toArray, List.set_cons_zero, List.set_cons_succ]
          iterate 6 go_big_quiet_step (fail)
          refine wpQuiet_nil ?_
          refine wpK_step 22 (by kernel_rfl) rfl ?_
          go_wp2_with ((go_at_call 33; (with_reducible refine (value_is (HH.out.below hX.bw) who t.key hwl2 hkl HGV).mono ?_); unfold gives; rintro e wa ⟨rfl, hba⟩))
          have hXa := hX.below hba
          refine stepQ.mk ⟨fun _ => hXa, ?_⟩
          refine wpK_step 30 (by kernel_rfl) rfl ?_
          go_wp2_with ((go_at_call 34; (with_reducible refine (HGET.out _ hXa.bw).mono ?_); unfold gives; rintro e wb ⟨rfl, hbb⟩))
          have hXb := hXa.below hbb
          refine stepQ.mk ⟨fun _ => hXb, ?_⟩
          refine wpK_quiet (f := 0) (by kernel_rfl) (fun _ x _ _ _ h => by cases x <;> exact h) hXb [31, 32] _ _ (by kernel_rfl) (by kernel_rfl) (by kernel_rfl) ?_
          conv => arg 5; simp [pick]
          iterate 2 go_big_quiet_step (fail)
          refine wpQuiet_nil ?_
          refine wpK_seq [] _ _ _ (by kernel_rfl) ?_
          conv => arg 4; simp [pick]
          have hbz : Below w7.heap.size w7 wb := nxt (nxt (nxt hbx hb9).drew hba) hbb
          have hSz : holdS w (mC A V s.A.length s.V.length ca cv) wb := ⟨hXb.blk, hXb.bw⟩
          have kbz : Blk wb gr 9 #[.string (str t.frm), .string (str t.to)] := kb.below hbz kb.lt
          clear hX hXa hXb p1 p2 p3 ne hS9 kx
          go_wp2
          go_roundw
          case rel => exact ⟨m + 1, by go_num, by omega, hSz, kbz, hbz⟩
          case measure => simp [intOf]; omega
        · obtain rfl : m = 2 := by omega
          go_wp2
          go_roundw
          case rel => exact ⟨k + 1, by go_num, by omega, hSx⟩
          case measure => simp [intOf]; omega
    · obtain rfl : k = n1 := by omega
      go_wp2
      go_ret
      exact ⟨rfl, hSr.bw⟩
end Go.Proofs.YthkgadjiiapfgaaGreatDoor
