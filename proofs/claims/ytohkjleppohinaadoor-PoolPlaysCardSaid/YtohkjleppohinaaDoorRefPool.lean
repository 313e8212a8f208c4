/-
  The document's pool: one more waits; some wait no more.
-/
import Derived.Test.YtohkjleppohinaaDoorRefHas
import Derived.Test.YtohkjleppohinaaDoorRefCheckT
set_option linter.unusedSimpArgs false
set_option linter.unusedVariables false
set_option maxRecDepth 10000
namespace Go.Proofs.YtohkjleppohinaaDoor
open Go.RowKit Go.Lib
open L3 (Blk Reads block_of_add add_of_add)
open L6 (Turn moreB fresh From In)

/-- The document's pool as a value. -/
def plC (most : Int) (A : Option Addr) (n c : Nat) : Array Value := #[.int .i64 most, .slice A n c]
theorem plC_ones (most : Int) (A : Option Addr) (n c : Nat) : (plC most A n c).all (·.oneCell') = true := by kernel_rfl
theorem plInfo : (Tryd.prog.info? 30).map (·.size) = some 2 := by kernel_rfl
theorem build_pl (most : Int) (A : Option Addr) (n c : Nat) (w : World) : (Instr.build 30 #[(0, .int .i64 most), (1, .slice A n c)]).run Tryd.prog w = .ok (.agg (plC most A n c)) w := run_build w _ _ _ (by kernel_rfl)
/-- What Drop and Past leave: a new list. -/
def backP (most : Int) (L : List Txx) (w : World) (e : Ending) (w' : World) : Prop :=
  ∃ A c, e = .returned (.agg (plC most A L.length c)) ∧ Rd txL 7 w' A L ∧ (∀ ad, A = some ad → w.heap.size ≤ ad.block ∧ ad.block < w'.heap.size) ∧ Below w.heap.size w w'
/-- What is held while a list is gone through: the pool's block, and the answer's. -/
structure PlAt (w : World) (most : Int) (A : Option Addr) (c : Nat) (L : List Txx) (wr : World) : Prop where
  pl : Blk wr w.heap.size 30 (plC most A L.length c)
  re : Blk wr (w.heap.size + 1) 30 (plC 0 none 0 0)
  rd : Rd txL 7 wr A L
  bw : Below w.heap.size w wr
theorem PlAt.below {w wr wr' : World} {most : Int} {A : Option Addr} {c : Nat} {L : List Txx} (h : PlAt w most A c L wr) (hb : Below wr.heap.size wr wr') : PlAt w most A c L wr' := ⟨h.pl.below hb h.pl.lt, h.re.below hb h.re.lt, h.rd.below hb, nxt h.bw hb⟩
theorem PlAt.grown {w wr wr' : World} {most : Int} {A : Option Addr} {c : Nat} {L : List Txx} (h : PlAt w most A c L wr) {row : Option Nat} (hg : wr.grownBy wr' row) (hr : ∀ g, row = some g → w.heap.size + 2 ≤ g) (hA : L.length ≠ 0 → ∀ ad, A = some ad → ad.block < w.heap.size) : PlAt w most A c L wr' := by
  have ht : Turn (fun k => w.heap.size + 2 ≤ k) wr wr' := L6.Turn.of_grown hg hr
  exact ⟨ht.blk h.pl (by omega), ht.blk h.re (by omega), h.rd.kept2 ht (fun h0 ad e h2 => by have := hA h0 ad e; omega), h.bw.trans (ht.below (B := w.heap.size) (fun i hi => by omega) h.bw.size)⟩
theorem PlAt.start {w : World} {most : Int} {A : Option Addr} {c : Nat} {L : List Txx} (h : Rd txL 7 w A L) : PlAt w most A c L ((w.alloc (.cells (plC most A L.length c) 30)).alloc (.cells (plC 0 none 0 0) 30)) := by
  have hb : Below w.heap.size w ((w.alloc (.cells (plC most A L.length c) 30)).alloc (.cells (plC 0 none 0 0) 30)) := ((Below.refl _ _).alloc (Nat.le_refl _) _).alloc (by simp) _
  have k2 := Blk.new (w.alloc (.cells (plC most A L.length c) 30)) 30 (plC 0 none 0 0)
  exact ⟨(Blk.new _ _ _).alloc _, by simpa using k2, h.below hb, hb⟩
theorem rd_lt {w : World} {A : Option Addr} {L : List Txx} (h : Rd txL 7 w A L) : L.length ≠ 0 → ∀ ad, A = some ad → ad.block < w.heap.size := fun h0 ad e => by
  obtain ⟨ad2, e2, hb, _⟩ := h 0 (by omega)
  rw [e] at e2; injection e2 with e2; rw [e2]; exact hb
theorem keep_snoc {L : List Txx} {p : Txx → Bool} {k : Nat} (h : k < L.length) : (p L[k] = true → (L.take (k + 1)).filter p = (L.take k).filter p ++ [L[k]]) ∧ (p L[k] = false → (L.take (k + 1)).filter p = (L.take k).filter p) := by
  have := filter_snoc h p
  exact ⟨fun e => by rw [this, if_pos e], fun e => by rw [this, if_neg (by simp [e]), List.append_nil]⟩
/-- The end: the answer's block is filled. -/
theorem backP.of {w w2 : World} {most : Int} {A2 : Option Addr} {c2 : Nat} {M L : List Txx} {A : Option Addr} {c : Nat} (h : PlAt w most A c L w2) (hr : w2.ownsRow (w.heap.size + 2) 35 7 (.slice A2 M.length c2) M.length (M.flatMap txL)) :
    backP most M w (.returned (.agg (plC most A2 M.length c2))) (w2.setRow (w.heap.size + 1) (plC most A2 M.length c2)) := by
  obtain ⟨A3, c3, hv, hrd, hA⟩ := Rd.of_row (f := txL) (k := 7) (fun _ => rfl) hr
  injection hv with h1 _ h3
  subst h1 h3
  have ht := turn_row w2 (w.heap.size + 1) (plC most A2 M.length c2)
  exact ⟨A2, c2, rfl, hrd.kept ht (fun ad e h2 => by have := (hA ad e).1; omega), fun ad e => ⟨by have := (hA ad e).1; omega, Nat.lt_of_lt_of_le (hA ad e).2 ht.size⟩, below_setRow h.bw (by omega)⟩
set_option maxHeartbeats 4000000 in
set_option maxRecDepth 100000 in
theorem refdrop_any (most : Int) (A : Option Addr) (c : Nat) (L : List Txx) (B : Option Addr) (d : Nat) (Wl : List Txx) (w : World) (hl : ∀ t ∈ L, t.wf 1000) (hw : ∀ t ∈ Wl, t.wf 1000) (hr : Rd txL 7 w A L) (hs : Rd txL 7 w B Wl) (hn : L.length ≤ 1000000) (hm : Wl.length ≤ 1000000) :
    Calls Tryd.prog 14 #[.agg (plC most A L.length c), .slice B Wl.length d] w (backP most (dropL Wl L) w) := by
  obtain ⟨i0, hi, hz0, hz1, hz2⟩ := tx_parts
  have HAL := Lib.hid (rd_lt hr)
  have HL := Lib.hid hl
  have HHAS := Lib.hid (fun W x (hb : Below w.heap.size w W) (hx : x.wf 1000) => refhas_any B d Wl x W hw hx (hs.below hb) hm)
  obtain ⟨z, hz⟩ : ∃ z, z = Wl.length := ⟨_, rfl⟩
  rw [← hz] at HHAS ⊢
  obtain ⟨n, hn2⟩ : ∃ n, n = L.length := ⟨_, rfl⟩
  obtain ⟨W0, hW0⟩ : ∃ W0, W0 = (w.alloc (.cells (plC most A L.length c) 30)).alloc (.cells (plC 0 none 0 0) 30) := ⟨_, rfl⟩
  have hP : PlAt w most A c L W0 := by rw [hW0]; exact PlAt.start hr
  have hs0 : W0.heap.size = w.heap.size + 2 := by rw [hW0]; simp
  have hE : ((w.alloc (.cells (plC most A n c) 30)).alloc (.cells #[.int .i64 0, .slice none 0 0] 30)) = W0 := by rw [hW0, hn2]; rfl
  rw [← hn2] at hn ⊢
  have HN := Lib.hid hn2
  have HS0 := Lib.hid hs0
  clear hz hn2 hW0 hs0 hr hs hl hw hm
  go_enter Tryd.func14, Tryd.ntmps14
  go_upto_region 1 with fail
  clear hE
  go_wp2
  go_loopw [5, 6] (fun l i wr => ∃ k : Nat, i = .int .i64 k ∧ k ≤ n ∧ wr.ownsRow (w.heap.size + 2) 35 7 l (dropL Wl (L.take k)).length ((dropL Wl (L.take k)).flatMap txL) ∧ PlAt w most A c L wr ∧ w.heap.size + 2 ≤ wr.heap.size) (fun _ i _ => n - (RowKit.intOf i).toNat)
  case atStart => exact ⟨0, rfl, Nat.zero_le _, ⟨by simp [dropL], .inl ⟨rfl, by simp [dropL]⟩⟩, hP, by have := HS0.out; omega⟩
  case round =>
    obtain ⟨k, rfl, hk, hrow, hPr, hsz⟩ := hrel
    have c1 : wr.cell? ⟨w.heap.size, 1, none⟩ = some (.slice A L.length c) := hPr.pl.cell 1
    have c0 : wr.cell? ⟨w.heap.size, 0, none⟩ = some (.int .i64 most) := hPr.pl.cell 0
    rw [← HN.out] at c1
    by_cases hlt : k < n
    · have hkL : k < L.length := by have := HN.out; omega
      obtain ⟨ad, rfl, hadl, hcs⟩ := hPr.rd k hkL
      have hx := HL.out _ (List.getElem_mem hkL)
      have hks := keep_snoc (p := fun t => !hasX Wl t) hkL
      have hol : (dropL Wl (L.take k)).length ≤ 1000000 := by have := List.length_filter_le (fun t => !hasX Wl t) (L.take k); rw [List.length_take] at this; unfold dropL; omega
      obtain ⟨F, hF⟩ : ∃ F, F = dropL Wl (L.take k) := ⟨_, rfl⟩
      obtain ⟨x, hxe⟩ : ∃ x, x = L[k] := ⟨_, rfl⟩
      rw [← hxe] at hcs hx hks
      rw [← hF] at hrow hol
      rw [show (L.take k).filter (fun t => !hasX Wl t) = F from hF.symm] at hks
      have HK := Lib.hid hks
      have hcs1 : ∀ j u, (txL x)[j]? = some u → wr.cell? ((ad.add (k * 7)).add j) = some u := hcs
      have hH := HHAS.out wr x hPr.bw hx
      obtain ⟨b, hb⟩ : ∃ b, b = hasX Wl x := ⟨_, rfl⟩
      rw [← hb] at hH
      have HB := Lib.hid hb
      have HH := Lib.hid hH
      clear hF hxe hks hcs hH hx hkL hb
      cases b with
      | true =>
        go_wp2_with (first
          | (refine wpList_cells_at rfl _ _ rfl (ad.add (k * 7)) rfl (txL x) _ hcs1 Tryd.underlying35 rfl txInfo ?_)
          | (go_at_call 20; refine HH.out.mono ?_; unfold gives; rintro e w2 ⟨rfl, hb2⟩)
          | go_in)
        go_roundw
        case rel => exact ⟨k + 1, by go_num, by omega, by unfold dropL; rw [HK.out.2 (by rw [← HB.out]; rfl)]; exact row_below hrow hb2, hPr.below hb2, Nat.le_trans hsz hb2.size⟩
        case measure => simp [RowKit.intOf]; omega
      | false =>
        go_upto_region 6 with (first
          | (refine wpList_cells_at rfl _ _ rfl (ad.add (k * 7)) rfl (txL x) _ hcs1 Tryd.underlying35 rfl txInfo ?_)
          | (go_at_call 20; refine HH.out.mono ?_; unfold gives; rintro e w2 ⟨rfl, hb2⟩)
          | go_in)
        have hP2 := hPr.below hb2
        have hr2 := row_below hrow hb2
        have hcs2 : ∀ j u, (txL x)[j]? = some u → w2.cell? ((ad.add (k * 7)).add j) = some u := fun j u hj => (hb2.cell (p := (ad.add (k * 7)).add j) (L2.cell_in (hcs1 j u hj))).trans (hcs1 j u hj)
        have hs2 := Nat.le_trans hsz hb2.size
        have q1 : w2.cell? ⟨w.heap.size, 1, none⟩ = some (.slice (some ad) L.length c) := hP2.pl.cell 1
        rw [← HN.out] at q1
        have hyb : Blk (w2.alloc (.cells (txC x) 35)) w2.heap.size 35 (txC x) := Blk.new _ _ _
        have hP3 := hP2.below (below_box 35 x)
        clear hrow hPr c1 c0 hcs1 hsz hb2
        go_wp2_with (first
          | (refine wpList_cells_at rfl _ _ rfl (ad.add (k * 7)) rfl (txL x) _ hcs2 Tryd.underlying35 rfl txInfo ?_)
          | (refine wpList_buildSlice rfl _ _ _ rfl #[(0, .agg (txC x))] rfl (slice_tx x _) ?_)
          | (at_builtin; refine L3.wpList_append_any _ rfl (.tmp 22) (.tmp 28) 28 rfl (w.heap.size + 2) 35 i0 _ 7 88 Tryd.underlying28 hi hz0 hz1 hz2 rfl (by decide) u5 F.length (F.flatMap txL) rfl (hr2.alloc _) (w2.heap.size + 1) (some ⟨w2.heap.size, 0, none⟩) 1 1 (txL x) rfl (reads_one (k := 7) rfl hyb) (one_txL x) (by unfold maxLen; omega) (by omega) (by simp; omega) ?_
             intro v3 w3 hr3 hg3 hat3
             have hP4 := hP3.grown hg3 (fun i e => (hr2.lt i e).1) HAL.out
             have hs3 := hg3.size)
          | go_in)
        go_roundw
        case rel => exact ⟨k + 1, by go_num, by omega, by unfold dropL; rw [HK.out.1 (by rw [← HB.out]; rfl), List.length_append, List.flatMap_append]; simpa using hr3, hP4, by simp at hs3; omega⟩
        case measure => simp [RowKit.intOf]; omega
    · obtain rfl : k = n := by omega
      have HT : Hid (L.take k = L) := Lib.hid (by rw [HN.out, List.take_length])
      rw [HT.out] at hrow
      obtain ⟨Q, cq, rfl, _⟩ := L6.row_reads hrow
      have HP := Lib.hid hPr
      have HRW := Lib.hid hrow
      obtain ⟨q, hq⟩ : ∃ q, q = (dropL Wl L).length := ⟨_, rfl⟩
      have HQ := Lib.hid hq
      have hre := hPr.re
      rw [← hq]
      clear hq hPr hrow
      go_wp2_with (first
        | (refine wpList_build rfl _ _ rfl #[(0, .int .i64 most), (1, .slice Q q cq)] rfl (build_pl most Q q cq wr) ?_)
        | (refine wpList_store_row rfl _ _ _ rfl (w.heap.size + 1) (plC most Q q cq) rfl rfl _ _ hre plInfo rfl (plC_ones _ _ _ _) ?_))
      (try simp only [Exit.inBlock, Exit.then])
      refine bodyPost_ret (results_row rfl _ _ (w.heap.size + 1) rfl _ (plC most Q q cq) _ _ (blk_setRow hre) Tryd.underlying30 rfl plInfo) rfl ?_
      have hd := HRW.out
      have := backP.of (M := dropL Wl L) (A2 := Q) (c2 := cq) HP.out hd
      rw [← HQ.out] at this
      exact this
end Go.Proofs.YtohkjleppohinaaDoor
