/-
  The document's tree: paths.
-/
import Derived.Test.YtgclofemhhhepaaRefT
import Derived.Test.YtgclofemhhhepaaPath
set_option linter.unusedSimpArgs false
set_option linter.unusedVariables false
set_option maxRecDepth 10000
namespace Go.Proofs.Ytgclofemhhhepaa
open Go.RowKit Go.Maps Go.Lib
open L3 (Blk Reads block_of_add add_of_add)
open L6 (Turn moreB fresh From In)

theorem ownI_less {w : World} {b b' : Nat} {v : Value} {l : List Int} (h : OwnI w b v l) (hb : b' ≤ b) : OwnI w b' v l := by
  refine ⟨h.1, ?_⟩
  rcases h.2 with h0 | ⟨g, cap, cur, h1, h2, h3⟩
  · exact .inl h0
  · exact .inr ⟨g, cap, cur, h1, Nat.le_trans hb h2, h3⟩
def RPathPost (l : List Int) (w : World) (e : Ending) (w' : World) : Prop := ∃ v, e = .returned (.tuple #[v, .int .i64 0]) ∧ OwnI w' w.heap.size v l ∧ Below w.heap.size w w'
set_option maxHeartbeats 4000000 in
set_option maxRecDepth 100000 in
theorem rpath_ok (m r rd : Int) (A : Option Addr) (c : Nat) (L : List Ent) (h1 : OneN r L) (h0 : InOk r L) (hl : L.length ≤ 1000000) {n : Int} {l : List Int} (hp : PathIs r L n l) :
    ∀ w, Rd enL 16 w A L → Calls Try.prog 28 #[.agg (rtC m r rd A L.length c), .int .i64 n] w (RPathPost l w) := by
  induction hp with
  | root =>
    intro w hr
    obtain ⟨z, hz⟩ : ∃ z, z = L.length := ⟨_, rfl⟩
    rw [← hz]
    have k0 : Blk (w.alloc (.cells (rtC m r rd A z c) 30)) w.heap.size 30 (rtC m r rd A z c) := Blk.new _ _ _
    have hb0 := below_new w (.cells (rtC m r rd A z c) 30)
    obtain ⟨W0, hW0⟩ : ∃ W0, W0 = w.alloc (.cells (rtC m r rd A z c) 30) := ⟨_, rfl⟩
    rw [← hW0] at k0 hb0
    have hE := hW0.symm
    have c1 : W0.cell? ⟨w.heap.size, 1, none⟩ = some (.int .i64 r) := k0.cell 1
    clear hr h1 h0 hl hz hW0
    go_enter Try.func28, Try.ntmps28
    go_upto_region 1 with fail
    clear hE
    go_wp2
    go_ret2
    exact ⟨_, rfl, World.ownsRow_nil _ _ _ _, hb0⟩
  | up e l he hp ih =>
    intro w hr
    obtain ⟨i0, hi, hz0, hz1, hz2⟩ := info_parts intInfo
    have hll : l.length ≤ 1000000 := by have := path_len h1 hp; omega
    have hne : (e.n == r) = false := by simpa using h1.2 e he
    have hei : e.isin = true := (h0 e he).2 (.up e he (path_hang hp))
    have hat : atV L e.n = some e := (atV_some h1.1).2 ⟨he, rfl⟩
    have HA := Lib.hid (fun W (hb : Below w.heap.size w W) => rat_any m r rd A c L e.n W (hr.below hb) hl)
    have IH := Lib.hid (fun W (hb : Below w.heap.size w W) => ih W (hr.below hb))
    rw [hat] at HA
    obtain ⟨z, hz⟩ : ∃ z, z = L.length := ⟨_, rfl⟩
    obtain ⟨n, hn⟩ : ∃ n, n = e.n := ⟨_, rfl⟩
    obtain ⟨p, hpp⟩ : ∃ p, p = e.p := ⟨_, rfl⟩
    rw [← hz, ← hn] at HA
    rw [← hz, ← hpp] at IH
    rw [← hn] at hne ⊢
    rw [← hz]
    replace HA : Hid (∀ W, Below w.heap.size w W → Calls Try.prog 22 #[.agg (rtC m r rd A z c), .int .i64 n] W (gives (.tuple #[.agg (enC e), .bool true]) W)) := HA
    have k0 : Blk (w.alloc (.cells (rtC m r rd A z c) 30)) w.heap.size 30 (rtC m r rd A z c) := Blk.new _ _ _
    have hb0 := below_new w (.cells (rtC m r rd A z c) 30)
    obtain ⟨W0, hW0⟩ : ∃ W0, W0 = w.alloc (.cells (rtC m r rd A z c) 30) := ⟨_, rfl⟩
    rw [← hW0] at k0 hb0
    have hE := hW0.symm
    have HH := Lib.hid (HA.out W0 hb0)
    have c1 : W0.cell? ⟨w.heap.size, 1, none⟩ = some (.int .i64 r) := k0.cell 1
    have q15 : (enC e)[15]? = some (.bool true) := by rw [← hei]; rfl
    have q6 : (enC e)[6]? = some (.int .i64 p) := by rw [hpp]; rfl
    clear hr h1 h0 hl ih hp he hat hei hz hn hpp hW0 HA
    go_enter Try.func28, Try.ntmps28
    go_upto_region 1 with fail
    clear hE
    go_upto_region 3 with fail
    clear c1
    go_upto_region 4 with (first
      | (refine wpList_row_at rfl _ _ rfl w.heap.size rfl _ _ _ _ k0 Try.underlying30 rfl rtInfo ?_)
      | (go_at_call 22; refine HH.out.mono ?_; unfold gives; rintro e2 w2 ⟨rfl, hb2⟩)
      | (refine wpList_store_new rfl _ _ _ rfl w2 (enC e) rfl rfl 68 _ enInfo rfl (enC_ones _) ?_)
      | go_in)
    have k2 := (k0.below hb2 k0.lt).alloc (.cells (enC e) 68)
    have ke : Blk (w2.alloc (.cells (enC e) 68)) w2.heap.size 68 (enC e) := Blk.new _ _ _
    have hbz := nxt (nxt hb0 hb2) (below_new w2 (.cells (enC e) 68))
    obtain ⟨w3, hw3⟩ : ∃ w3, w3 = w2.alloc (.cells (enC e) 68) := ⟨_, rfl⟩
    rw [← hw3] at k2 ke hbz
    rw [← hw3]
    have c15 : w3.cell? ⟨w2.heap.size, 15, none⟩ = some (.bool true) := (ke.cell 15).trans q15
    have c6 : w3.cell? ⟨w2.heap.size, 6, none⟩ = some (.int .i64 p) := (ke.cell 6).trans q6
    have II := Lib.hid (IH.out w3 hbz)
    clear hw3 ke k0 hb2 HH
    go_upto_region 9 with (first
      | (refine wpList_row_at rfl _ _ rfl w.heap.size rfl _ _ _ _ k2 Try.underlying30 rfl rtInfo ?_)
      | (go_at_call 28; refine II.out.mono ?_; unfold RPathPost; rintro e2 w4 ⟨v, rfl, hrow, hb4⟩)
      | go_in)
    have hrow2 := ownI_less hrow hbz.size
    have hbw := nxt hbz hb4
    have hmax : l.length + 1 ≤ maxLen := by unfold maxLen; omega
    have hsz := hbw.size
    have HOB := Lib.hid (fun j hj => (hrow2.lt j hj).1)
    clear k2 c15 c6 hrow hb4 hbz II
    go_wp2_with (first
      | (at_builtin; refine wpList_append_own _ rfl _ _ 50 rfl w.heap.size 3 i0 (.int .i64 0) 1 8 Try.underlying50 hi hz0 hz1 hz2 rfl (by decide) _ _ _ rfl (hrow2.alloc _) ⟨w4.heap.size, 0, none⟩ 1 1 [.int .i64 n] rfl rfl (cell_one_new _ _ _) (ints_oneCell .i64 [n]) hmax (by omega) (by simp; omega) ?_; intro v' w5 hown5 hg5 _)
      | go_in)
    go_ret2
    refine ⟨_, rfl, ?_, (hbw.alloc hbw.size _).grown hg5 (by simp; omega) HOB.out⟩
    have e1 : (l ++ [n]).length = l.length + 1 := by simp
    have e2 : (l ++ [n]).map (Value.int .i64) = l.map (Value.int .i64) ++ [.int .i64 n] := by simp
    unfold OwnI
    rw [e1, e2]
    exact hown5
set_option maxHeartbeats 4000000 in
set_option maxRecDepth 100000 in
theorem rpath_no (s : TS) (hs : s.wf) (A : Option Addr) (c : Nat) (hl : s.L.length ≤ 1000000) (n : Int) (w : World) (hr : Rd enL 16 w A s.L) (h0 : lackE s n ≠ 0) :
    Calls Try.prog 28 #[.agg (rtC s.most s.root s.round A s.L.length c), .int .i64 n] w (gives (.tuple #[.slice none 0 0, .int .i64 (lackE s n)]) w) := by
  obtain ⟨q, hq⟩ : ∃ q, q = lackE s n := ⟨_, rfl⟩
  have hv : ¬ hasV s.root s.L n := fun hv => h0 (if_pos hv)
  have hne : (n == s.root) = false := by simpa using fun e => hv (.inl e)
  have hk : q = match atV s.L n with | none => 50 | some _ => 150 := by
    rw [hq]
    unfold lackE
    rw [if_neg hv]
    cases hf : atV s.L n with
    | none =>
      rw [if_neg]
      rintro ⟨e, he, hn, _⟩
      have := (atV_some hs.one.1).2 ⟨he, hn⟩
      rw [hf] at this; cases this
    | some e =>
      obtain ⟨he, hn⟩ := (atV_some hs.one.1).1 hf
      rw [if_pos]
      refine ⟨e, he, hn, ?_⟩
      cases hi : e.isin with
      | false => rfl
      | true => exact absurd (.inr ⟨e, he, hn, hi⟩) hv
  have hin : ∀ e, atV s.L n = some e → e.isin = false := fun e he => by
    obtain ⟨h1, h2⟩ := (atV_some hs.one.1).1 he
    cases hi : e.isin with
    | false => rfl
    | true => exact absurd (.inr ⟨e, h1, h2, hi⟩) hv
  rw [← hq]
  have HA := Lib.hid (fun W (hb : Below w.heap.size w W) => rat_any s.most s.root s.round A c s.L n W (hr.below hb) hl)
  obtain ⟨m, r, rd, L⟩ := s
  dsimp only at *
  obtain ⟨z, hz⟩ : ∃ z, z = L.length := ⟨_, rfl⟩
  rw [← hz] at HA ⊢
  have k0 : Blk (w.alloc (.cells (rtC m r rd A z c) 30)) w.heap.size 30 (rtC m r rd A z c) := Blk.new _ _ _
  have hb0 := below_new w (.cells (rtC m r rd A z c) 30)
  obtain ⟨W0, hW0⟩ : ∃ W0, W0 = w.alloc (.cells (rtC m r rd A z c) 30) := ⟨_, rfl⟩
  rw [← hW0] at k0 hb0
  have hE := hW0.symm
  have HH := Lib.hid (HA.out W0 hb0)
  have c1 : W0.cell? ⟨w.heap.size, 1, none⟩ = some (.int .i64 r) := k0.cell 1
  cases hf : atV L n with
  | none =>
    rw [hf] at hk HH
    replace hk : q = 50 := hk
    replace HH : Hid (Calls Try.prog 22 #[.agg (rtC m r rd A z c), .int .i64 n] W0 (gives (.tuple #[.agg (enC zeroEn), .bool false]) W0)) := HH
    have HK := Lib.hid hk
    clear hr hs hl hz hW0 HA hk hf hin hv h0 hq
    go_enter Try.func28, Try.ntmps28
    go_upto_region 1 with fail
    clear hE
    go_upto_region 3 with fail
    clear c1
    go_upto_region 4 with (first
      | (refine wpList_row_at rfl _ _ rfl w.heap.size rfl _ _ _ _ k0 Try.underlying30 rfl rtInfo ?_)
      | (go_at_call 22; refine HH.out.mono ?_; unfold gives; rintro e2 w2 ⟨rfl, hb2⟩)
      | (refine wpList_store_new rfl _ _ _ rfl w2 (enC zeroEn) rfl rfl 68 _ enInfo rfl (enC_ones _) ?_)
      | go_in)
    have hbz := nxt (nxt hb0 hb2) (below_new w2 (.cells (enC zeroEn) 68))
    clear HH k0 hb2
    go_wp2
    go_ret2
    exact ⟨by rw [HK.out]; rfl, hbz⟩
  | some e =>
    have hei := hin e hf
    rw [hf] at hk HH
    replace hk : q = 150 := hk
    replace HH : Hid (Calls Try.prog 22 #[.agg (rtC m r rd A z c), .int .i64 n] W0 (gives (.tuple #[.agg (enC e), .bool true]) W0)) := HH
    have HK := Lib.hid hk
    have q15 : (enC e)[15]? = some (.bool false) := by rw [← hei]; rfl
    clear hr hs hl hz hW0 HA hk hf hin hv h0 hq hei
    go_enter Try.func28, Try.ntmps28
    go_upto_region 1 with fail
    clear hE
    go_upto_region 3 with fail
    clear c1
    go_upto_region 4 with (first
      | (refine wpList_row_at rfl _ _ rfl w.heap.size rfl _ _ _ _ k0 Try.underlying30 rfl rtInfo ?_)
      | (go_at_call 22; refine HH.out.mono ?_; unfold gives; rintro e2 w2 ⟨rfl, hb2⟩)
      | (refine wpList_store_new rfl _ _ _ rfl w2 (enC e) rfl rfl 68 _ enInfo rfl (enC_ones _) ?_)
      | go_in)
    have hbz := nxt (nxt hb0 hb2) (below_new w2 (.cells (enC e) 68))
    have ke : Blk (w2.alloc (.cells (enC e) 68)) w2.heap.size 68 (enC e) := Blk.new _ _ _
    obtain ⟨w3, hw3⟩ : ∃ w3, w3 = w2.alloc (.cells (enC e) 68) := ⟨_, rfl⟩
    rw [← hw3] at hbz ke
    rw [← hw3]
    have c15 : w3.cell? ⟨w2.heap.size, 15, none⟩ = some (.bool false) := (ke.cell 15).trans q15
    clear HH k0 hb2 hw3 ke
    go_wp2
    go_ret2
    exact ⟨by rw [HK.out]; rfl, hbz⟩
end Go.Proofs.Ytgclofemhhhepaa
