/-
  Two transactions of people who have nothing in common, in either order: the walk.
-/
import Derived.Test.YthkgadjiiapfgaaDoorNamed
set_option linter.unusedSimpArgs false
set_option linter.unusedVariables false
set_option maxRecDepth 10000
namespace Go.Proofs.YthkgadjiiapfgaaDoor
open Go.RowKit Go.Maps Go.Lib
open L2 (less nums chk vlu)
open L3 (Blk)
open L6 (Turn moreB fresh From In)

theorem wpList_buildSliceW {P : Program} {ops : Array Oper} {rest : List Oper} {o : Oper} {a : Act} {w w' : World} {Q : Exit → Act → World → Prop} (hw : Region.wanted o (yielded ops a.tmps) = true) (t : TypeId) (n : Nat) (parts : Array (Nat × Operand)) (ho : o.op = .buildSlice t n parts) (ps : Array (Nat × Value))
    (hp : (parts.toList.map fun p => (p.1, a.eval p.2)) = ps.toList) {v : Value} (hrun : (Instr.buildSlice t n ps).run P w = .ok v w')
    (h : wpList P ops Q rest (a.put o.dst v) w') : wpList P ops Q (o :: rest) a w := by
  refine wpList_wanted hw fun _ hK => ?_
  have hp' : (parts.map fun p => (p.1, a.eval p.2)) = ps := by apply Array.toList_inj.1; rw [Array.toList_map]; exact hp
  subst hp'
  unfold Oper.wp
  simp only [execOp, ho, Sem.run_bind, hrun, Result.andThen_ok, Sem.run_pure]
  exact hK _ _ h
theorem slice_two (a b : Txx) (w : World) : (Instr.buildSlice 23 2 #[(0, .agg (txC a)), (1, .agg (txC b))]).run Tryd.prog w = .ok (.slice (some ⟨w.heap.size, 0, none⟩) 2 2) (w.alloc (.cells #[.int .i64 a.kind, .string (str a.frm), .string (str a.to), .string (str a.key), .string (str a.val), .int .i64 a.amount, .int .i64 a.nonce, .int .i64 b.kind, .string (str b.frm), .string (str b.to), .string (str b.key), .string (str b.val), .int .i64 b.amount, .int .i64 b.nonce] 33)) := by kernel_rfl
def two (a b : Txx) (i : Nat) : Txx := if i = 0 then a else b
def twoC (a b : Txx) : Array Value := #[.int .i64 a.kind, .string (str a.frm), .string (str a.to), .string (str a.key), .string (str a.val), .int .i64 a.amount, .int .i64 a.nonce, .int .i64 b.kind, .string (str b.frm), .string (str b.to), .string (str b.key), .string (str b.val), .int .i64 b.amount, .int .i64 b.nonce]
theorem txs_two (a b : Txx) (w : World) (ha : a.wf maxLen) (hb : b.wf maxLen) : Txs (w.alloc (.cells (twoC a b) 33)) (some ⟨w.heap.size, 0, none⟩) 2 (two a b) := by
  have hk : Blk (w.alloc (.cells (twoC a b) 33)) w.heap.size 33 (twoC a b) := Blk.new _ _ _
  intro i hi
  refine ⟨⟨w.heap.size, 0, none⟩, rfl, hk.lt, fun j u hj => ?_, by unfold two; split <;> assumption⟩
  rw [L3.add_of_add]
  have hj7 : j < 7 := by
    rcases Nat.lt_or_ge j 7 with h | h
    · exact h
    · rw [List.getElem?_eq_none (by simp [txL]; omega)] at hj; cases hj
  have hc := blk_cells _ _ _ (twoC a b).toList hk (i * 7 + j) u (by
    rcases (show i = 0 ∨ i = 1 by omega) with rfl | rfl
    · rw [show two a b 0 = a from rfl] at hj
      match j, hj, hj7 with
      | 0, h, _ | 1, h, _ | 2, h, _ | 3, h, _ | 4, h, _ | 5, h, _ | 6, h, _ => exact h
    · rw [show two a b 1 = b from rfl] at hj
      match j, hj, hj7 with
      | 0, h, _ | 1, h, _ | 2, h, _ | 3, h, _ | 4, h, _ | 5, h, _ | 6, h, _ => exact h)
  exact hc
theorem two_any (a b : Txx) (w : World) (ha : a.wf maxLen) (hb : b.wf maxLen) : Calls Tryd.prog 9 #[.slice (some ⟨w.heap.size, 0, none⟩) 2 2] (w.alloc (.cells (twoC a b) 33)) (gives (.bool (greatX 2 (two a b))) w) := by
  have hb0 : Below w.heap.size w (w.alloc (.cells (twoC a b) 33)) := (Below.refl _ _).alloc (Nat.le_refl _) _
  refine (greatX_any _ 2 2 _ _ (txs_two a b w ha hb) (by unfold maxLen; omega)).mono ?_
  rintro e w' ⟨rfl, h⟩
  exact ⟨rfl, L6.nxt hb0 h hb0.size⟩
set_option maxHeartbeats 4000000 in
set_option maxRecDepth 100000 in
theorem apart_any (A0 : Option Addr) (n0 c0 : Nat) (D0 : Nat → Am) (A1 : Option Addr) (n1 c1 : Nat) (D1 : Nat → Txx) (a b : Txx) (w : World) (h0 : Ams w A0 n0 D0) (hn0 : n0 ≤ maxLen) (h1 : Txs w A1 n1 D1) (hn1 : n1 ≤ maxLen) (hwa : a.wf maxLen) (hwb : b.wf maxLen) (hT : Tabs w) :
    Calls Tryd.prog 5 #[.slice A0 n0 c0, .slice A1 n1 c1, .agg (txC a), .agg (txC b)] w (gives (.bool true) w) := by
  have HT := Lib.hid (fun w' (hb : Below w.heap.size w w') => hT.kept hb)
  clear hT
  go_enter Tryd.func5, Tryd.ntmps5
  go_upto_region 1 with (fail)
  obtain ⟨W, hW⟩ : ∃ W, W = (w.alloc (.cells (txC a) 33)).alloc (.cells (txC b) 33) := ⟨_, rfl⟩
  have ka : Blk W w.heap.size 33 (txC a) := by rw [hW]; exact (Blk.new _ _ _).alloc _
  have kb : Blk W (w.heap.size + 1) 33 (txC b) := by rw [hW]; have := Blk.new (w.alloc (.cells (txC a) 33)) 33 (txC b); simpa using this
  have hbW : Below w.heap.size w W := by rw [hW]; exact ((Below.refl _ _).alloc (Nat.le_refl _) _).alloc (by simp) _
  rw [← hW]
  clear hW
  have HA := Lib.hid (alive_any W (HT.out _ hbW))
  go_upto_region 3 with (first
    | (go_at_call 6; refine HA.out.mono ?_; unfold gives; rintro e w1 ⟨rfl, hb1⟩)
    | go_in)
  have ka1 := ka.below hb1 ka.lt
  have kb1 := kb.below hb1 kb.lt
  have hw1 := nxt hbW hb1
  clear ka kb hb1 HA hbW
  have hga := refgreat_any A0 n0 c0 D0 w1 (h0.below hw1) hn0
  rcases Bool.eq_false_or_eq_true (greatA n0 D0) with hA | hA
  · rw [hA] at hga
    clear hA
    go_wp2_with (first
      | (go_at_call 8; refine hga.mono ?_; unfold gives; rintro e w4 ⟨rfl, hb4⟩)
      | go_in)
    go_ret
    exact ⟨rfl, nxt hw1 hb4⟩
  rw [hA] at hga
  have hgx := fun W (hb : Below w.heap.size w W) => greatX_any A1 n1 c1 D1 W (h1.below hb) hn1
  rcases Bool.eq_false_or_eq_true (greatX n1 D1) with hX | hX
  · rw [hX] at hgx
    clear hA hX
    go_wp2_with (first
      | (go_at_call 8; refine hga.mono ?_; unfold gives; rintro e w4 ⟨rfl, hb4⟩; have hw4 := nxt hw1 hb4)
      | (go_at_call 9; refine (hgx _ hw4).mono ?_; unfold gives; rintro e w5 ⟨rfl, hb5⟩)
      | go_in)
    go_ret
    exact ⟨rfl, nxt hw4 hb5⟩
  rw [hX] at hgx
  obtain ⟨hl0, _⟩ := greatA_not hA
  obtain ⟨hl1, hgr⟩ := greatX_not hX
  have HR := Lib.hid hgr
  have hg2 := fun W => two_any a b W hwa hwb
  clear hA hX hgr
  rcases Bool.eq_false_or_eq_true (greatX 2 (two a b)) with hY | hY
  · rw [hY] at hg2
    clear hY
    go_wp2_with (first
      | (go_at_call 8; refine hga.mono ?_; unfold gives; rintro e w4 ⟨rfl, hb4⟩; have hw4 := nxt hw1 hb4)
      | (go_at_call 9; first
          | ((with_reducible refine (hgx _ hw4).mono ?_); unfold gives; rintro e w5 ⟨rfl, hb5⟩
             have hw5 := nxt hw4 hb5
             have ka5 := (ka1.below hb4 ka1.lt).below hb5 (Nat.lt_of_lt_of_le ka1.lt hb4.size)
             have kb5 := (kb1.below hb4 kb1.lt).below hb5 (Nat.lt_of_lt_of_le kb1.lt hb4.size))
          | (refine (hg2 _).mono ?_; unfold gives; rintro e w6 ⟨rfl, hb6⟩))
      | (refine wpList_row_at rfl _ _ rfl w.heap.size rfl _ _ _ _ ka5 Tryd.underlying33 rfl txInfo ?_)
      | (refine wpList_row_at rfl _ _ rfl (w.heap.size + 1) rfl _ _ _ _ kb5 Tryd.underlying33 rfl txInfo ?_)
      | (refine wpList_buildSliceW rfl _ _ _ rfl #[(0, .agg (txC a)), (1, .agg (txC b))] rfl (slice_two a b w5) ?_)
      | go_in)
    go_ret
    exact ⟨rfl, nxt hw5 hb6⟩
  rw [hY] at hg2
  obtain ⟨_, hab⟩ := greatX_not hY
  have hgA := great_wf hwa (hab 0 (by omega))
  have hgB := great_wf hwb (hab 1 (by omega))
  clear hY hab
  go_upto_region 5 with (first
      | (go_at_call 8; refine hga.mono ?_; unfold gives; rintro e w4 ⟨rfl, hb4⟩; have hw4 := nxt hw1 hb4)
      | (go_at_call 9; first
          | ((with_reducible refine (hgx _ hw4).mono ?_); unfold gives; rintro e w5 ⟨rfl, hb5⟩
             have hw5 := nxt hw4 hb5
             have ka5 := (ka1.below hb4 ka1.lt).below hb5 (Nat.lt_of_lt_of_le ka1.lt hb4.size)
             have kb5 := (kb1.below hb4 kb1.lt).below hb5 (Nat.lt_of_lt_of_le kb1.lt hb4.size))
          | (refine (hg2 _).mono ?_; unfold gives; rintro e w6 ⟨rfl, hb6⟩))
      | (refine wpList_row_at rfl _ _ rfl w.heap.size rfl _ _ _ _ ka5 Tryd.underlying33 rfl txInfo ?_)
      | (refine wpList_row_at rfl _ _ rfl (w.heap.size + 1) rfl _ _ _ _ kb5 Tryd.underlying33 rfl txInfo ?_)
      | (refine wpList_buildSliceW rfl _ _ _ rfl #[(0, .agg (txC a)), (1, .agg (txC b))] rfl (slice_two a b w5) ?_)
      | go_in)
  have hw6 := nxt hw5 hb6
  have ka6 := ka5.below hb6 ka5.lt
  have kb6 := kb5.below hb6 kb5.lt
  clear ka1 kb1 ka5 kb5 hb4 hb5 hb6 hw4 hw5 hga hgx hg2 hw1
  by_cases hq : newE [] (amsL n0 D0) = 0
  · have hN := new_ok A0 n0 c0 D0 w6 (h0.below hw6) hn0 hq
    clear hq
    go_upto_region 6 with (first
      | (go_at_call 7; refine hN.mono ?_; rintro e w7 ⟨g, rfl, hs7, hb7⟩)
      | go_in)
    have ka7 := ka6.below hb7 ka6.lt
    have kb7 := kb6.below hb7 kb6.lt
    have hi7 : In w7 (fresh w6 w7) := In.fresh _ _
    obtain ⟨σ0, hσ0⟩ : ∃ σ0, σ0 = (⟨(amsL n0 D0).map acc0, []⟩ : Stt) := ⟨_, rfl⟩
    rw [← hσ0] at hs7
    obtain ⟨a0, a1, a2, a3, a4, a5, a6⟩ := box_of ka7
    obtain ⟨b0, b1, b2, b3, b4, b5, b6⟩ := box_of kb7
    clear hσ0 hN
    by_cases e1 : a.frm = b.frm
    · have q1 := str_eq e1
      clear e1
      go_wp2
      go_ret
      exact ⟨rfl, nxt hw6 hb7⟩
    have q1 := str_ne e1
    by_cases e2 : a.frm = b.to
    · have q2 := str_eq e2
      clear e1 e2
      go_wp2
      go_ret
      exact ⟨rfl, nxt hw6 hb7⟩
    have q2 := str_ne e2
    by_cases e3 : a.to = b.frm
    · have q3 := str_eq e3
      clear e1 e2 e3
      go_wp2
      go_ret
      exact ⟨rfl, nxt hw6 hb7⟩
    have q3 := str_ne e3
    have HE1 := Lib.hid e1
    have HE2 := Lib.hid e2
    have HE3 := Lib.hid e3
    clear e1 e2 e3
    go_wp2
    go_loopw [11] (fun i wr => ∃ (k : Nat) (S : Nat → Prop) (σ : Stt), i = .int .i64 k ∧ k ≤ n1 ∧ Sx wr S g σ (n0 + 2 * k) ∧ In wr S ∧ From w6.heap.size S ∧ Below w6.heap.size w6 wr)
      (fun i _ => n1 - (intOf i).toNat)
    case atStart => exact ⟨0, _, σ0, rfl, Nat.zero_le _, hs7.le (by omega), hi7, From.fresh _ _, hb7⟩
    case round =>
      obtain ⟨k, S, σ, rfl, hk, hs, hi, hf, hbw⟩ := hrel
      have hww := nxt hw6 hbw
      by_cases hlt : k < n1
      · obtain ⟨ad, rfl, hadl, hcs, hwf0⟩ := (h1.below hww) k hlt
        have hwf6 := (great_wf hwf0 (HR.out k hlt)).le (show 1000 ≤ 1000000 by omega)
        obtain ⟨t, ht⟩ : ∃ t, t = D1 k := ⟨_, rfl⟩
        rw [← ht] at hcs hwf6
        obtain ⟨q, hq⟩ : ∃ q, q = doE σ t := ⟨_, rfl⟩
        obtain ⟨z, hz⟩ : ∃ z, z = doS σ t := ⟨_, rfl⟩
        have HQ := Lib.hid hq
        have HZ := Lib.hid hz
        have HD := Lib.hid (do_is hs hi t hwf6 (HT.out _ hww) (by unfold maxLen; omega) HQ HZ)
        clear ht hq hz hwf0
        go_wp2_with (first
          | (refine wpList_cells_at rfl _ _ rfl (ad.add (k * 7)) rfl (txL t) _ hcs Tryd.underlying33 rfl txInfo ?_)
          | (go_at_call 13; refine HD.out.mono ?_; rintro e v4 ⟨rfl, vs4, vi4, vt4⟩)
          | go_in)
        go_roundw
        case rel => exact ⟨k + 1, _, z, by go_num, by omega, vs4.le (by omega), vi4, hf.more hbw.size, L6.nxtT hbw vt4 hf⟩
        case measure => simp [intOf]; omega
      · obtain rfl : k = n1 := by omega
        obtain ⟨wo, hwo⟩ : ∃ wo, wo = wr := ⟨_, rfl⟩
        subst hwo
        have HC := Lib.hid (copy_any hs)
        clear a0 a1 a2 a3 a4 a5 a6 b0 b1 b2 b3 b4 b5 b6 q1 q2 q3
        go_upto_region 13 with (first
          | (go_at_call 16; refine HC.out.mono ?_; rintro e v1 ⟨c, rfl, vc1, vb1⟩)
          | go_in)
        have vs1 := (hs.below vb1).below ((Below.refl _ v1).drew)
        have vc1' := vc1.below ((Below.refl _ v1).drew)
        have hb61 : Below w6.heap.size w6 v1.drew := (nxt hbw vb1).drew
        have hb1w := nxt hw6 hb61
        have hkA := ka6.below hb61 ka6.lt
        have hkB := kb6.below hb61 kb6.lt
        have hiS : In v1.drew S := hi.le vb1.size
        have hiC : In v1.drew (fresh wo v1) := In.fresh wo v1
        have hSC : L6.Apart (fresh wo v1) S := fun k h1 h2 => by have := hi k h2; have := h1.1; omega
        have hSa : ∀ x, x < w6.heap.size → ¬ S x := fun x hx h => by have := hf x h; omega
        have hwA := hgA.le (show 1000 ≤ 1000000 by omega)
        have hwB := hgB.le (show 1000 ≤ 1000000 by omega)
        obtain ⟨ex, hex⟩ : ∃ ex, ex = doE σ a := ⟨_, rfl⟩
        obtain ⟨ey, hey⟩ : ∃ ey, ey = doE σ b := ⟨_, rfl⟩
        obtain ⟨σa, hσa⟩ : ∃ σa, σa = doS σ a := ⟨_, rfl⟩
        obtain ⟨σb, hσb⟩ : ∃ σb, σb = doS σ b := ⟨_, rfl⟩
        obtain ⟨σab, hσab⟩ : ∃ σab, σab = doS σa b := ⟨_, rfl⟩
        obtain ⟨σba, hσba⟩ : ∃ σba, σba = doS σb a := ⟨_, rfl⟩
        obtain ⟨x0, hx0⟩ : ∃ x0, x0 = digT less σab := ⟨_, rfl⟩
        have HXa := Lib.hid hex
        have HYb := Lib.hid hey
        have HYab : Hid (ey = doE σa b) := Lib.hid (by rw [hσa, doE_other HE1.out HE3.out]; exact hey)
        have HXba : Hid (ex = doE σb a) := Lib.hid (by rw [hσb, doE_other (Ne.symm HE1.out) (Ne.symm HE2.out)]; exact hex)
        have HZa := Lib.hid hσa
        have HZb := Lib.hid hσb
        have HZab := Lib.hid hσab
        have HZba := Lib.hid hσba
        have HT0 := Lib.hid hx0
        have HT1 : Hid (x0 = digT less σba) := Lib.hid (by
          rw [hx0, hσab, hσba, hσa, hσb]
          have ho := hs.2.ok
          exact dig_same lessOrd (doS_keeps (doS_keeps ho a) b) (doS_keeps (doS_keeps ho b) a) (do_apart HE1.out HE3.out HE2.out))
        clear hex hey hσa hσb hσab hσba hx0
        have hm : n0 + 2 * k ≤ 1000 := by omega
        -- x, y := s.Do(a), s.Do(b)
        have hold : (fun X : World => Blk X w.heap.size 33 (txC a) ∧ Blk X (w.heap.size + 1) 33 (txC b)) v1.drew := ⟨hkA, hkB⟩
        refine wp_region_K (fun X : World => Blk X w.heap.size 33 (txC a) ∧ Blk X (w.heap.size + 1) 33 (txC b)) [0, 1, 3, 4] (by kernel_rfl) ?_
        refine wpK_quiet (f := 4) (by kernel_rfl) (fun _ x _ _ _ h => by cases x <;> exact h) hold [0, 1, 3, 4] _ _ (by kernel_rfl) (by kernel_rfl) (by kernel_rfl) ?_
        have ne : Nonempty (WorldIn (fun X : World => Blk X w.heap.size 33 (txC a) ∧ Blk X (w.heap.size + 1) 33 (txC b))) := ⟨⟨_, hold⟩⟩
        conv => arg 5; simp [pick]
        go_big_quiet_step (fail)
        refine wpQuiet_row rfl _ _ rfl w.heap.size rfl _ _ _ _ (fun y => y.h.1) Tryd.underlying33 rfl txInfo ?_
        conv => arg 6; simp only [Act.put, List.setIfInBounds_toArray, List.set_cons_zero, List.set_cons_succ]
        go_big_quiet_step (fail)
        refine wpQuiet_row rfl _ _ rfl (w.heap.size + 1) rfl _ _ _ _ (fun y => y.h.2) Tryd.underlying33 rfl txInfo ?_
        conv => arg 6; simp only [Act.put, List.setIfInBounds_toArray, List.set_cons_zero, List.set_cons_succ]
        refine wpQuiet_nil ?_
        refine wpK_step 2 (by kernel_rfl) rfl ?_
        go_wp2_with (go_at_call 13; refine (do_is vs1 hiS a hwA (HT.out _ hb1w) (by unfold maxLen; omega) HXa HZa).mono ?_; rintro e v2 ⟨rfl, vs2, vi2, vt2⟩)
        have hkA2 := vt2.blk hkA (hSa _ ka6.lt)
        have hkB2 := vt2.blk hkB (hSa _ kb6.lt)
        have hb62 := L6.nxtT hb61 vt2 hf
        have hf2 : From w6.heap.size (moreB S v1.drew v2) := hf.more hb61.size
        have hc2 := vc1'.kept vt2 (fun k _ h => hSC k h)
        have hC2 : L6.Apart (fresh wo v1) (moreB S v1.drew v2) := fun k h1 h2 => h2.elim (hSC k h1) (fun h => by have := h.1; have := h1.2; simp only [World.drew] at *; omega)
        refine stepQ.mk ⟨fun _ => ⟨hkA2, hkB2⟩, ?_⟩
        refine wpK_step 5 (by kernel_rfl) rfl ?_
        go_wp2_with (go_at_call 13; refine (do_is vs2 vi2 b hwB (HT.out _ (nxt hw6 hb62)) (by unfold maxLen; omega) HYab HZab).mono ?_; rintro e v3 ⟨rfl, vs3, vi3, vt3⟩)
        have hSa2 : ∀ x, x < w6.heap.size → ¬ (moreB S v1.drew v2) x := fun x hx h => by have := hf2 x h; omega
        have hkA3 := vt3.blk hkA2 (hSa2 _ ka6.lt)
        have hkB3 := vt3.blk hkB2 (hSa2 _ kb6.lt)
        have hb63 := L6.nxtT hb62 vt3 hf2
        have hf3 := hf2.more (w' := v3) hb62.size
        have hc3 := hc2.kept vt3 (fun k _ h => hC2 k h)
        refine stepQ.mk ⟨fun _ => ⟨hkA3, hkB3⟩, ?_⟩
        refine wpK_step 6 (by kernel_rfl) rfl ?_
        go_wp2
        refine stepQ.mk ⟨fun _ => ⟨hkA3, hkB3⟩, ?_⟩
        refine wpK_seq [7] _ _ _ (by kernel_rfl) ?_
        conv => arg 4; simp [pick]
        go_wp2
        -- z, w := t.Do(b), t.Do(a)
        have hold3 : (fun X : World => Blk X w.heap.size 33 (txC a) ∧ Blk X (w.heap.size + 1) 33 (txC b)) v3.drew := ⟨hkA3, hkB3⟩
        have hc3' := hc3.below ((Below.refl _ v3).drew)
        have hs3' := vs3.below ((Below.refl _ v3).drew)
        have hb63' : Below w6.heap.size w6 v3.drew := hb63.drew
        have hsz3 : v1.heap.size ≤ v3.heap.size := Nat.le_trans vt2.size vt3.size
        have hiC3 : In v3.drew (fresh wo v1) := hiC.le hsz3
        have hfC : From w6.heap.size (fresh wo v1) := fun k hk => Nat.le_trans hbw.size hk.1
        have hS3C : L6.Apart (moreB (moreB S v1.drew v2) v2 v3) (fresh wo v1) := fun k h1 h2 => h1.elim (fun h => hC2 k h2 h) (fun h => by have := h.1; have := h2.2; have := vt2.size; simp only [World.drew] at *; omega)
        have hCa : ∀ x, x < w6.heap.size → ¬ fresh wo v1 x := fun x hx h => by have := hfC x h; omega
        refine wp_region_K (fun X : World => Blk X w.heap.size 33 (txC a) ∧ Blk X (w.heap.size + 1) 33 (txC b)) [0, 1, 3, 4] (by kernel_rfl) ?_
        refine wpK_quiet (f := 4) (by kernel_rfl) (fun _ x _ _ _ h => by cases x <;> exact h) hold3 [0, 1, 3, 4] _ _ (by kernel_rfl) (by kernel_rfl) (by kernel_rfl) ?_
        conv => arg 5; simp [pick]
        go_big_quiet_step (fail)
        refine wpQuiet_row rfl _ _ rfl (w.heap.size + 1) rfl _ _ _ _ (fun y => y.h.2) Tryd.underlying33 rfl txInfo ?_
        conv => arg 6; simp only [Act.put, List.setIfInBounds_toArray, List.set_cons_zero, List.set_cons_succ]
        go_big_quiet_step (fail)
        refine wpQuiet_row rfl _ _ rfl w.heap.size rfl _ _ _ _ (fun y => y.h.1) Tryd.underlying33 rfl txInfo ?_
        conv => arg 6; simp only [Act.put, List.setIfInBounds_toArray, List.set_cons_zero, List.set_cons_succ]
        refine wpQuiet_nil ?_
        refine wpK_step 2 (by kernel_rfl) rfl ?_
        go_wp2_with (go_at_call 13; refine (do_is hc3' hiC3 b hwB (HT.out _ (nxt hw6 hb63')) (by unfold maxLen; omega) HYb HZb).mono ?_; rintro e v4 ⟨rfl, vs4, vi4, vt4⟩)
        have hkA4 := vt4.blk hkA3 (hCa _ ka6.lt)
        have hkB4 := vt4.blk hkB3 (hCa _ kb6.lt)
        have hb64 := L6.nxtT hb63' vt4 hfC
        have hf4 : From w6.heap.size (moreB (fresh wo v1) v3.drew v4) := hfC.more hb63'.size
        have hs4 := hs3'.kept vt4 (fun k _ h => hS3C k h)
        have hS4 : L6.Apart (moreB (moreB S v1.drew v2) v2 v3) (moreB (fresh wo v1) v3.drew v4) := fun k h1 h2 => h2.elim (hS3C k h1) (fun h => by have := h.1; have := vi3 k h1; simp only [World.drew] at *; omega)
        refine stepQ.mk ⟨fun _ => ⟨hkA4, hkB4⟩, ?_⟩
        refine wpK_step 5 (by kernel_rfl) rfl ?_
        go_wp2_with (go_at_call 13; refine (do_is vs4 vi4 a hwA (HT.out _ (nxt hw6 hb64)) (by unfold maxLen; omega) HXba HZba).mono ?_; rintro e v5 ⟨rfl, vs5, vi5, vt5⟩)
        have hCa2 : ∀ x, x < w6.heap.size → ¬ (moreB (fresh wo v1) v3.drew v4) x := fun x hx h => by have := hf4 x h; omega
        have hkA5 := vt5.blk hkA4 (hCa2 _ ka6.lt)
        have hkB5 := vt5.blk hkB4 (hCa2 _ kb6.lt)
        have hb65 := L6.nxtT hb64 vt5 hf4
        have hs5 := hs4.kept vt5 (fun k _ h => hS4 k h)
        refine stepQ.mk ⟨fun _ => ⟨hkA5, hkB5⟩, ?_⟩
        refine wpK_step 6 (by kernel_rfl) rfl ?_
        go_wp2
        refine stepQ.mk ⟨fun _ => ⟨hkA5, hkB5⟩, ?_⟩
        refine wpK_seq [7] _ _ _ (by kernel_rfl) ?_
        conv => arg 4; simp [pick]
        have hw5 := nxt hw6 hb65
        have HD1 := Lib.hid (text_is hs5 (HT.out _ hw5) (by omega) HT0)
        go_wp2_with (go_at_call 11; first
          | ((with_reducible refine HD1.out.mono ?_); unfold gives; rintro e v7 ⟨rfl, vb7⟩
             have vs7 := vs5.below vb7
             have hw7 := nxt hw5 vb7
             have HD2 := Lib.hid (text_is vs7 (HT.out _ hw7) (by omega) HT1))
          | ((with_reducible refine HD2.out.mono ?_); unfold gives; rintro e v8 ⟨rfl, vb8⟩))
        go_ret
        exact ⟨rfl, nxt hw7 vb8⟩
  · obtain ⟨q, hqe⟩ : ∃ q, q = newE [] (amsL n0 D0) := ⟨_, rfl⟩
    have hN := new_err A0 n0 c0 D0 w6 (h0.below hw6) hn0 hq
    rw [← hqe] at hq hN
    have hq2 : (q != 0) = true := by rw [bne_iff_ne]; exact hq
    clear hqe hq
    go_wp2_with (first
      | (go_at_call 7; refine hN.mono ?_; unfold gives; rintro e w7 ⟨rfl, hb7⟩)
      | go_in)
    go_ret
    exact ⟨rfl, nxt hw6 hb7⟩
end Go.Proofs.YthkgadjiiapfgaaDoor
