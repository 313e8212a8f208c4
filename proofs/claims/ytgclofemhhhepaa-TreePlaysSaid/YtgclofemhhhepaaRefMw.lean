/-
  The document's tree: what is missing, walked.
-/
import Derived.Test.YtgclofemhhhepaaRefM
set_option linter.unusedSimpArgs false
set_option linter.unusedVariables false
set_option maxRecDepth 10000
namespace Go.Proofs.Ytgclofemhhhepaa
open Go.RowKit Go.Maps Go.Lib
open L3 (Blk Reads block_of_add add_of_add)
open L6 (Turn moreB fresh From In)

theorem ownI_snoc {w : World} {base : Nat} {v : Value} {l : List Int} {x : Int} (h : w.ownsRow base 3 1 v (l.length + 1) (l.map (Value.int .i64) ++ [.int .i64 x])) : OwnI w base v (l ++ [x]) := by
  have e1 : (l ++ [x]).length = l.length + 1 := by simp
  have e2 : (l ++ [x]).map (Value.int .i64) = l.map (Value.int .i64) ++ [.int .i64 x] := by simp
  unfold OwnI
  rw [e1, e2]
  exact h
theorem take_snoc {L : List Int} {k : Nat} (h : k < L.length) : L.take (k + 1) = L.take k ++ [L[k]] := List.take_succ_eq_append_getElem h
theorem row_below {w w' : World} {base size n : Nat} {e : TypeId} {v : Value} {xs : List Value} (h : w.ownsRow base e size v n xs) (hb : Below w.heap.size w w') : w'.ownsRow base e size v n xs := (show Turn (fun _ => False) w w' from L6.Turn.of_keep hb).row h (fun k _ h => h)
def RMissPost (l : List Int) (w : World) (e : Ending) (w' : World) : Prop := ∃ v, e = .returned v ∧ OwnI w' w.heap.size v l ∧ Below w.heap.size w w'
set_option maxHeartbeats 4000000 in
set_option maxRecDepth 100000 in
theorem rmiss_any (m r rd : Int) (A : Option Addr) (c : Nat) (L : List Ent) (w : World) (hr : Rd enL 16 w A L) (hl : L.length ≤ 1000000) :
    Calls Try.prog 34 #[.agg (rtC m r rd A L.length c)] w (RMissPost (missF L L.length) w) := by
  obtain ⟨i0, hi, hz0, hz1, hz2⟩ := info_parts intInfo
  have HR := Lib.hid hr
  have HA := Lib.hid (fun n W (hb : Below w.heap.size w W) => rat_any m r rd A c L n W (hr.below hb) hl)
  obtain ⟨z, hz⟩ : ∃ z, z = L.length := ⟨_, rfl⟩
  obtain ⟨R, hR⟩ : ∃ R, R = missF L L.length := ⟨_, rfl⟩
  rw [← hR]
  rw [← hz] at HA hl ⊢
  have HZ := Lib.hid hz
  have HRR := Lib.hid hR
  have k0 : Blk (w.alloc (.cells (rtC m r rd A z c) 30)) w.heap.size 30 (rtC m r rd A z c) := Blk.new _ _ _
  have hb0 := below_new w (.cells (rtC m r rd A z c) 30)
  obtain ⟨W0, hW0⟩ : ∃ W0, W0 = w.alloc (.cells (rtC m r rd A z c) 30) := ⟨_, rfl⟩
  rw [← hW0] at k0 hb0
  have hE := hW0.symm
  clear hr hz hW0 hR
  go_enter Try.func34, Try.ntmps34
  go_upto_region 1 with fail
  clear hE
  go_wp2
  go_loopw [3, 4] (fun lv i wr => ∃ k : Nat, i = .int .i64 k ∧ k ≤ z ∧ OwnI wr W0.heap.size lv (missF L k) ∧ Below W0.heap.size W0 wr) (fun _ i _ => z - (RowKit.intOf i).toNat)
  case atStart => exact ⟨0, rfl, Nat.zero_le _, World.ownsRow_nil _ _ _ _, Below.refl _ _⟩
  case round =>
    obtain ⟨k, rfl, hk, hrow, hbw⟩ := hrel
    have hbw2 := nxt hb0 hbw
    have kt := k0.below hbw k0.lt
    have ct : wr.cell? ⟨w.heap.size, 3, none⟩ = some (.slice A z c) := kt.cell 3
    by_cases hlt : k < z
    · have hkL : k < L.length := by have := HZ.out; omega
      obtain ⟨ad, rfl, hadl, c0, c6, c15, hcs⟩ := (HR.out.below hbw2).entry hkL
      have HSN := Lib.hid (missF_snoc hkL)
      have hrise := missF_rising L k
      have hFl := missF_len L k
      obtain ⟨e, he⟩ : ∃ e, e = L[k] := ⟨_, rfl⟩
      rw [← he] at c6 c15 HSN
      obtain ⟨p, hp⟩ : ∃ p, p = e.b.p := ⟨_, rfl⟩
      rw [← hp] at c6
      replace HSN : Hid (missF L (k + 1) = if e.isin = true ∨ known L p then missF L k else insU p (missF L k)) := Lib.hid (by rw [hp]; exact HSN.out)
      obtain ⟨bi, hbi⟩ : ∃ bi, bi = e.isin := ⟨_, rfl⟩
      rw [← hbi] at c15 HSN
      obtain ⟨F, hF⟩ : ∃ F, F = missF L k := ⟨_, rfl⟩
      rw [← hF] at hrow HSN hrise hFl
      have HRI := Lib.hid hrise
      clear c0 hcs he hp hbi hF hkL hrise
      have HH := Lib.hid (HA.out p)
      have HKN := Lib.hid (atV_known (L := L) (n := p))
      obtain ⟨y, hy⟩ : ∃ y, y = (atV L p).getD zeroEn := ⟨_, rfl⟩
      obtain ⟨kb, hkb⟩ : ∃ kb, kb = (atV L p).isSome := ⟨_, rfl⟩
      rw [← hy, ← hkb] at HH
      rw [← hkb] at HKN
      clear hy hkb
      go_upto_region 6 with fail
      clear ct c6
      have H1 := Lib.hid (HH.out wr hbw2)
      go_upto_region 7 with (first
        | (refine wpList_row_at rfl _ _ rfl w.heap.size rfl _ _ _ _ kt Try.underlying30 rfl rtInfo ?_)
        | (go_at_call 22; refine H1.out.mono ?_; unfold gives; rintro e2 w2 ⟨rfl, hb2⟩)
        | (refine wpList_store_new rfl _ _ _ rfl w2 (enC y) rfl rfl 68 _ enInfo rfl (enC_ones _) ?_)
        | go_in)
      have hbn := nxt hb2 (below_new w2 (.cells (enC y) 68))
      obtain ⟨w3, hw3⟩ : ∃ w3, w3 = w2.alloc (.cells (enC y) 68) := ⟨_, rfl⟩
      rw [← hw3] at hbn
      rw [← hw3]
      have hbw3 := nxt hbw hbn
      have kt3 := kt.below hbn kt.lt
      have ct : w3.cell? ⟨w.heap.size, 3, none⟩ = some (.slice (some ad) z c) := kt3.cell 3
      have c15' : w3.cell? ⟨(ad.add (k * 16)).block, (ad.add (k * 16)).off + 15, none⟩ = some (.bool bi) := (hbn.cell (by show (ad.add (k * 16)).block < _; rw [block_of_add]; exact hadl)).trans c15
      have hrow3 : OwnI w3 W0.heap.size u3 F := row_below hrow hbn
      clear c15 kt hrow hb2 hw3 H1 HH hbw hbw2 hbn
      cases bi with
      | true =>
        have HE : Hid (missF L (k + 1) = F) := Lib.hid (HSN.out.trans (if_pos (.inl rfl)))
        clear HSN
        go_wp2
        go_roundw
        case rel => exact ⟨k + 1, by go_num, by omega, by rw [HE.out]; exact hrow3, hbw3⟩
        case measure => simp [RowKit.intOf]; omega
      | false =>
        cases kb with
        | true =>
          have HE : Hid (missF L (k + 1) = F) := Lib.hid (HSN.out.trans (if_pos (.inr (HKN.out.1 rfl))))
          clear HSN
          go_wp2
          go_roundw
          case rel => exact ⟨k + 1, by go_num, by omega, by rw [HE.out]; exact hrow3, hbw3⟩
          case measure => simp [RowKit.intOf]; omega
        | false =>
          have HE : Hid (missF L (k + 1) = insU p F) := Lib.hid (HSN.out.trans (if_neg (by
            rintro (h | h)
            · cases h
            · have := HKN.out.2 h; cases this)))
          clear HSN HKN
          obtain ⟨Al, cl, rfl, hcl, hrd⟩ := OwnI.see hrow3
          have hsz3 := hbw3.size
          obtain ⟨n, hn⟩ : ∃ n, n = F.length := ⟨_, rfl⟩
          rw [← hn] at hrd hFl hcl ⊢
          have HN := Lib.hid hn
          have HRD := Lib.hid hrd
          clear hrow3 hn hrd
          go_upto_region 11 with fail
          clear ct c15'
          go_wp2
          go_loopw [8, 9, 10] (fun ov bv iv wi => ∃ (q : Nat) (b : Bool), iv = .int .i64 q ∧ bv = .bool b ∧ q ≤ n ∧ Hid (b = anyGe p (F.take q)) ∧ OwnI wi w3.heap.size ov (outL p (F.take q)) ∧ Below w3.heap.size w3 wi) (fun _ _ iv _ => n - (RowKit.intOf iv).toNat)
          case atStart => exact ⟨0, false, rfl, rfl, Nat.zero_le _, Lib.hid (by simp [anyGe]), World.ownsRow_nil _ _ _ _, Below.refl _ _⟩
          case round =>
            obtain ⟨q, b, rfl, rfl, hq, hb, hro, hbi⟩ := hrel
            obtain ⟨wi, hwi⟩ : ∃ wi, wi = wr := ⟨_, rfl⟩
            subst hwi
            have hol : (outL p (F.take q)).length ≤ q + 1 := by have := outL_len p (F.take q); rw [List.length_take] at this; omega
            have HOB := Lib.hid (fun j hj => (hro.lt j hj).1)
            have hszi := hbi.size
            by_cases hql : q < n
            · have hqF : q < F.length := by have := HN.out; omega
              obtain ⟨a1, u1, rfl, hb1, e1, f1⟩ := (HRD.out.below hbi).at_ hql
              have g1 : u1 = .int .i64 F[q] := by rw [List.getElem?_map, List.getElem?_eq_getElem hqF] at e1; exact (Option.some.inj e1).symm
              have HT := Lib.hid (take_snoc hqF)
              have HGE := Lib.hid (fun h => ge_rising (p := p) HRI.out hqF h)
              obtain ⟨x, hx⟩ : ∃ x, x = F[q] := ⟨_, rfl⟩
              rw [← hx] at g1 HT HGE
              subst g1
              obtain ⟨T, hT⟩ : ∃ T, T = F.take q := ⟨_, rfl⟩
              rw [← hT] at hb hro hol HT HGE
              have hmax : (outL p T).length + 1 ≤ maxLen := by unfold maxLen; omega
              clear e1 hx hT hqF
              cases b with
              | true =>
                have hpx := HGE.out hb.out.symm
                have HO := Lib.hid (outL_yes hb.out.symm hpx)
                have hxp : (x != p) = true := by rw [bne_iff_ne]; omega
                clear hb HGE hpx
                go_upto_region 17 with fail
                go_wp2_with (first
                  | (at_builtin; refine wpList_append_own _ rfl _ _ 50 rfl w3.heap.size 3 i0 (.int .i64 0) 1 8 Try.underlying50 hi hz0 hz1 hz2 rfl (by decide) _ _ _ rfl (hro.alloc _) ⟨wi.heap.size, 0, none⟩ 1 1 [.int .i64 x] rfl rfl (cell_one_new _ _ _) (ints_oneCell .i64 [x]) hmax (by omega) (by simp; omega) ?_; intro v4 w4 hr4 hg4 _)
                  | go_in)
                go_roundw
                case rel => exact ⟨q + 1, true, by go_num, rfl, by omega, Lib.hid (by rw [HT.out]; exact HO.out.1.symm), by rw [HT.out, HO.out.2]; exact ownI_snoc hr4, (hbi.alloc hbi.size _).grown hg4 (by simp; omega) HOB.out⟩
                case measure => simp [RowKit.intOf]; omega
              | false =>
                rcases Int.lt_trichotomy x p with hxp | hxp | hxp
                · have HO := Lib.hid (outL_low hb.out.symm hxp)
                  have h1 : ¬ p ≤ x := by omega
                  have h2 : (x != p) = true := by rw [bne_iff_ne]; omega
                  clear hb HGE hxp
                  go_upto_region 17 with fail
                  go_wp2_with (first
                    | (at_builtin; refine wpList_append_own _ rfl _ _ 50 rfl w3.heap.size 3 i0 (.int .i64 0) 1 8 Try.underlying50 hi hz0 hz1 hz2 rfl (by decide) _ _ _ rfl (hro.alloc _) ⟨wi.heap.size, 0, none⟩ 1 1 [.int .i64 x] rfl rfl (cell_one_new _ _ _) (ints_oneCell .i64 [x]) hmax (by omega) (by simp; omega) ?_; intro v4 w4 hr4 hg4 _)
                    | go_in)
                  go_roundw
                  case rel => exact ⟨q + 1, false, by go_num, rfl, by omega, Lib.hid (by rw [HT.out]; exact HO.out.1.symm), by rw [HT.out, HO.out.2]; exact ownI_snoc hr4, (hbi.alloc hbi.size _).grown hg4 (by simp; omega) HOB.out⟩
                  case measure => simp [RowKit.intOf]; omega
                · have HO := Lib.hid (outL_same hb.out.symm)
                  subst hxp
                  have h2 : (x != x) = false := by simp
                  clear hb HGE
                  go_upto_region 15 with (first
                    | (at_builtin; refine wpList_append_own _ rfl _ _ 50 rfl w3.heap.size 3 i0 (.int .i64 0) 1 8 Try.underlying50 hi hz0 hz1 hz2 rfl (by decide) _ _ _ rfl (hro.alloc _) ⟨wi.heap.size, 0, none⟩ 1 1 [.int .i64 x] rfl rfl (cell_one_new _ _ _) (ints_oneCell .i64 [x]) hmax (by omega) (by simp; omega) ?_; intro v4 w4 hr4 hg4 _)
                    | go_in)
                  have hb4 : Below w3.heap.size w3 w4 := (hbi.alloc hbi.size _).grown hg4 (by simp; omega) HOB.out
                  have f2 : w4.cell? (a1.add q) = some (.int .i64 x) := (hb4.cell (by rw [block_of_add]; exact hb1)).trans ((hbi.cell (by rw [block_of_add]; exact hb1)).symm.trans f1)
                  clear f1
                  go_wp2
                  go_roundw
                  case rel => exact ⟨q + 1, true, by go_num, rfl, by omega, Lib.hid (by rw [HT.out]; exact HO.out.1.symm), by rw [HT.out, HO.out.2]; exact ownI_snoc hr4, hb4⟩
                  case measure => simp [RowKit.intOf]; omega
                · have HO := Lib.hid (outL_over hb.out.symm hxp)
                  have h1 : p ≤ x := by omega
                  have h2 : (x != p) = true := by rw [bne_iff_ne]; omega
                  clear hb HGE hxp
                  go_upto_region 15 with (first
                    | (at_builtin; refine wpList_append_own _ rfl _ _ 50 rfl w3.heap.size 3 i0 (.int .i64 0) 1 8 Try.underlying50 hi hz0 hz1 hz2 rfl (by decide) _ _ _ rfl (hro.alloc _) ⟨wi.heap.size, 0, none⟩ 1 1 [.int .i64 p] rfl rfl (cell_one_new _ _ _) (ints_oneCell .i64 [p]) hmax (by omega) (by simp; omega) ?_; intro v4 w4 hr4 hg4 _)
                    | go_in)
                  have hb4 : Below w3.heap.size w3 w4 := (hbi.alloc hbi.size _).grown hg4 (by simp; omega) HOB.out
                  have f2 : w4.cell? (a1.add q) = some (.int .i64 x) := (hb4.cell (by rw [block_of_add]; exact hb1)).trans ((hbi.cell (by rw [block_of_add]; exact hb1)).symm.trans f1)
                  have hr5 : OwnI w4 w3.heap.size v4 (outL p T ++ [p]) := ownI_snoc hr4
                  obtain ⟨Q, hQ⟩ : ∃ Q, Q = outL p T ++ [p] := ⟨_, rfl⟩
                  have hQl : Q.length ≤ q + 2 := by rw [hQ, List.length_append, List.length_singleton]; omega
                  rw [← hQ] at hr5 HO
                  have HOB4 := Lib.hid (fun j hj => (hr5.lt j hj).1)
                  have hsz4 := hb4.size
                  have hmax4 : Q.length + 1 ≤ maxLen := by unfold maxLen; omega
                  clear hQ
                  clear f1 hr4 hro hg4
                  go_upto_region 17 with fail
                  go_wp2_with (first
                    | (at_builtin; refine wpList_append_own _ rfl _ _ 50 rfl w3.heap.size 3 i0 (.int .i64 0) 1 8 Try.underlying50 hi hz0 hz1 hz2 rfl (by decide) _ _ _ rfl (hr5.alloc _) ⟨w4.heap.size, 0, none⟩ 1 1 [.int .i64 x] rfl rfl (cell_one_new _ _ _) (ints_oneCell .i64 [x]) hmax4 (by omega) (by simp; omega) ?_; intro v6 w6 hr6 hg6 _)
                    | go_in)
                  go_roundw
                  case rel => exact ⟨q + 1, true, by go_num, rfl, by omega, Lib.hid (by rw [HT.out]; exact HO.out.1.symm), by rw [HT.out, HO.out.2]; exact ownI_snoc hr6, (hb4.alloc hb4.size _).grown hg6 (by simp; omega) HOB4.out⟩
                  case measure => simp [RowKit.intOf]; omega
            · obtain rfl : q = n := by omega
              have HFT : Hid (F.take q = F) := Lib.hid (by rw [HN.out, List.take_length])
              rw [HFT.out] at hb hro hol
              have hmax : (outL p F).length + 1 ≤ maxLen := by unfold maxLen; omega
              cases b with
              | true =>
                have HO := Lib.hid (outL_end.1 hb.out.symm)
                clear hb
                go_wp2
                go_roundw
                case rel => exact ⟨k + 1, by go_num, by omega, by rw [HE.out, ← HO.out]; exact ownI_less hro hsz3, nxt hbw3 hbi⟩
                case measure => simp [RowKit.intOf]; omega
              | false =>
                have HO := Lib.hid (outL_end.2 hb.out.symm)
                clear hb
                go_wp2_with (first
                  | (at_builtin; refine wpList_append_own _ rfl _ _ 50 rfl w3.heap.size 3 i0 (.int .i64 0) 1 8 Try.underlying50 hi hz0 hz1 hz2 rfl (by decide) _ _ _ rfl (hro.alloc _) ⟨wi.heap.size, 0, none⟩ 1 1 [.int .i64 p] rfl rfl (cell_one_new _ _ _) (ints_oneCell .i64 [p]) hmax (by omega) (by simp; omega) ?_; intro v4 w4 hr4 hg4 _)
                  | go_in)
                go_roundw
                case rel => exact ⟨k + 1, by go_num, by omega, by rw [HE.out, ← HO.out]; exact ownI_less (ownI_snoc hr4) hsz3, nxt hbw3 ((hbi.alloc hbi.size _).grown hg4 (by simp; omega) HOB.out)⟩
                case measure => simp [RowKit.intOf]; omega
    · obtain rfl : k = z := by omega
      have HE : Hid (missF L k = R) := Lib.hid (by rw [HRR.out, HZ.out])
      go_wp2
      go_ret
      exact ⟨_, rfl, by rw [HE.out] at hrow; exact ownI_less hrow hb0.size, hbw2⟩
end Go.Proofs.Ytgclofemhhhepaa
