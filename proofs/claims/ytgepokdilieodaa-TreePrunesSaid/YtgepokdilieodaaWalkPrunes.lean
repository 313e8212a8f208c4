/-
  Behind a pruning just what hangs at the new root is there: the walk of the statement.
-/
import Derived.Test.YtgepokdilieodaaPrune
import Derived.Test.YtgepokdilieodaaPruP
import Derived.Test.YtgepokdilieodaaOrdW
import Derived.Test.YtgepokdilieodaaAlive
import Derived.Deep.CutRange
import Derived.Deep.CutBlock
set_option linter.unusedSimpArgs false
set_option linter.unusedVariables false
set_option maxRecDepth 10000
namespace Go.Proofs.Ytgepokdilieodaa
open Go.RowKit Go.Maps Go.Lib
open L3 (Blk Reads)
open L6 (Turn moreB fresh From In)

theorem sliceInfo : (Try.prog.info? 50).map (fun i => (i.zero, i.size, i.bytes)) = some (some (.slice none 0 0), 1, 24) := by kernel_rfl
/-- The paths that were asked so far, each in a row of its own. -/
structure OldAt (w : World) (B0 : Nat) (Sa : Nat → Prop) (ga : Nat) (Bs : List Bl) (v : Value) (vals : List Value) (wr : World) : Prop where
  tr : Tr wr Sa ga (treeT Bs)
  below : Below w.heap.size w wr
  base : B0 ≤ wr.heap.size
  out : wr.ownsRow B0 50 1 v vals.length vals
  rows : ∀ j (h : j < vals.length), ∃ p, PathIs 0 (entsT Bs) ((j : Int) + 1) p ∧ OwnI wr B0 vals[j] p
theorem own_ne_type {w : World} {b b' n : Nat} {u v : Value} {l : List Int} {xs : List Value} (h : OwnI w b v l) (h' : w.ownsRow b' 50 1 u n xs) {g : Nat} (hv : v.ownBlock = some g) : ¬ u.ownBlock = some g := fun hu => by
  rcases h.2 with ⟨rfl, _⟩ | ⟨g1, c1, cur1, rfl, _, hg1, _⟩
  · cases hv
  · rcases h'.2 with ⟨rfl, _⟩ | ⟨g2, c2, cur2, rfl, _, hg2, _⟩
    · cases hu
    · have e1 : g1 = g := Option.some.inj hv
      have e2 : g2 = g := Option.some.inj hu
      rw [e1] at hg1
      rw [e2, hg1] at hg2
      injection hg2 with hg2
      injection hg2 with _ hg2
      exact absurd hg2 (by decide)
/-- The tree that has grown so far. -/
def GrowAt (w : World) (B0 : Nat) (Sa : Nat → Prop) (ga : Nat) (P : List UInt8) (wr : World) : Prop := Tr wr Sa ga (treeT (growP P)) ∧ Below w.heap.size w wr ∧ In wr Sa ∧ B0 ≤ wr.heap.size
set_option maxHeartbeats 4000000 in
set_option maxRecDepth 100000 in
theorem prunes_walk (A0 : Option Addr) (c0 : Nat) (x0 : List UInt8) (x1 : Int) (w : World) (h0 : Reads w w.heap.size 1 A0 x0.length (Lib.byteCells x0)) (m0 : x0.length ≤ 9223372036854775807) (bd1 : 0 ≤ x1 ∧ x1 ≤ 255) :
    Calls Try.prog 5 #[.slice A0 x0.length c0, .int .u8 x1] w fun e w' => e = .returned (.bool true) ∧ Below w.heap.size w w' := by
  have HA := Lib.hid (alive_any w)
  by_cases hbig : x0.length = 0 ∨ 40 < x0.length
  · rcases hbig with hb | hb
    · have h00 : ((x0.length : Int) == 0) = true := by rw [beq_iff_eq]; omega
      clear hb
      go_enter Try.func5, Try.ntmps5
      go_wp2_with (first
        | (go_at_call 7; refine HA.out.mono ?_; unfold gives; rintro e w1 ⟨rfl, hb1⟩)
        | go_in)
      go_ret
      exact ⟨rfl, hb1⟩
    · have h00 : ((x0.length : Int) == 0) = false := by rw [beq_eq_false_iff_ne]; omega
      go_enter Try.func5, Try.ntmps5
      go_wp2_with (first
        | (go_at_call 7; refine HA.out.mono ?_; unfold gives; rintro e w1 ⟨rfl, hb1⟩)
        | go_in)
      go_ret
      exact ⟨rfl, hb1⟩
  have hx0 : x0.length ≤ 40 := by omega
  have hx1 : 0 < x0.length := by omega
  have hne0 : ((x0.length : Int) == 0) = false := by rw [beq_eq_false_iff_ne]; omega
  clear hbig
  have HN := Lib.hid (fun W => new_ok 64 W (by decide) (by decide))
  obtain ⟨s0, hs, hsz0, hsz1, hsz2⟩ := info_parts sliceInfo
  go_enter Try.func5, Try.ntmps5
  go_wp2_with (first
    | (go_at_call 7; refine HA.out.mono ?_; unfold gives; rintro e w1 ⟨rfl, hb1⟩)
    | (go_at_call 8; refine (HN.out _).mono ?_; unfold NewPost; rintro e w2 ⟨⟨ga, rfl, hTa⟩, hb2⟩)
    | go_in)
  have hstart : GrowAt w w2.heap.size (fresh w1 w2) ga [] w2 := ⟨hTa, nxt hb1 hb2, fun k hk => hk.2, Nat.le_refl _⟩
  have hSa : ∀ k, fresh w1 w2 k → w.heap.size ≤ k := fun k hk => Nat.le_trans hb1.size hk.1
  obtain ⟨B0, hB0⟩ : ∃ B0, B0 = w2.heap.size := ⟨_, rfl⟩
  obtain ⟨Sa, hSa'⟩ : ∃ Sa, Sa = fresh w1 w2 := ⟨_, rfl⟩
  rw [← hB0, ← hSa'] at hstart
  rw [← hSa'] at hSa
  have hBw : w.heap.size ≤ B0 := by rw [hB0]; exact hstart.2.1.size
  have hSb : ∀ k, Sa k → k < B0 := fun k hk => by rw [hSa'] at hk; rw [hB0]; exact hk.2
  clear hB0 hSa' hTa hb1 hb2 HN
  go_loopw [7] (fun i wr => ∃ k : Nat, i = .int .i64 k ∧ k ≤ x0.length ∧ GrowAt w B0 Sa ga (x0.take k) wr) (fun i _ => x0.length - (RowKit.intOf i).toNat)
  case atStart => exact ⟨0, rfl, Nat.zero_le _, by rw [List.take_zero]; exact hstart⟩
  case round =>
    clear hstart
    obtain ⟨k, rfl, hk, hR⟩ := hrel
    by_cases hlt : k < x0.length
    · obtain ⟨ad, u, rfl, hadl, hu, hcell⟩ := (h0.below hR.2.1).at_ hlt
      have hu2 : u = .int .u8 (x0[k].toNat : Int) := by
        unfold Lib.byteCells at hu
        rw [List.getElem?_map, List.getElem?_eq_getElem hlt] at hu
        exact (Option.some.inj hu).symm
      have hq255 : x0[k].toNat ≤ 255 := by have := x0[k].toNat_lt; omega
      have htake : x0.take (k + 1) = x0.take k ++ [x0[k]] := List.take_succ_eq_append_getElem hlt
      obtain ⟨cc, hcc⟩ : ∃ cc, cc = x0[k] := ⟨_, rfl⟩
      rw [← hcc] at hu2 hq255 htake
      subst hu2
      clear hu hcc
      obtain ⟨q, hq⟩ : ∃ q : Nat, q = cc.toNat := ⟨_, rfl⟩
      rw [← hq] at hcell hq255
      obtain ⟨P, hP⟩ : ∃ P, P = x0.take k := ⟨_, rfl⟩
      have hPl : P.length = k := by rw [hP, List.length_take]; omega
      rw [← hP] at hR htake
      clear hP
      obtain ⟨m, hm, hmk, hmc⟩ : ∃ m : Nat, (m : Int) = (cc.toNat : Int) % ((k : Int) + 1) ∧ m ≤ k ∧ m = cc.toNat % ((growP P).length + 1) := by
        refine ⟨cc.toNat % (k + 1), by rw [Int.natCast_emod]; rfl, ?_, by rw [growP_len, hPl]⟩
        have := Nat.mod_lt cc.toNat (show 0 < k + 1 by omega)
        omega
      have HMC := Lib.hid hmc
      have HTK := Lib.hid htake
      have HPL := Lib.hid hPl
      go_upto_region 10 with fail
      rw [← hm]
      have hg : GoodB (growP P) := growP_good (by omega)
      have hgl : (growP P).length = k := by rw [growP_len, hPl]
      have hlack : lackE (treeT (growP P)) (m : Int) = 0 := by
        by_cases h0 : m = 0
        · subst h0; exact if_pos (.inl rfl)
        · exact (treeT_done hg (by omega)).lack m (by omega) (by omega)
      have HPA := Lib.hid (path_ok hR.1 (treeT_wf hg (by omega)) (by show (entsT _).length ≤ 100000; rw [entsT_len]; omega) (m : Int) (inI_of (by omega) (by omega)) hlack)
      have HR := Lib.hid hR
      have HGD := Lib.hid hg
      have HGL := Lib.hid hgl
      clear hm hmc htake hPl hg hgl hlack hR hq hcell hq255
      go_upto_region 11 with (first
        | (go_at_call 17; refine HPA.out.mono ?_; rintro e w3 ⟨v, l, rfl, hp, ho, hb3⟩)
        | go_in)
      obtain ⟨A, c, rfl, _, _⟩ := OwnI.see ho
      have hbb := mkP_is (c := cc) (by rw [HPL.out]; omega) HMC.out hp
      have hll : l.length ≤ 1000 := by
        rcases path_rd (entsT_sub _) HGD.out hp with ⟨_, h⟩ | ⟨j, hj, _, h⟩
        · rw [h]; simp
        · have := (HGD.out.rd j hj).2
          have := HGL.out
          omega
      have hgn : GoodB (growP P ++ [nzB (mkB (growB P) cc)]) := by rw [← growP_snoc]; exact growP_good (by rw [List.length_append, HPL.out]; simp; omega)
      obtain ⟨p1, p2⟩ := treeT_put_any hgn HGD.out
      rw [HGL.out, ← hbb] at p1 p2
      have hbwf : (⟨1, (l.length : Int) + 1, m, 0⟩ : Bl).wf := by
        have := hgn.wf k (by rw [List.length_append, HGL.out]; simp)
        rw [List.getElem_append_right (by rw [HGL.out]; exact Nat.le_refl _)] at this
        simp only [HGL.out, Nat.sub_self, List.getElem_cons_zero] at this
        rw [hbb]; exact this
      have hT3 := HR.out.1.below hb3
      have HPU := Lib.hid (show Calls Try.prog 11 #[.pointer (some ⟨ga, 0, none⟩), .int .i64 ((k : Int) + 1), .agg (blC ⟨1, (l.length : Int) + 1, m, 0⟩)] w3 fun e w' => e = .returned (.int .i64 0) ∧ Tr w' Sa ga (treeT (growP (x0.take (k + 1)))) ∧ Turn Sa w3 w' from by
        refine (put_any hT3 (treeT_wf HGD.out (by rw [HGL.out]; omega)) (by show (entsT _).length ≤ 100000; rw [entsT_len, HGL.out]; omega) (fun j hj => Nat.lt_of_lt_of_le (HR.out.2.2.1 j hj) hb3.size) ((k : Int) + 1) _ (inI_of (by omega) (by omega)) hbwf).mono ?_
        rintro e w' ⟨he, h1, h2⟩
        rw [p1] at he
        rw [p2] at h1
        refine ⟨he, ?_, h2⟩
        rw [HTK.out, growP_snoc, ← hbb]
        exact h1)
      clear hp ho hbb p1 p2 hbwf hgn hT3
      go_wp2_with (first
        | (refine wpList_build rfl _ _ rfl #[(1, .int .i64 m)] rfl (build_cr1 m _) ?_)
        | (refine wpList_build rfl _ _ rfl #[(0, .int .i64 1), (1, .int .i64 ((l.length : Int) + 1)), (4, .agg (crC ⟨0, 0, m, 0⟩))] rfl (build_bl3 1 ((l.length : Int) + 1) m 0 _) ?_)
        | (go_at_call 11; refine HPU.out.mono ?_; rintro e w5 ⟨rfl, hT5, ht5⟩)
        | go_in)
      have HREL := Lib.hid (show GrowAt w B0 Sa ga (x0.take (k + 1)) w5 from
        ⟨hT5, (HR.out.2.1.trans (hb3.mono HR.out.2.1.size)).trans (ht5.below hSa (by have := HR.out.2.1.size; have := hb3.size; omega)), fun j hj => Nat.lt_of_lt_of_le (HR.out.2.2.1 j hj) (Nat.le_trans hb3.size ht5.size), Nat.le_trans HR.out.2.2.2 (Nat.le_trans hb3.size ht5.size)⟩)
      clear hT5 ht5 hb3
      go_roundw
      case rel => exact ⟨k + 1, by go_num, by omega, HREL.out⟩
      case measure => simp [RowKit.intOf]; omega
    · have hkn : k = x0.length := by omega
      rw [hkn, List.take_of_length_le (Nat.le_refl _)] at hR
      obtain ⟨hTr, hbw, hIn, hbs⟩ := hR
      obtain ⟨Bs, hBs⟩ : ∃ Bs, Bs = growP x0 := ⟨_, rfl⟩
      have hg : GoodB Bs := by rw [hBs]; exact growP_good (by omega)
      have hBl : Bs.length = x0.length := by rw [hBs, growP_len]
      rw [← hBs] at hTr
      obtain ⟨n, hn⟩ : ∃ n, n = x0.length := ⟨_, rfl⟩
      rw [← hn] at hx0 hx1 hBl hne0
      have HGD := Lib.hid hg
      have HBL := Lib.hid hBl
      have hst : OldAt w B0 Sa ga Bs (.slice none 0 0) [] wr := ⟨hTr, hbw, hbs, World.ownsRow_nil _ _ _ _, fun j h => by cases h⟩
      obtain ⟨rt, hrt, hrn⟩ : ∃ rt : Nat, (rt : Int) = x1 % (n : Int) ∧ rt < n := by
        refine ⟨(x1 % (n : Int)).toNat, ?_, ?_⟩
        · have := Int.emod_nonneg x1 (show (n : Int) ≠ 0 by omega); omega
        · have := Int.emod_lt_of_pos x1 (show (0 : Int) < n by omega); have := Int.emod_nonneg x1 (show (n : Int) ≠ 0 by omega); omega
      have HKX := Lib.hid hkn
      have hlt2 : ¬ k < x0.length := hlt
      clear hTr hbw hIn hbs hBs hBl hg hkn hlt
      have HN2 := Lib.hid hn
      rw [← hn] at hlt2 m0 h0 hk ⊢
      clear hn
      go_upto_region 13 with fail
      rw [← hrt]
      clear hrt
      go_wp2
      go_loopw [12, 13] (fun v i wr => ∃ (m : Nat) (vals : List Value), i = .int .i64 m ∧ 1 ≤ m ∧ m ≤ n + 1 ∧ vals.length + 1 = m ∧ OldAt w B0 Sa ga Bs v vals wr) (fun _ i _ => n + 1 - (RowKit.intOf i).toNat)
      case atStart => exact ⟨1, [], rfl, by omega, by omega, rfl, hst⟩
      case round =>
        clear hst
        obtain ⟨m, vals, rfl, hm1, hmn, hvl, hO⟩ := hrel
        by_cases hlt : m ≤ n
        · obtain ⟨mm, rfl⟩ : ∃ mm, m = mm + 1 := ⟨m - 1, by omega⟩
          have hmB : mm < Bs.length := by rw [HBL.out]; omega
          obtain ⟨p, hpp, _⟩ := pathB HGD.out hmB
          have HPP := Lib.hid hpp
          have HPA := Lib.hid (path_done hO.tr (treeT_done HGD.out (by rw [HBL.out]; omega)) (by show (entsT Bs).length ≤ 100000; rw [entsT_len, HBL.out]; omega) hmB (by rw [HBL.out]; omega) hpp)
          have HO := Lib.hid hO
          have HVL := Lib.hid (show vals.length = mm by omega)
          clear hpp hO hvl
          go_upto_region 18 with (first
            | (go_at_call 17; refine HPA.out.mono ?_; rintro e w3 ⟨v3, rfl, ho3, hb3⟩)
            | go_in)
          obtain ⟨A3, c3, rfl, _, _⟩ := OwnI.see ho3
          have hout3 := L6.Turn.row (S := fun _ => False) (L6.Turn.of_keep hb3) HO.out.out (fun _ _ h => h)
          rw [HVL.out] at hout3
          have hsz3 := Nat.le_trans HO.out.base hb3.size
          go_wp2_with (first
            | (at_builtin; refine wpList_append_own _ rfl _ _ 58 rfl B0 50 s0 (.slice none 0 0) 1 24 Try.underlying58 hs hsz0 hsz1 hsz2 rfl (by decide) _ _ _ rfl (hout3.alloc _) ⟨w3.heap.size, 0, none⟩ 1 1 [.slice A3 p.length c3] rfl rfl (cell_one_new _ _ _) (fun u hu => by simp at hu; subst hu; rfl) (by unfold maxLen; omega) (by omega) (by simp; omega) ?_; intro v4 w4 hr4 hg4 _)
            | go_in)
          replace hg4 : (w3.alloc (.cells #[.slice A3 p.length c3] 50)).grownBy w4 u12.ownBlock := hg4
          have tw : Turn (fun j => u12.ownBlock = some j) w3 w4 := ((L6.Turn.refl _ w3).alloc _).grown hg4 (fun i h => .inl h)
          have hrow3 : OwnI w3 B0 (.slice A3 p.length c3) p := ownsRow_base_a ho3 HO.out.base
          have HREL := Lib.hid (show OldAt w B0 Sa ga Bs v4 (vals ++ [.slice A3 p.length c3]) w4 from
            ⟨(HO.out.tr.below hb3).kept tw (fun j _ hS hT => by have := (World.ownsRow.lt hout3 j hT).1; have := hSb j hS; omega),
             (HO.out.below.trans (hb3.mono HO.out.below.size)).trans (tw.below (fun i hi => by have := (World.ownsRow.lt hout3 i hi).1; omega) (by omega)),
             Nat.le_trans hsz3 tw.size, by rw [List.length_append, HVL.out]; exact hr4, fun j hj => by
              by_cases hjm : j < vals.length
              · obtain ⟨q, hq1, hq2⟩ := HO.out.rows j hjm
                have hq3 : OwnI w3 B0 vals[j] q := L6.Turn.row (S := fun _ => False) (L6.Turn.of_keep hb3) hq2 (fun _ _ h => h)
                rw [List.getElem_append_left hjm]
                exact ⟨q, hq1, tw.row hq3 (fun i hi hS => own_ne_type hq3 hout3 hi hS)⟩
              · have hje : j = vals.length := by simp at hj; omega
                subst hje
                rw [List.getElem_append_right (Nat.le_refl _)]
                simp only [Nat.sub_self, List.getElem_cons_zero]
                exact ⟨p, by rw [HVL.out]; exact HPP.out, tw.row hrow3 (fun i hi hS => own_ne_type hrow3 hout3 hi hS)⟩⟩)
          clear hr4 hg4 tw hrow3 ho3 hb3 hout3 hsz3
          go_roundw
          case rel => exact ⟨mm + 1 + 1, _, by go_num, by omega, by omega, by rw [List.length_append, HVL.out]; rfl, HREL.out⟩
          case measure => simp [RowKit.intOf]; omega
        · have hvn : vals.length = n := by omega
          have hd := treeT_done HGD.out (by rw [HBL.out]; omega)
          have hlk : lackE (treeT Bs) (1 + (rt : Int)) = 0 := by
            have := hd.lack (rt + 1) (by omega) (by rw [HBL.out]; omega)
            rw [show ((rt + 1 : Nat) : Int) = 1 + (rt : Int) by omega] at this
            exact this
          have HPR := Lib.hid (prune_any hO.tr (treeT_wf HGD.out (by rw [HBL.out]; omega)) (by show (entsT Bs).length ≤ 100000; rw [entsT_len, HBL.out]; omega) (fun j hj => Nat.lt_of_lt_of_le (hSb j hj) hO.base) (inI_of (by omega) (by omega)) hlk (show (1 + (rt : Int)) ≠ 0 by omega))
          have HO := Lib.hid hO
          clear hO hlk hd
          go_upto_region 21 with (first
            | (go_at_call 13; refine HPR.out.mono ?_; rintro e w3 ⟨rfl, K, y, hy, hK, hT3, ht3⟩)
            | go_in)
          have hb3 : Below w.heap.size w w3 := HO.out.below.trans (ht3.below hSa HO.out.below.size)
          have hout3 := ht3.row HO.out.out (fun j hj hS => by have := (World.ownsRow.lt HO.out.out j hj).1; have := hSb j hS; omega)
          have hrows3 : ∀ j (h : j < vals.length), ∃ p, PathIs 0 (entsT Bs) ((j : Int) + 1) p ∧ OwnI w3 B0 vals[j] p := fun j hj => by
            obtain ⟨q, hq1, hq2⟩ := HO.out.rows j hj
            exact ⟨q, hq1, ht3.row hq2 (fun i hi hS => by have := (World.ownsRow.lt hq2 i hi).1; have := hSb i hS; omega)⟩
          have HT3 := Lib.hid hT3
          have HOUT := Lib.hid hout3
          have HROW := Lib.hid hrows3
          have HY := Lib.hid hy
          have HK := Lib.hid hK
          have HB3 := Lib.hid hb3
          obtain ⟨go, co, rfl, hoc⟩ : ∃ go co, u12 = .slice (some ⟨go, 0, none⟩) n co ∧ ∀ W, Below w3.heap.size w3 W → ∀ j (h : j < vals.length), W.cell? ⟨go, j, none⟩ = some vals[j] := by
            rcases hout3.2 with ⟨_, h0⟩ | ⟨go, co, cur, hv, _⟩
            · omega
            · refine ⟨go, co, by rw [hv, hvn], fun W hW j hj => ?_⟩
              have h5 := L6.Turn.row (S := fun _ => False) (L6.Turn.of_keep hW) hout3 (fun _ _ h => h)
              rw [hv] at h5
              rw [World.ownsRow.cellAt h5 j (by omega), List.getElem?_eq_getElem hj]
          have HOC := Lib.hid hoc
          have hTW := treeT_wf HGD.out (by rw [HBL.out]; omega)
          have HWF := Lib.hid (show (⟨64, 1 + (rt : Int), y.rd, cutL (entsT Bs) K y.rd⟩ : TS).wf from by
            obtain ⟨e, he, h2, h3, h4⟩ := (inF_iff (entsT_one Bs).1).1 hy
            have hang : Hang 0 (entsT Bs) (1 + (rt : Int)) := by rw [← h2]; exact (entsT_ok HGD.out e he).1 h3
            exact ⟨cut_one (entsT_one Bs) hK he h2 h3, cut_ok (entsT_one Bs) (entsT_ok HGD.out) hang hK, fun f hf => hTW.n f (cutL_mem.1 hf).1, fun f hf => hTW.b f (cutL_mem.1 hf).1, inI_of (by show (-1000000 : Int) ≤ 1 + (rt : Int); omega) (by show 1 + (rt : Int) ≤ 1000000; omega), (by rw [← h4]; exact (hTW.b e he).rd), hTW.most⟩)
          have HCL := Lib.hid (show (cutL (entsT Bs) K y.rd).length ≤ 100000 from by
            have : (cutL (entsT Bs) K y.rd).length ≤ (entsT Bs).length := List.length_filter_le _ _
            rw [entsT_len, HBL.out] at this
            omega)
          clear hT3 ht3 hout3 hrows3 hb3 hy hK HPR HO hoc
          go_upto_region 22 with fail
          go_loopw [16] (fun i wr => ∃ m : Nat, i = .int .i64 m ∧ 1 ≤ m ∧ m ≤ n + 1 ∧ Below w3.heap.size w3 wr) (fun i _ => n + 1 - (RowKit.intOf i).toNat)
          case atStart => exact ⟨1, rfl, Nat.le_refl _, by omega, Below.refl _ _⟩
          case round =>
            obtain ⟨m, rfl, hm1, hmn, hb4⟩ := hrel
            by_cases hlt : m ≤ n
            · obtain ⟨mm, rfl⟩ : ∃ mm, m = mm + 1 := ⟨m - 1, by omega⟩
              have hmv : mm < vals.length := by omega
              obtain ⟨p, hpp, hop⟩ := HROW.out mm hmv
              obtain ⟨Ap, cp, hvv, _, _⟩ := OwnI.see hop
              have cv : wr.cell? ⟨go, mm, none⟩ = some (.slice Ap p.length cp) := by rw [HOC.out wr hb4 mm hmv, hvv]
              have HPP := Lib.hid hpp
              have hop' : OwnI w3 B0 (.slice Ap p.length cp) p := by rw [← hvv]; exact hop
              have HOP := Lib.hid (fun W (hW : Below w3.heap.size w3 W) => (L6.Turn.row (S := fun _ => False) (L6.Turn.of_keep hW) hop' (fun _ _ h => h) : OwnI W B0 (.slice Ap p.length cp) p))
              have HB4 := Lib.hid hb4
              have hpl : p.length ≤ 1000 := by
                rcases path_rd (entsT_sub _) HGD.out hpp with ⟨_, h⟩ | ⟨j, hj, _, h⟩
                · rw [h]; simp
                · have := (HGD.out.rd j hj).2
                  have := HBL.out
                  omega
              clear hpp hop hop' hvv hb4
              go_upto_region 26 with fail
              have hs4 : ∃ q : Nat, Value.int .i64 0 = .int .i64 q ∧ q ≤ p.length ∧ (∀ j (h : j < p.length), j < q → p[j] ≠ 1 + (rt : Int)) ∧ Below w3.heap.size w3 wr := ⟨0, rfl, Nat.zero_le _, fun j _ hj => absurd hj (Nat.not_lt_zero j), HB4.out⟩
              clear cv
              go_loopw [18] (fun i wr => ∃ q : Nat, i = .int .i64 q ∧ q ≤ p.length ∧ (∀ j (h : j < p.length), j < q → p[j] ≠ 1 + (rt : Int)) ∧ Below w3.heap.size w3 wr) (fun i _ => p.length - (RowKit.intOf i).toNat)
              case atStart => exact hs4
              case round =>
                clear hs4
                obtain ⟨q, rfl, hqp, hno, hb5⟩ := hrel
                have HB5 := Lib.hid hb5
                have HNO := Lib.hid hno
                clear hno
                by_cases hq : q < p.length
                · obtain ⟨adp, rfl⟩ := ownI_ad (HOP.out wr hb5) (by omega)
                  have cq : wr.cell? (adp.add q) = some (.int .i64 p[q]) := ownI_cell (HOP.out wr hb5) hq
                  obtain ⟨z, hz⟩ : ∃ z, z = p[q] := ⟨_, rfl⟩
                  rw [← hz] at cq
                  have HZ := Lib.hid hz
                  clear hz hb5
                  by_cases hzr : z = 1 + (rt : Int)
                  · have hzq : (z != 1 + (rt : Int)) = false := by simpa using hzr
                    have HZR := Lib.hid hzr
                    have hst := cut_stays (rd := y.rd) (entsT_one Bs) (entsT_ok HGD.out) HK.out HPP.out hq (HZ.out.symm.trans HZR.out)
                    have hlk : lackE ⟨64, 1 + (rt : Int), y.rd, cutL (entsT Bs) K y.rd⟩ ((mm : Int) + 1) = 0 := if_pos ((has_hang HWF.out.ok).2 (path_hang hst))
                    have HST := Lib.hid hst
                    have HP1 := Lib.hid (path_ok (HT3.out.below HB5.out) HWF.out HCL.out ((mm : Int) + 1) (inI_of (by omega) (by omega)) hlk)
                    have HH1 := Lib.hid (fun W (hW : Below wr.heap.size wr W) => has_is ((HT3.out.below HB5.out).below hW) ((mm : Int) + 1) true (inI_of (by omega) (by omega)) (decide_eq_true ((has_hang HWF.out.ok).2 (path_hang hst))))
                    clear hst hlk hzr
                    go_upto_region 30 with (first
                      | (go_at_call 17; (with_reducible refine HP1.out.mono ?_); rintro e w5 ⟨v5, l5, rfl, hp5, ho5, hb6⟩)
                      | go_in)
                    have hl5 : l5 = p.drop (q + 1) := path_one HWF.out.one hp5 HST.out
                    subst hl5
                    obtain ⟨A5, c5, rfl, _, _⟩ := OwnI.see ho5
                    have hld : (p.drop (q + 1)).length = p.length - (q + 1) := List.length_drop
                    have e9 : adp.add (q + 1) = ⟨adp.block, adp.off + (q + 1), none⟩ := by unfold Addr.add; split <;> simp_all
                    have hsee : ∀ W, Below w3.heap.size w3 W → SeeI W (.slice (if cp = q + 1 then some adp else some ⟨adp.block, adp.off + (q + 1), none⟩) (p.length - (q + 1)) (cp - (q + 1))) (p.drop (q + 1)) := fun W hW => by
                      obtain ⟨A, c, he, hc, hr⟩ := OwnI.see (HOP.out W hW)
                      injection he with e1 _ e3
                      subst e1 e3
                      have h7 := hr.cut (k := q + 1) (cap := cp) (by omega) hc
                      rw [Option.map_some, Nat.mul_one, e9, ← List.map_drop] at h7
                      exact ⟨_, _, by rw [hld], by rw [hld]; omega, by rw [hld]; exact h7⟩
                    have hs1 : ∀ W, Below w5.heap.size w5 W → SeeI W (.slice A5 (p.length - (q + 1)) c5) (p.drop (q + 1)) := fun W hW => by
                      have h8 := (OwnI.see ho5).below hW
                      rw [hld] at h8
                      exact h8
                    have HI := Lib.hid (fun W (h1 : Below w3.heap.size w3 W) (h2 : Below w5.heap.size w5 W) => (show Calls Try.prog 18 #[.slice A5 (p.length - (q + 1)) c5, .slice (if cp = q + 1 then some adp else some ⟨adp.block, adp.off + (q + 1), none⟩) (p.length - (q + 1)) (cp - (q + 1))] W (gives (.bool true) W) from by
                      have h9 := ints_any (hs1 W h2) (hsee W h1) (by rw [hld]; omega)
                      rw [decide_eq_true rfl] at h9
                      exact h9))
                    clear hsee hs1 hld e9 ho5 hp5
                    go_wp2_with (first
                      | (go_at_call 19; (with_reducible refine (HH1.out _ hb6).mono ?_); unfold gives; rintro e w6 ⟨rfl, hb7⟩)
                      | (go_at_call 18; refine (HI.out _ (nxt (nxt HB5.out hb6) hb7) hb7).mono ?_; unfold gives; rintro e w7 ⟨rfl, hb8⟩)
                      | go_in)
                    go_roundw
                    case rel => exact ⟨mm + 1 + 1, by go_num, by omega, by omega, nxt (nxt (nxt HB5.out hb6) hb7) hb8⟩
                    case measure => simp [RowKit.intOf]; omega
                  · have hzq : (z != 1 + (rt : Int)) = true := by simpa using hzr
                    have HZR := Lib.hid hzr
                    clear hzr
                    go_wp2
                    go_roundw
                    case rel => exact ⟨q + 1, by go_num, by omega, fun j h hj => by
                      by_cases hjq : j < q
                      · exact HNO.out j h hjq
                      · have : j = q := by omega
                        subst this
                        rw [← HZ.out]
                        exact HZR.out, HB5.out⟩
                    case measure => simp [RowKit.intOf]; omega
                · have hq2 : q = p.length := by omega
                  have hnp : (1 + (rt : Int)) ∉ p := fun hm => by
                    obtain ⟨j, hj, he⟩ := List.mem_iff_getElem.1 hm
                    exact HNO.out j hj (by omega) he
                  have hin : ∀ e ∈ entsT Bs, e.isin = true := fun e he => by obtain ⟨j, hj, rfl⟩ := entsT_mem.1 he; rfl
                  have hgone := cut_gone (rd := y.rd) (entsT_one Bs) (show (1 + (rt : Int)) ≠ 0 by omega) hin HK.out HPP.out hnp
                  have hlk : lackE ⟨64, 1 + (rt : Int), y.rd, cutL (entsT Bs) K y.rd⟩ ((mm : Int) + 1) = 50 := by
                    unfold lackE
                    rw [if_neg hgone, if_neg]
                    rintro ⟨e, he, _, hei⟩
                    rw [hin e (cutL_mem.1 he).1] at hei
                    cases hei
                  have HP1 := Lib.hid (path_no (HT3.out.below hb5) HWF.out HCL.out ((mm : Int) + 1) (inI_of (by omega) (by omega)) hlk (by decide))
                  have HH1 := Lib.hid (fun W (hW : Below wr.heap.size wr W) => has_is ((HT3.out.below hb5).below hW) ((mm : Int) + 1) false (inI_of (by omega) (by omega)) (decide_eq_false hgone))
                  clear hb5 hnp hin hgone hlk
                  go_wp2_with (first
                    | (go_at_call 17; (with_reducible refine HP1.out.mono ?_); unfold gives; rintro e w5 ⟨rfl, hb6⟩)
                    | (go_at_call 19; (with_reducible refine (HH1.out _ hb6).mono ?_); unfold gives; rintro e w6 ⟨rfl, hb7⟩)
                    | go_in)
                  go_roundw
                  case rel => exact ⟨mm + 1 + 1, by go_num, by omega, by omega, nxt (nxt HB5.out hb6) hb7⟩
                  case measure => simp [RowKit.intOf]; omega
            · have hrv : rt < vals.length := by omega
              obtain ⟨pr, hppr, hopr⟩ := HROW.out rt hrv
              obtain ⟨Ar, cr, hvr, _, _⟩ := OwnI.see hopr
              have hlen : y.rd = (pr.length : Int) := by
                obtain ⟨e, he, h2, _, h4⟩ := (inF_iff (entsT_one Bs).1).1 HY.out
                obtain ⟨j, hj, rfl⟩ := entsT_mem.1 he
                have h2' : (j : Int) + 1 = 1 + (rt : Int) := h2
                have hjr : j = rt := by omega
                subst hjr
                rcases path_rd (entsT_sub _) HGD.out hppr with ⟨h, _⟩ | ⟨j2, hj2, hn2, hr2⟩
                · omega
                · have : j2 = j := by omega
                  subst this
                  rw [hr2, ← h4]
              have HLN := Lib.hid hlen
              have HRO := Lib.hid (root_any (HT3.out.below hb4))
              have HCR := Lib.hid (fun W (hW : Below w3.heap.size w3 W) => (show W.cell? ⟨go, rt, none⟩ = some (.slice Ar pr.length cr) from by rw [HOC.out W hW rt hrv, hvr]))
              have hyq : (y.rd == (pr.length : Int)) = true := by rw [hlen]; simp
              have hrq : ((1 + (rt : Int)) == 1 + (rt : Int)) = true := by simp
              clear hppr hopr hvr hlen
              go_wp2_with (first
                | (go_at_call 20; refine HRO.out.mono ?_; unfold gives; rintro e w5 ⟨rfl, hb6⟩; have cr5 := HCR.out w5 (nxt hb4 hb6))
                | go_in)
              go_ret
              exact ⟨rfl, HB3.out.trans ((nxt hb4 hb6).mono HB3.out.size)⟩
end Go.Proofs.Ytgepokdilieodaa
