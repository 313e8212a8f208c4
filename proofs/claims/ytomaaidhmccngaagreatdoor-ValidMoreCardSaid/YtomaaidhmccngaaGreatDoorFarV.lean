/-
  Is it more than is looked at?
-/
import Derived.Test.YtomaaidhmccngaaGreatDoorV3
set_option linter.unusedSimpArgs false
set_option linter.unusedVariables false
set_option maxRecDepth 10000
namespace Go.Proofs.YtomaaidhmccngaaGreatDoor
open Go.RowKit Go.Maps Go.Lib
open L3 (Blk Reads)
open L7 (Shr shrC shrL)

structure FrAt (w : World) (x : InV) (a : InA) (W : World) : Prop where
  bi : Blk W w.heap.size 27 (inC x a)
  hin : InAt x a W
  bw : Below w.heap.size w W
theorem FrAt.below {w W W' : World} {x : InV} {a : InA} (h : FrAt w x a W) (hb : Below W.heap.size W W') : FrAt w x a W' := ⟨h.bi.below hb h.bi.lt, h.hin.below hb, nxt h.bw hb⟩
set_option maxHeartbeats 8000000 in
set_option maxRecDepth 100000 in
theorem far_any (x : InV) (a : InA) (w : World) (hx : x.raw) (hin : InAt x a w) :
    Calls Tryz.prog 9 #[.agg (inC x a)] w (gives (.bool (farV x)) w) := by
  have F0 := Lib.hid (show FrAt w x a (w.alloc (.cells (inC x a) 27)) from ⟨Blk.new _ _ _, hin.below (below_new _ _), below_new _ _⟩)
  have HX := Lib.hid hx
  obtain ⟨v, hv⟩ : ∃ v, v = farV x := ⟨_, rfl⟩
  have hV : v = (decide (30 < x.bs.length) || (decide (10 < x.cs.length) || (decide (120 < x.ss.length) || (decide (20 < x.gs.length) || (x.bs.any (fun y => greatK y.b) || x.cs.any (fun s => decide (3000 < s.length))))))) := hv
  rw [← hv]
  obtain ⟨n1, hn1⟩ : ∃ n, n = x.bs.length := ⟨_, rfl⟩
  obtain ⟨n2, hn2⟩ : ∃ n, n = x.cs.length := ⟨_, rfl⟩
  obtain ⟨n3, hn3⟩ : ∃ n, n = x.ss.length := ⟨_, rfl⟩
  obtain ⟨n4, hn4⟩ : ∃ n, n = x.gs.length := ⟨_, rfl⟩
  rw [← hn1, ← hn2, ← hn3, ← hn4] at hV
  have HV := Lib.hid hV
  have HN := Lib.hid (And.intro hn1 (And.intro hn2 (And.intro hn3 hn4)))
  have HM := Lib.hid (show n1 ≤ maxLen ∧ n2 ≤ maxLen ∧ n3 ≤ maxLen ∧ n4 ≤ maxLen by rw [hn1, hn2, hn3, hn4]; exact ⟨hx.n1, hx.n2, hx.n3, hx.n4⟩)
  clear hv hV hx hin
  go_enter Tryz.func9, Tryz.ntmps9
  go_upto_region 1 with fail
  refine name_world (fun w0 hw0 => ?_)
  have hA : FrAt w x a w0 := by rw [hw0]; exact F0.out
  clear hw0 F0
  have c2 : w0.cell? ⟨w.heap.size, 2, none⟩ = some (.slice a.A1 n1 a.c1) := by rw [hn1]; exact hA.bi.cell 2
  have c3 : w0.cell? ⟨w.heap.size, 3, none⟩ = some (.slice a.A2 n2 a.c2) := by rw [hn2]; exact hA.bi.cell 3
  have c4 : w0.cell? ⟨w.heap.size, 4, none⟩ = some (.slice a.A3 n3 a.c3) := by rw [hn3]; exact hA.bi.cell 4
  have c5 : w0.cell? ⟨w.heap.size, 5, none⟩ = some (.slice a.A4 n4 a.c4) := by rw [hn4]; exact hA.bi.cell 5
  clear hn1 hn2 hn3 hn4
  have hm := HM.out
  unfold maxLen at hm
  by_cases h1 : 30 < n1
  · have E := Lib.hid (show v = true by rw [HV.out, decide_eq_true h1]; rfl)
    go_wp2
    go_ret
    exact ⟨by rw [E.out]; rfl, hA.bw⟩
  by_cases h2 : 10 < n2
  · have E := Lib.hid (show v = true by rw [HV.out, decide_eq_true h2]; simp)
    go_wp2
    go_ret
    exact ⟨by rw [E.out]; rfl, hA.bw⟩
  by_cases h3 : 120 < n3
  · have E := Lib.hid (show v = true by rw [HV.out, decide_eq_true h3]; simp)
    go_wp2
    go_ret
    exact ⟨by rw [E.out]; rfl, hA.bw⟩
  by_cases h4 : 20 < n4
  · have E := Lib.hid (show v = true by rw [HV.out, decide_eq_true h4]; simp)
    go_wp2
    go_ret
    exact ⟨by rw [E.out]; rfl, hA.bw⟩
  have hV2 : v = (x.bs.any (fun y => greatK y.b) || x.cs.any (fun s => decide (3000 < s.length))) := by
    rw [HV.out, decide_eq_false h1, decide_eq_false h2, decide_eq_false h3, decide_eq_false h4]; rfl
  have HV2 := Lib.hid hV2
  clear hV2
  go_wp2
  clear c2 c3 c4 c5
  go_loopw [3] (fun i wr => ∃ k : Nat, i = .int .i64 k ∧ k ≤ n1 ∧ FrAt w x a wr ∧ (x.bs.take k).any (fun y => greatK y.b) = false) (fun i _ => n1 - (RowKit.intOf i).toNat)
  case atStart => exact ⟨0, rfl, Nat.zero_le _, hA, rfl⟩
  case round =>
    obtain ⟨k, rfl, hk, hAk, hno⟩ := hrel
    clear hA
    have i2 : wr.cell? ⟨w.heap.size, 2, none⟩ = some (.slice a.A1 n1 a.c1) := by rw [HN.out.1]; exact hAk.bi.cell 2
    by_cases hlt : k < n1
    · have hkL : k < x.bs.length := by have := HN.out.1; omega
      obtain ⟨ad, hA1, hadl, hxx⟩ := hAk.hin.r1 k hkL
      clear hxx
      rw [hA1] at i2
      obtain ⟨y, hy⟩ : ∃ y, y = x.bs[k] := ⟨_, rfl⟩
      have hyw : y.b.raw := by rw [hy]; exact HX.out.bs _ (List.getElem_mem hkL)
      have hymem : y ∈ x.bs := by rw [hy]; exact List.getElem_mem hkL
      have hsn : (x.bs.take (k + 1)).any (fun y => greatK y.b) = greatK y.b := by rw [List.take_succ_eq_append_getElem hkL, List.any_append, hno, hy]; simp
      have hcs1 : ∀ j u, (bkL y)[j]? = some u → wr.cell? ((ad.add (k * 14)).add j) = some u := by rw [hy]; exact bk_cells (by have := hAk.hin.r1; rw [hA1] at this; exact this) hkL
      have hgr : Calls Tryz.prog 24 #[.agg (bkL y).toArray] wr (gives (.bool (greatK y.b)) wr) := greatK_any y.b y.A y.c y.D y.d wr hyw (hAk.hin.rp y hymem) (hAk.hin.rt y hymem)
      rcases Bool.eq_false_or_eq_true (greatK y.b) with hg | hg
      · have E := Lib.hid (show v = true by
          rw [HV2.out]
          have : x.bs.any (fun y => greatK y.b) = true := List.any_eq_true.2 ⟨y, hymem, hg⟩
          rw [this]; rfl)
        rw [hg] at hgr
        have HA := Lib.hid hAk
        clear hsn hy hyw hymem hadl hkL hA1 hno hAk hg
        go_wp2_with (first
          | (refine wpList_cells_at rfl _ _ rfl (ad.add (k * 14)) rfl (bkL y) _ hcs1 Tryz.underlying57 rfl (bkInfo y) ?_)
          | (go_at_call 24; refine hgr.mono ?_; unfold gives; rintro e w9 ⟨rfl, hb9⟩))
        go_ret
        exact ⟨by rw [E.out]; rfl, nxt HA.out.bw hb9⟩
      · rw [hg] at hgr hsn
        have HA := Lib.hid (And.intro hAk hsn)
        clear hsn hy hyw hymem hadl hkL hA1 hno hAk hg
        go_wp2_with (first
          | (refine wpList_cells_at rfl _ _ rfl (ad.add (k * 14)) rfl (bkL y) _ hcs1 Tryz.underlying57 rfl (bkInfo y) ?_)
          | (go_at_call 24; refine hgr.mono ?_; unfold gives; rintro e w9 ⟨rfl, hb9⟩))
        go_roundw
        case rel => exact ⟨k + 1, by go_num, by omega, HA.out.1.below hb9, HA.out.2⟩
        case measure => simp [RowKit.intOf]; omega
    · obtain rfl : k = n1 := by omega
      have hfull : x.bs.take k = x.bs := List.take_of_length_le (by have := HN.out.1; omega)
      rw [hfull] at hno
      have HV3 := Lib.hid (show v = x.cs.any (fun s => decide (3000 < s.length)) by rw [HV2.out, hno]; rfl)
      clear hno hfull HV2 HV
      go_wp2
      clear i2
      go_loopw [4] (fun i wr => ∃ k : Nat, i = .int .i64 k ∧ k ≤ n2 ∧ FrAt w x a wr ∧ (x.cs.take k).any (fun s => decide (3000 < s.length)) = false) (fun i _ => n2 - (RowKit.intOf i).toNat)
      case atStart => exact ⟨0, rfl, Nat.zero_le _, hAk, rfl⟩
      case round =>
        obtain ⟨k, rfl, hk, hA, hno⟩ := hrel
        clear hAk
        have i3 : wr.cell? ⟨w.heap.size, 3, none⟩ = some (.slice a.A2 n2 a.c2) := by rw [HN.out.2.1]; exact hA.bi.cell 3
        by_cases hlt : k < n2
        · have hkL : k < x.cs.length := by have := HN.out.2.1; omega
          obtain ⟨ad, hA1, hadl, hxx⟩ := hA.hin.r2 k hkL
          clear hxx
          rw [hA1] at i3
          have hst : wr.cell? (ad.add k) = some (.string (str x.cs[k])) := st_cell (by have := hA.hin.r2; rw [hA1] at this; exact this) hkL
          have hsz : (str x.cs[k]).size = x.cs[k].length := str_size _
          have hle : x.cs[k].length ≤ maxLen := HX.out.cs _ (List.getElem_mem hkL)
          unfold maxLen at hle
          have hsn : (x.cs.take (k + 1)).any (fun s => decide (3000 < s.length)) = decide (3000 < x.cs[k].length) := by rw [List.take_succ_eq_append_getElem hkL, List.any_append, hno]; simp
          have hmem : x.cs[k] ∈ x.cs := List.getElem_mem hkL
          obtain ⟨s, hs⟩ : ∃ s, s = x.cs[k] := ⟨_, rfl⟩
          rw [← hs] at hst hsz hle hsn hmem
          obtain ⟨t, ht⟩ : ∃ t, t = str s := ⟨_, rfl⟩
          rw [← ht] at hst hsz
          by_cases hg : 3000 < s.length
          · have E := Lib.hid (show v = true by
              rw [HV3.out]
              exact List.any_eq_true.2 ⟨s, hmem, decide_eq_true hg⟩)
            have hg' : 3000 < t.size := by omega
            have hg'' : t.size ≤ 9223372036854775807 := by omega
            have HA := Lib.hid hA
            clear hsn hs hmem hadl hkL hA1 hno hA hg hsz ht hle
            go_wp2
            go_ret
            exact ⟨by rw [E.out]; rfl, HA.out.bw⟩
          · rw [decide_eq_false hg] at hsn
            have hg' : ¬ 3000 < t.size := by omega
            have HA := Lib.hid (And.intro hA hsn)
            clear hsn hs hmem hadl hkL hA1 hno hA hg hsz ht hle
            go_wp2
            go_roundw
            case rel => exact ⟨k + 1, by go_num, by omega, HA.out.1, HA.out.2⟩
            case measure => simp [RowKit.intOf]; omega
        · obtain rfl : k = n2 := by omega
          have hfull : x.cs.take k = x.cs := List.take_of_length_le (by have := HN.out.2.1; omega)
          rw [hfull] at hno
          have E := Lib.hid (show v = false by rw [HV3.out, hno])
          have HA := Lib.hid hA
          clear hno hfull HV3 hA
          go_wp2
          go_ret
          exact ⟨by rw [E.out]; rfl, HA.out.bw⟩
end Go.Proofs.YtomaaidhmccngaaGreatDoor
