/-
  Is a block more than is looked at?
-/
import Derived.Test.YtgmejaiifibfoaaGreatDoorRowKit
import Derived.Test.YtgmejaiifibfoaaGreatDoorT2
set_option linter.unusedSimpArgs false
set_option linter.unusedVariables false
set_option maxRecDepth 10000
namespace Go.Proofs.YtgmejaiifibfoaaGreatDoor
open Go.RowKit Go.Maps Go.Lib
open L3 (Blk Reads)

def greatK (b : Blo) : Bool := decide (40 < b.proof.length) || decide (40 < b.txs.length) || b.txs.any greatB
theorem great_small {b : Blo} (h : b.raw) (hg : greatK b = false) : b.wf ∧ b.proof.length ≤ 40 ∧ b.txs.length ≤ 40 ∧ ∀ t ∈ b.txs, t.wf 1000 := by
  unfold greatK at hg
  simp only [Bool.or_eq_false_iff, decide_eq_false_iff_not, List.any_eq_false] at hg
  obtain ⟨⟨h1, h2⟩, h3⟩ := hg
  have hx : ∀ t ∈ b.txs, t.wf 1000 := fun t ht => great_wf (h.txs t ht) (by have := h3 t ht; simpa using this)
  exact ⟨⟨h.view, h.round, h.height, h.author, h.par, h.proof, fun t ht => (hx t ht).le (by omega), by omega, by omega⟩, by omega, by omega, hx⟩
/-- A block's box, its lists. -/
structure BoxB (w : World) (g : Nat) (b : Blo) (A : Option Addr) (c : Nat) (B : Option Addr) (d : Nat) (W : World) : Prop where
  bb : Blk W g 30 (bloC b (.slice A b.proof.length c) (.slice B b.txs.length d))
  rp : Rd tmL 10 W A b.proof
  rt : Rd txL 7 W B b.txs
  bw : Below w.heap.size w W
theorem BoxB.below {w W W' : World} {g : Nat} {b : Blo} {A : Option Addr} {c : Nat} {B : Option Addr} {d : Nat} (h : BoxB w g b A c B d W) (hb : Below W.heap.size W W') : BoxB w g b A c B d W' := ⟨h.bb.below hb h.bb.lt, h.rp.below hb, h.rt.below hb, nxt h.bw hb⟩
theorem boxB_mk {w : World} {b : Blo} {A : Option Addr} {c : Nat} {B : Option Addr} {d : Nat} (hp : Rd tmL 10 w A b.proof) (ht : Rd txL 7 w B b.txs) : BoxB w w.heap.size b A c B d (w.alloc (.cells (bloC b (.slice A b.proof.length c) (.slice B b.txs.length d)) 30)) :=
  ⟨blo_new _ _ _ _ _, hp.below (below_new _ _), ht.below (below_new _ _), below_new _ _⟩
set_option maxHeartbeats 2000000 in
set_option maxRecDepth 100000 in
theorem greatK_any (b : Blo) (A : Option Addr) (c : Nat) (B : Option Addr) (d : Nat) (w : World) (hw : b.raw) (hp : Rd tmL 10 w A b.proof) (ht : Rd txL 7 w B b.txs) :
    Calls Tryz.prog 14 #[.agg (bloC b (.slice A b.proof.length c) (.slice B b.txs.length d))] w (gives (.bool (greatK b)) w) := by
  have F0 := Lib.hid (boxB_mk (c := c) (d := d) hp ht)
  have e : greatK b = (decide (40 < b.proof.length) || decide (40 < b.txs.length) || b.txs.any greatB) := rfl
  have hnp := hw.np
  have hnt := hw.nt
  unfold maxLen at hnp hnt
  clear hw hp ht
  go_enter Tryz.func14, Tryz.ntmps14
  go_upto_region 1 with fail
  refine name_world (fun w0 hw0 => ?_)
  have hA : BoxB w w.heap.size b A c B d w0 := by rw [hw0]; exact F0.out
  clear hw0 F0
  obtain ⟨n, hn⟩ : ∃ n, n = b.proof.length := ⟨_, rfl⟩
  obtain ⟨m, hm⟩ : ∃ m, m = b.txs.length := ⟨_, rfl⟩
  have c12 : w0.cell? ⟨w.heap.size, 12, none⟩ = some (.slice A n c) := by rw [hn]; exact hA.bb.cell 12
  have c13 : w0.cell? ⟨w.heap.size, 13, none⟩ = some (.slice B m d) := by rw [hm]; exact hA.bb.cell 13
  rw [← hn] at hnp e
  rw [← hm] at hnt e
  by_cases h1 : 40 < n
  · have E : Hid (greatK b = true) := Lib.hid (by rw [e, decide_eq_true h1]; rfl)
    have hb := hA.bw
    clear e hA hn hm
    go_wp2
    go_ret
    exact ⟨by rw [E.out]; rfl, hb⟩
  by_cases h2 : 40 < m
  · have E : Hid (greatK b = true) := Lib.hid (by rw [e, decide_eq_true h2]; simp)
    have hb := hA.bw
    clear e hA hn hm
    go_wp2
    go_ret
    exact ⟨by rw [E.out]; rfl, hb⟩
  have E : Hid (greatK b = b.txs.any greatB) := Lib.hid (by rw [e, decide_eq_false h1, decide_eq_false h2]; rfl)
  have HN := Lib.hid hm
  clear e hm hn
  go_wp2
  go_loopw [3] (fun i wr => ∃ k : Nat, i = .int .i64 k ∧ k ≤ m ∧ Hid (∀ j (hj : j < b.txs.length), j < k → greatB b.txs[j] = false) ∧ BoxB w w.heap.size b A c B d wr) (fun i _ => m - (RowKit.intOf i).toNat)
  case atStart => exact ⟨0, rfl, Nat.zero_le _, Lib.hid (fun j _ hj => absurd hj (by omega)), hA⟩
  case round =>
    obtain ⟨k, rfl, hk, hno, hP⟩ := hrel
    clear c12 c13 hA
    have c13 : wr.cell? ⟨w.heap.size, 13, none⟩ = some (.slice B m d) := by rw [HN.out]; exact hP.bb.cell 13
    by_cases hlt : k < m
    · have hkL : k < b.txs.length := by have := HN.out; omega
      obtain ⟨ad, rfl, hadl, hcs⟩ := hP.rt k hkL
      obtain ⟨x, hx⟩ : ∃ x, x = b.txs[k] := ⟨_, rfl⟩
      rw [← hx] at hcs
      have hcs1 : ∀ j u, (txL x)[j]? = some u → wr.cell? ((ad.add (k * 7)).add j) = some u := hcs
      have hgr := fun W => great_any x W
      have HX : Hid (∃ h : k < b.txs.length, x = b.txs[k]'h) := Lib.hid ⟨hkL, hx⟩
      clear hcs hx hkL
      rcases Bool.eq_false_or_eq_true (greatB x) with hg | hg
      · have HY : Hid (b.txs.any greatB = true) := Lib.hid (List.any_eq_true.2 ⟨x, by obtain ⟨h, e⟩ := HX.out; rw [e]; exact List.getElem_mem _, hg⟩)
        rw [hg] at hgr
        clear hg
        go_wp2_with (first
          | (refine wpList_cells_at rfl _ _ rfl (ad.add (k * 7)) rfl (txL x) _ hcs1 Tryz.underlying32 rfl txInfo ?_)
          | (go_at_call 15; refine (hgr _).mono ?_; unfold gives; rintro e w2 ⟨rfl, hb2⟩)
          | go_in)
        go_ret
        exact ⟨by rw [E.out, HY.out]; rfl, nxt hP.bw hb2⟩
      · have HG := Lib.hid hg
        rw [hg] at hgr
        clear hg
        go_wp2_with (first
          | (refine wpList_cells_at rfl _ _ rfl (ad.add (k * 7)) rfl (txL x) _ hcs1 Tryz.underlying32 rfl txInfo ?_)
          | (go_at_call 15; refine (hgr _).mono ?_; unfold gives; rintro e w2 ⟨rfl, hb2⟩)
          | go_in)
        go_roundw
        case rel =>
          refine ⟨k + 1, by go_num, by omega, Lib.hid (fun j hj hjk => ?_), hP.below hb2⟩
          rcases Nat.lt_or_ge j k with h | h
          · exact hno.out j hj h
          · obtain rfl : j = k := by omega
            obtain ⟨h, e⟩ := HX.out
            rw [← e]; exact HG.out
        case measure => simp [RowKit.intOf]; omega
    · have HY : Hid (b.txs.any greatB = false) := Lib.hid (by
        rw [List.any_eq_false]
        intro x hx
        obtain ⟨j, hj, rfl⟩ := List.getElem_of_mem hx
        rw [hno.out j hj (by have := HN.out; omega)]; simp)
      have hb := hP.bw
      clear hno hP
      go_wp2_with fail
      go_ret
      exact ⟨by rw [E.out, HY.out]; rfl, hb⟩
end Go.Proofs.YtgmejaiifibfoaaGreatDoor
