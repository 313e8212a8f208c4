/-
  What Add tells, Sub takes back; Read of Print is the number; products are sums (P1.3): for every two int64 and every uint8; the arguments are left as they were. Conditions: the three listed tables hold what the program's text lays in them (tied by the card).
-/
import Derived.Test.YtjjakamepjgheaaDoorRowKit
import Derived.Test.YtjjakamepjgheaaDoorBack
set_option linter.unusedSimpArgs false
set_option linter.unusedVariables false
namespace Go.Proofs.YtjjakamepjgheaaDoor.lawBack
open Go.ChangeShapes Go.WideShapes Go.ChangeAt Go.RowKit

theorem info_i64 : (Tryd.prog.info? 2).map (fun i => (i.zero, i.size, i.bytes)) = some (some (.int .i64 0), 1, 8) := by kernel_rfl
theorem make_any (t : Nat) (ht : t ≤ 255) (W : World) :
    (Instr.makeSlice 29 (.int .i64 (t : Int)) (.int .i64 (t : Int))).run Tryd.prog W = .ok (.slice (some ⟨W.heap.size, 0, none⟩) t t) (W.alloc (.cells (madeCells #[.int .i64 0] t) 2)) :=
  run_make_row' 29 2 (.int .i64 0) 8 Tryd.underlying29 info_i64 rfl .i64 .i64 t (by omega) (by omega) W

theorem walk_gzero (a b : Int) (t : Nat) (w : World) (a0 : -9223372036854775808 ≤ a) (a1 : a ≤ 9223372036854775807) (b0 : -9223372036854775808 ≤ b) (b1 : b ≤ 9223372036854775807) (ht : t ≤ 255) (hT : Tab w)
    (hg1 : al a = true) (hg2 : al b = true) (hg3 : al (a + b) = true) (hz : t = 0) :
    Calls Tryd.prog 6 #[.int .i64 a, .int .i64 b, .int .u8 t] w fun e w' => e = .returned (.bool true) ∧ Below w.heap.size w w' := by
  have HT := Lib.hid hT
  have hmk := make_any t ht
  have HG := Lib.hid (And.intro hg1 (And.intro hg2 hg3))
  clear hT hg1 hg2 hg3
  have HZ := Lib.hid hz
  have hz0 : t ≤ 0 := by omega
  have tz : ((t : Int) == 0) = true := by rw [hz]; rfl
  have tn : ((t : Int) != 0) = false := by rw [hz]; rfl
  clear hz
  go_enter Tryd.func6, Tryd.ntmps6
  go_wp2_with (first
      | (go_at_call 7; refine (alive_any _ HT.out).mono ?_; rintro e w1 ⟨rfl, hb1⟩)
      | (go_at_call 18; refine (print_any _ _ a0 a1 (tab_below HT.out hb1 rfl)).mono ?_; rintro e w2 ⟨rfl, hb2⟩)
      | (go_at_call 16; refine (read_back _ _ a0 a1).mono ?_; rintro e w3 ⟨rfl, hb3⟩)
      | (go_at_call 8; (first | ((with_reducible refine (add_good a b _ HG.out.1 HG.out.2.1 HG.out.2.2).mono ?_); rintro e w' ⟨rfl, rfl⟩) | ((with_reducible refine (add_turned a b _ HG.out.1 HG.out.2.1 HG.out.2.2).mono ?_); rintro e w' ⟨rfl, rfl⟩)))
      | (go_at_call 10; refine (sub_back a b _ HG.out.1 HG.out.2.1 HG.out.2.2).mono ?_; rintro e w' ⟨rfl, rfl⟩))
  have hb : Below w.heap.size w w3 := nxt (nxt hb1 hb2) hb3
  have HB := Lib.hid hb
  clear hb hb1 hb2 hb3
  go_loopw [16] (fun i wr => ∃ k : Nat, k ≤ t ∧ i = .int .i64 k ∧ wr.rowIs w3.heap.size 2 t (fun j => if j < k then .int .i64 a else .int .i64 0) ∧ Below w.heap.size w wr) (fun i _ => t - (RowKit.intOf i).toNat)
  case atStart => exact ⟨0, Nat.zero_le _, rfl, (World.rowIs_made w3 (.int .i64 0) t 2).congr (fun i _ => by simp), HB.out.alloc HB.out.size _⟩
  case round =>
    obtain ⟨k, hk, rfl, hrow, hbl⟩ := hrel
    have hsz := HB.out.size
    by_cases hlt : k < t
    · exact absurd hlt (by omega)
    · have ek : k = t := by omega
      subst ek
      have HR := Lib.hid hrow
      clear hrow hlt
      go_wp2_with (first
        | (go_at_call 12; refine (mul_zero_ _ _ _ HZ.out a0 a1).mono ?_; rintro e w' ⟨rfl, rfl⟩)
        | (go_at_call 14; refine (sum_row_zero _ _ _ HZ.out).mono ?_; rintro e w' ⟨rfl, rfl⟩))
      go_ret
      exact ⟨rfl, hbl⟩

theorem walk_gal (a b : Int) (t : Nat) (w : World) (a0 : -9223372036854775808 ≤ a) (a1 : a ≤ 9223372036854775807) (b0 : -9223372036854775808 ≤ b) (b1 : b ≤ 9223372036854775807) (ht : t ≤ 255) (hT : Tab w)
    (hg1 : al a = true) (hg2 : al b = true) (hg3 : al (a + b) = true) (h1 : 1 ≤ t) (hal : al a = true) :
    Calls Tryd.prog 6 #[.int .i64 a, .int .i64 b, .int .u8 t] w fun e w' => e = .returned (.bool true) ∧ Below w.heap.size w w' := by
  have HT := Lib.hid hT
  have hmk := make_any t ht
  have HG := Lib.hid (And.intro hg1 (And.intro hg2 hg3))
  clear hT hg1 hg2 hg3
  have rg := al_iff.1 hal
  obtain ⟨rg0, rg1⟩ := rg
  have HAL := Lib.hid hal
  clear hal
  have tz : ((t : Int) == 0) = false := by rw [beq_eq_false_iff_ne]; omega
  go_enter Tryd.func6, Tryd.ntmps6
  go_wp2_with (first
      | (go_at_call 7; refine (alive_any _ HT.out).mono ?_; rintro e w1 ⟨rfl, hb1⟩)
      | (go_at_call 18; refine (print_any _ _ a0 a1 (tab_below HT.out hb1 rfl)).mono ?_; rintro e w2 ⟨rfl, hb2⟩)
      | (go_at_call 16; refine (read_back _ _ a0 a1).mono ?_; rintro e w3 ⟨rfl, hb3⟩)
      | (go_at_call 8; (first | ((with_reducible refine (add_good a b _ HG.out.1 HG.out.2.1 HG.out.2.2).mono ?_); rintro e w' ⟨rfl, rfl⟩) | ((with_reducible refine (add_turned a b _ HG.out.1 HG.out.2.1 HG.out.2.2).mono ?_); rintro e w' ⟨rfl, rfl⟩)))
      | (go_at_call 10; refine (sub_back a b _ HG.out.1 HG.out.2.1 HG.out.2.2).mono ?_; rintro e w' ⟨rfl, rfl⟩))
  have hb : Below w.heap.size w w3 := nxt (nxt hb1 hb2) hb3
  have HB := Lib.hid hb
  clear hb hb1 hb2 hb3
  go_loopw [16] (fun i wr => ∃ k : Nat, k ≤ t ∧ i = .int .i64 k ∧ wr.rowIs w3.heap.size 2 t (fun j => if j < k then .int .i64 a else .int .i64 0) ∧ Below w.heap.size w wr) (fun i _ => t - (RowKit.intOf i).toNat)
  case atStart => exact ⟨0, Nat.zero_le _, rfl, (World.rowIs_made w3 (.int .i64 0) t 2).congr (fun i _ => by simp), HB.out.alloc HB.out.size _⟩
  case round =>
    obtain ⟨k, hk, rfl, hrow, hbl⟩ := hrel
    have hsz := HB.out.size
    by_cases hlt : k < t
    · have hcell := hrow.cell hlt
      rw [if_neg (Nat.lt_irrefl k)] at hcell
      have hfro := hrow.frozen k
      have HR := Lib.hid hrow
      clear hrow
      go_wp2
      go_roundw
      case rel =>
        refine ⟨k + 1, by omega, by go_num, (HR.out.set k _).congr (fun i hi => ?_), hbl.setCell (p := ⟨w3.heap.size, k, none⟩) hsz _⟩
        by_cases e1 : i = k
        · rw [if_pos e1, if_pos (by omega)]
        · rw [if_neg e1]
          by_cases e2 : i < k
          · rw [if_pos e2, if_pos (by omega)]
          · rw [if_neg e2, if_neg (by omega)]
      case measure => simp [RowKit.intOf]; omega
    · have ek : k = t := by omega
      subst ek
      have HR := Lib.hid hrow
      clear hrow hlt
      go_wp2_with (first
        | (go_at_call 12; refine (mul_times _ _ _ HAL.out ht).mono ?_; rintro e w' ⟨rfl, rfl⟩)
        | (go_at_call 14; refine (sum_times _ _ _ _ HR.out HAL.out ht).mono ?_; rintro e w' ⟨rfl, rfl⟩))
      go_ret
      exact ⟨rfl, hbl⟩

theorem walk_bzero (a b : Int) (t : Nat) (w : World) (a0 : -9223372036854775808 ≤ a) (a1 : a ≤ 9223372036854775807) (b0 : -9223372036854775808 ≤ b) (b1 : b ≤ 9223372036854775807) (ht : t ≤ 255) (hT : Tab w)
    (hg : (al a && al b && al (a + b)) = false) (hz : t = 0) :
    Calls Tryd.prog 6 #[.int .i64 a, .int .i64 b, .int .u8 t] w fun e w' => e = .returned (.bool true) ∧ Below w.heap.size w w' := by
  have HT := Lib.hid hT
  have hmk := make_any t ht
  have HG := Lib.hid hg
  clear hT hg
  have HZ := Lib.hid hz
  have hz0 : t ≤ 0 := by omega
  have tz : ((t : Int) == 0) = true := by rw [hz]; rfl
  have tn : ((t : Int) != 0) = false := by rw [hz]; rfl
  clear hz
  go_enter Tryd.func6, Tryd.ntmps6
  go_wp2_with (first
      | (go_at_call 7; refine (alive_any _ HT.out).mono ?_; rintro e w1 ⟨rfl, hb1⟩)
      | (go_at_call 18; refine (print_any _ _ a0 a1 (tab_below HT.out hb1 rfl)).mono ?_; rintro e w2 ⟨rfl, hb2⟩)
      | (go_at_call 16; refine (read_back _ _ a0 a1).mono ?_; rintro e w3 ⟨rfl, hb3⟩)
      | (go_at_call 8; refine (add_bad a b _ a0 a1 b0 b1 HG.out).mono ?_; rintro e w' ⟨rfl, rfl⟩))
  have hb : Below w.heap.size w w3 := nxt (nxt hb1 hb2) hb3
  have HB := Lib.hid hb
  clear hb hb1 hb2 hb3
  go_loopw [16] (fun i wr => ∃ k : Nat, k ≤ t ∧ i = .int .i64 k ∧ wr.rowIs w3.heap.size 2 t (fun j => if j < k then .int .i64 a else .int .i64 0) ∧ Below w.heap.size w wr) (fun i _ => t - (RowKit.intOf i).toNat)
  case atStart => exact ⟨0, Nat.zero_le _, rfl, (World.rowIs_made w3 (.int .i64 0) t 2).congr (fun i _ => by simp), HB.out.alloc HB.out.size _⟩
  case round =>
    obtain ⟨k, hk, rfl, hrow, hbl⟩ := hrel
    have hsz := HB.out.size
    by_cases hlt : k < t
    · exact absurd hlt (by omega)
    · have ek : k = t := by omega
      subst ek
      have HR := Lib.hid hrow
      clear hrow hlt
      go_wp2_with (first
        | (go_at_call 12; refine (mul_zero_ _ _ _ HZ.out a0 a1).mono ?_; rintro e w' ⟨rfl, rfl⟩)
        | (go_at_call 14; refine (sum_row_zero _ _ _ HZ.out).mono ?_; rintro e w' ⟨rfl, rfl⟩))
      go_ret
      exact ⟨rfl, hbl⟩

theorem walk_bal (a b : Int) (t : Nat) (w : World) (a0 : -9223372036854775808 ≤ a) (a1 : a ≤ 9223372036854775807) (b0 : -9223372036854775808 ≤ b) (b1 : b ≤ 9223372036854775807) (ht : t ≤ 255) (hT : Tab w)
    (hg : (al a && al b && al (a + b)) = false) (h1 : 1 ≤ t) (hal : al a = true) :
    Calls Tryd.prog 6 #[.int .i64 a, .int .i64 b, .int .u8 t] w fun e w' => e = .returned (.bool true) ∧ Below w.heap.size w w' := by
  have HT := Lib.hid hT
  have hmk := make_any t ht
  have HG := Lib.hid hg
  clear hT hg
  have rg := al_iff.1 hal
  obtain ⟨rg0, rg1⟩ := rg
  have HAL := Lib.hid hal
  clear hal
  have tz : ((t : Int) == 0) = false := by rw [beq_eq_false_iff_ne]; omega
  go_enter Tryd.func6, Tryd.ntmps6
  go_wp2_with (first
      | (go_at_call 7; refine (alive_any _ HT.out).mono ?_; rintro e w1 ⟨rfl, hb1⟩)
      | (go_at_call 18; refine (print_any _ _ a0 a1 (tab_below HT.out hb1 rfl)).mono ?_; rintro e w2 ⟨rfl, hb2⟩)
      | (go_at_call 16; refine (read_back _ _ a0 a1).mono ?_; rintro e w3 ⟨rfl, hb3⟩)
      | (go_at_call 8; refine (add_bad a b _ a0 a1 b0 b1 HG.out).mono ?_; rintro e w' ⟨rfl, rfl⟩))
  have hb : Below w.heap.size w w3 := nxt (nxt hb1 hb2) hb3
  have HB := Lib.hid hb
  clear hb hb1 hb2 hb3
  go_loopw [16] (fun i wr => ∃ k : Nat, k ≤ t ∧ i = .int .i64 k ∧ wr.rowIs w3.heap.size 2 t (fun j => if j < k then .int .i64 a else .int .i64 0) ∧ Below w.heap.size w wr) (fun i _ => t - (RowKit.intOf i).toNat)
  case atStart => exact ⟨0, Nat.zero_le _, rfl, (World.rowIs_made w3 (.int .i64 0) t 2).congr (fun i _ => by simp), HB.out.alloc HB.out.size _⟩
  case round =>
    obtain ⟨k, hk, rfl, hrow, hbl⟩ := hrel
    have hsz := HB.out.size
    by_cases hlt : k < t
    · have hcell := hrow.cell hlt
      rw [if_neg (Nat.lt_irrefl k)] at hcell
      have hfro := hrow.frozen k
      have HR := Lib.hid hrow
      clear hrow
      go_wp2
      go_roundw
      case rel =>
        refine ⟨k + 1, by omega, by go_num, (HR.out.set k _).congr (fun i hi => ?_), hbl.setCell (p := ⟨w3.heap.size, k, none⟩) hsz _⟩
        by_cases e1 : i = k
        · rw [if_pos e1, if_pos (by omega)]
        · rw [if_neg e1]
          by_cases e2 : i < k
          · rw [if_pos e2, if_pos (by omega)]
          · rw [if_neg e2, if_neg (by omega)]
      case measure => simp [RowKit.intOf]; omega
    · have ek : k = t := by omega
      subst ek
      have HR := Lib.hid hrow
      clear hrow hlt
      go_wp2_with (first
        | (go_at_call 12; refine (mul_times _ _ _ HAL.out ht).mono ?_; rintro e w' ⟨rfl, rfl⟩)
        | (go_at_call 14; refine (sum_times _ _ _ _ HR.out HAL.out ht).mono ?_; rintro e w' ⟨rfl, rfl⟩))
      go_ret
      exact ⟨rfl, hbl⟩

theorem walk_bnot (a b : Int) (t : Nat) (w : World) (a0 : -9223372036854775808 ≤ a) (a1 : a ≤ 9223372036854775807) (b0 : -9223372036854775808 ≤ b) (b1 : b ≤ 9223372036854775807) (ht : t ≤ 255) (hT : Tab w)
    (hg : (al a && al b && al (a + b)) = false) (h1 : 1 ≤ t) (hal : al a = false) :
    Calls Tryd.prog 6 #[.int .i64 a, .int .i64 b, .int .u8 t] w fun e w' => e = .returned (.bool true) ∧ Below w.heap.size w w' := by
  have HT := Lib.hid hT
  have hmk := make_any t ht
  have HG := Lib.hid hg
  clear hT hg
  have tz : ((t : Int) == 0) = false := by rw [beq_eq_false_iff_ne]; omega
  have tn : ((t : Int) != 0) = true := by rw [bne_iff_ne]; omega
  have hout := al_not.1 hal
  clear hal
  rcases hout with hout | hout
  all_goals
    go_enter Tryd.func6, Tryd.ntmps6
    go_wp2_with (first
        | (go_at_call 7; refine (alive_any _ HT.out).mono ?_; rintro e w1 ⟨rfl, hb1⟩)
        | (go_at_call 18; refine (print_any _ _ a0 a1 (tab_below HT.out hb1 rfl)).mono ?_; rintro e w2 ⟨rfl, hb2⟩)
        | (go_at_call 16; refine (read_back _ _ a0 a1).mono ?_; rintro e w3 ⟨rfl, hb3⟩)
        | (go_at_call 8; refine (add_bad a b _ a0 a1 b0 b1 HG.out).mono ?_; rintro e w' ⟨rfl, rfl⟩))
    have hb : Below w.heap.size w w3 := nxt (nxt hb1 hb2) hb3
    have HB := Lib.hid hb
    clear hb hb1 hb2 hb3
    go_loopw [16] (fun i wr => ∃ k : Nat, k ≤ t ∧ i = .int .i64 k ∧ wr.rowIs w3.heap.size 2 t (fun j => if j < k then .int .i64 a else .int .i64 0) ∧ Below w.heap.size w wr) (fun i _ => t - (RowKit.intOf i).toNat)
    case atStart => exact ⟨0, Nat.zero_le _, rfl, (World.rowIs_made w3 (.int .i64 0) t 2).congr (fun i _ => by simp), HB.out.alloc HB.out.size _⟩
    case round =>
      obtain ⟨k, hk, rfl, hrow, hbl⟩ := hrel
      have hsz := HB.out.size
      by_cases hlt : k < t
      · have hcell := hrow.cell hlt
        rw [if_neg (Nat.lt_irrefl k)] at hcell
        have hfro := hrow.frozen k
        have HR := Lib.hid hrow
        clear hrow
        go_wp2
        go_roundw
        case rel =>
          refine ⟨k + 1, by omega, by go_num, (HR.out.set k _).congr (fun i hi => ?_), hbl.setCell (p := ⟨w3.heap.size, k, none⟩) hsz _⟩
          by_cases e1 : i = k
          · rw [if_pos e1, if_pos (by omega)]
          · rw [if_neg e1]
            by_cases e2 : i < k
            · rw [if_pos e2, if_pos (by omega)]
            · rw [if_neg e2, if_neg (by omega)]
        case measure => simp [RowKit.intOf]; omega
      · have ek : k = t := by omega
        subst ek
        have HR := Lib.hid hrow
        clear hrow hlt
        go_wp2_with (first
          | (go_at_call 12; refine (mul_any _ _ _ a0 a1 (by omega) (by omega)).mono ?_; unfold two; rintro e w' ⟨rfl, rfl⟩)
          | (go_at_call 14; refine (sum_row _ _ _ _ HR.out a0 a1 ht).mono ?_; unfold two; rintro e w' ⟨rfl, rfl⟩))
        go_ret
        exact ⟨rfl, hbl⟩

theorem walk (a b : Int) (t : Nat) (w : World) (a0 : -9223372036854775808 ≤ a) (a1 : a ≤ 9223372036854775807) (b0 : -9223372036854775808 ≤ b) (b1 : b ≤ 9223372036854775807) (ht : t ≤ 255) (hT : Tab w) :
    Calls Tryd.prog 6 #[.int .i64 a, .int .i64 b, .int .u8 t] w fun e w' => e = .returned (.bool true) ∧ Below w.heap.size w w' := by
  cases hg : (al a && al b && al (a + b))
  · by_cases hz : t = 0
    · exact walk_bzero a b t w a0 a1 b0 b1 ht hT hg hz
    · cases hal : al a
      · exact walk_bnot a b t w a0 a1 b0 b1 ht hT hg (by omega) hal
      · exact walk_bal a b t w a0 a1 b0 b1 ht hT hg (by omega) hal
  · simp only [Bool.and_eq_true] at hg
    obtain ⟨⟨h1, h2⟩, h3⟩ := hg
    by_cases hz : t = 0
    · exact walk_gzero a b t w a0 a1 b0 b1 ht hT h1 h2 h3 hz
    · exact walk_gal a b t w a0 a1 b0 b1 ht hT h1 h2 h3 (by omega) h1

theorem contract (H : Type) (enc : TypeId × Value → H) (W : World) (base : Nat) (args : Array Value) (ds gs : List (DataW H)) (before : List MemPlace)
    (hval : ∀ (j : Nat) t v, Tryd.f6.params[j]? = some t → args[j]? = some v → Value.okWide Tryd.prog W .any base t v)
    (hW : DataW.Whole enc Tryd.prog Tryd.f6.params.toList Rows.numBackSpec.vars false W args.toList ds gs before) (hL : laidMetH Tryd.prog Rows.numBackRow.laid W)
    (hreach : (DataW.weightsEach Tryd.prog (Tryd.f6.params.toList ++ (OpenSpec.ofChange Rows.numBackSpec).bare.plain.varTypes Tryd.prog) (ds ++ gs)).all (· ≤ reachBytes) = true) :
    Calls Tryd.prog 6 args W fun e W' => ∃ v, e = .returned v ∧ Rows.numBackSpec.post enc Tryd.prog Tryd.f6 false true false false W args v W' := by
  have hW' := hW
  obtain ⟨p, q, hA0, hV, rfl, hfz, hnd⟩ := hW
  have hA : DataW.TrodAll enc Tryd.prog W 0 (fun _ => true) true Tryd.f6.params.toList args.toList ds p := hA0
  rw [Tryd.params6] at hA hval
  obtain ⟨v0, vs0, d0, ds0, p0, q0, hargs, rfl, rfl, h0, r0⟩ := trodAll_cons hA
  obtain ⟨v1, vs1, d1, ds1, p1, q1, rfl, rfl, rfl, h1, r1⟩ := trodAll_cons r0
  obtain ⟨v2, vs2, d2, ds2, p2, q2, rfl, rfl, rfl, h2, r2⟩ := trodAll_cons r1
  obtain ⟨rfl, rfl, rfl⟩ := trodAll_nil r2
  obtain rfl : args = #[v0, v1, v2] := by cases args; simp_all
  obtain ⟨rfl, rfl⟩ := trodVars_none hV
  clear hA0
  have k0 := h0
  have k1 := h1
  have k2 := h2
  obtain ⟨x0, rfl, rfl, rfl, wf0⟩ := open_int Tryd.underlying2 (hval 0 2 v0 rfl rfl) h0
  have bd0 := bounds_i64 wf0
  obtain ⟨x1, rfl, rfl, rfl, wf1⟩ := open_int Tryd.underlying2 (hval 1 2 v1 rfl rfl) h1
  have bd1 := bounds_i64 wf1
  obtain ⟨x2, rfl, rfl, rfl, wf2⟩ := open_int Tryd.underlying5 (hval 2 5 v2 rfl rfl) h2
  have bd2 := bounds_u8 wf2
  have hlt : ∀ x ∈ ([] : List MemPlace) ++ (([] : List MemPlace) ++ (([] : List MemPlace) ++ [])) ++ [], x.block < W.heap.size := fun x hx => hW'.lt x hx
  obtain ⟨t, rfl⟩ : ∃ t : Nat, x2 = t := ⟨x2.toNat, by omega⟩
  refine (walk x0 x1 t W bd0.1 bd0.2 bd1.1 bd1.2 (by omega) (table hL)).mono fun e W' ⟨he, hb⟩ => ?_
  subst he
  refine ⟨_, rfl, post_of_below (pv := []) hW' (fun _ _ _ => trodAll_cons_mk (shut_bool Tryd.underlying4 _) trodAll_mk0) (fun sp hsp => (trodAll_cons_mk (WideElems.Trod_stays laidOut (by kernel_rfl) (of_decide_eq_true (by kernel_rfl)) k0 (fun x hx => hb.same (hlt x (by simp only [List.mem_append]; simp_all))) (fun x hx => hsp x (by simp only [List.mem_append]; simp_all))) (trodAll_cons_mk (WideElems.Trod_stays laidOut (by kernel_rfl) (of_decide_eq_true (by kernel_rfl)) k1 (fun x hx => hb.same (hlt x (by simp only [List.mem_append]; simp_all))) (fun x hx => hsp x (by simp only [List.mem_append]; simp_all))) (trodAll_cons_mk (WideElems.Trod_stays laidOut (by kernel_rfl) (of_decide_eq_true (by kernel_rfl)) k2 (fun x hx => hb.same (hlt x (by simp only [List.mem_append]; simp_all))) (fun x hx => hsp x (by simp only [List.mem_append]; simp_all))) trodAll_mk0)))) (fun _ _ => rfl) (by rfl) hb (ok_one (by kernel_rfl) rfl (okWide_bool_mk Tryd.underlying4 _))⟩

theorem laid_met (os : Os) : laidMet Tryd.prog Rows.numBackRow.laid ((laidWorld os).forCall (fun _ _ => 0) ⟨#[], #[.int .i64 0, .int .i64 0, .int .u8 0], []⟩).memory :=
  laidMet_of_run' 8 (by kernel_rfl) (by kernel_rfl)
theorem reads (os : Os) {H : Type} (enc : TypeId × Value → H) : ∃ places, DataW.whole enc Tryd.prog ((laidWorld os).forCall (fun _ _ => 0) ⟨#[], #[.int .i64 0, .int .i64 0, .int .u8 0], []⟩).memory Tryd.f6.params.toList Rows.numBackSpec.vars false #[.int .i64 0, .int .i64 0, .int .u8 0].toList 8 = some ([.lit (.int .i64 0), .lit (.int .i64 0), .lit (.int .u8 0)], [], places) :=
  ⟨[], by kernel_rfl⟩
set_option maxRecDepth 100000 in
theorem lifted (os : Os) (started : os.Started) (H : Type) (enc : TypeId × Value → H) (F : Stop.Interp) :
    ReturnsInHanded {} Tryd.checked os 6 .any ((OpenSpec.ofChange Rows.numBackSpec).preRow enc Tryd.prog Tryd.f6 Rows.numBackRow.domain false Rows.numBackRow.laid) (((OpenSpec.ofChange Rows.numBackSpec).at F).post enc Tryd.prog Tryd.f6 false true false false) := by
  obtain ⟨places, hx⟩ := reads os enc
  refine returnsInHanded_of_row (C := Tryd.checked) (s := OpenSpec.ofChange Rows.numBackSpec) own started (by kernel_rfl) Tryd.func6
    (witness_row_at (enc := enc) (C := Tryd.checked) false (laidWorld os) #[.int .i64 0, .int .i64 0, .int .u8 0] rfl (by kernel_rfl) (by kernel_rfl) (by kernel_rfl)
      (OpenSpec.preRow_of_cond 8 hx (by kernel_rfl) (fun k hk => by cases hk) (by kernel_rfl) (laid_met os))) ?_
  intro W base args ds gs before hval hW _ _ hR hL _ _
  exact contract H enc W base args ds gs before hval hW hL hR
theorem said : Rows.NumBackSaid :=
  OpenClaim.holds_of_cond 6 Tryd.f6 rfl rfl rfl rfl rfl rfl rfl ⟨rfl, rfl, rfl, rfl, rfl⟩ rfl rfl rfl rfl rfl (by kernel_rfl) Tryd.func6 (by kernel_rfl)
    (of_decide_eq_true (by kernel_rfl)) (by unfold Func.isWrapper; first | (rw [if_pos (by decide +kernel)]; kernel_rfl) | (rw [if_neg (by decide +kernel)]; exact ⟨rfl, rfl⟩))
    (fun os started H enc _ F => by rw [OpenClaim.pre_eq_preRow]; exact lifted os started H enc F)
theorem plain (f : FuncId) (fn : Func) (hf : Tryd.pinned.checked.prog.funcNamed "hallmoot/hallmootlaw01.NumBack" = some f) (hfn : Tryd.pinned.checked.prog.funcs[f]? = some fn) :
    false = Tryd.pinned.checked.prog.looks [] ∧ ∀ (j : Nat) t, fn.params[j]? = some t → Tryd.pinned.checked.prog.wantsStandIn t = false := by
  obtain rfl : f = 6 := Option.some.inj ((show Tryd.prog.funcNamed "hallmoot/hallmootlaw01.NumBack" = some 6 by kernel_rfl).symm.trans hf) |>.symm
  obtain rfl : fn = Tryd.f6 := (Option.some.inj (Tryd.func6.symm.trans hfn)).symm
  refine ⟨by kernel_rfl, fun j t ht => ?_⟩
  rw [Tryd.params6] at ht
  have hm := Array.mem_of_getElem? ht
  have hc : t = 2 ∨ t = 5 := by simpa using hm
  rcases hc with rfl | rfl
  · exact (show Tryd.prog.wantsStandIn 2 = false by kernel_rfl)
  · exact (show Tryd.prog.wantsStandIn 5 = false by kernel_rfl)
/-- THE CARD. -/
theorem card : Rows.NumBackCardSaid :=
  Claim7.holds_tied_plain_at .later [] _ _ _ _ said (fun _ h => by cases h) (by kernel_rfl) (fun _ h => by cases h) numBack_row_tie rfl ⟨rfl, rfl⟩ (by kernel_rfl) rfl plain (by kernel_rfl)
end Go.Proofs.YtjjakamepjgheaaDoor.lawBack
