/-
  An account's check for nothing, and a map's accounts of nothing struck; what a state is made of.
-/
import Derived.Test.YthkgadjiiapfgaaGreatDoorAdd
import Derived.Maps.Ext
import Derived.Maps.RangeWalk
import Derived.Laws.IdiomRangeMap
import Derived.Deep.LoopGhost
set_option linter.unusedSimpArgs false
set_option linter.unusedVariables false
set_option maxRecDepth 10000
namespace Go.Proofs.YthkgadjiiapfgaaGreatDoor
open Go.RowKit Go.Maps Go.Lib
open L3 (Blk)
open L6 (Turn moreB fresh From In)

/-- Has an account nothing? -/
def noneD : DataW Unit → Bool
  | .agg (.lit (.int _ i) :: _) => decide (i = 0)
  | _ => false
theorem noneD_acc (p : Int × Int) : noneD (accD p) = decide (p.1 = 0) := rfl
theorem closure_any (l : Value) (i j : Int) (w : World) : Calls Tryz.prog 18 #[l, .agg #[.int .i64 i, .int .i64 j]] w fun e w' => e = .returned (.bool (decide (i = 0))) ∧ w.grownBy w' none := by
  go_enter Tryz.func18, Tryz.ntmps18
  go_wp2
  go_ret
  exact ⟨by congr 1, World.grownBy_alloc _ _ _⟩
theorem closure_enters : ∀ args w, (callFunc 18 args).run Tryz.prog w = .ok (.enter 18 args) w := enters_of Tryz.func18 (by kernel_rfl) rfl
set_option maxHeartbeats 2000000 in
set_option maxRecDepth 100000 in
theorem strike_any (b n : Nat) (es0 : List (Lit × DataW Unit)) (w : World) (hown : w.ownsMap Tryz.prog 9 accElem b n (.map es0)) :
    Calls Tryz.prog 17 #[.map (some b), .func (.func 18) #[] #[]] w fun e w' =>
      e = .returned (.tuple #[]) ∧ w'.ownsMap Tryz.prog 9 accElem b n (deleteFuncD (fun _ => noneD) (.map es0)) ∧ w.grownBy w' (some b) := by
  obtain ⟨es1, he1, hap, hkeys⟩ := hown.entries kdN
  obtain rfl : es0 = es1 := by injection he1
  go_enter Tryz.func17, Tryz.ntmps17
  go_wp2_with (first
    | (at_range; refine wpList_range_own _ rfl _ 49 rfl 9 57 kdN Tryz.underlying49 accElem b n _ rfl hown ?_; intro w0 hrg0 hg0 hs0)
    | go_in)
  try go_frame
  go_loopw [8] (fun _ wr => ∃ (left : Lit → Bool) (cnt : Nat), wr.ranges Tryz.prog 9 accElem b w.heap.size n (Fk (fun _ => noneD) es0 left) left cnt ∧ w.grownBy wr (some b))
    (fun _ wr => wr.rangeLeft b w.heap.size)
  case atStart => exact ⟨_, _, by rw [Fk_start hkeys]; exact hrg0, hg0.but _⟩
  case round =>
    obtain ⟨left, cnt, hrg, hgw⟩ := hrel
    go_wp2_with (first
      | (at_next; refine wpList_next_ranges _ rfl _ rfl 9 kdN accElem id (fun p : Int × Int => .agg #[.int .i64 p.1, .int .i64 p.2]) (fun key _ _ => ⟨key, rfl⟩) (fun v _ h => by obtain ⟨p, hp, _⟩ := accElem_inv h; exact ⟨p, hp⟩) b w.heap.size n _ _ _ rfl hrg ?_ ?_)
      | go_in)
    · intro _ hl0
      go_wp2
      go_end0
      exact ⟨rfl, by rw [← Fk_end hl0]; exact hrg.owns, hgw⟩
    · intro x i j kl yd yp w1 cnt1 hkey hlx hv hat hrg1 hlt hg1 hs1 hen
      have hgw1 := hgw.andThen hg1 (fun j hj => by cases hj; exact Or.inl (Nat.le_refl _))
      have hbl := hrg1.owns.lt
      have hrl := hrg1.lt
      have hyd : yd = accD (i, j) := by have := accElem_mk (i, j); rw [show accV (i, j) = .agg #[.int .i64 i, .int .i64 j] from rfl] at this; rw [this] at hv; exact (congrArg Prod.fst (Option.some.inj hv)).symm
      have hp : noneD yd = decide (i = 0) := by rw [hyd]; exact noneD_acc _
      have hrg2 := (hrg1.alloc (.cells #[.int .i64 i, .int .i64 j] 57)).alloc (.cells #[.int .i64 i, .int .i64 j] 57)
      have hgw2 := (hgw1.andThen (World.grownBy_alloc _ (.cells #[.int .i64 i, .int .i64 j] 57) none) (fun j hj => by cases hj)).andThen (World.grownBy_alloc _ (.cells #[.int .i64 i, .int .i64 j] 57) none) (fun j hj => by cases hj)
      by_cases hi : i = 0
      · -- struck
        rw [decide_eq_true hi] at hp
        have h0 : (i == 0) = true := by rw [hi]; rfl
        have HI := Lib.hid hi
        clear hi
        go_wp2_with (first
          | (at_delete; go_loud (refine wpList_delete_ranges _ rfl _ _ 49 9 rfl 57 kdN Tryz.underlying49 accElem b w.heap.size n _ _ _ rfl hrg2 _ _ rfl hkey ?_); intro w3 cnt3 hrg3 hle hturn; try go_frame)
          | go_in)
        rw [strike_twice] at hrg3
        go_roundw
        case rel => exact ⟨_, cnt3, by rw [← Fk_struck hap (kdN.key hkey) hlx hp hat]; exact hrg3, hgw2.andThen hturn.grown (fun j hj => by cases hj; exact Or.inr rfl)⟩
        case measure => rw [hrg3.left_eq, hrg.left_eq]; omega
      · -- it stays
        rw [decide_eq_false hi] at hp
        have h0 : (i == 0) = false := by rw [beq_eq_false_iff_ne]; exact hi
        have HI := Lib.hid hi
        clear hi
        go_wp2
        go_roundw
        case rel => exact ⟨_, cnt1, by rw [← Fk_stays hap (kdN.key hkey) hlx hp hat]; exact hrg2, hgw2⟩
        case measure => rw [hrg2.left_eq, hrg.left_eq]; exact hlt
end Go.Proofs.YthkgadjiiapfgaaGreatDoor
