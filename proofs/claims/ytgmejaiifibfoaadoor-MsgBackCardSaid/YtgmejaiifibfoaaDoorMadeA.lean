/-
  The message that is made of what it has: of any part.
-/
import Derived.Test.YtgmejaiifibfoaaDoorMade
set_option linter.unusedSimpArgs false
set_option linter.unusedVariables false
set_option maxRecDepth 10000
namespace Go.Proofs.YtgmejaiifibfoaaDoor
open Go.RowKit Go.Maps Go.Lib

theorem made_is (k : Int) (p : Pt) (v : Value) (w : World) (h : PtIs w p v) : ∃ P Q T, (∀ W, Calls Tryd.prog 20 #[.int .i64 k, v] W (gives (.agg (mesC (madeM k p) P Q T)) W)) ∧ (∀ W, Below w.heap.size w W → LiesM W (madeM k p) P Q T) := by
  cases p
  case blk b =>
    obtain ⟨P, T, rfl, A, c, D, d, rfl, rfl, hp, ht⟩ := h
    exact ⟨_, _, _, fun W => made_B k b A _ c D _ d W, fun W hb => ⟨none, 0, rfl, Rd.nil, A, c, D, d, rfl, rfl, hp.below hb, ht.below hb⟩⟩
  case crt c => obtain rfl : v = _ := h; exact ⟨_, _, _, fun W => made_C k c W, fun W hb => liesM_zero W _ rfl rfl⟩
  case tmo t => obtain rfl : v = _ := h; exact ⟨_, _, _, fun W => made_T k t W, fun W hb => liesM_zero W _ rfl rfl⟩
  case prf l =>
    obtain ⟨A, c, rfl, hr⟩ := h
    exact ⟨_, _, _, fun W => made_P k l A _ c W, fun W hb => ⟨A, c, rfl, hr.below hb, lies_zero W⟩⟩
  case inv s n => obtain rfl : v = _ := h; exact ⟨_, _, _, fun W => made_I k s n W, fun W hb => liesM_zero W _ rfl rfl⟩
  case ele n s => obtain rfl : v = _ := h; exact ⟨_, _, _, fun W => made_E k n s W, fun W hb => liesM_zero W _ rfl rfl⟩
  case wan s n => obtain rfl : v = _ := h; exact ⟨_, _, _, fun W => made_W k s n W, fun W hb => liesM_zero W _ rfl rfl⟩
  case txx t => obtain rfl : v = _ := h; exact ⟨_, _, _, fun W => made_X k t W, fun W hb => liesM_zero W _ rfl rfl⟩
  case non => obtain rfl : v = _ := h; exact ⟨_, _, _, fun W => made_N k W, fun W hb => liesM_zero W _ rfl rfl⟩
end Go.Proofs.YtgmejaiifibfoaaDoor
