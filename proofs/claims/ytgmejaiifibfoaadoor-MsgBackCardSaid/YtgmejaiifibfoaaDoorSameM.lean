/-
  Are two messages the same: by the code.
-/
import Derived.Test.YtgmejaiifibfoaaDoorSameM1
import Derived.Test.YtgmejaiifibfoaaDoorSameM2
import Derived.Test.YtgmejaiifibfoaaDoorSameM3
import Derived.Test.YtgmejaiifibfoaaDoorSameM4
set_option linter.unusedSimpArgs false
set_option linter.unusedVariables false
set_option maxRecDepth 10000
namespace Go.Proofs.YtgmejaiifibfoaaDoor
open Go.RowKit Go.Maps Go.Lib
open L3 (Blk Reads)
open L11 (Crt zeroC crtL crtC mayV okW crtInfo crtC_ones eqlC neqC wpList_binop)

theorem sameM_any (a b : Mes) (P Q T P' Q' T' : Value) (w : World) (ha : a.wf) (hb : b.wf) (la : LiesM w a P Q T) (lb : LiesM w b P' Q' T') :
    Calls Tryd.prog 9 #[.agg (mesC a P Q T), .agg (mesC b P' Q' T')] w (gives (.bool (sameMV a b)) w) := by
  rcases ten_ways (diffM a b) with ⟨i, hi, hd, hn⟩ | hd
  · rw [same_no hi hn]
    obtain rfl | rfl | rfl | rfl | rfl | rfl | rfl | rfl | rfl | rfl : i = 0 ∨ i = 1 ∨ i = 2 ∨ i = 3 ∨ i = 4 ∨ i = 5 ∨ i = 6 ∨ i = 7 ∨ i = 8 ∨ i = 9 := by omega
    · exact sameM_0 a b P Q T P' Q' T' w ha hb la lb hd hn
    · exact sameM_1 a b P Q T P' Q' T' w ha hb la lb hd hn
    · exact sameM_2 a b P Q T P' Q' T' w ha hb la lb hd hn
    · exact sameM_3 a b P Q T P' Q' T' w ha hb la lb hd hn
    · exact sameM_4 a b P Q T P' Q' T' w ha hb la lb hd hn
    · exact sameM_5 a b P Q T P' Q' T' w ha hb la lb hd hn
    · exact sameM_6 a b P Q T P' Q' T' w ha hb la lb hd hn
    · exact sameM_7 a b P Q T P' Q' T' w ha hb la lb hd hn
    · exact sameM_8 a b P Q T P' Q' T' w ha hb la lb hd hn
    · exact sameM_9 a b P Q T P' Q' T' w ha hb la lb hd hn
  · rw [same_yes hd]; exact sameM_10 a b P Q T P' Q' T' w ha hb la lb hd
end Go.Proofs.YtgmejaiifibfoaaDoor
