/-
  May it be a message, by the document.
-/
import Derived.Test.YtgmejaiifibfoaaGreatDoorRchkA
import Derived.Test.YtgmejaiifibfoaaGreatDoorRchkB
import Derived.Test.YtgmejaiifibfoaaGreatDoorRchkC
import Derived.Test.YtgmejaiifibfoaaGreatDoorRchkD
import Derived.Test.YtgmejaiifibfoaaGreatDoorRchkE
import Derived.Test.YtgmejaiifibfoaaGreatDoorK3
set_option linter.unusedSimpArgs false
set_option linter.unusedVariables false
set_option maxRecDepth 10000
namespace Go.Proofs.YtgmejaiifibfoaaGreatDoor
open Go.RowKit Go.Maps Go.Lib
open L3 (Blk Reads)
open L6 (Turn)
open L11 (Crt zeroC crtL crtC mayV okW okW_mk okW_not crtInfo crtC_ones wpQuiet_fn)

theorem refchkM_any (m : Mes) (P Q T : Value) (w : World) (hw : m.wf) (hl : LiesM w m P Q T) : Calls Tryz.prog 9 #[.agg (mesC m P Q T)] w (gives (.bool (mayM m)) w) := by
  by_cases h1 : m.kind = 1
  · exact rchk_1 m P Q T w hw hl h1
  by_cases h2 : m.kind = 2
  · exact rchk_2 m P Q T w hw hl h2
  by_cases h3 : m.kind = 3
  · exact rchk_3 m P Q T w hw hl h3
  by_cases h4 : m.kind = 4
  · exact rchk_4 m P Q T w hw hl h4
  by_cases h5 : m.kind = 5
  · exact rchk_5 m P Q T w hw hl h5
  by_cases h6 : m.kind = 6
  · exact rchk_6 m P Q T w hw hl h6
  by_cases h7 : m.kind = 7
  · exact rchk_7 m P Q T w hw hl h7
  by_cases h8 : m.kind = 8
  · exact rchk_8 m P Q T w hw hl h8
  by_cases h9 : m.kind = 9
  · exact rchk_9 m P Q T w hw hl h9
  by_cases h10 : m.kind = 10
  · exact rchk_10 m P Q T w hw hl h10
  by_cases h11 : m.kind = 11
  · exact rchk_11 m P Q T w hw hl h11
  by_cases h12 : m.kind = 12
  · exact rchk_12 m P Q T w hw hl h12
  exact rchk_non m P Q T w hl (fun k h1 h2 e => by omega)
end Go.Proofs.YtgmejaiifibfoaaGreatDoor
