/-
  Are two blocks the same: whole.
-/
import Derived.Test.YtkjkkbionlmohaaDoorRefSameD
import Derived.Test.YtkjkkbionlmohaaDoorRefSameE
import Derived.Test.YtkjkkbionlmohaaDoorRefSameF
import Derived.Test.YtkjkkbionlmohaaDoorRefSameG
set_option linter.unusedSimpArgs false
set_option linter.unusedVariables false
set_option maxRecDepth 10000
namespace Go.Proofs.YtkjkkbionlmohaaDoor
open Go.RowKit Go.Lib
open L3 (Blk Reads)
open L11 (Crt zeroC crtL crtC mayV okW crtInfo crtC_ones eqlC neqC wpList_binop wpQuiet_fn)

set_option maxHeartbeats 4000000 in
set_option maxRecDepth 100000 in
theorem refsame_any (a b : Blo) (A : Option Addr) (c : Nat) (B : Option Addr) (d : Nat) (A' : Option Addr) (c' : Nat) (B' : Option Addr) (d' : Nat) (w : World) (ha : a.wf) (hb : b.wf)
    (pa : Rd tmL 10 w A a.proof) (ta : Rd txL 7 w B a.txs) (pb : Rd tmL 10 w A' b.proof) (tb : Rd txL 7 w B' b.txs) :
    Calls Tryd.prog 20 #[.agg (bloC a (.slice A a.proof.length c) (.slice B a.txs.length d)), .agg (bloC b (.slice A' b.proof.length c') (.slice B' b.txs.length d'))] w (gives (.bool (sameV a b)) w) := by
  rcases seven (decide (a.view = b.view)) (decide (a.round = b.round)) (decide (a.height = b.height)) (decide (a.author = b.author)) (decide (a.par = b.par)) (decide (a.proof.length = b.proof.length)) (decide (a.txs = b.txs)) with a1 | ⟨a1, a2⟩ | ⟨a1, a2, a3⟩ | ⟨a1, a2, a3, a4⟩ | ⟨a1, a2, a3, a4, a5⟩ | ⟨a1, a2, a3, a4, a5, a6⟩ | ⟨a1, a2, a3, a4, a5, a6, a7⟩ | ⟨a1, a2, a3, a4, a5, a6, a7⟩
  · exact refsame_1 a b A c B d A' c' B' d' w ha hb pa ta pb tb a1
  · exact refsame_2 a b A c B d A' c' B' d' w ha hb pa ta pb tb a1 a2
  · exact refsame_3 a b A c B d A' c' B' d' w ha hb pa ta pb tb a1 a2 a3
  · exact refsame_4 a b A c B d A' c' B' d' w ha hb pa ta pb tb a1 a2 a3 a4
  · exact refsame_5 a b A c B d A' c' B' d' w ha hb pa ta pb tb a1 a2 a3 a4 a5
  · exact refsame_6 a b A c B d A' c' B' d' w ha hb pa ta pb tb a1 a2 a3 a4 a5 a6
  · exact refsame_7 a b A c B d A' c' B' d' w ha hb pa ta pb tb a1 a2 a3 a4 a5 a6 a7
  · exact refsame_8 a b A c B d A' c' B' d' w ha hb pa ta pb tb a1 a2 a3 a4 a5 a6 a7
end Go.Proofs.YtkjkkbionlmohaaDoor
