/-
  The bytes of what a message has, by the code.
-/
import Derived.Test.YtgmejaiifibfoaaDoorWrM
import Derived.Test.YtgmejaiifibfoaaDoorWrT
import Derived.Test.YtgmejaiifibfoaaDoorWrP
import Derived.Test.YtgmejaiifibfoaaDoorMayE
set_option linter.unusedSimpArgs false
set_option linter.unusedVariables false
set_option maxRecDepth 10000
namespace Go.Proofs.YtgmejaiifibfoaaDoor
open Go.RowKit Go.Maps Go.Lib
open L3 (Blk Reads Owned encN encs intCells)
open L11 (Crt zeroC crtL crtC mayV bytesV okW crtInfo crtC_ones)

theorem encN_pos2 (a b : Nat) : 0 < (encN a ++ encN b).length := by rw [List.length_append]; have := L3.encN_pos a; omega
theorem writ_pos {k : Int} {p : Pt} (hw : PtWf p) (h0 : mayP k p = true) : 0 < (writP p).length := by
  cases p
  case blk b =>
    show 0 < (bytesB b).length
    unfold bytesB
    rw [List.length_append]
    have := encs_pos b.view [b.round, b.height, b.author]
    omega
  case crt c => exact bytesV_pos
  case tmo t => show 0 < (encN t.signer.toNat ++ _).length; rw [List.length_append]; have := L3.encN_pos t.signer.toNat; omega
  case prf l => show 0 < (encN (l[0]!).view.toNat ++ _).length; rw [List.length_append]; have := L3.encN_pos (l[0]!).view.toNat; omega
  case inv s n => exact encN_pos2 _ _
  case ele n s => exact encN_pos2 _ _
  case wan s n => exact encN_pos2 _ _
  case txx t =>
    show 0 < (bytesT t).length
    unfold bytesT; rw [List.length_append]; have := L3.encN_pos t.kind.toNat; omega
  case non => cases h0
theorem writM_any (k : Int) (p : Pt) (v : Value) (w : World) (hk : kindP k p) (hv : PtIs w p v) (hw : PtWf p) (h0 : mayP k p = true) (hT : Tabs w) : Calls Tryd.prog 15 #[v] w (reads (writP p) w) := by
  cases p
  case blk b => obtain ⟨P, T, rfl, hl⟩ := hv; exact writ_B b P T w hw hl hT (of_decide_eq_true h0)
  case crt c => obtain rfl : v = _ := hv; exact writ_C c w hw (cer_may h0)
  case tmo t => obtain rfl : v = _ := hv; exact writ_T t w hw h0
  case prf l => obtain ⟨A, c, rfl, hr⟩ := hv; exact writ_P l A c w hw.1 hr h0
  case inv s n =>
    obtain rfl : v = _ := hv
    have h := h0
    unfold mayP at h
    simp only [Bool.and_eq_true] at h
    have h1 := okW_in h.1
    have h2 := okW_in h.2
    exact writ_I s n w (by omega) (by omega)
  case ele n s =>
    obtain rfl : v = _ := hv
    have h := h0
    unfold mayP at h
    simp only [Bool.and_eq_true] at h
    have h1 := okW_in h.1
    exact writ_E n s w (by omega) hw.2
  case wan s n =>
    obtain rfl : v = _ := hv
    have h := h0
    unfold mayP at h
    simp only [Bool.and_eq_true] at h
    have h1 := okW_in h.1
    have h2 := okW_in h.2
    exact writ_W s n w (by omega) (by omega)
  case txx t => obtain rfl : v = _ := hv; exact writ_X t w hT h0
  case non => cases h0
end Go.Proofs.YtgmejaiifibfoaaDoor
