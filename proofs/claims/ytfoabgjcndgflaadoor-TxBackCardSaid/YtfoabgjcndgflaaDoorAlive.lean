/-
  The chapter's examples hold.
-/
import Derived.Test.YtfoabgjcndgflaaDoorParseT
import Derived.Test.YtfoabgjcndgflaaDoorPrintT
import Derived.Test.YtfoabgjcndgflaaDoorBytesT
set_option linter.unusedSimpArgs false
set_option linter.unusedVariables false
namespace Go.Proofs.YtfoabgjcndgflaaDoor
open Go.RowKit Go.Lib

abbrev exP : List UInt8 := [112, 117, 116, 32, 50, 58, 32, 98, 111, 98, 32, 115, 101, 116, 115, 32, 97, 32, 116, 111, 32, 98, 32, 99]
abbrev exW : List UInt8 := [109, 111, 118, 101, 32, 49, 58, 32, 97, 108, 105, 99, 101, 32, 103, 105, 118, 101, 115, 32, 53, 32, 116, 111, 32, 98, 111, 98]
abbrev exB : Txx := ⟨2, [98, 111, 98], [], [97], [98, 32, 99], 0, 2⟩
abbrev exA : Txx := ⟨1, [97, 108, 105, 99, 101], [98, 111, 98], [], [], 5, 1⟩
theorem exA_right : right exA = true := by decide +kernel
theorem exA_words : wordsT exA = exW := by decide +kernel
theorem exB_parse : parseT exP = some exB := by decide +kernel
theorem al_parse (w : World) (hT : Tabs w) : Calls Tryd.prog 14 #[.string { data := #[112, 117, 116, 32, 50, 58, 32, 98, 111, 98, 32, 115, 101, 116, 115, 32, 97, 32, 116, 111, 32, 98, 32, 99] }] w (gives (.tuple #[.agg (txC exB), .int .i64 0]) w) := by
  have h := parse_any exP w (by decide) hT
  rw [exB_parse] at h
  exact h
theorem al_print (w : World) (hT : Tabs w) : Calls Tryd.prog 9 #[.agg (txC exA)] w (gives (.tuple #[.string { data := #[109, 111, 118, 101, 32, 49, 58, 32, 97, 108, 105, 99, 101, 32, 103, 105, 118, 101, 115, 32, 53, 32, 116, 111, 32, 98, 111, 98] }, .int .i64 0]) w) := by
  have h := print_ok exA w hT exA_right
  rw [exA_words] at h
  exact h
theorem al_bytes (w : World) (hT : Tabs w) : Calls Tryd.prog 8 #[.agg (txC zeroX)] w (gives (.tuple #[.slice none 0 0, .int .i64 80]) w) := bytes_no zeroX w (zeroX_wf _) hT (by decide +kernel)
theorem build_exA (w : World) : (Instr.build 23 #[(0, .int .i64 1), (1, .string { data := #[97, 108, 105, 99, 101] }), (2, .string { data := #[98, 111, 98] }), (5, .int .i64 5), (6, .int .i64 1)]).run Tryd.prog w = .ok (.agg (txC exA)) w := run_build w _ _ _ (by kernel_rfl)
set_option maxHeartbeats 2000000 in
set_option maxRecDepth 100000 in
theorem alive_any (w : World) (hT : Tabs w) : Calls Tryd.prog 6 #[] w (gives (.bool true) w) := by
  have HT := Lib.hid (fun w' (hb : Below w.heap.size w w') => hT.kept hb)
  have HP := Lib.hid (al_parse w hT)
  clear hT
  go_enter Tryd.func6, Tryd.ntmps6
  go_wp2_with (first
    | (go_at_call 14; refine HP.out.mono ?_; unfold gives; rintro e w1 ⟨rfl, hb1⟩; have hb2 := hb1.alloc hb1.size (.cells (txC exB) 23); have k1 := box_new w1 23 exB)
    | (refine wpList_store_new rfl _ _ _ rfl _ (txC exB) rfl rfl _ _ (by kernel_rfl) rfl (txC_ones _) ?_)
    | (refine wpList_build rfl _ _ rfl #[(0, .int .i64 1), (1, .string { data := #[97, 108, 105, 99, 101] }), (2, .string { data := #[98, 111, 98] }), (5, .int .i64 5), (6, .int .i64 1)] rfl (build_exA _) ?_)
    | (go_at_call 9; refine (al_print _ (HT.out _ hb2)).mono ?_; unfold gives; rintro e w3 ⟨rfl, hb3⟩; have k3 := k1.below hb3 k1.lt; replace hb3 := nxt hb2 hb3)
    | (refine wpList_build rfl _ _ rfl #[] rfl (build_zero _) ?_)
    | (go_at_call 8; refine (al_bytes _ (HT.out _ hb3)).mono ?_; unfold gives; rintro e w4 ⟨rfl, hb4⟩; have k4 := k3.below hb4 k3.lt; have c4 : w4.cell? ⟨w1.heap.size, 4, none⟩ = some (.string { data := #[98, 32, 99] }) := k4.cell 4; replace hb4 := nxt hb3 hb4))
  go_ret
  exact ⟨rfl, hb4⟩
end Go.Proofs.YtfoabgjcndgflaaDoor
