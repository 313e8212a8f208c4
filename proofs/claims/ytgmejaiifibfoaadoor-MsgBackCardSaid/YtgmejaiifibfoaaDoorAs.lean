/-
  What type assertions tell of what a message may have: closed facts of the program's types.
-/
import Derived.Test.YtgmejaiifibfoaaDoorMv
import Derived.KernelRfl
set_option linter.unusedSimpArgs false
set_option linter.unusedVariables false
set_option maxRecDepth 10000
namespace Go.Proofs.YtgmejaiifibfoaaDoor
open Go.RowKit Go.Maps Go.Lib
open L11 (Crt zeroC crtL crtC)

theorem as_BB (v : Value) (w : World) : (Instr.typeAssert (.iface 30 v) 20 30 true).run Tryd.prog w = .ok (.tuple #[v, .bool true]) w := by kernel_rfl
theorem as_BC (v : Value) (w : World) : (Instr.typeAssert (.iface 30 v) 20 24 true).run Tryd.prog w = .ok (.tuple #[.agg (crtC zeroC), .bool false]) w := by kernel_rfl
theorem as_CB (v : Value) (w : World) : (Instr.typeAssert (.iface 24 v) 20 30 true).run Tryd.prog w = .ok (.tuple #[.agg (bloC zeroB (.slice none 0 0) (.slice none 0 0)), .bool false]) w := by kernel_rfl
theorem as_CC (v : Value) (w : World) : (Instr.typeAssert (.iface 24 v) 20 24 true).run Tryd.prog w = .ok (.tuple #[v, .bool true]) w := by kernel_rfl
theorem as_TB (v : Value) (w : World) : (Instr.typeAssert (.iface 26 v) 20 30 true).run Tryd.prog w = .ok (.tuple #[.agg (bloC zeroB (.slice none 0 0) (.slice none 0 0)), .bool false]) w := by kernel_rfl
theorem as_TC (v : Value) (w : World) : (Instr.typeAssert (.iface 26 v) 20 24 true).run Tryd.prog w = .ok (.tuple #[.agg (crtC zeroC), .bool false]) w := by kernel_rfl
theorem as_TT (v : Value) (w : World) : (Instr.typeAssert (.iface 26 v) 20 26 true).run Tryd.prog w = .ok (.tuple #[v, .bool true]) w := by kernel_rfl
theorem as_PB (v : Value) (w : World) : (Instr.typeAssert (.iface 27 v) 20 30 true).run Tryd.prog w = .ok (.tuple #[.agg (bloC zeroB (.slice none 0 0) (.slice none 0 0)), .bool false]) w := by kernel_rfl
theorem as_PC (v : Value) (w : World) : (Instr.typeAssert (.iface 27 v) 20 24 true).run Tryd.prog w = .ok (.tuple #[.agg (crtC zeroC), .bool false]) w := by kernel_rfl
theorem as_PT (v : Value) (w : World) : (Instr.typeAssert (.iface 27 v) 20 26 true).run Tryd.prog w = .ok (.tuple #[.agg (tmC zeroT), .bool false]) w := by kernel_rfl
theorem as_PP (v : Value) (w : World) : (Instr.typeAssert (.iface 27 v) 20 27 true).run Tryd.prog w = .ok (.tuple #[v, .bool true]) w := by kernel_rfl
theorem as_XB (v : Value) (w : World) : (Instr.typeAssert (.iface 32 v) 20 30 true).run Tryd.prog w = .ok (.tuple #[.agg (bloC zeroB (.slice none 0 0) (.slice none 0 0)), .bool false]) w := by kernel_rfl
theorem as_XC (v : Value) (w : World) : (Instr.typeAssert (.iface 32 v) 20 24 true).run Tryd.prog w = .ok (.tuple #[.agg (crtC zeroC), .bool false]) w := by kernel_rfl
theorem as_XT (v : Value) (w : World) : (Instr.typeAssert (.iface 32 v) 20 26 true).run Tryd.prog w = .ok (.tuple #[.agg (tmC zeroT), .bool false]) w := by kernel_rfl
theorem as_XP (v : Value) (w : World) : (Instr.typeAssert (.iface 32 v) 20 27 true).run Tryd.prog w = .ok (.tuple #[.slice none 0 0, .bool false]) w := by kernel_rfl
theorem as_XX (v : Value) (w : World) : (Instr.typeAssert (.iface 32 v) 20 32 true).run Tryd.prog w = .ok (.tuple #[v, .bool true]) w := by kernel_rfl
theorem as_IB (v : Value) (w : World) : (Instr.typeAssert (.iface 75 v) 20 30 true).run Tryd.prog w = .ok (.tuple #[.agg (bloC zeroB (.slice none 0 0) (.slice none 0 0)), .bool false]) w := by kernel_rfl
theorem as_IC (v : Value) (w : World) : (Instr.typeAssert (.iface 75 v) 20 24 true).run Tryd.prog w = .ok (.tuple #[.agg (crtC zeroC), .bool false]) w := by kernel_rfl
theorem as_IT (v : Value) (w : World) : (Instr.typeAssert (.iface 75 v) 20 26 true).run Tryd.prog w = .ok (.tuple #[.agg (tmC zeroT), .bool false]) w := by kernel_rfl
theorem as_IP (v : Value) (w : World) : (Instr.typeAssert (.iface 75 v) 20 27 true).run Tryd.prog w = .ok (.tuple #[.slice none 0 0, .bool false]) w := by kernel_rfl
theorem as_IX (v : Value) (w : World) : (Instr.typeAssert (.iface 75 v) 20 32 true).run Tryd.prog w = .ok (.tuple #[.agg (txC zeroX), .bool false]) w := by kernel_rfl
theorem as_II (v : Value) (w : World) : (Instr.typeAssert (.iface 75 v) 20 75 true).run Tryd.prog w = .ok (.tuple #[v, .bool true]) w := by kernel_rfl
theorem as_EB (v : Value) (w : World) : (Instr.typeAssert (.iface 77 v) 20 30 true).run Tryd.prog w = .ok (.tuple #[.agg (bloC zeroB (.slice none 0 0) (.slice none 0 0)), .bool false]) w := by kernel_rfl
theorem as_EC (v : Value) (w : World) : (Instr.typeAssert (.iface 77 v) 20 24 true).run Tryd.prog w = .ok (.tuple #[.agg (crtC zeroC), .bool false]) w := by kernel_rfl
theorem as_ET (v : Value) (w : World) : (Instr.typeAssert (.iface 77 v) 20 26 true).run Tryd.prog w = .ok (.tuple #[.agg (tmC zeroT), .bool false]) w := by kernel_rfl
theorem as_EP (v : Value) (w : World) : (Instr.typeAssert (.iface 77 v) 20 27 true).run Tryd.prog w = .ok (.tuple #[.slice none 0 0, .bool false]) w := by kernel_rfl
theorem as_EX (v : Value) (w : World) : (Instr.typeAssert (.iface 77 v) 20 32 true).run Tryd.prog w = .ok (.tuple #[.agg (txC zeroX), .bool false]) w := by kernel_rfl
theorem as_EI (v : Value) (w : World) : (Instr.typeAssert (.iface 77 v) 20 75 true).run Tryd.prog w = .ok (.tuple #[.agg #[.int .i64 0, .int .i64 0], .bool false]) w := by kernel_rfl
theorem as_EE (v : Value) (w : World) : (Instr.typeAssert (.iface 77 v) 20 77 true).run Tryd.prog w = .ok (.tuple #[v, .bool true]) w := by kernel_rfl
theorem as_WB (v : Value) (w : World) : (Instr.typeAssert (.iface 79 v) 20 30 true).run Tryd.prog w = .ok (.tuple #[.agg (bloC zeroB (.slice none 0 0) (.slice none 0 0)), .bool false]) w := by kernel_rfl
theorem as_WC (v : Value) (w : World) : (Instr.typeAssert (.iface 79 v) 20 24 true).run Tryd.prog w = .ok (.tuple #[.agg (crtC zeroC), .bool false]) w := by kernel_rfl
theorem as_WT (v : Value) (w : World) : (Instr.typeAssert (.iface 79 v) 20 26 true).run Tryd.prog w = .ok (.tuple #[.agg (tmC zeroT), .bool false]) w := by kernel_rfl
theorem as_WP (v : Value) (w : World) : (Instr.typeAssert (.iface 79 v) 20 27 true).run Tryd.prog w = .ok (.tuple #[.slice none 0 0, .bool false]) w := by kernel_rfl
theorem as_WX (v : Value) (w : World) : (Instr.typeAssert (.iface 79 v) 20 32 true).run Tryd.prog w = .ok (.tuple #[.agg (txC zeroX), .bool false]) w := by kernel_rfl
theorem as_WI (v : Value) (w : World) : (Instr.typeAssert (.iface 79 v) 20 75 true).run Tryd.prog w = .ok (.tuple #[.agg #[.int .i64 0, .int .i64 0], .bool false]) w := by kernel_rfl
theorem as_WE (v : Value) (w : World) : (Instr.typeAssert (.iface 79 v) 20 77 true).run Tryd.prog w = .ok (.tuple #[.agg #[.int .i64 0, .int .u32 0], .bool false]) w := by kernel_rfl
theorem as_WW (v : Value) (w : World) : (Instr.typeAssert (.iface 79 v) 20 79 true).run Tryd.prog w = .ok (.tuple #[v, .bool true]) w := by kernel_rfl
theorem as_NB (w : World) : (Instr.typeAssert .nilIface 20 30 true).run Tryd.prog w = .ok (.tuple #[.agg (bloC zeroB (.slice none 0 0) (.slice none 0 0)), .bool false]) w := by kernel_rfl
theorem as_NC (w : World) : (Instr.typeAssert .nilIface 20 24 true).run Tryd.prog w = .ok (.tuple #[.agg (crtC zeroC), .bool false]) w := by kernel_rfl
theorem as_NT (w : World) : (Instr.typeAssert .nilIface 20 26 true).run Tryd.prog w = .ok (.tuple #[.agg (tmC zeroT), .bool false]) w := by kernel_rfl
theorem as_NP (w : World) : (Instr.typeAssert .nilIface 20 27 true).run Tryd.prog w = .ok (.tuple #[.slice none 0 0, .bool false]) w := by kernel_rfl
theorem as_NX (w : World) : (Instr.typeAssert .nilIface 20 32 true).run Tryd.prog w = .ok (.tuple #[.agg (txC zeroX), .bool false]) w := by kernel_rfl
theorem as_NI (w : World) : (Instr.typeAssert .nilIface 20 75 true).run Tryd.prog w = .ok (.tuple #[.agg #[.int .i64 0, .int .i64 0], .bool false]) w := by kernel_rfl
theorem as_NE (w : World) : (Instr.typeAssert .nilIface 20 77 true).run Tryd.prog w = .ok (.tuple #[.agg #[.int .i64 0, .int .u32 0], .bool false]) w := by kernel_rfl
theorem as_NW (w : World) : (Instr.typeAssert .nilIface 20 79 true).run Tryd.prog w = .ok (.tuple #[.agg #[.int .i64 0, .int .i64 0], .bool false]) w := by kernel_rfl
end Go.Proofs.YtgmejaiifibfoaaDoor
