/-
  Texts of one layer in one: Mv, As, PartC.
-/
import Derived.Test.YtgmejaiifibfoaaGreatDoorM1
import Derived.Test.YtgmejaiifibfoaaGreatDoorB5
import Derived.KernelRfl

/-
  Messages as values: their cells, the lists that they hold, what a message has as an interface value.
-/
set_option linter.unusedSimpArgs false
set_option linter.unusedVariables false
set_option maxRecDepth 10000
namespace Go.Proofs.YtgmejaiifibfoaaGreatDoor
open Go.RowKit Go.Maps Go.Lib
open L3 (Blk Reads)
open L11 (Crt zeroC crtL crtC mayV okW crtInfo crtC_ones)

/-- A message's cells: P holds its timeouts, Q and T its block's lists. -/
def mesC (m : Mes) (P Q T : Value) : Array Value := #[.int .i64 m.kind, .int .i64 m.signer, .int .i64 m.view, .int .i64 m.n, .int .u32 m.set, .int .i64 m.cert.kind, .int .i64 m.cert.block, .int .i64 m.cert.view, .int .i64 m.cert.round, .int .i64 m.cert.height, .int .i64 m.cert.author, .int .u32 m.cert.sg, .int .u32 m.cert.co, .int .i64 m.tm.signer, .int .i64 m.tm.view, .int .i64 m.tm.high.kind, .int .i64 m.tm.high.block, .int .i64 m.tm.high.view, .int .i64 m.tm.high.round, .int .i64 m.tm.high.height, .int .i64 m.tm.high.author, .int .u32 m.tm.high.sg, .int .u32 m.tm.high.co, P, .int .i64 m.block.view, .int .i64 m.block.round, .int .i64 m.block.height, .int .i64 m.block.author, .int .i64 m.block.par.kind, .int .i64 m.block.par.block, .int .i64 m.block.par.view, .int .i64 m.block.par.round, .int .i64 m.block.par.height, .int .i64 m.block.par.author, .int .u32 m.block.par.sg, .int .u32 m.block.par.co, Q, T, .int .i64 m.tx.kind, .string (str m.tx.frm), .string (str m.tx.to), .string (str m.tx.key), .string (str m.tx.val), .int .i64 m.tx.amount, .int .i64 m.tx.nonce]
theorem mesC_ones (m : Mes) (A : Option Addr) (a c : Nat) (B : Option Addr) (b d : Nat) (C : Option Addr) (e f : Nat) : (mesC m (.slice A a c) (.slice B b d) (.slice C e f)).all (·.oneCell') = true := by kernel_rfl
theorem mesInfo : (Tryz.prog.info? 39).map (·.size) = some 45 := by kernel_rfl
theorem mesInfoR : (Tryz.prog.info? 34).map (·.size) = some 45 := by kernel_rfl
theorem mes_new (w : World) (ty : TypeId) (m : Mes) (P Q T : Value) : Blk (w.alloc (.cells (mesC m P Q T) ty)) w.heap.size ty (mesC m P Q T) := Blk.new _ _ _
/-- Cells of a struct in a block that holds a struct with it from place k on. -/
theorem at_of {cs : Array Value} {l : List Value} {k : Nat} (h : (cs.toList.drop k).take l.length = l) : ∀ j u, l[j]? = some u → cs[k + j]? = some u := by
  intro j u hj
  have hlt : j < l.length := by
    rcases Nat.lt_or_ge j l.length with h | h
    · exact h
    · rw [List.getElem?_eq_none h] at hj; cases hj
  rw [← h, List.getElem?_take_of_lt hlt, List.getElem?_drop] at hj
  simpa using hj
theorem sub_any {w : World} {g : Nat} {ty : TypeId} {cs : Array Value} {l : List Value} {k : Nat} (h : Blk w g ty cs) (hk : (cs.toList.drop k).take l.length = l) : ∀ j u, l[j]? = some u → w.cell? ((⟨g, k, none⟩ : Addr).add j) = some u := by
  intro j u hj
  have h1 := at_of hk j u hj
  have h2 := h.cell (k + j)
  have e : (⟨g, k, none⟩ : Addr).add j = ⟨g, k + j, none⟩ := by unfold Addr.add; split <;> simp_all
  rw [e, h2]
  exact h1
def bloL (b : Blo) (P T : Value) : List Value := (bloC b P T).toList
section
variable {w : World} {g : Nat} {ty : TypeId} {m : Mes} {P Q T : Value}
theorem mes_crt (h : Blk w g ty (mesC m P Q T)) : ∀ j u, (crtL m.cert)[j]? = some u → w.cell? ((⟨g, 5, none⟩ : Addr).add j) = some u := sub_any h rfl
theorem mes_tmo (h : Blk w g ty (mesC m P Q T)) : ∀ j u, (tmL m.tm)[j]? = some u → w.cell? ((⟨g, 13, none⟩ : Addr).add j) = some u := sub_any h rfl
theorem mes_blo (h : Blk w g ty (mesC m P Q T)) : ∀ j u, (bloL m.block Q T)[j]? = some u → w.cell? ((⟨g, 24, none⟩ : Addr).add j) = some u := sub_any h rfl
theorem mes_tx (h : Blk w g ty (mesC m P Q T)) : ∀ j u, (txL m.tx)[j]? = some u → w.cell? ((⟨g, 38, none⟩ : Addr).add j) = some u := sub_any h rfl
theorem mes_ints (h : Blk w g ty (mesC m P Q T)) : w.cell? ⟨g, 0, none⟩ = some (.int .i64 m.kind) ∧ w.cell? ⟨g, 1, none⟩ = some (.int .i64 m.signer) ∧ w.cell? ⟨g, 2, none⟩ = some (.int .i64 m.view) ∧ w.cell? ⟨g, 3, none⟩ = some (.int .i64 m.n) ∧ w.cell? ⟨g, 4, none⟩ = some (.int .u32 m.set) ∧ w.cell? ⟨g, 23, none⟩ = some P :=
  ⟨h.cell 0, h.cell 1, h.cell 2, h.cell 3, h.cell 4, h.cell 23⟩
end
/-- What a message's numbers and lists are bounded by. -/
structure Mes.wf (m : Mes) : Prop where
  kind : inI m.kind
  signer : inI m.signer
  view : inI m.view
  n : inI m.n
  set : L11.inU m.set
  cert : m.cert.wf
  tm : m.tm.wf
  proof : ∀ t ∈ m.proof, t.wf
  np : m.proof.length ≤ 1000
  block : m.block.wf
  tx : m.tx.wf 1000000
theorem zeroM_wf : zeroM.wf := by
  refine ⟨?_, ?_, ?_, ?_, ?_, L11.zeroC_wf, zeroT_wf, ?_, ?_, zeroB_wf, zeroX_wf _⟩ <;> simp [inI, L11.inU, zeroM]
/-- In w the slices are the message's lists. -/
def LiesM (w : World) (m : Mes) (P Q T : Value) : Prop :=
  ∃ A c, P = .slice A m.proof.length c ∧ Rd tmL 10 w A m.proof ∧ Lies w m.block Q T
theorem LiesM.below {w w' : World} {m : Mes} {P Q T : Value} (h : LiesM w m P Q T) (hb : Below w.heap.size w w') : LiesM w' m P Q T := by
  obtain ⟨A, c, h1, h2, h3⟩ := h
  exact ⟨A, c, h1, h2.below hb, h3.below hb⟩
theorem LiesM.form {w : World} {m : Mes} {P Q T : Value} (h : LiesM w m P Q T) : ∃ A a c B b d C e f, P = .slice A a c ∧ Q = .slice B b d ∧ T = .slice C e f := by
  obtain ⟨A, c, h1, h2, B, d, D, e, h3, h4, _⟩ := h
  exact ⟨A, _, c, B, _, d, D, _, e, h1, h3, h4⟩
theorem liesM_zero (w : World) (m : Mes) (h : m.proof = []) (hb : m.block = zeroB) : LiesM w m (.slice none 0 0) (.slice none 0 0) (.slice none 0 0) := by
  refine ⟨none, 0, by rw [h]; rfl, by rw [h]; exact Rd.nil, by rw [hb]; exact lies_zero w⟩
/-- A message's box, its lists. -/
structure BoxM (w : World) (g : Nat) (ty : TypeId) (m : Mes) (P Q T : Value) (W : World) : Prop where
  bb : Blk W g ty (mesC m P Q T)
  ls : LiesM W m P Q T
  bw : Below w.heap.size w W
theorem BoxM.below {w W W' : World} {g : Nat} {ty : TypeId} {m : Mes} {P Q T : Value} (h : BoxM w g ty m P Q T W) (hb : Below W.heap.size W W') : BoxM w g ty m P Q T W' := ⟨h.bb.below hb h.bb.lt, h.ls.below hb, nxt h.bw hb⟩
theorem boxM_mk {w : World} (ty : TypeId) {m : Mes} {P Q T : Value} (h : LiesM w m P Q T) : BoxM w w.heap.size ty m P Q T (w.alloc (.cells (mesC m P Q T) ty)) :=
  ⟨mes_new _ _ _ _ _ _, h.below (below_new _ _), below_new _ _⟩
/-- The value that tells what a message has. -/
def PtIs (W : World) : Pt → Value → Prop
  | .blk b, v => ∃ P T, v = .iface 30 (.agg (bloC b P T)) ∧ Lies W b P T
  | .crt c, v => v = .iface 24 (.agg (crtC c))
  | .tmo t, v => v = .iface 26 (.agg (tmC t))
  | .prf l, v => ∃ A c, v = .iface 27 (.slice A l.length c) ∧ Rd tmL 10 W A l
  | .inv s n, v => v = .iface 75 (.agg #[.int .i64 s, .int .i64 n])
  | .ele n s, v => v = .iface 77 (.agg #[.int .i64 n, .int .u32 s])
  | .wan s n, v => v = .iface 79 (.agg #[.int .i64 s, .int .i64 n])
  | .txx t, v => v = .iface 32 (.agg (txC t))
  | .non, v => v = .nilIface
theorem PtIs.below {W W' : World} {p : Pt} {v : Value} (h : PtIs W p v) (hb : Below W.heap.size W W') : PtIs W' p v := by
  cases p
  case blk b => obtain ⟨P, T, e, h⟩ := h; exact ⟨P, T, e, h.below hb⟩
  case prf l => obtain ⟨A, c, e, h⟩ := h; exact ⟨A, c, e, h.below hb⟩
  all_goals exact h
def PtWf : Pt → Prop
  | .blk b => b.wf
  | .crt c => c.wf
  | .tmo t => t.wf
  | .prf l => (∀ t ∈ l, t.wf) ∧ l.length ≤ 1000
  | .inv s n => inI s ∧ inI n
  | .ele n s => inI n ∧ L11.inU s
  | .wan s n => inI s ∧ inI n
  | .txx t => t.wf 1000000
  | .non => True
theorem part_wf {m : Mes} (h : m.wf) : PtWf (partM m) := by
  unfold partM
  by_cases c1 : hasB m.kind
  · rw [if_pos c1]; exact h.block
  rw [if_neg c1]
  by_cases c2 : hasC m.kind
  · rw [if_pos c2]; exact h.cert
  rw [if_neg c2]
  by_cases c3 : m.kind = 3
  · rw [if_pos c3]; exact h.tm
  rw [if_neg c3]
  by_cases c4 : m.kind = 4
  · rw [if_pos c4]; exact ⟨h.proof, h.np⟩
  rw [if_neg c4]
  by_cases c5 : hasV m.kind
  · rw [if_pos c5]; exact ⟨h.signer, h.view⟩
  rw [if_neg c5]
  by_cases c6 : m.kind = 7
  · rw [if_pos c6]; exact ⟨h.view, h.set⟩
  rw [if_neg c6]
  by_cases c7 : m.kind = 8
  · rw [if_pos c7]; exact ⟨h.signer, h.n⟩
  rw [if_neg c7]
  by_cases c8 : m.kind = 11
  · rw [if_pos c8]; exact h.tx
  rw [if_neg c8]; trivial
theorem made_wf {k : Int} {p : Pt} (hk : inI k) (h : PtWf p) : (madeM k p).wf := by
  have z := zeroM_wf
  cases p
  case blk b => exact ⟨hk, z.signer, z.view, z.n, z.set, z.cert, z.tm, z.proof, z.np, h, z.tx⟩
  case crt c => exact ⟨hk, z.signer, z.view, z.n, z.set, h, z.tm, z.proof, z.np, z.block, z.tx⟩
  case tmo t => exact ⟨hk, z.signer, z.view, z.n, z.set, z.cert, h, z.proof, z.np, z.block, z.tx⟩
  case prf l => exact ⟨hk, z.signer, z.view, z.n, z.set, z.cert, z.tm, h.1, h.2, z.block, z.tx⟩
  case inv s v => exact ⟨hk, h.1, h.2, z.n, z.set, z.cert, z.tm, z.proof, z.np, z.block, z.tx⟩
  case ele v s => exact ⟨hk, z.signer, h.1, z.n, h.2, z.cert, z.tm, z.proof, z.np, z.block, z.tx⟩
  case wan s n => exact ⟨hk, h.1, z.view, h.2, z.set, z.cert, z.tm, z.proof, z.np, z.block, z.tx⟩
  case txx t => exact ⟨hk, z.signer, z.view, z.n, z.set, z.cert, z.tm, z.proof, z.np, z.block, h⟩
  case non => exact ⟨hk, z.signer, z.view, z.n, z.set, z.cert, z.tm, z.proof, z.np, z.block, z.tx⟩
end Go.Proofs.YtgmejaiifibfoaaGreatDoor

/-
  What type assertions tell of what a message may have: closed facts of the program's types.
-/
set_option linter.unusedSimpArgs false
set_option linter.unusedVariables false
set_option maxRecDepth 10000
namespace Go.Proofs.YtgmejaiifibfoaaGreatDoor
open Go.RowKit Go.Maps Go.Lib
open L11 (Crt zeroC crtL crtC)

theorem as_BB (v : Value) (w : World) : (Instr.typeAssert (.iface 30 v) 20 30 true).run Tryz.prog w = .ok (.tuple #[v, .bool true]) w := by kernel_rfl
theorem as_BC (v : Value) (w : World) : (Instr.typeAssert (.iface 30 v) 20 24 true).run Tryz.prog w = .ok (.tuple #[.agg (crtC zeroC), .bool false]) w := by kernel_rfl
theorem as_CB (v : Value) (w : World) : (Instr.typeAssert (.iface 24 v) 20 30 true).run Tryz.prog w = .ok (.tuple #[.agg (bloC zeroB (.slice none 0 0) (.slice none 0 0)), .bool false]) w := by kernel_rfl
theorem as_CC (v : Value) (w : World) : (Instr.typeAssert (.iface 24 v) 20 24 true).run Tryz.prog w = .ok (.tuple #[v, .bool true]) w := by kernel_rfl
theorem as_TB (v : Value) (w : World) : (Instr.typeAssert (.iface 26 v) 20 30 true).run Tryz.prog w = .ok (.tuple #[.agg (bloC zeroB (.slice none 0 0) (.slice none 0 0)), .bool false]) w := by kernel_rfl
theorem as_TC (v : Value) (w : World) : (Instr.typeAssert (.iface 26 v) 20 24 true).run Tryz.prog w = .ok (.tuple #[.agg (crtC zeroC), .bool false]) w := by kernel_rfl
theorem as_TT (v : Value) (w : World) : (Instr.typeAssert (.iface 26 v) 20 26 true).run Tryz.prog w = .ok (.tuple #[v, .bool true]) w := by kernel_rfl
theorem as_PB (v : Value) (w : World) : (Instr.typeAssert (.iface 27 v) 20 30 true).run Tryz.prog w = .ok (.tuple #[.agg (bloC zeroB (.slice none 0 0) (.slice none 0 0)), .bool false]) w := by kernel_rfl
theorem as_PC (v : Value) (w : World) : (Instr.typeAssert (.iface 27 v) 20 24 true).run Tryz.prog w = .ok (.tuple #[.agg (crtC zeroC), .bool false]) w := by kernel_rfl
theorem as_PT (v : Value) (w : World) : (Instr.typeAssert (.iface 27 v) 20 26 true).run Tryz.prog w = .ok (.tuple #[.agg (tmC zeroT), .bool false]) w := by kernel_rfl
theorem as_PP (v : Value) (w : World) : (Instr.typeAssert (.iface 27 v) 20 27 true).run Tryz.prog w = .ok (.tuple #[v, .bool true]) w := by kernel_rfl
theorem as_XB (v : Value) (w : World) : (Instr.typeAssert (.iface 32 v) 20 30 true).run Tryz.prog w = .ok (.tuple #[.agg (bloC zeroB (.slice none 0 0) (.slice none 0 0)), .bool false]) w := by kernel_rfl
theorem as_XC (v : Value) (w : World) : (Instr.typeAssert (.iface 32 v) 20 24 true).run Tryz.prog w = .ok (.tuple #[.agg (crtC zeroC), .bool false]) w := by kernel_rfl
theorem as_XT (v : Value) (w : World) : (Instr.typeAssert (.iface 32 v) 20 26 true).run Tryz.prog w = .ok (.tuple #[.agg (tmC zeroT), .bool false]) w := by kernel_rfl
theorem as_XP (v : Value) (w : World) : (Instr.typeAssert (.iface 32 v) 20 27 true).run Tryz.prog w = .ok (.tuple #[.slice none 0 0, .bool false]) w := by kernel_rfl
theorem as_XX (v : Value) (w : World) : (Instr.typeAssert (.iface 32 v) 20 32 true).run Tryz.prog w = .ok (.tuple #[v, .bool true]) w := by kernel_rfl
theorem as_IB (v : Value) (w : World) : (Instr.typeAssert (.iface 75 v) 20 30 true).run Tryz.prog w = .ok (.tuple #[.agg (bloC zeroB (.slice none 0 0) (.slice none 0 0)), .bool false]) w := by kernel_rfl
theorem as_IC (v : Value) (w : World) : (Instr.typeAssert (.iface 75 v) 20 24 true).run Tryz.prog w = .ok (.tuple #[.agg (crtC zeroC), .bool false]) w := by kernel_rfl
theorem as_IT (v : Value) (w : World) : (Instr.typeAssert (.iface 75 v) 20 26 true).run Tryz.prog w = .ok (.tuple #[.agg (tmC zeroT), .bool false]) w := by kernel_rfl
theorem as_IP (v : Value) (w : World) : (Instr.typeAssert (.iface 75 v) 20 27 true).run Tryz.prog w = .ok (.tuple #[.slice none 0 0, .bool false]) w := by kernel_rfl
theorem as_IX (v : Value) (w : World) : (Instr.typeAssert (.iface 75 v) 20 32 true).run Tryz.prog w = .ok (.tuple #[.agg (txC zeroX), .bool false]) w := by kernel_rfl
theorem as_II (v : Value) (w : World) : (Instr.typeAssert (.iface 75 v) 20 75 true).run Tryz.prog w = .ok (.tuple #[v, .bool true]) w := by kernel_rfl
theorem as_EB (v : Value) (w : World) : (Instr.typeAssert (.iface 77 v) 20 30 true).run Tryz.prog w = .ok (.tuple #[.agg (bloC zeroB (.slice none 0 0) (.slice none 0 0)), .bool false]) w := by kernel_rfl
theorem as_EC (v : Value) (w : World) : (Instr.typeAssert (.iface 77 v) 20 24 true).run Tryz.prog w = .ok (.tuple #[.agg (crtC zeroC), .bool false]) w := by kernel_rfl
theorem as_ET (v : Value) (w : World) : (Instr.typeAssert (.iface 77 v) 20 26 true).run Tryz.prog w = .ok (.tuple #[.agg (tmC zeroT), .bool false]) w := by kernel_rfl
theorem as_EP (v : Value) (w : World) : (Instr.typeAssert (.iface 77 v) 20 27 true).run Tryz.prog w = .ok (.tuple #[.slice none 0 0, .bool false]) w := by kernel_rfl
theorem as_EX (v : Value) (w : World) : (Instr.typeAssert (.iface 77 v) 20 32 true).run Tryz.prog w = .ok (.tuple #[.agg (txC zeroX), .bool false]) w := by kernel_rfl
theorem as_EI (v : Value) (w : World) : (Instr.typeAssert (.iface 77 v) 20 75 true).run Tryz.prog w = .ok (.tuple #[.agg #[.int .i64 0, .int .i64 0], .bool false]) w := by kernel_rfl
theorem as_EE (v : Value) (w : World) : (Instr.typeAssert (.iface 77 v) 20 77 true).run Tryz.prog w = .ok (.tuple #[v, .bool true]) w := by kernel_rfl
theorem as_WB (v : Value) (w : World) : (Instr.typeAssert (.iface 79 v) 20 30 true).run Tryz.prog w = .ok (.tuple #[.agg (bloC zeroB (.slice none 0 0) (.slice none 0 0)), .bool false]) w := by kernel_rfl
theorem as_WC (v : Value) (w : World) : (Instr.typeAssert (.iface 79 v) 20 24 true).run Tryz.prog w = .ok (.tuple #[.agg (crtC zeroC), .bool false]) w := by kernel_rfl
theorem as_WT (v : Value) (w : World) : (Instr.typeAssert (.iface 79 v) 20 26 true).run Tryz.prog w = .ok (.tuple #[.agg (tmC zeroT), .bool false]) w := by kernel_rfl
theorem as_WP (v : Value) (w : World) : (Instr.typeAssert (.iface 79 v) 20 27 true).run Tryz.prog w = .ok (.tuple #[.slice none 0 0, .bool false]) w := by kernel_rfl
theorem as_WX (v : Value) (w : World) : (Instr.typeAssert (.iface 79 v) 20 32 true).run Tryz.prog w = .ok (.tuple #[.agg (txC zeroX), .bool false]) w := by kernel_rfl
theorem as_WI (v : Value) (w : World) : (Instr.typeAssert (.iface 79 v) 20 75 true).run Tryz.prog w = .ok (.tuple #[.agg #[.int .i64 0, .int .i64 0], .bool false]) w := by kernel_rfl
theorem as_WE (v : Value) (w : World) : (Instr.typeAssert (.iface 79 v) 20 77 true).run Tryz.prog w = .ok (.tuple #[.agg #[.int .i64 0, .int .u32 0], .bool false]) w := by kernel_rfl
theorem as_WW (v : Value) (w : World) : (Instr.typeAssert (.iface 79 v) 20 79 true).run Tryz.prog w = .ok (.tuple #[v, .bool true]) w := by kernel_rfl
theorem as_NB (w : World) : (Instr.typeAssert .nilIface 20 30 true).run Tryz.prog w = .ok (.tuple #[.agg (bloC zeroB (.slice none 0 0) (.slice none 0 0)), .bool false]) w := by kernel_rfl
theorem as_NC (w : World) : (Instr.typeAssert .nilIface 20 24 true).run Tryz.prog w = .ok (.tuple #[.agg (crtC zeroC), .bool false]) w := by kernel_rfl
theorem as_NT (w : World) : (Instr.typeAssert .nilIface 20 26 true).run Tryz.prog w = .ok (.tuple #[.agg (tmC zeroT), .bool false]) w := by kernel_rfl
theorem as_NP (w : World) : (Instr.typeAssert .nilIface 20 27 true).run Tryz.prog w = .ok (.tuple #[.slice none 0 0, .bool false]) w := by kernel_rfl
theorem as_NX (w : World) : (Instr.typeAssert .nilIface 20 32 true).run Tryz.prog w = .ok (.tuple #[.agg (txC zeroX), .bool false]) w := by kernel_rfl
theorem as_NI (w : World) : (Instr.typeAssert .nilIface 20 75 true).run Tryz.prog w = .ok (.tuple #[.agg #[.int .i64 0, .int .i64 0], .bool false]) w := by kernel_rfl
theorem as_NE (w : World) : (Instr.typeAssert .nilIface 20 77 true).run Tryz.prog w = .ok (.tuple #[.agg #[.int .i64 0, .int .u32 0], .bool false]) w := by kernel_rfl
theorem as_NW (w : World) : (Instr.typeAssert .nilIface 20 79 true).run Tryz.prog w = .ok (.tuple #[.agg #[.int .i64 0, .int .i64 0], .bool false]) w := by kernel_rfl
end Go.Proofs.YtgmejaiifibfoaaGreatDoor

/-
  What a message has, by the code.
-/
set_option linter.unusedSimpArgs false
set_option linter.unusedVariables false
set_option maxRecDepth 10000
namespace Go.Proofs.YtgmejaiifibfoaaGreatDoor
open Go.RowKit Go.Maps Go.Lib
open L3 (Blk Reads)
open L11 (Crt zeroC crtL crtC mayV okW crtInfo crtC_ones)

theorem build_inv (a b : Int) (w : World) : (Instr.build 75 #[(0, .int .i64 a), (1, .int .i64 b)]).run Tryz.prog w = .ok (.agg #[.int .i64 a, .int .i64 b]) w := run_build w _ _ _ (by kernel_rfl)
theorem build_ele (a : Int) (b : Int) (w : World) : (Instr.build 77 #[(0, .int .i64 a), (1, .int .u32 b)]).run Tryz.prog w = .ok (.agg #[.int .i64 a, .int .u32 b]) w := run_build w _ _ _ (by kernel_rfl)
theorem build_wan (a b : Int) (w : World) : (Instr.build 79 #[(0, .int .i64 a), (1, .int .i64 b)]).run Tryz.prog w = .ok (.agg #[.int .i64 a, .int .i64 b]) w := run_build w _ _ _ (by kernel_rfl)
theorem txInfoL (t : Txx) : (Tryz.prog.info? 32).map (·.size) = some (txL t).length := by kernel_rfl
theorem bloInfoL (b : Blo) (P T : Value) : (Tryz.prog.info? 30).map (·.size) = some (bloL b P T).length := by kernel_rfl
theorem tmInfoL (t : Tmo) : (Tryz.prog.info? 26).map (·.size) = some (tmL t).length := by kernel_rfl
theorem part_1 (m : Mes) (P Q T : Value) (w : World) (hk : m.kind = 1) : Calls Tryz.prog 16 #[.agg (mesC m P Q T)] w (gives (.iface 30 (.agg (bloC m.block Q T))) w) := by
  have k0 := mes_new w 39 m P Q T
  have hb0 := below_new w (.cells (mesC m P Q T) 39)
  have c0 : (w.alloc (.cells (mesC m P Q T) 39)).cell? ⟨w.heap.size, 0, none⟩ = some (.int .i64 1) := by rw [← hk]; exact k0.cell 0
  have hB := mes_blo k0
  clear k0 hk
  go_enter Tryz.func16, Tryz.ntmps16
  go_wp2_with (refine wpList_cells_at rfl _ _ rfl ⟨w.heap.size, 24, none⟩ rfl (bloL m.block Q T) _ hB Tryz.underlying30 rfl (bloInfoL _ _ _) ?_)
  go_ret
  exact ⟨rfl, hb0⟩
theorem part_9 (m : Mes) (P Q T : Value) (w : World) (hk : m.kind = 9) : Calls Tryz.prog 16 #[.agg (mesC m P Q T)] w (gives (.iface 30 (.agg (bloC m.block Q T))) w) := by
  have k0 := mes_new w 39 m P Q T
  have hb0 := below_new w (.cells (mesC m P Q T) 39)
  have c0 : (w.alloc (.cells (mesC m P Q T) 39)).cell? ⟨w.heap.size, 0, none⟩ = some (.int .i64 9) := by rw [← hk]; exact k0.cell 0
  have hB := mes_blo k0
  clear k0 hk
  go_enter Tryz.func16, Tryz.ntmps16
  go_wp2_with (refine wpList_cells_at rfl _ _ rfl ⟨w.heap.size, 24, none⟩ rfl (bloL m.block Q T) _ hB Tryz.underlying30 rfl (bloInfoL _ _ _) ?_)
  go_ret
  exact ⟨rfl, hb0⟩
theorem part_2 (m : Mes) (P Q T : Value) (w : World) (hk : m.kind = 2) : Calls Tryz.prog 16 #[.agg (mesC m P Q T)] w (gives (.iface 24 (.agg (crtC m.cert))) w) := by
  have k0 := mes_new w 39 m P Q T
  have hb0 := below_new w (.cells (mesC m P Q T) 39)
  have c0 : (w.alloc (.cells (mesC m P Q T) 39)).cell? ⟨w.heap.size, 0, none⟩ = some (.int .i64 2) := by rw [← hk]; exact k0.cell 0
  have hB := mes_crt k0
  clear k0 hk
  go_enter Tryz.func16, Tryz.ntmps16
  go_wp2_with (refine wpList_cells_at rfl _ _ rfl ⟨w.heap.size, 5, none⟩ rfl (crtL m.cert) _ hB Tryz.underlying24 rfl crtInfo ?_)
  go_ret
  exact ⟨rfl, hb0⟩
theorem part_5 (m : Mes) (P Q T : Value) (w : World) (hk : m.kind = 5) : Calls Tryz.prog 16 #[.agg (mesC m P Q T)] w (gives (.iface 24 (.agg (crtC m.cert))) w) := by
  have k0 := mes_new w 39 m P Q T
  have hb0 := below_new w (.cells (mesC m P Q T) 39)
  have c0 : (w.alloc (.cells (mesC m P Q T) 39)).cell? ⟨w.heap.size, 0, none⟩ = some (.int .i64 5) := by rw [← hk]; exact k0.cell 0
  have hB := mes_crt k0
  clear k0 hk
  go_enter Tryz.func16, Tryz.ntmps16
  go_wp2_with (refine wpList_cells_at rfl _ _ rfl ⟨w.heap.size, 5, none⟩ rfl (crtL m.cert) _ hB Tryz.underlying24 rfl crtInfo ?_)
  go_ret
  exact ⟨rfl, hb0⟩
theorem part_10 (m : Mes) (P Q T : Value) (w : World) (hk : m.kind = 10) : Calls Tryz.prog 16 #[.agg (mesC m P Q T)] w (gives (.iface 24 (.agg (crtC m.cert))) w) := by
  have k0 := mes_new w 39 m P Q T
  have hb0 := below_new w (.cells (mesC m P Q T) 39)
  have c0 : (w.alloc (.cells (mesC m P Q T) 39)).cell? ⟨w.heap.size, 0, none⟩ = some (.int .i64 10) := by rw [← hk]; exact k0.cell 0
  have hB := mes_crt k0
  clear k0 hk
  go_enter Tryz.func16, Tryz.ntmps16
  go_wp2_with (refine wpList_cells_at rfl _ _ rfl ⟨w.heap.size, 5, none⟩ rfl (crtL m.cert) _ hB Tryz.underlying24 rfl crtInfo ?_)
  go_ret
  exact ⟨rfl, hb0⟩
theorem part_3 (m : Mes) (P Q T : Value) (w : World) (hk : m.kind = 3) : Calls Tryz.prog 16 #[.agg (mesC m P Q T)] w (gives (.iface 26 (.agg (tmC m.tm))) w) := by
  have k0 := mes_new w 39 m P Q T
  have hb0 := below_new w (.cells (mesC m P Q T) 39)
  have c0 : (w.alloc (.cells (mesC m P Q T) 39)).cell? ⟨w.heap.size, 0, none⟩ = some (.int .i64 3) := by rw [← hk]; exact k0.cell 0
  have hB := mes_tmo k0
  clear k0 hk
  go_enter Tryz.func16, Tryz.ntmps16
  go_wp2_with (refine wpList_cells_at rfl _ _ rfl ⟨w.heap.size, 13, none⟩ rfl (tmL m.tm) _ hB Tryz.underlying26 rfl (tmInfoL _) ?_)
  go_ret
  exact ⟨rfl, hb0⟩
theorem part_4 (m : Mes) (P Q T : Value) (w : World) (hk : m.kind = 4) : Calls Tryz.prog 16 #[.agg (mesC m P Q T)] w (gives (.iface 27 P) w) := by
  have k0 := mes_new w 39 m P Q T
  have hb0 := below_new w (.cells (mesC m P Q T) 39)
  have c0 : (w.alloc (.cells (mesC m P Q T) 39)).cell? ⟨w.heap.size, 0, none⟩ = some (.int .i64 4) := by rw [← hk]; exact k0.cell 0
  have c23 : (w.alloc (.cells (mesC m P Q T) 39)).cell? ⟨w.heap.size, 23, none⟩ = some (P) := k0.cell 23
  clear k0 hk
  go_enter Tryz.func16, Tryz.ntmps16
  go_wp2
  go_ret
  exact ⟨rfl, hb0⟩
theorem part_6 (m : Mes) (P Q T : Value) (w : World) (hk : m.kind = 6) : Calls Tryz.prog 16 #[.agg (mesC m P Q T)] w (gives (.iface 75 (.agg #[.int .i64 m.signer, .int .i64 m.view])) w) := by
  have k0 := mes_new w 39 m P Q T
  have hb0 := below_new w (.cells (mesC m P Q T) 39)
  have c0 : (w.alloc (.cells (mesC m P Q T) 39)).cell? ⟨w.heap.size, 0, none⟩ = some (.int .i64 6) := by rw [← hk]; exact k0.cell 0
  have c1 : (w.alloc (.cells (mesC m P Q T) 39)).cell? ⟨w.heap.size, 1, none⟩ = some (.int .i64 m.signer) := k0.cell 1
  have c2 : (w.alloc (.cells (mesC m P Q T) 39)).cell? ⟨w.heap.size, 2, none⟩ = some (.int .i64 m.view) := k0.cell 2
  clear k0 hk
  go_enter Tryz.func16, Tryz.ntmps16
  go_wp2_with (refine wpList_build rfl _ _ rfl #[(0, .int .i64 m.signer), (1, .int .i64 m.view)] rfl (build_inv _ _ _) ?_)
  go_ret
  exact ⟨rfl, hb0⟩
theorem part_12 (m : Mes) (P Q T : Value) (w : World) (hk : m.kind = 12) : Calls Tryz.prog 16 #[.agg (mesC m P Q T)] w (gives (.iface 75 (.agg #[.int .i64 m.signer, .int .i64 m.view])) w) := by
  have k0 := mes_new w 39 m P Q T
  have hb0 := below_new w (.cells (mesC m P Q T) 39)
  have c0 : (w.alloc (.cells (mesC m P Q T) 39)).cell? ⟨w.heap.size, 0, none⟩ = some (.int .i64 12) := by rw [← hk]; exact k0.cell 0
  have c1 : (w.alloc (.cells (mesC m P Q T) 39)).cell? ⟨w.heap.size, 1, none⟩ = some (.int .i64 m.signer) := k0.cell 1
  have c2 : (w.alloc (.cells (mesC m P Q T) 39)).cell? ⟨w.heap.size, 2, none⟩ = some (.int .i64 m.view) := k0.cell 2
  clear k0 hk
  go_enter Tryz.func16, Tryz.ntmps16
  go_wp2_with (refine wpList_build rfl _ _ rfl #[(0, .int .i64 m.signer), (1, .int .i64 m.view)] rfl (build_inv _ _ _) ?_)
  go_ret
  exact ⟨rfl, hb0⟩
theorem part_7 (m : Mes) (P Q T : Value) (w : World) (hk : m.kind = 7) : Calls Tryz.prog 16 #[.agg (mesC m P Q T)] w (gives (.iface 77 (.agg #[.int .i64 m.view, .int .u32 m.set])) w) := by
  have k0 := mes_new w 39 m P Q T
  have hb0 := below_new w (.cells (mesC m P Q T) 39)
  have c0 : (w.alloc (.cells (mesC m P Q T) 39)).cell? ⟨w.heap.size, 0, none⟩ = some (.int .i64 7) := by rw [← hk]; exact k0.cell 0
  have c2 : (w.alloc (.cells (mesC m P Q T) 39)).cell? ⟨w.heap.size, 2, none⟩ = some (.int .i64 m.view) := k0.cell 2
  have c4 : (w.alloc (.cells (mesC m P Q T) 39)).cell? ⟨w.heap.size, 4, none⟩ = some (.int .u32 m.set) := k0.cell 4
  clear k0 hk
  go_enter Tryz.func16, Tryz.ntmps16
  go_wp2_with (refine wpList_build rfl _ _ rfl #[(0, .int .i64 m.view), (1, .int .u32 m.set)] rfl (build_ele _ _ _) ?_)
  go_ret
  exact ⟨rfl, hb0⟩
theorem part_8 (m : Mes) (P Q T : Value) (w : World) (hk : m.kind = 8) : Calls Tryz.prog 16 #[.agg (mesC m P Q T)] w (gives (.iface 79 (.agg #[.int .i64 m.signer, .int .i64 m.n])) w) := by
  have k0 := mes_new w 39 m P Q T
  have hb0 := below_new w (.cells (mesC m P Q T) 39)
  have c0 : (w.alloc (.cells (mesC m P Q T) 39)).cell? ⟨w.heap.size, 0, none⟩ = some (.int .i64 8) := by rw [← hk]; exact k0.cell 0
  have c1 : (w.alloc (.cells (mesC m P Q T) 39)).cell? ⟨w.heap.size, 1, none⟩ = some (.int .i64 m.signer) := k0.cell 1
  have c3 : (w.alloc (.cells (mesC m P Q T) 39)).cell? ⟨w.heap.size, 3, none⟩ = some (.int .i64 m.n) := k0.cell 3
  clear k0 hk
  go_enter Tryz.func16, Tryz.ntmps16
  go_wp2_with (refine wpList_build rfl _ _ rfl #[(0, .int .i64 m.signer), (1, .int .i64 m.n)] rfl (build_wan _ _ _) ?_)
  go_ret
  exact ⟨rfl, hb0⟩
theorem part_11 (m : Mes) (P Q T : Value) (w : World) (hk : m.kind = 11) : Calls Tryz.prog 16 #[.agg (mesC m P Q T)] w (gives (.iface 32 (.agg (txC m.tx))) w) := by
  have k0 := mes_new w 39 m P Q T
  have hb0 := below_new w (.cells (mesC m P Q T) 39)
  have c0 : (w.alloc (.cells (mesC m P Q T) 39)).cell? ⟨w.heap.size, 0, none⟩ = some (.int .i64 11) := by rw [← hk]; exact k0.cell 0
  have hB := mes_tx k0
  clear k0 hk
  go_enter Tryz.func16, Tryz.ntmps16
  go_wp2_with (refine wpList_cells_at rfl _ _ rfl ⟨w.heap.size, 38, none⟩ rfl (txL m.tx) _ hB Tryz.underlying32 rfl (txInfoL _) ?_)
  go_ret
  exact ⟨rfl, hb0⟩
theorem part_no (m : Mes) (P Q T : Value) (w : World) (h : partM m = .non) : Calls Tryz.prog 16 #[.agg (mesC m P Q T)] w (gives .nilIface w) := by
  have hk : m.kind ≠ 1 ∧ m.kind ≠ 9 ∧ m.kind ≠ 2 ∧ m.kind ≠ 5 ∧ m.kind ≠ 10 ∧ m.kind ≠ 3 ∧ m.kind ≠ 4 ∧ m.kind ≠ 6 ∧ m.kind ≠ 12 ∧ m.kind ≠ 7 ∧ m.kind ≠ 8 ∧ m.kind ≠ 11 := by
    unfold partM at h
    by_cases c1 : hasB m.kind
    · rw [if_pos c1] at h; cases h
    rw [if_neg c1] at h
    by_cases c2 : hasC m.kind
    · rw [if_pos c2] at h; cases h
    rw [if_neg c2] at h
    by_cases c3 : m.kind = 3
    · rw [if_pos c3] at h; cases h
    rw [if_neg c3] at h
    by_cases c4 : m.kind = 4
    · rw [if_pos c4] at h; cases h
    rw [if_neg c4] at h
    by_cases c5 : hasV m.kind
    · rw [if_pos c5] at h; cases h
    rw [if_neg c5] at h
    by_cases c6 : m.kind = 7
    · rw [if_pos c6] at h; cases h
    rw [if_neg c6] at h
    by_cases c7 : m.kind = 8
    · rw [if_pos c7] at h; cases h
    rw [if_neg c7] at h
    by_cases c8 : m.kind = 11
    · rw [if_pos c8] at h; cases h
    unfold hasB at c1
    unfold hasC at c2
    unfold hasV at c5
    omega
  have k0 := mes_new w 39 m P Q T
  have hb0 := below_new w (.cells (mesC m P Q T) 39)
  have c0 : (w.alloc (.cells (mesC m P Q T) 39)).cell? ⟨w.heap.size, 0, none⟩ = some (.int .i64 m.kind) := k0.cell 0
  have q1 : (m.kind == 1) = false := by have := hk.1; simpa using this
  have q9 : (m.kind == 9) = false := by have := hk.2.1; simpa using this
  have q2 : (m.kind == 2) = false := by have := hk.2.2.1; simpa using this
  have q5 : (m.kind == 5) = false := by have := hk.2.2.2.1; simpa using this
  have q10 : (m.kind == 10) = false := by have := hk.2.2.2.2.1; simpa using this
  have q3 : (m.kind == 3) = false := by have := hk.2.2.2.2.2.1; simpa using this
  have q4 : (m.kind == 4) = false := by have := hk.2.2.2.2.2.2.1; simpa using this
  have q6 : (m.kind == 6) = false := by have := hk.2.2.2.2.2.2.2.1; simpa using this
  have q12 : (m.kind == 12) = false := by have := hk.2.2.2.2.2.2.2.2.1; simpa using this
  have q7 : (m.kind == 7) = false := by have := hk.2.2.2.2.2.2.2.2.2.1; simpa using this
  have q8 : (m.kind == 8) = false := by have := hk.2.2.2.2.2.2.2.2.2.2.1; simpa using this
  have q11 : (m.kind == 11) = false := by have := hk.2.2.2.2.2.2.2.2.2.2.2; simpa using this
  clear k0 hk h
  go_enter Tryz.func16, Tryz.ntmps16
  go_wp2
  go_ret
  exact ⟨rfl, hb0⟩
/-- What part tells. -/
def parted (m : Mes) (w : World) (e : Ending) (w' : World) : Prop := ∃ v, e = .returned v ∧ PtIs w' (partM m) v ∧ Below w.heap.size w w'
theorem part_any (m : Mes) (P Q T : Value) (w : World) (hl : LiesM w m P Q T) : Calls Tryz.prog 16 #[.agg (mesC m P Q T)] w (parted m w) := by
  obtain ⟨A, c, rfl, hr, hlb⟩ := hl
  by_cases c1 : hasB m.kind
  · have e : partM m = .blk m.block := by unfold partM; rw [if_pos c1]
    have hx : ∀ W, Below w.heap.size w W → PtIs W (partM m) (.iface 30 (.agg (bloC m.block Q T))) := fun W hb => by rw [e]; exact ⟨Q, T, rfl, hlb.below hb⟩
    rcases c1 with h | h
    · exact (part_1 m _ Q T w h).mono fun e w' ⟨he, hb⟩ => ⟨_, he, hx _ hb, hb⟩
    · exact (part_9 m _ Q T w h).mono fun e w' ⟨he, hb⟩ => ⟨_, he, hx _ hb, hb⟩
  by_cases c2 : hasC m.kind
  · have e : partM m = .crt m.cert := by unfold partM; rw [if_neg c1, if_pos c2]
    have hx : ∀ W, PtIs W (partM m) (.iface 24 (.agg (crtC m.cert))) := fun W => by rw [e]; rfl
    rcases c2 with h | h | h
    · exact (part_2 m _ Q T w h).mono fun e w' ⟨he, hb⟩ => ⟨_, he, hx _, hb⟩
    · exact (part_5 m _ Q T w h).mono fun e w' ⟨he, hb⟩ => ⟨_, he, hx _, hb⟩
    · exact (part_10 m _ Q T w h).mono fun e w' ⟨he, hb⟩ => ⟨_, he, hx _, hb⟩
  by_cases c3 : m.kind = 3
  · have e : partM m = .tmo m.tm := by unfold partM; rw [if_neg c1, if_neg c2, if_pos c3]
    exact (part_3 m _ Q T w c3).mono fun e' w' ⟨he, hb⟩ => ⟨_, he, by rw [e]; rfl, hb⟩
  by_cases c4 : m.kind = 4
  · have e : partM m = .prf m.proof := by unfold partM; rw [if_neg c1, if_neg c2, if_neg c3, if_pos c4]
    exact (part_4 m _ Q T w c4).mono fun e' w' ⟨he, hb⟩ => ⟨_, he, by rw [e]; exact ⟨A, c, rfl, hr.below hb⟩, hb⟩
  by_cases c5 : hasV m.kind
  · have e : partM m = .inv m.signer m.view := by unfold partM; rw [if_neg c1, if_neg c2, if_neg c3, if_neg c4, if_pos c5]
    rcases c5 with h | h
    · exact (part_6 m _ Q T w h).mono fun e' w' ⟨he, hb⟩ => ⟨_, he, by rw [e]; rfl, hb⟩
    · exact (part_12 m _ Q T w h).mono fun e' w' ⟨he, hb⟩ => ⟨_, he, by rw [e]; rfl, hb⟩
  by_cases c6 : m.kind = 7
  · have e : partM m = .ele m.view m.set := by unfold partM; rw [if_neg c1, if_neg c2, if_neg c3, if_neg c4, if_neg c5, if_pos c6]
    exact (part_7 m _ Q T w c6).mono fun e' w' ⟨he, hb⟩ => ⟨_, he, by rw [e]; rfl, hb⟩
  by_cases c7 : m.kind = 8
  · have e : partM m = .wan m.signer m.n := by unfold partM; rw [if_neg c1, if_neg c2, if_neg c3, if_neg c4, if_neg c5, if_neg c6, if_pos c7]
    exact (part_8 m _ Q T w c7).mono fun e' w' ⟨he, hb⟩ => ⟨_, he, by rw [e]; rfl, hb⟩
  by_cases c8 : m.kind = 11
  · have e : partM m = .txx m.tx := by unfold partM; rw [if_neg c1, if_neg c2, if_neg c3, if_neg c4, if_neg c5, if_neg c6, if_neg c7, if_pos c8]
    exact (part_11 m _ Q T w c8).mono fun e' w' ⟨he, hb⟩ => ⟨_, he, by rw [e]; rfl, hb⟩
  have e : partM m = .non := by unfold partM; rw [if_neg c1, if_neg c2, if_neg c3, if_neg c4, if_neg c5, if_neg c6, if_neg c7, if_neg c8]
  exact (part_no m _ Q T w e).mono fun e' w' ⟨he, hb⟩ => ⟨_, he, by rw [e]; rfl, hb⟩
end Go.Proofs.YtgmejaiifibfoaaGreatDoor
