/-
  Messages as values: their cells, the lists that they hold, what a message has as an interface value.
-/
import Derived.Test.YtgmejaiifibfoaaDoorPart
import Derived.Test.YtgmejaiifibfoaaDoorB5
set_option linter.unusedSimpArgs false
set_option linter.unusedVariables false
set_option maxRecDepth 10000
namespace Go.Proofs.YtgmejaiifibfoaaDoor
open Go.RowKit Go.Maps Go.Lib
open L3 (Blk Reads)
open L11 (Crt zeroC crtL crtC mayV okW crtInfo crtC_ones)

/-- A message's cells: P holds its timeouts, Q and T its block's lists. -/
def mesC (m : Mes) (P Q T : Value) : Array Value := #[.int .i64 m.kind, .int .i64 m.signer, .int .i64 m.view, .int .i64 m.n, .int .u32 m.set, .int .i64 m.cert.kind, .int .i64 m.cert.block, .int .i64 m.cert.view, .int .i64 m.cert.round, .int .i64 m.cert.height, .int .i64 m.cert.author, .int .u32 m.cert.sg, .int .u32 m.cert.co, .int .i64 m.tm.signer, .int .i64 m.tm.view, .int .i64 m.tm.high.kind, .int .i64 m.tm.high.block, .int .i64 m.tm.high.view, .int .i64 m.tm.high.round, .int .i64 m.tm.high.height, .int .i64 m.tm.high.author, .int .u32 m.tm.high.sg, .int .u32 m.tm.high.co, P, .int .i64 m.block.view, .int .i64 m.block.round, .int .i64 m.block.height, .int .i64 m.block.author, .int .i64 m.block.par.kind, .int .i64 m.block.par.block, .int .i64 m.block.par.view, .int .i64 m.block.par.round, .int .i64 m.block.par.height, .int .i64 m.block.par.author, .int .u32 m.block.par.sg, .int .u32 m.block.par.co, Q, T, .int .i64 m.tx.kind, .string (str m.tx.frm), .string (str m.tx.to), .string (str m.tx.key), .string (str m.tx.val), .int .i64 m.tx.amount, .int .i64 m.tx.nonce]
theorem mesC_ones (m : Mes) (A : Option Addr) (a c : Nat) (B : Option Addr) (b d : Nat) (C : Option Addr) (e f : Nat) : (mesC m (.slice A a c) (.slice B b d) (.slice C e f)).all (·.oneCell') = true := by kernel_rfl
theorem mesInfo : (Tryd.prog.info? 40).map (·.size) = some 45 := by kernel_rfl
theorem mesInfoR : (Tryd.prog.info? 34).map (·.size) = some 45 := by kernel_rfl
theorem mes_new (w : World) (ty : TypeId) (m : Mes) (P Q T : Value) : Blk (w.alloc (.cells (mesC m P Q T) ty)) w.heap.size ty (mesC m P Q T) := Blk.new _ _ _
/-- Cells of a struct in a block that holds a struct with it from place k on. -/
theorem at_of {cs : Array Value} {l : List Value} {k : Nat} (h : (cs.toList.drop k).take l.length = l) : ∀ j u, l[j]? = some u → cs[k + j]? = some u := by
  intro j u hj
  have hlt : j < l.length := by
    rcases Nat.lt_or_ge j l.length with h | h
    · exact h
    · rw [List.getElem?_eq_none h] at hj; cases hj
  rw [← h, List.getElem?_take_of_lt hlt, List.getElem?_drop] at hj
  simpa using hj
theorem sub_any {w : World} {g : Nat} {ty : TypeId} {cs : Array Value} {l : List Value} {k : Nat} (h : Blk w g ty cs) (hk : (cs.toList.drop k).take l.length = l) : ∀ j u, l[j]? = some u → w.cell? ((⟨g, k, none⟩ : Addr).add j) = some u := by
  intro j u hj
  have h1 := at_of hk j u hj
  have h2 := h.cell (k + j)
  have e : (⟨g, k, none⟩ : Addr).add j = ⟨g, k + j, none⟩ := by unfold Addr.add; split <;> simp_all
  rw [e, h2]
  exact h1
def bloL (b : Blo) (P T : Value) : List Value := (bloC b P T).toList
section
variable {w : World} {g : Nat} {ty : TypeId} {m : Mes} {P Q T : Value}
theorem mes_crt (h : Blk w g ty (mesC m P Q T)) : ∀ j u, (crtL m.cert)[j]? = some u → w.cell? ((⟨g, 5, none⟩ : Addr).add j) = some u := sub_any h rfl
theorem mes_tmo (h : Blk w g ty (mesC m P Q T)) : ∀ j u, (tmL m.tm)[j]? = some u → w.cell? ((⟨g, 13, none⟩ : Addr).add j) = some u := sub_any h rfl
theorem mes_blo (h : Blk w g ty (mesC m P Q T)) : ∀ j u, (bloL m.block Q T)[j]? = some u → w.cell? ((⟨g, 24, none⟩ : Addr).add j) = some u := sub_any h rfl
theorem mes_tx (h : Blk w g ty (mesC m P Q T)) : ∀ j u, (txL m.tx)[j]? = some u → w.cell? ((⟨g, 38, none⟩ : Addr).add j) = some u := sub_any h rfl
theorem mes_ints (h : Blk w g ty (mesC m P Q T)) : w.cell? ⟨g, 0, none⟩ = some (.int .i64 m.kind) ∧ w.cell? ⟨g, 1, none⟩ = some (.int .i64 m.signer) ∧ w.cell? ⟨g, 2, none⟩ = some (.int .i64 m.view) ∧ w.cell? ⟨g, 3, none⟩ = some (.int .i64 m.n) ∧ w.cell? ⟨g, 4, none⟩ = some (.int .u32 m.set) ∧ w.cell? ⟨g, 23, none⟩ = some P :=
  ⟨h.cell 0, h.cell 1, h.cell 2, h.cell 3, h.cell 4, h.cell 23⟩
end
/-- What a message's numbers and lists are bounded by. -/
structure Mes.wf (m : Mes) : Prop where
  kind : inI m.kind
  signer : inI m.signer
  view : inI m.view
  n : inI m.n
  set : L11.inU m.set
  cert : m.cert.wf
  tm : m.tm.wf
  proof : ∀ t ∈ m.proof, t.wf
  np : m.proof.length ≤ 1000
  block : m.block.wf
  tx : m.tx.wf 1000000
theorem zeroM_wf : zeroM.wf := by
  refine ⟨?_, ?_, ?_, ?_, ?_, L11.zeroC_wf, zeroT_wf, ?_, ?_, zeroB_wf, zeroX_wf _⟩ <;> simp [inI, L11.inU, zeroM]
/-- In w the slices are the message's lists. -/
def LiesM (w : World) (m : Mes) (P Q T : Value) : Prop :=
  ∃ A c, P = .slice A m.proof.length c ∧ Rd tmL 10 w A m.proof ∧ Lies w m.block Q T
theorem LiesM.below {w w' : World} {m : Mes} {P Q T : Value} (h : LiesM w m P Q T) (hb : Below w.heap.size w w') : LiesM w' m P Q T := by
  obtain ⟨A, c, h1, h2, h3⟩ := h
  exact ⟨A, c, h1, h2.below hb, h3.below hb⟩
theorem LiesM.form {w : World} {m : Mes} {P Q T : Value} (h : LiesM w m P Q T) : ∃ A a c B b d C e f, P = .slice A a c ∧ Q = .slice B b d ∧ T = .slice C e f := by
  obtain ⟨A, c, h1, h2, B, d, D, e, h3, h4, _⟩ := h
  exact ⟨A, _, c, B, _, d, D, _, e, h1, h3, h4⟩
theorem liesM_zero (w : World) (m : Mes) (h : m.proof = []) (hb : m.block = zeroB) : LiesM w m (.slice none 0 0) (.slice none 0 0) (.slice none 0 0) := by
  refine ⟨none, 0, by rw [h]; rfl, by rw [h]; exact Rd.nil, by rw [hb]; exact lies_zero w⟩
/-- A message's box, its lists. -/
structure BoxM (w : World) (g : Nat) (ty : TypeId) (m : Mes) (P Q T : Value) (W : World) : Prop where
  bb : Blk W g ty (mesC m P Q T)
  ls : LiesM W m P Q T
  bw : Below w.heap.size w W
theorem BoxM.below {w W W' : World} {g : Nat} {ty : TypeId} {m : Mes} {P Q T : Value} (h : BoxM w g ty m P Q T W) (hb : Below W.heap.size W W') : BoxM w g ty m P Q T W' := ⟨h.bb.below hb h.bb.lt, h.ls.below hb, nxt h.bw hb⟩
theorem boxM_mk {w : World} (ty : TypeId) {m : Mes} {P Q T : Value} (h : LiesM w m P Q T) : BoxM w w.heap.size ty m P Q T (w.alloc (.cells (mesC m P Q T) ty)) :=
  ⟨mes_new _ _ _ _ _ _, h.below (below_new _ _), below_new _ _⟩
/-- The value that tells what a message has. -/
def PtIs (W : World) : Pt → Value → Prop
  | .blk b, v => ∃ P T, v = .iface 30 (.agg (bloC b P T)) ∧ Lies W b P T
  | .crt c, v => v = .iface 24 (.agg (crtC c))
  | .tmo t, v => v = .iface 26 (.agg (tmC t))
  | .prf l, v => ∃ A c, v = .iface 27 (.slice A l.length c) ∧ Rd tmL 10 W A l
  | .inv s n, v => v = .iface 75 (.agg #[.int .i64 s, .int .i64 n])
  | .ele n s, v => v = .iface 77 (.agg #[.int .i64 n, .int .u32 s])
  | .wan s n, v => v = .iface 79 (.agg #[.int .i64 s, .int .i64 n])
  | .txx t, v => v = .iface 32 (.agg (txC t))
  | .non, v => v = .nilIface
theorem PtIs.below {W W' : World} {p : Pt} {v : Value} (h : PtIs W p v) (hb : Below W.heap.size W W') : PtIs W' p v := by
  cases p
  case blk b => obtain ⟨P, T, e, h⟩ := h; exact ⟨P, T, e, h.below hb⟩
  case prf l => obtain ⟨A, c, e, h⟩ := h; exact ⟨A, c, e, h.below hb⟩
  all_goals exact h
def PtWf : Pt → Prop
  | .blk b => b.wf
  | .crt c => c.wf
  | .tmo t => t.wf
  | .prf l => (∀ t ∈ l, t.wf) ∧ l.length ≤ 1000
  | .inv s n => inI s ∧ inI n
  | .ele n s => inI n ∧ L11.inU s
  | .wan s n => inI s ∧ inI n
  | .txx t => t.wf 1000000
  | .non => True
theorem part_wf {m : Mes} (h : m.wf) : PtWf (partM m) := by
  unfold partM
  by_cases c1 : hasB m.kind
  · rw [if_pos c1]; exact h.block
  rw [if_neg c1]
  by_cases c2 : hasC m.kind
  · rw [if_pos c2]; exact h.cert
  rw [if_neg c2]
  by_cases c3 : m.kind = 3
  · rw [if_pos c3]; exact h.tm
  rw [if_neg c3]
  by_cases c4 : m.kind = 4
  · rw [if_pos c4]; exact ⟨h.proof, h.np⟩
  rw [if_neg c4]
  by_cases c5 : hasV m.kind
  · rw [if_pos c5]; exact ⟨h.signer, h.view⟩
  rw [if_neg c5]
  by_cases c6 : m.kind = 7
  · rw [if_pos c6]; exact ⟨h.view, h.set⟩
  rw [if_neg c6]
  by_cases c7 : m.kind = 8
  · rw [if_pos c7]; exact ⟨h.signer, h.n⟩
  rw [if_neg c7]
  by_cases c8 : m.kind = 11
  · rw [if_pos c8]; exact h.tx
  rw [if_neg c8]; trivial
theorem made_wf {k : Int} {p : Pt} (hk : inI k) (h : PtWf p) : (madeM k p).wf := by
  have z := zeroM_wf
  cases p
  case blk b => exact ⟨hk, z.signer, z.view, z.n, z.set, z.cert, z.tm, z.proof, z.np, h, z.tx⟩
  case crt c => exact ⟨hk, z.signer, z.view, z.n, z.set, h, z.tm, z.proof, z.np, z.block, z.tx⟩
  case tmo t => exact ⟨hk, z.signer, z.view, z.n, z.set, z.cert, h, z.proof, z.np, z.block, z.tx⟩
  case prf l => exact ⟨hk, z.signer, z.view, z.n, z.set, z.cert, z.tm, h.1, h.2, z.block, z.tx⟩
  case inv s v => exact ⟨hk, h.1, h.2, z.n, z.set, z.cert, z.tm, z.proof, z.np, z.block, z.tx⟩
  case ele v s => exact ⟨hk, z.signer, h.1, z.n, h.2, z.cert, z.tm, z.proof, z.np, z.block, z.tx⟩
  case wan s n => exact ⟨hk, h.1, z.view, h.2, z.set, z.cert, z.tm, z.proof, z.np, z.block, z.tx⟩
  case txx t => exact ⟨hk, z.signer, z.view, z.n, z.set, z.cert, z.tm, z.proof, z.np, z.block, h⟩
  case non => exact ⟨hk, z.signer, z.view, z.n, z.set, z.cert, z.tm, z.proof, z.np, z.block, z.tx⟩
end Go.Proofs.YtgmejaiifibfoaaDoor
