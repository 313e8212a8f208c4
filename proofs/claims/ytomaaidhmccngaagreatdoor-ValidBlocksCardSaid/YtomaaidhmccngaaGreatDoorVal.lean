import Derived.Test.YtomaaidhmccngaaGreatDoorTx
import Derived.Test.YtomaaidhmccngaaGreatDoorParts
import Derived.DeepKeys5
set_option linter.unusedSimpArgs false
set_option linter.unusedVariables false
set_option maxRecDepth 100000
set_option maxHeartbeats 16000000
namespace Go.Proofs.YtomaaidhmccngaaGreatDoor
open Go.RowKit Go.Maps Go.Lib
theorem laidOut : laidOutB Tryz.prog = true := by kernel_rfl
def str (l : List UInt8) : ByteArray := ⟨l.toArray⟩
theorem qe7 (l : List UInt8) : (str l).data.toList = l := rfl
theorem qfm (s : ByteArray) : str s.data.toList = s := by cases s; rfl
theorem qa4 (l : List UInt8) : (str l).size = l.length := by show (str l).data.size = _; simp [str]
theorem qcC (l m : List UInt8) : str l ++ str m = str (l ++ m) := L3.qaK l m
def inI (n : Int) : Prop := -9223372036854775808 <= n /\ n <= 9223372036854775807
theorem inI.lit {n : Int} (h : inI n) : (Lit.int .i64 n).wf = true := WalkArith.wf_i64 h
def txL (t : Txx) : List Value := [.int .i64 t.kind, .string (str t.frm), .string (str t.to), .string (str t.key), .string (str t.val), .int .i64 t.amount, .int .i64 t.nonce]
def txC (t : Txx) : Array Value := #[.int .i64 t.kind, .string (str t.frm), .string (str t.to), .string (str t.key), .string (str t.val), .int .i64 t.amount, .int .i64 t.nonce]
def Txx.wf (n : Nat) (t : Txx) : Prop := inI t.kind /\ t.frm.length <= n /\ t.to.length <= n /\ t.key.length <= n /\ t.val.length <= n /\ inI t.amount /\ inI t.nonce
theorem Txx.wf.le {n m : Nat} {t : Txx} (h : t.wf n) (hm : n <= m) : t.wf m := by
 obtain ⟨a, b, c, d, e, f⟩ := h
 exact ⟨a, by omega, by omega, by omega, by omega, f⟩
theorem qgj (n : Nat) : zeroX.wf n := by refine ⟨?_, ?_, ?_, ?_, ?_, ?_, ?_⟩ <;> simp [inI, zeroX]
theorem qe9 {t : Txx} (h : right t = true) : t.wf 128 := by
 by_cases hk : t.kind = 1
 ·obtain ⟨h1, h2, h3, h4, h5, h6⟩ := qbZ h hk
  have a := qb5 h1
  have b := qb5 h4
  exact ⟨by unfold inI; omega, qbL h2, qbL h3, by rw [h5]; simp, by rw [h6]; simp, by unfold inI; omega, by unfold inI; omega⟩
 ·obtain ⟨h1, h2, h3, h4, h5, h6, h7⟩ := qcv h hk
  have a := qb5 h1
  exact ⟨by unfold inI; omega, qbL h2, by rw [h5]; simp, qbL h3, qfG h4, by unfold inI; omega, by unfold inI; omega⟩
theorem cX : Tryz.prog.cellsOf 133 = 7 := by kernel_rfl
theorem cI : Tryz.prog.cellsOf 3 = 1 := by kernel_rfl
theorem cI64 : Tryz.prog.cellsOf 2 = 1 := by kernel_rfl
theorem cS : Tryz.prog.cellsOf 9 = 1 := by kernel_rfl
theorem qaQ (d : Nat) {n : Int} (h : inI n) : Tryz.prog.keyLits (d + 1) 3 [.int .i64 n] = some [.int .i64 n] := by
 simp [Program.keyLits, Tryz.underlying3, h.lit]
theorem qay (w : World) : (Instr.build 133 #[]).run Tryz.prog w = .ok (.agg (txC zeroX)) w := run_build w _ _ _ (by kernel_rfl)
theorem txInfo : (Tryz.prog.info? 133).map (·.size) = some 7 := by kernel_rfl
def Box (w : World) (g : Nat) (kd : Int) (fr to ky vl : List UInt8) (am no : Int) : Prop :=
 w.cell? ⟨g, 0, none⟩ = some (.int .i64 kd) /\ w.cell? ⟨g, 1, none⟩ = some (.string (str fr)) /\ w.cell? ⟨g, 2, none⟩ = some (.string (str to)) /\ w.cell? ⟨g, 3, none⟩ = some (.string (str ky)) /\ w.cell? ⟨g, 4, none⟩ = some (.string (str vl)) /\ w.cell? ⟨g, 5, none⟩ = some (.int .i64 am) /\ w.cell? ⟨g, 6, none⟩ = some (.int .i64 no)
theorem qaY {w : World} {g : Nat} {ty : TypeId} {t : Txx} (h : L3.Blk w g ty (txC t)) : Box w g t.kind t.frm t.to t.key t.val t.amount t.nonce := ⟨h.cell 0, h.cell 1, h.cell 2, h.cell 3, h.cell 4, h.cell 5, h.cell 6⟩
theorem qa6 (w : World) (ty : TypeId) (t : Txx) : L3.Blk (w.alloc (.cells (txC t) ty)) w.heap.size ty (txC t) := L3.Blk.new _ _ _
theorem qdN {w w1 : World} {ty : TypeId} {t : Txx} (hb : Below (w.alloc (.cells (txC t) ty)).heap.size (w.alloc (.cells (txC t) ty)) w1) : Box w1 w.heap.size t.kind t.frm t.to t.key t.val t.amount t.nonce := qaY ((qa6 w ty t).below hb (by simp))
theorem qa9 {w : World} (ty : TypeId) (t : Txx) : Below w.heap.size w (w.alloc (.cells (txC t) ty)) := (Below.refl _ _).alloc (Nat.le_refl _) _
theorem keep7 {W x y : World} {g : Nat} {kd am no : Int} {fr to ky vl : List UInt8}
 (h : Below W.heap.size W x /\ x.cell? ⟨g, 0, none⟩ = some (.int .i64 kd) /\ x.cell? ⟨g, 1, none⟩ = some (.string (str fr)) /\ x.cell? ⟨g, 2, none⟩ = some (.string (str to)) /\ x.cell? ⟨g, 3, none⟩ = some (.string (str ky)) /\ x.cell? ⟨g, 4, none⟩ = some (.string (str vl)) /\ x.cell? ⟨g, 5, none⟩ = some (.int .i64 am) /\ x.cell? ⟨g, 6, none⟩ = some (.int .i64 no)) (hb : Below x.heap.size x y) :
 Below W.heap.size W y /\ y.cell? ⟨g, 0, none⟩ = some (.int .i64 kd) /\ y.cell? ⟨g, 1, none⟩ = some (.string (str fr)) /\ y.cell? ⟨g, 2, none⟩ = some (.string (str to)) /\ y.cell? ⟨g, 3, none⟩ = some (.string (str ky)) /\ y.cell? ⟨g, 4, none⟩ = some (.string (str vl)) /\ y.cell? ⟨g, 5, none⟩ = some (.int .i64 am) /\ y.cell? ⟨g, 6, none⟩ = some (.int .i64 no) := by
 obtain ⟨h0, a0, a1, a2, a3, a4, a5, a6⟩ := h
 have k := fun (i : Nat) (v : Value) (h : x.cell? ⟨g, i, none⟩ = some v) => (hb.cell (p := ⟨g, i, none⟩) (L2.qbh h)).trans h
 exact ⟨h0.trans (hb.mono h0.size), k _ _ a0, k _ _ a1, k _ _ a2, k _ _ a3, k _ _ a4, k _ _ a5, k _ _ a6⟩
theorem qbW {W x : World} {g : Nat} {kd am no : Int} {fr to ky vl : List UInt8}
 (h : Below W.heap.size W x /\ x.cell? ⟨g, 0, none⟩ = some (.int .i64 kd) /\ x.cell? ⟨g, 1, none⟩ = some (.string (str fr)) /\ x.cell? ⟨g, 2, none⟩ = some (.string (str to)) /\ x.cell? ⟨g, 3, none⟩ = some (.string (str ky)) /\ x.cell? ⟨g, 4, none⟩ = some (.string (str vl)) /\ x.cell? ⟨g, 5, none⟩ = some (.int .i64 am) /\ x.cell? ⟨g, 6, none⟩ = some (.int .i64 no)) :
 Below W.heap.size W x.drew /\ x.drew.cell? ⟨g, 0, none⟩ = some (.int .i64 kd) /\ x.drew.cell? ⟨g, 1, none⟩ = some (.string (str fr)) /\ x.drew.cell? ⟨g, 2, none⟩ = some (.string (str to)) /\ x.drew.cell? ⟨g, 3, none⟩ = some (.string (str ky)) /\ x.drew.cell? ⟨g, 4, none⟩ = some (.string (str vl)) /\ x.drew.cell? ⟨g, 5, none⟩ = some (.int .i64 am) /\ x.drew.cell? ⟨g, 6, none⟩ = some (.int .i64 no) :=
 ⟨h.1.drew, h.2⟩
end Go.Proofs.YtomaaidhmccngaaGreatDoor
