import Derived.Test.YtomaaidhmccngaaGreatDoorTx
import Derived.Test.YtomaaidhmccngaaGreatDoorParts
import Derived.DeepKeys5
set_option linter.unusedSimpArgs false
set_option linter.unusedVariables false
set_option maxRecDepth 100000
set_option maxHeartbeats 16000000
namespace Go.Proofs.YtomaaidhmccngaaGreatDoor
open Go.RowKit Go.Maps Go.Lib
theorem laidOut : laidOutB Tryz.prog = true := by kernel_rfl
def str (l : List UInt8) : ByteArray := ⟨l.toArray⟩
theorem qeb (l : List UInt8) : (str l).data.toList = l := rfl
theorem qfw (s : ByteArray) : str s.data.toList = s := by cases s; rfl
theorem qa4 (l : List UInt8) : (str l).size = l.length := by show (str l).data.size = _; simp [str]
theorem qcL (l m : List UInt8) : str l ++ str m = str (l ++ m) := L3.qaK l m
theorem qgM {l m : List UInt8} (h : str l = str m) : l = m := congrArg (fun s : ByteArray => s.data.toList) h
def inI (n : Int) : Prop := -9223372036854775808 <= n /\ n <= 9223372036854775807
theorem inI.lit {n : Int} (h : inI n) : (Lit.int .i64 n).wf = true := WalkArith.wf_i64 h
def txL (t : Txx) : List Value := [.int .i64 t.kind, .string (str t.frm), .string (str t.to), .string (str t.key), .string (str t.val), .int .i64 t.amount, .int .i64 t.nonce]
def txC (t : Txx) : Array Value := #[.int .i64 t.kind, .string (str t.frm), .string (str t.to), .string (str t.key), .string (str t.val), .int .i64 t.amount, .int .i64 t.nonce]
theorem txC_eq (t : Txx) : (txC t).toList = txL t := rfl
def Txx.wf (n : Nat) (t : Txx) : Prop := inI t.kind /\ t.frm.length <= n /\ t.to.length <= n /\ t.key.length <= n /\ t.val.length <= n /\ inI t.amount /\ inI t.nonce
theorem Txx.wf.le {n m : Nat} {t : Txx} (h : t.wf n) (hm : n <= m) : t.wf m := by
 obtain ⟨a, b, c, d, e, f⟩ := h
 exact ⟨a, by omega, by omega, by omega, by omega, f⟩
theorem qgW (n : Nat) : zeroX.wf n := by refine ⟨?_, ?_, ?_, ?_, ?_, ?_, ?_⟩ <;> simp [inI, zeroX]
theorem qeO {t : Txx} (h : right t = true) : t.wf 128 := by
 by_cases hk : t.kind = 1
 ·obtain ⟨h1, h2, h3, h4, h5, h6⟩ := qcf h hk
  have a := qbB h1
  have b := qbB h4
  exact ⟨by unfold inI; omega, qbQ h2, qbQ h3, by rw [h5]; simp, by rw [h6]; simp, by unfold inI; omega, by unfold inI; omega⟩
 ·obtain ⟨h1, h2, h3, h4, h5, h6, h7⟩ := qc7 h hk
  have a := qbB h1
  exact ⟨by unfold inI; omega, qbQ h2, by rw [h5]; simp, qbQ h3, qgg h4, by unfold inI; omega, by unfold inI; omega⟩
theorem txC_inj {x y : Txx} (h : txC x = txC y) : x = y := by
 obtain ⟨a0, a1, a2, a3, a4, a5, a6⟩ := x
 obtain ⟨b0, b1, b2, b3, b4, b5, b6⟩ := y
 simp only [txC, Array.mk.injEq, List.cons.injEq, Value.int.injEq, Value.string.injEq, true_and, and_true] at h
 obtain ⟨rfl, h1, h2, h3, h4, rfl, rfl⟩ := h
 obtain rfl := qgM h1
 obtain rfl := qgM h2
 obtain rfl := qgM h3
 obtain rfl := qgM h4
 rfl
theorem kdX : Keyed Tryz.prog 133 := Keyed.of_law (deep_law_laid laidOut (m := 3) (by omega) (of_decide_eq_true (by kernel_rfl)) (by kernel_rfl) (by kernel_rfl))
theorem cX : Tryz.prog.cellsOf 133 = 7 := by kernel_rfl
theorem cI : Tryz.prog.cellsOf 3 = 1 := by kernel_rfl
theorem cI64 : Tryz.prog.cellsOf 2 = 1 := by kernel_rfl
theorem cS : Tryz.prog.cellsOf 9 = 1 := by kernel_rfl
theorem qaM (d : Nat) {n : Int} (h : inI n) : Tryz.prog.keyLits (d + 1) 3 [.int .i64 n] = some [.int .i64 n] := by
 simp [Program.keyLits, Tryz.underlying3, h.lit]
theorem kl_i64 (d : Nat) {n : Int} (h : inI n) : Tryz.prog.keyLits (d + 1) 2 [.int .i64 n] = some [.int .i64 n] := by
 simp [Program.keyLits, Tryz.underlying2, h.lit]
theorem qjj (d : Nat) {l : List UInt8} (h : l.length <= maxLen) : Tryz.prog.keyLits (d + 1) 9 [.string (str l)] = some [.string l] := by
 simp only [Program.keyLits, Tryz.underlying9]
 rw [if_pos (by rw [qa4]; exact h), qeb]
theorem kl_tx (d : Nat) {n : Nat} (t : Txx) (h : t.wf n) (hn : n <= maxLen) : ∃ l, Tryz.prog.keyLits (d + 2) 133 (txL t) = some l := by
 obtain ⟨h0, h1, h2, h3, h4, h5, h6⟩ := h
 unfold Program.keyLits
 simp only [Tryz.underlying133]
 rw [if_pos ⟨cX.symm ▸ rfl, by kernel_rfl⟩]
 simp only [cI, cI64, cS, txL, List.mapM_cons, List.mapM_nil, List.drop_zero, List.drop_succ_cons, List.take_succ_cons, List.take_zero, qaM d h0, kl_i64 d h5, kl_i64 d h6, qjj d (Nat.le_trans h1 hn), qjj d (Nat.le_trans h2 hn), qjj d (Nat.le_trans h3 hn), qjj d (Nat.le_trans h4 hn)]
 exact ⟨_, rfl⟩
theorem qlO {n : Nat} (x : Txx) (h : x.wf n) (hn : n <= maxLen) : ∃ l, keyOf Tryz.prog 133 (.agg (txC x)) = some l := by
 have hkt : Tryz.prog.keyType 133 = true := by kernel_rfl
 have hf : (Value.agg (txC x)).formed Tryz.prog 133 = true := by kernel_rfl
 have hsz : 1 <= Tryz.prog.types.size := of_decide_eq_true (by kernel_rfl)
 obtain ⟨l, hl⟩ := kl_tx (Tryz.prog.types.size - 1) x h hn
 rw [show Tryz.prog.types.size - 1 + 2 = Tryz.prog.types.size + 1 by omega] at hl
 unfold keyOf
 simp only [Tryz.underlying133, hkt, hf, Bool.and_self, if_true, Value.cells, txC_eq, hl, Option.map_some]
 exact ⟨_, rfl⟩
theorem equalX {n : Nat} {x y : Txx} (hx : x.wf n) (hy : y.wf n) (hn : n <= maxLen) (w : World) : (Op.equal 133 (.agg (txC x)) (.agg (txC y))).run Tryz.prog w = .ok (decide (x = y)) w := by
 obtain ⟨lx, h1⟩ := qlO x hx hn
 obtain ⟨ly, h2⟩ := qlO y hy hn
 obtain ⟨r, hr, hi⟩ := run_equal_deep (P := Tryz.prog) w (m := 3) (by omega) (by kernel_rfl) (by kernel_rfl) h1 h2
 have : r = decide (x = y) := by
  rw [Bool.eq_iff_iff, hi, decide_eq_true_eq]
  constructor
  ·intro h
   rw [h] at h1
   exact txC_inj (Value.agg.inj (kdX.inj h1 h2))
  ·intro h; subst h; rw [h1] at h2; injection h2
 rw [hr, this]
theorem qax (w : World) : (Instr.build 133 #[]).run Tryz.prog w = .ok (.agg (txC zeroX)) w := run_build w _ _ _ (by kernel_rfl)
theorem txInfo : (Tryz.prog.info? 133).map (·.size) = some 7 := by kernel_rfl
def Box (w : World) (g : Nat) (kd : Int) (fr to ky vl : List UInt8) (am no : Int) : Prop :=
 w.cell? ⟨g, 0, none⟩ = some (.int .i64 kd) /\ w.cell? ⟨g, 1, none⟩ = some (.string (str fr)) /\ w.cell? ⟨g, 2, none⟩ = some (.string (str to)) /\ w.cell? ⟨g, 3, none⟩ = some (.string (str ky)) /\ w.cell? ⟨g, 4, none⟩ = some (.string (str vl)) /\ w.cell? ⟨g, 5, none⟩ = some (.int .i64 am) /\ w.cell? ⟨g, 6, none⟩ = some (.int .i64 no)
theorem qaX {w : World} {g : Nat} {ty : TypeId} {t : Txx} (h : L3.Blk w g ty (txC t)) : Box w g t.kind t.frm t.to t.key t.val t.amount t.nonce := ⟨h.cell 0, h.cell 1, h.cell 2, h.cell 3, h.cell 4, h.cell 5, h.cell 6⟩
theorem qa6 (w : World) (ty : TypeId) (t : Txx) : L3.Blk (w.alloc (.cells (txC t) ty)) w.heap.size ty (txC t) := L3.Blk.new _ _ _
theorem qdA {w w1 : World} {ty : TypeId} {t : Txx} (hb : Below (w.alloc (.cells (txC t) ty)).heap.size (w.alloc (.cells (txC t) ty)) w1) : Box w1 w.heap.size t.kind t.frm t.to t.key t.val t.amount t.nonce := qaX ((qa6 w ty t).below hb (by simp))
theorem qa9 {w : World} (ty : TypeId) (t : Txx) : Below w.heap.size w (w.alloc (.cells (txC t) ty)) := (Below.refl _ _).alloc (Nat.le_refl _) _
theorem keep7 {W x y : World} {g : Nat} {kd am no : Int} {fr to ky vl : List UInt8}
 (h : Below W.heap.size W x /\ x.cell? ⟨g, 0, none⟩ = some (.int .i64 kd) /\ x.cell? ⟨g, 1, none⟩ = some (.string (str fr)) /\ x.cell? ⟨g, 2, none⟩ = some (.string (str to)) /\ x.cell? ⟨g, 3, none⟩ = some (.string (str ky)) /\ x.cell? ⟨g, 4, none⟩ = some (.string (str vl)) /\ x.cell? ⟨g, 5, none⟩ = some (.int .i64 am) /\ x.cell? ⟨g, 6, none⟩ = some (.int .i64 no)) (hb : Below x.heap.size x y) :
 Below W.heap.size W y /\ y.cell? ⟨g, 0, none⟩ = some (.int .i64 kd) /\ y.cell? ⟨g, 1, none⟩ = some (.string (str fr)) /\ y.cell? ⟨g, 2, none⟩ = some (.string (str to)) /\ y.cell? ⟨g, 3, none⟩ = some (.string (str ky)) /\ y.cell? ⟨g, 4, none⟩ = some (.string (str vl)) /\ y.cell? ⟨g, 5, none⟩ = some (.int .i64 am) /\ y.cell? ⟨g, 6, none⟩ = some (.int .i64 no) := by
 obtain ⟨h0, a0, a1, a2, a3, a4, a5, a6⟩ := h
 have k := fun (i : Nat) (v : Value) (h : x.cell? ⟨g, i, none⟩ = some v) => (hb.cell (p := ⟨g, i, none⟩) (L2.qbe h)).trans h
 exact ⟨h0.trans (hb.mono h0.size), k _ _ a0, k _ _ a1, k _ _ a2, k _ _ a3, k _ _ a4, k _ _ a5, k _ _ a6⟩
theorem qce {W x : World} {g : Nat} {kd am no : Int} {fr to ky vl : List UInt8}
 (h : Below W.heap.size W x /\ x.cell? ⟨g, 0, none⟩ = some (.int .i64 kd) /\ x.cell? ⟨g, 1, none⟩ = some (.string (str fr)) /\ x.cell? ⟨g, 2, none⟩ = some (.string (str to)) /\ x.cell? ⟨g, 3, none⟩ = some (.string (str ky)) /\ x.cell? ⟨g, 4, none⟩ = some (.string (str vl)) /\ x.cell? ⟨g, 5, none⟩ = some (.int .i64 am) /\ x.cell? ⟨g, 6, none⟩ = some (.int .i64 no)) :
 Below W.heap.size W x.drew /\ x.drew.cell? ⟨g, 0, none⟩ = some (.int .i64 kd) /\ x.drew.cell? ⟨g, 1, none⟩ = some (.string (str fr)) /\ x.drew.cell? ⟨g, 2, none⟩ = some (.string (str to)) /\ x.drew.cell? ⟨g, 3, none⟩ = some (.string (str ky)) /\ x.drew.cell? ⟨g, 4, none⟩ = some (.string (str vl)) /\ x.drew.cell? ⟨g, 5, none⟩ = some (.int .i64 am) /\ x.drew.cell? ⟨g, 6, none⟩ = some (.int .i64 no) :=
 ⟨h.1.drew, h.2⟩
