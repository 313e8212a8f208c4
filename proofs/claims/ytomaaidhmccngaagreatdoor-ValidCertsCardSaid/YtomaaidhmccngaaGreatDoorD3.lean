import Derived.Test.YtomaaidhmccngaaGreatDoorTk08
import Derived.Test.YtomaaidhmccngaaGreatDoorB3
set_option linter.unusedSimpArgs false
set_option linter.unusedVariables false
set_option maxRecDepth 100000
set_option maxHeartbeats 16000000
namespace Go.Proofs.YtomaaidhmccngaaGreatDoor
open Go.RowKit Go.Maps Go.Lib
open L3 (Blk Reads numS failS rdN mostS mostV textS textV doneV)
open L6 (Turn)
open L11 (Crt zeroC crtC crtL crtInfo qal mayV takeC wpList_store_row qac below_setRow qah)
def nS0 : Value := .slice none 0 0
def overC (cs : Array Value) : Nat -> List Value -> Array Value
 | _, [] => cs
 | o, v :: r => overC (cs.setIfInBounds o v) (o + 1) r
theorem qgi {t : TypeId} {g : Nat} : ∀ (vs : List Value) (o : Nat) {w : World} {cs : Array Value}, Blk w g t cs -> Blk (w.setCells g o vs) g t (overC cs o vs)
 | [], _, _, _, h => h
 | v :: r, o, w, cs, h => qgi r (o + 1) (h.set_ o v)
theorem qcp (g : Nat) : ∀ (vs : List Value) (o : Nat) (w : World), Turn (fun k => k = g) w (w.setCells g o vs)
 | [], _, w => L6.Turn.refl _ _
 | v :: r, o, w => (qbE w g o v).trans (qcp g r (o + 1) _) (fun i hi => .inl hi)
theorem qha {w : World} {g : Nat} {t : TypeId} {cs : Array Value} (h : Blk w g t cs) {o n : Nat} (hn : o + n <= cs.size) : w.there g o n := by
 refine fun j hj => ⟨?_, h.frozen _⟩
 rw [h.cell, Array.getElem?_eq_getElem (by omega)]
 rfl
theorem over_par (b : Blo) (P T : Value) (c : Crt) : overC (bloC b P T) 4 (crtC c).toList = bloC { b with par := c } P T := by kernel_rfl
theorem qmb (t : Tmo) (c : Crt) : overC (tmC t) 2 (crtC c).toList = tmC { t with high := c } := by kernel_rfl
theorem bloInfo12 (b : Blo) (P T : Value) : (Tryz.prog.info? 57).map (·.size) = some (bloC b P T).size := by kernel_rfl
theorem tmInfo12 (t : Tmo) : (Tryz.prog.info? 31).map (·.size) = some (tmC t).size := by kernel_rfl
theorem qkO (t : Tmo) : (tmC t).all (·.oneCell') = true := by kernel_rfl
theorem qaC (b : Blo) (A : Option Addr) (n c : Nat) (D : Option Addr) (m d : Nat) : (bloC b (.slice A n c) (.slice D m d)).all (·.oneCell') = true := by kernel_rfl
theorem build_tv (v : Int) (w : World) : (Instr.build 31 #[(1, .int .i64 v)]).run Tryz.prog w = .ok (.agg (tmC ⟨0, v, zeroC⟩)) w := run_build w _ _ _ (by kernel_rfl)
theorem qde (w : World) : (Instr.build 57 #[]).run Tryz.prog w = .ok (.agg (bloC zeroB nS0 nS0)) w := qch w
theorem qcB {P : Program} {ops : Array Oper} {rest : List Oper} {op : Oper} {a : Act} {w : World} {Q : Exit -> Act -> World -> Prop} (hgd : op.guard = none) (ty : TypeId) (x y : Operand) (ho : op.op = .store ty x y)
 (b o : Nat) (cells : Array Value) (hx : a.eval x = .pointer (some ⟨b, o, none⟩)) (hy : a.eval y = .agg cells)
 (ht : w.there b o cells.size) (hi : (P.info? ty).map (·.size) = some cells.size) (h1 : cells.all (·.oneCell') = true)
 (h : ∀ w', w' = w.setCells b o cells.toList -> wpList P ops Q rest (a.put op.dst undef) w') : wpList P ops Q (op :: rest) a w :=
 wpList_store_mid hgd ty x y ho b o cells hx hy ht hi h1 (h _ rfl)
def arrV (N : Nat -> Int) (k : Nat) : Array Value := #[.int .i64 (if 0 < k then N 0 else 0), .int .i64 (if 1 < k then N 1 else 0), .int .i64 (if 2 < k then N 2 else 0), .int .i64 (if 3 < k then N 3 else 0)]
theorem arrV_at (N : Nat -> Int) : ∀ {k : Nat}, k < 4 -> (arrV N k)[k]? = some (.int .i64 0)
 | 0, _ => rfl
 | 1, _ => rfl
 | 2, _ => rfl
 | 3, _ => rfl
theorem arrV_set (N : Nat -> Int) : ∀ {k : Nat}, k < 4 -> (arrV N k).setIfInBounds k (.int .i64 (N k)) = arrV N (k + 1)
 | 0, _ => rfl
 | 1, _ => rfl
 | 2, _ => rfl
 | 3, _ => rfl
structure Db0 (w : World) (G : Nat) (N : Nat -> Int) (k : Nat) (W : World) : Prop where
 k2 : Blk W (w.heap.size + 1) 57 (bloC zeroB nS0 nS0)
 k3 : Blk W (w.heap.size + 2) 172 zC
 k4 : Blk W G 57 (bloC zeroB nS0 nS0)
 k5 : Blk W (G + 1) 196 (arrV N k)
 bw : Below w.heap.size w W
 hG : w.heap.size + 2 < G
structure Db1 (w : World) (G : Nat) (b : Blo) (P : Value) (W : World) : Prop where
 k2 : Blk W (w.heap.size + 1) 57 (bloC zeroB nS0 nS0)
 k3 : Blk W (w.heap.size + 2) 172 zC
 k4 : Blk W G 57 (bloC b P nS0)
 rp : W.ownsRow (G + 1) 31 10 P b.proof.length (b.proof.flatMap tmL)
 bw : Below w.heap.size w W
 hG : w.heap.size + 2 < G
structure Db2 (w : World) (G BT : Nat) (b : Blo) (A : Option Addr) (c : Nat) (T : Value) (W : World) : Prop where
 k2 : Blk W (w.heap.size + 1) 57 (bloC zeroB nS0 nS0)
 k3 : Blk W (w.heap.size + 2) 172 zC
 k4 : Blk W G 57 (bloC b (.slice A b.proof.length c) T)
 rd : Rd tmL 10 W A b.proof
 ra : ∀ ad, A = some ad -> G + 1 <= ad.block /\ ad.block < BT
 rt : W.ownsRow BT 133 7 T b.txs.length (b.txs.flatMap txL)
 bw : Below w.heap.size w W
 hG : w.heap.size + 2 < G
 hB : G + 1 <= BT
section
variable {w W W' : World} {G BT : Nat} {b : Blo} {P T : Value} {A : Option Addr} {c : Nat} {N : Nat -> Int} {k : Nat}
theorem Db0.turn {S : Nat -> Prop} (h : Db0 w G N k W) (ht : Turn S W W') (hs : ∀ k, S k -> w.heap.size <= k) (n1 : ¬ S (w.heap.size + 1)) (n2 : ¬ S (w.heap.size + 2)) (n4 : ¬ S G) (n5 : ¬ S (G + 1)) : Db0 w G N k W' :=
 ⟨ht.blk h.k2 n1, ht.blk h.k3 n2, ht.blk h.k4 n4, ht.blk h.k5 n5, h.bw.trans (ht.below hs h.bw.size), h.hG⟩
theorem Db1.turn {S : Nat -> Prop} (h : Db1 w G b P W) (ht : Turn S W W') (hs : ∀ k, S k -> w.heap.size <= k) (n1 : ¬ S (w.heap.size + 1)) (n2 : ¬ S (w.heap.size + 2)) (n4 : ¬ S G) (nr : ∀ g, P.ownBlock = some g -> ¬ S g) : Db1 w G b P W' :=
 ⟨ht.blk h.k2 n1, ht.blk h.k3 n2, ht.blk h.k4 n4, ht.row h.rp nr, h.bw.trans (ht.below hs h.bw.size), h.hG⟩
theorem Db2.turn {S : Nat -> Prop} (h : Db2 w G BT b A c T W) (ht : Turn S W W') (hs : ∀ k, S k -> w.heap.size <= k) (n1 : ¬ S (w.heap.size + 1)) (n2 : ¬ S (w.heap.size + 2)) (n4 : ¬ S G) (na : ∀ ad, A = some ad -> ¬ S ad.block) (nr : ∀ g, T.ownBlock = some g -> ¬ S g) : Db2 w G BT b A c T W' :=
 ⟨ht.blk h.k2 n1, ht.blk h.k3 n2, ht.blk h.k4 n4, h.rd.kept ht na, h.ra, ht.row h.rt nr, h.bw.trans (ht.below hs h.bw.size), h.hG, h.hB⟩
theorem Db0.below (h : Db0 w G N k W) (hb : Below W.heap.size W W') : Db0 w G N k W' := h.turn (S := fun _ => False) (L6.Turn.of_keep hb) (fun _ h => h.elim) id id id id
theorem Db1.below (h : Db1 w G b P W) (hb : Below W.heap.size W W') : Db1 w G b P W' := h.turn (S := fun _ => False) (L6.Turn.of_keep hb) (fun _ h => h.elim) id id id (fun _ _ => id)
theorem Db2.below (h : Db2 w G BT b A c T W) (hb : Below W.heap.size W W') : Db2 w G BT b A c T W' := h.turn (S := fun _ => False) (L6.Turn.of_keep hb) (fun _ h => h.elim) id id id (fun _ _ => id) (fun _ _ => id)
theorem Db0.row (h : Db0 w G N k W) (cs : Array Value) : Db0 w G N k (W.setRow w.heap.size cs) := by
 have hG := h.hG
 exact h.turn (qaB W w.heap.size cs) (fun k e => by omega) (by omega) (by omega) (by omega) (by omega)
theorem Db1.row (h : Db1 w G b P W) (cs : Array Value) : Db1 w G b P (W.setRow w.heap.size cs) := by
 have hG := h.hG
 exact h.turn (qaB W w.heap.size cs) (fun k e => by omega) (by omega) (by omega) (by omega) (fun g e => by have := (h.rp.lt g e).1; omega)
theorem Db2.row (h : Db2 w G BT b A c T W) (cs : Array Value) : Db2 w G BT b A c T (W.setRow w.heap.size cs) := by
 have hG := h.hG
 have hB := h.hB
 exact h.turn (qaB W w.heap.size cs) (fun k e => by omega) (by omega) (by omega) (by omega) (fun ad e => by have := (h.ra ad e).1; omega) (fun g e => by have := (h.rt.lt g e).1; omega)
theorem Db1.far {S : Nat -> Prop} {H : Nat} (h : Db1 w G b P W) (ht : Turn S W W') (hS : ∀ k, S k -> k = H) (hH : G < H) (hr : ∀ g, P.ownBlock = some g -> g ≠ H) : Db1 w G b P W' := by
 have hG := h.hG
 exact h.turn ht (fun k e => by have := hS k e; omega) (fun e => by have := hS _ e; omega) (fun e => by have := hS _ e; omega) (fun e => by have := hS _ e; omega) (fun g e e2 => hr g e (hS g e2))
theorem Db2.far {S : Nat -> Prop} {H : Nat} (h : Db2 w G BT b A c T W) (ht : Turn S W W') (hS : ∀ k, S k -> k = H) (hH : BT <= H) (hr : ∀ g, T.ownBlock = some g -> g ≠ H) : Db2 w G BT b A c T W' := by
 have hG := h.hG
 have hB := h.hB
 exact h.turn ht (fun k e => by have := hS k e; omega) (fun e => by have := hS _ e; omega) (fun e => by have := hS _ e; omega) (fun e => by have := hS _ e; omega) (fun ad e e2 => by have := hS _ e2; have := (h.ra ad e).2; omega) (fun g e e2 => hr g e (hS g e2))
theorem Db0.put (h : Db0 w G N k W) (hk : k < 4) : Db0 w G N (k + 1) (W.setCell ⟨G + 1, k, none⟩ (.int .i64 (N k))) := by
 have hG := h.hG
 have ht : Turn (fun i => i = G + 1) W (W.setCell ⟨G + 1, k, none⟩ (.int .i64 (N k))) := qbE _ _ _ _
 refine ⟨ht.blk h.k2 (by omega), ht.blk h.k3 (by omega), ht.blk h.k4 (by omega), ?_, h.bw.trans (ht.below (fun i e => by omega) h.bw.size), hG⟩
 have := h.k5.set_ k (.int .i64 (N k))
 rw [arrV_set N hk] at this
 exact this
theorem Db0.nums (h : Db0 w G N k W) : Db1 w G ⟨N 0, N 1, N 2, N 3, zeroC, [], []⟩ nS0 ((((W.setCell ⟨G, 0, none⟩ (.int .i64 (N 0))).setCell ⟨G, 1, none⟩ (.int .i64 (N 1))).setCell ⟨G, 2, none⟩ (.int .i64 (N 2))).setCell ⟨G, 3, none⟩ (.int .i64 (N 3))) := by
 have hG := h.hG
 have t : ∀ (V : World) (i : Nat) (u : Value), Turn (fun i => i = G) V (V.setCell ⟨G, i, none⟩ u) := fun V i u => qbE _ _ _ _
 have ht := (((t W 0 (.int .i64 (N 0))).trans (t _ 1 (.int .i64 (N 1))) (fun _ h => .inl h)).trans (t _ 2 (.int .i64 (N 2))) (fun _ h => .inl h)).trans (t _ 3 (.int .i64 (N 3))) (fun _ h => .inl h)
 refine ⟨ht.blk h.k2 (by omega), ht.blk h.k3 (by omega), ?_, ⟨rfl, .inl ⟨rfl, rfl⟩⟩, h.bw.trans (ht.below (fun i e => by omega) h.bw.size), hG⟩
 exact (((h.k4.set_ 0 (.int .i64 (N 0))).set_ 1 (.int .i64 (N 1))).set_ 2 (.int .i64 (N 2))).set_ 3 (.int .i64 (N 3))
theorem Db1.par (h : Db1 w G b P W) (x : Crt) : Db1 w G { b with par := x } P (W.setCells G 4 (crtC x).toList) := by
 have hG := h.hG
 have ht := qcp G (crtC x).toList 4 W
 refine ⟨ht.blk h.k2 (by omega), ht.blk h.k3 (by omega), ?_, ht.row h.rp (fun g e => by have := (h.rp.lt g e).1; omega), h.bw.trans (ht.below (fun i e => by omega) h.bw.size), hG⟩
 have := qgi (crtC x).toList 4 h.k4
 rw [over_par] at this
 exact this
theorem Db1.app {x : Tmo} {P' : Value} (h : Db1 w G b P W) (hr : W'.ownsRow (G + 1) 31 10 P' (b.proof.length + 1) (b.proof.flatMap tmL ++ tmL x)) (hg : W.grownBy W' P.ownBlock) : Db1 w G { b with proof := b.proof ++ [x] } P' (W'.setCell ⟨G, 12, none⟩ P') := by
 have hG := h.hG
 have ht : Turn (fun i => P.ownBlock = some i) W W' := L6.Turn.of_grown hg (fun i e => e)
 have ht2 : Turn (fun i => i = G) W' (W'.setCell ⟨G, 12, none⟩ P') := qbE _ _ _ _
 have lo : ∀ i, P.ownBlock = some i -> G + 1 <= i := fun i e => (h.rp.lt i e).1
 refine ⟨ht2.blk (ht.blk h.k2 (fun e => by have := lo _ e; omega)) (by omega), ht2.blk (ht.blk h.k3 (fun e => by have := lo _ e; omega)) (by omega), ?_, ?_, (h.bw.trans (ht.below (fun i e => by have := lo i e; omega) h.bw.size)).trans (ht2.below (fun i e => by omega) (Nat.le_trans h.bw.size ht.size)), hG⟩
 ·exact (ht.blk h.k4 (fun e => by have := lo _ e; omega)).set_ 12 P'
 ·have := ht2.row hr (fun g e => by have := (hr.lt g e).1; omega)
  show World.ownsRow _ _ _ _ _ (b.proof ++ [x]).length ((b.proof ++ [x]).flatMap tmL)
  rw [List.length_append, List.flatMap_append]
  simpa using this
theorem Db1.up (h : Db1 w G b P W) (hx : b.txs = []) : ∃ A c, P = .slice A b.proof.length c /\ Db2 w G W.heap.size b A c nS0 W := by
 obtain ⟨A, c, rfl, hrd, ha⟩ := Rd.of_row (f := tmL) (fun _ => rfl) h.rp
 exact ⟨A, c, rfl, h.k2, h.k3, h.k4, hrd, fun ad e => (ha ad e), ⟨by rw [hx]; rfl, .inl ⟨rfl, by rw [hx]; rfl⟩⟩, h.bw, h.hG, h.k4.lt⟩
theorem Db2.app {x : Txx} {T' : Value} (h : Db2 w G BT b A c T W) (hr : W'.ownsRow BT 133 7 T' (b.txs.length + 1) (b.txs.flatMap txL ++ txL x)) (hg : W.grownBy W' T.ownBlock) : Db2 w G BT { b with txs := b.txs ++ [x] } A c T' (W'.setCell ⟨G, 13, none⟩ T') := by
 have hG := h.hG
 have hB := h.hB
 have ht : Turn (fun i => T.ownBlock = some i) W W' := L6.Turn.of_grown hg (fun i e => e)
 have ht2 : Turn (fun i => i = G) W' (W'.setCell ⟨G, 13, none⟩ T') := qbE _ _ _ _
 have lo : ∀ i, T.ownBlock = some i -> BT <= i := fun i e => (h.rt.lt i e).1
 refine ⟨ht2.blk (ht.blk h.k2 (fun e => by have := lo _ e; omega)) (by omega), ht2.blk (ht.blk h.k3 (fun e => by have := lo _ e; omega)) (by omega), ?_, (h.rd.kept ht (fun ad e e2 => by have := lo _ e2; have := (h.ra ad e).2; omega)).kept ht2 (fun ad e e2 => by have := (h.ra ad e).1; omega), h.ra, ?_, (h.bw.trans (ht.below (fun i e => by have := lo i e; omega) h.bw.size)).trans (ht2.below (fun i e => by omega) (Nat.le_trans h.bw.size ht.size)), hG, hB⟩
 ·exact (ht.blk h.k4 (fun e => by have := lo _ e; omega)).set_ 13 T'
 ·have := ht2.row hr (fun g e => by have := (hr.lt g e).1; omega)
  show World.ownsRow _ _ _ _ _ (b.txs ++ [x]).length ((b.txs ++ [x]).flatMap txL)
  rw [List.length_append, List.flatMap_append]
  simpa using this
theorem Db2.lies (h : Db2 w G BT b A c T W) : ∃ D d, T = .slice D b.txs.length d /\ Rd txL 7 W D b.txs /\ ∀ ad, D = some ad -> BT <= ad.block := by
 obtain ⟨D, d, rfl, hrd, ha⟩ := Rd.of_row (f := txL) (fun _ => rfl) h.rt
 exact ⟨D, d, rfl, hrd, fun ad e => (ha ad e).1⟩
end
theorem docB_wf (p : List UInt8 × Int) : (docB p).wf := by
 have r1 : 0 <= mostV 10 (sPar p) /\ mostV 10 (sPar p) <= 10 := by unfold L3.mostV; split <;> omega
 have r2 : 0 <= mostV 8 (sTm p) /\ mostV 8 (sTm p) <= 8 := by unfold L3.mostV; split <;> omega
 have w1 := qeM (oneD (numV p)) (fun t : Tmo => t.wf) (fun q => ⟨qcy q, qcy p, qeQ (numS q)⟩) (nTm p) (sCnt p)
 have w2 := qeM takeT (fun t : Txx => t.wf 1000000) (fun q => qjA q) (nTx p) (sCnx p)
 have l1 := qbh (oneD (numV p)) (nTm p) (sCnt p)
 have l2 := qbh takeT (nTx p) (sCnx p)
 have n1 : nTm p <= 10 := by unfold nTm; omega
 have n2 : nTx p <= 8 := by unfold nTx; omega
 have i0 := qcy p
 have i1 := qcy (numS p)
 have i2 := qcy (numS (numS p))
 have i3 := qcy (numS (numS (numS p)))
 have hc := qeQ (rS p)
 unfold docB
 generalize listG (oneD (numV p)) (nTm p) (sCnt p) = L1 at w1 l1 ⊢
 generalize listG takeT (nTx p) (sCnx p) = L2 at w2 l2 ⊢
 generalize numV p = v0 at i0 ⊢
 generalize numV (numS p) = v1 at i1 ⊢
 generalize numV (numS (numS p)) = v2 at i2 ⊢
 generalize numV (numS (numS (numS p))) = v3 at i3 ⊢
 generalize (takeC (rS p)).1 = c at hc ⊢
 exact ⟨i0, i1, i2, i3, hc, w1, w2, by show L1.length <= 1000; omega, by show L2.length <= 1000; omega⟩
def tookB (z : Blo × (List UInt8 × Int)) (w : World) (e : Ending) (w' : World) : Prop :=
 ∃ E P T, e = .returned (.tuple #[.agg (bloC z.1 P T), .agg (rC z.2.1 E)]) /\ okE E z.2 /\ LiesF w.heap.size w' z.1 P T /\ Below w.heap.size w w'
end Go.Proofs.YtomaaidhmccngaaGreatDoor
namespace Go.Proofs.YtomaaidhmccngaaGreatDoor
open Go.RowKit Go.Maps Go.Lib
open L3 (Blk Reads numS failS rdN mostS mostV textS textV doneV)
open L6 (Turn)
open L11 (Crt zeroC crtC crtL crtInfo qal mayV takeC wpList_store_row qac below_setRow qah)
theorem qkr (v : Int) (n : Nat) (s : List UInt8 × Int) : listG (oneD v) (n + 1) s = listG (oneD v) n s ++ [(⟨numV (itG (oneD v) n s), v, (takeC (numS (itG (oneD v) n s))).1⟩ : Tmo)] := qbI (oneD v) n s
theorem qlw {b : Blo} {q : List UInt8 × Int} (h : q.2 ≠ 0) : endDB b q = (zeroB, q) := by unfold endDB; rw [if_pos h]
theorem endDB_no {b : Blo} {q : List UInt8 × Int} (h : q.2 = 0) (hc : checkV b ≠ 0) : endDB b q = (zeroB, failS (checkV b) q) := by unfold endDB; rw [if_neg (fun h1 => h1 h), if_pos hc]
theorem endDB_ok {b : Blo} {q : List UInt8 × Int} (h : q.2 = 0) (hc : checkV b = 0) : endDB b q = (b, q) := by unfold endDB; rw [if_neg (fun h1 => h1 h), if_neg (fun h1 => h1 hc)]
theorem qblk_doc (p : List UInt8 × Int) (E : Int) (w : World) (h : okE E p) : Calls Tryz.prog 135 #[.agg (rC p.1 E)] w (tookB (takeDB p) w) := by
 have Z := hid (qee w 172 57 172 (rC p.1 E) (bloC zeroB nS0 nS0) zC)
 have hdoc : docB p = ⟨numV (L11.nS 0 p), numV (L11.nS 1 p), numV (L11.nS 2 p), numV (L11.nS 3 p), (takeC (L11.nS 4 p)).1, listG (oneD (numV (L11.nS 0 p))) (nTm p) (sCnt p), listG takeT (nTx p) (sCnx p)⟩ := rfl
 have hpar : sPar p = (takeC (L11.nS 4 p)).2 := rfl
 have hwfd := docB_wf p
 have htk : takeDB p = endDB (docB p) (sTx p) := rfl
 obtain ⟨N, hN⟩ : ∃ N : Nat -> Int, N = fun j => numV (L11.nS j p) := ⟨_, rfl⟩
 obtain ⟨Q, hQ⟩ : ∃ Q : Nat -> List UInt8 × Int, Q = fun j => L11.nS j p := ⟨_, rfl⟩
 have C0 := hid (show ∀ k W E, okE E (Q k) -> Calls Tryz.prog 165 #[.agg (rC (Q k).1 E)] W (leads (fun E' => .tuple #[.int .i64 (N k), .agg (rC (Q (k + 1)).1 E')]) (Q (k + 1)) W) from fun k W E h => by rw [hQ] at h; rw [hN, hQ]; exact qcI (L11.nS k p) E W h)
 obtain ⟨c, hc⟩ := nm ((takeC (Q 4)).1)
 obtain ⟨s1, hs1⟩ := nm ((takeC (Q 4)).2)
 have C1 := hid (show ∀ W E, okE E (Q 4) -> Calls Tryz.prog 166 #[.agg (rC (Q 4).1 E)] W (leads (fun E' => .tuple #[.agg (crtC c), .agg (rC s1.1 E')]) s1 W) from fun W E h => by rw [hc, hs1]; exact qh5 (Q 4) E W h)
 obtain ⟨n, hn⟩ := Int.eq_ofNat_of_zero_le (show 0 <= mostV 10 s1 by unfold L3.mostV; split <;> omega)
 have hn10 : n <= 10 := by have : mostV 10 s1 <= 10 := by { unfold L3.mostV; split <;> omega }; omega
 obtain ⟨s2, hs2⟩ := nm (mostS 10 s1)
 have C2 := hid (show ∀ W E, okE E s1 -> Calls Tryz.prog 167 #[.agg (rC s1.1 E), .int .i64 10] W (leads (fun E' => .tuple #[.int .i64 n, .agg (rC s2.1 E')]) s2 W) from fun W E h => by have := qfV s1 E 10 W h (by omega) (by omega); rw [hn, <- hs2] at this; exact this)
 obtain ⟨v, hv⟩ := nm (N 0)
 obtain ⟨J, hJ⟩ : ∃ J : Nat -> List UInt8 × Int, J = fun k => itG (oneD v) k s2 := ⟨_, rfl⟩
 obtain ⟨F, hF⟩ : ∃ F : Nat -> List Tmo, F = fun k => listG (oneD v) k s2 := ⟨_, rfl⟩
 have hJ0 : J 0 = s2 := by rw [hJ]; rfl
 have hF0 : F 0 = [] := by rw [hF]; rfl
 have HJ := hid (show ∀ k, J (k + 1) = (takeC (numS (J k))).2 /\ F (k + 1) = F k ++ [(⟨numV (J k), v, (takeC (numS (J k))).1⟩ : Tmo)] /\ (F k).length = k from fun k => by rw [hJ, hF]; exact ⟨rfl, qkr v k s2, qbh _ _ _⟩)
 obtain ⟨m, hm⟩ := Int.eq_ofNat_of_zero_le (show 0 <= mostV 8 (J n) by unfold L3.mostV; split <;> omega)
 have hm8 : m <= 8 := by have : mostV 8 (J n) <= 8 := by { unfold L3.mostV; split <;> omega }; omega
 obtain ⟨s4, hs4⟩ := nm (mostS 8 (J n))
 have C3 := hid (show ∀ W E, okE E (J n) -> Calls Tryz.prog 167 #[.agg (rC (J n).1 E), .int .i64 8] W (leads (fun E' => .tuple #[.int .i64 m, .agg (rC s4.1 E')]) s4 W) from fun W E h => by have := qfV (J n) E 8 W h (by omega) (by omega); rw [hm, <- hs4] at this; exact this)
 obtain ⟨K, hK⟩ : ∃ J : Nat -> List UInt8 × Int, J = fun k => itG takeT k s4 := ⟨_, rfl⟩
 obtain ⟨X, hX⟩ : ∃ F : Nat -> List Txx, F = fun k => listG takeT k s4 := ⟨_, rfl⟩
 have hK0 : K 0 = s4 := by rw [hK]; rfl
 have hX0 : X 0 = [] := by rw [hX]; rfl
 have HK := hid (show ∀ k, K (k + 1) = (takeT (K k)).2 /\ X (k + 1) = X k ++ [(takeT (K k)).1] /\ (X k).length = k from fun k => by rw [hK, hX]; exact ⟨rfl, qbI _ k s4, qbh _ _ _⟩)
 have hQ4 : Q 4 = L11.nS 4 p := by rw [hQ]
 have hsp : sPar p = s1 := by rw [hpar, hs1, hQ4]
 have hnt : nTm p = n := by unfold nTm; rw [hsp, hn]; rfl
 have hsc : sCnt p = s2 := by unfold sCnt; rw [hsp, hs2]
 have hv0 : v = numV p := by rw [hv, hN]; rfl
 have hst : sTm p = J n := by unfold sTm; rw [hnt, hsc, hJ, hv0]
 have hmt : nTx p = m := by unfold nTx; rw [hst, hm]; rfl
 have hsx : sCnx p = s4 := by unfold sCnx; rw [hst, hs4]
 have hstx : sTx p = K m := by unfold sTx; rw [hmt, hsx, hK]
 have hdb : docB p = ⟨N 0, N 1, N 2, N 3, c, F n, X m⟩ := by
  rw [hdoc, hnt, hsc, hmt, hsx, hF, hX, hv0, hN, hc, hQ4]
  rfl
 have HD := hid (show takeDB p = endDB ⟨N 0, N 1, N 2, N 3, c, F n, X m⟩ (K m) /\ Blo.wf ⟨N 0, N 1, N 2, N 3, c, F n, X m⟩ by rw [<- hdb, htk, hstx]; exact ⟨rfl, hwfd⟩)
 have hQ0 : Q 0 = p := by rw [hQ]; rfl
 have HV := hid hv
 rw [<- hQ0] at h Z ⊢
 have HP := hid hQ0
 clear hdoc hpar hwfd htk hN hQ hc hs1 hn hs2 hv hJ hF hm hs4 hK hX hQ4 hsp hnt hsc hv0 hst hmt hsx hstx hdb hQ0
 go_enter Tryz.func135, Tryz.ntmps135
 go_upto_region 1 with fail
 refine qab (fun w0 hw0 => ?_)
 have hA : Blk w0 w.heap.size 172 (rC (Q 0).1 E) /\ Blk w0 (w.heap.size + 1) 57 (bloC zeroB nS0 nS0) /\ Blk w0 (w.heap.size + 2) 172 zC /\ Below w.heap.size w w0 := by rw [hw0]; exact Z.out
 clear hw0 Z
 have HZ : Hid (Blk ((w0.alloc (.cells (bloC zeroB nS0 nS0) 57)).alloc (.cells (arrV N 0) 196)) w.heap.size 172 (rC (Q 0).1 E) /\ Db0 w w0.heap.size N 0 ((w0.alloc (.cells (bloC zeroB nS0 nS0) 57)).alloc (.cells (arrV N 0) 196))) := by
  have T2 := qcv w0 57 196 (bloC zeroB nS0 nS0) (arrV N 0)
  exact hid ⟨hA.1.below T2.2.2 hA.1.lt, hA.2.1.below T2.2.2 hA.2.1.lt, hA.2.2.1.below T2.2.2 hA.2.2.1.lt, T2.1, T2.2.1, nxt hA.2.2.2 T2.2.2, hA.2.2.1.lt⟩
 clear hA
 go_upto_region 3 with (first
  | (refine wpList_build rfl _ _ rfl #[] rfl (qde _) ?_)
  | (refine qaf rfl _ _ _ rfl _ (bloC zeroB nS0 nS0) rfl rfl _ _ (bloInfo12 _ _ _) rfl (qaC _ _ _ _ _ _ _) ?_))
 obtain ⟨G, hG⟩ := nm (w0.heap.size)
 have hZ := HZ.out
 rw [<- hG] at hZ
 rw [<- hG]
 refine qab (fun w1 hw1 => ?_)
 have hZ1 : Blk w1 w.heap.size 172 (rC (Q 0).1 E) /\ Db0 w G N 0 w1 := by rw [hw1]; exact hZ
 clear hw1 hZ HZ hG
 obtain ⟨hK1, hD1⟩ := hZ1
 go_wp2
 go_loopw [6] (fun i wr => ∃ (k : Nat) (E : Int), i = .int .i64 k /\ k <= 4 /\ okE E (Q k) /\ Blk wr w.heap.size 172 (rC (Q k).1 E) /\ Db0 w G N k wr) (fun i _ => 4 - (RowKit.intOf i).toNat)
 case atStart => exact ⟨0, E, rfl, Nat.zero_le _, h, hK1, hD1⟩
 case round =>
  obtain ⟨k, Ek, rfl, hk, hE, hKr, hD⟩ := hrel
  clear hK1 hD1 h
  by_cases hlt : k < 4
  ·go_wp2_with (first
    | (refine qaa rfl _ _ rfl w.heap.size rfl _ _ _ _ hKr Tryz.underlying172 rfl (rInfo _ _) ?_)
    | (go_at_call 165; refine (C0.out k _ _ hE).mono ?_; rintro e z ⟨E1, rfl, hE1, hb1⟩
       have hDz := hD.below hb1
       have oz : z.cell? ⟨G + 1, k, none⟩ = some (.int .i64 0) := (hDz.k5.cell k).trans (arrV_at N hlt)
       have fz := hDz.k5.frozen k
       have hGz := hDz.hG
       have hSz : Blk (z.setCell ⟨G + 1, k, none⟩ (.int .i64 (N k))) w.heap.size 172 (rC (Q k).1 Ek) := (hKr.below hb1 hKr.lt).far (by show w.heap.size ≠ G + 1; omega) _)
    | (refine wpList_store_row rfl _ _ _ rfl w.heap.size (rC (Q (k + 1)).1 E1) rfl rfl _ _ hSz (rInfo _ _) rfl (qap _ _) ?_))
   go_roundw
   case rel => exact ⟨k + 1, E1, by go_num, by omega, hE1, qac hSz, (hDz.put hlt).row _⟩
   case measure => simp [RowKit.intOf]; omega
  ·obtain rfl : k = 4 := by omega
   have a0 : wr.cell? ⟨G + 1, 0, none⟩ = some (.int .i64 (N 0)) := hD.k5.cell 0
   have a1 : wr.cell? ⟨G + 1, 1, none⟩ = some (.int .i64 (N 1)) := hD.k5.cell 1
   have a2 : wr.cell? ⟨G + 1, 2, none⟩ = some (.int .i64 (N 2)) := hD.k5.cell 2
   have a3 : wr.cell? ⟨G + 1, 3, none⟩ = some (.int .i64 (N 3)) := hD.k5.cell 3
   have o0 : wr.cell? ⟨G, 0, none⟩ = some (.int .i64 0) := hD.k4.cell 0
   have o1 : wr.cell? ⟨G, 1, none⟩ = some (.int .i64 0) := hD.k4.cell 1
   have o2 : wr.cell? ⟨G, 2, none⟩ = some (.int .i64 0) := hD.k4.cell 2
   have o3 : wr.cell? ⟨G, 3, none⟩ = some (.int .i64 0) := hD.k4.cell 3
   have f0 := hD.k4.frozen 0
   have f1 := hD.k4.frozen 1
   have f2 := hD.k4.frozen 2
   have f3 := hD.k4.frozen 3
   have hD5 := hD.nums
   have hGn := hD.hG
   have hK5 := (((hKr.far (p := ⟨G, 0, none⟩) (by show w.heap.size ≠ G; omega) (.int .i64 (N 0))).far (p := ⟨G, 1, none⟩) (by show w.heap.size ≠ G; omega) (.int .i64 (N 1))).far (p := ⟨G, 2, none⟩) (by show w.heap.size ≠ G; omega) (.int .i64 (N 2))).far (p := ⟨G, 3, none⟩) (by show w.heap.size ≠ G; omega) (.int .i64 (N 3))
   clear hD hKr
   go_upto_region 11 with fail
   refine qab (fun w5 hw5 => ?_)
   rw [<- hw5] at hD5 hK5
   clear hw5 a0 a1 a2 a3 o0 o1 o2 o3 f0 f1 f2 f3
   go_upto_region 12 with (first
    | (refine qaa rfl _ _ rfl w.heap.size rfl _ _ _ _ hK5 Tryz.underlying172 rfl (rInfo _ _) ?_)
    | (go_at_call 166; refine (C1.out _ _ hE).mono ?_; rintro e z1 ⟨E1, rfl, hE1, hb1⟩
       have hD6 := hD5.below hb1
       have hth : z1.there G 4 (crtC c).size := qha hD6.k4 (by show 4 + 8 <= 14; omega)
       have hK6 := (qcp G (crtC c).toList 4 z1).blk (hK5.below hb1 hK5.lt) (show ¬ w.heap.size = G by omega))
    | (refine qcB rfl _ _ _ rfl G 4 (crtC c) rfl rfl hth crtInfo (qal _) ?_
       rintro z1b hz1b
       have hD6b := hD6.par c
       rw [<- hz1b] at hD6b hK6
       clear hz1b
       refine wpList_store_row rfl _ _ _ rfl w.heap.size (rC s1.1 E1) rfl rfl _ _ hK6 (rInfo _ _) rfl (qap _ _) ?_))
   have hD7 := hD6b.row (rC s1.1 E1)
   have hK7 := qac (cs := rC s1.1 E1) hK6
   clear hth hD6 hD6b hK6 hb1 hD5 hK5 hE
   refine qab (fun w7 hw7 => ?_)
   rw [<- hw7] at hD7 hK7
   clear hw7
   go_upto_region 14 with (first
    | (refine qaa rfl _ _ rfl w.heap.size rfl _ _ _ _ hK7 Tryz.underlying172 rfl (rInfo _ _) ?_)
    | (go_at_call 167; refine (C2.out _ _ hE1).mono ?_; rintro e z2 ⟨E2, rfl, hE2, hb2⟩
       have hK8 := hK7.below hb2 hK7.lt)
    | (refine wpList_store_row rfl _ _ _ rfl w.heap.size (rC s2.1 E2) rfl rfl _ _ hK8 (rInfo _ _) rfl (qap _ _) ?_))
   have hD9 := (hD7.below hb2).row (rC s2.1 E2)
   have hK9 := qac (cs := rC s2.1 E2) hK8
   refine qab (fun w9 hw9 => ?_)
   rw [<- hw9] at hD9 hK9
   clear hw9 hD7 hK7 hb2 hK8 hE1
   rw [<- hJ0] at hE2 hK9
   have hD9' : Db1 w G ⟨N 0, N 1, N 2, N 3, c, F 0, []⟩ nS0 w9 := by rw [hF0]; exact hD9
   clear hD9 hJ0 hF0
   go_wp2
   obtain ⟨i0, hi, hz0, hz1, hz2⟩ := qjB
   go_loopw [8] (fun i wr => ∃ (k : Nat) (E : Int) (P : Value), i = .int .i64 k /\ k <= n /\ okE E (J k) /\ Blk wr w.heap.size 172 (rC (J k).1 E) /\ Db1 w G ⟨N 0, N 1, N 2, N 3, c, F k, []⟩ P wr) (fun i _ => n - (RowKit.intOf i).toNat)
   case atStart => exact ⟨0, E2, nS0, rfl, Nat.zero_le _, hE2, hK9, hD9'⟩
   case round =>
    obtain ⟨k, Ek, P, rfl, hk, hE, hKr, hD⟩ := hrel
    clear hD9' hK9 hE2
    by_cases hlt : k < n
    ·obtain ⟨j1, j2, j3⟩ := HJ.out k
     obtain ⟨za, hza⟩ := nm (J k)
     rw [<- hza] at hE hKr j1 j2
     obtain ⟨kz, hkz⟩ := nm (numV za)
     obtain ⟨zb, hzb⟩ := nm (numS za)
     obtain ⟨ck, hck⟩ := nm ((takeC zb).1)
     obtain ⟨zc, hzc⟩ := nm ((takeC zb).2)
     rw [<- hzb] at j1 j2
     rw [<- hkz, <- hck] at j2
     rw [<- hzc] at j1
     have D0 := hid (show ∀ W E, okE E za -> Calls Tryz.prog 165 #[.agg (rC za.1 E)] W (leads (fun E' => .tuple #[.int .i64 kz, .agg (rC zb.1 E')]) zb W) from fun W E h => by rw [hkz, hzb]; exact qcI za E W h)
     have D1 := hid (show ∀ W E, okE E zb -> Calls Tryz.prog 166 #[.agg (rC zb.1 E)] W (leads (fun E' => .tuple #[.agg (crtC ck), .agg (rC zc.1 E')]) zc W) from fun W E h => by rw [hck, hzc]; exact qh5 zb E W h)
     obtain ⟨L, hL⟩ := nm (F k)
     rw [<- hL] at hD j2 j3
     have HS := hid (And.intro j1 j2)
     have hLl : L.length <= 100 := by omega
     clear hza hkz hzb hck hzc hL j1 j2 j3
     have c0 : wr.cell? ⟨G, 0, none⟩ = some (.int .i64 v) := by rw [HV.out]; exact hD.k4.cell 0
     have hb1 := (Below.refl _ wr).alloc (Nat.le_refl _) (.cells (tmC ⟨0, v, zeroC⟩) 31)
     have hT1 := Blk.new wr 31 (tmC ⟨0, v, zeroC⟩)
     have hD1 := hD.below hb1
     have hK1 := hKr.below hb1 hKr.lt
     have hGH := hD.k4.lt
     have hrl : ∀ g, P.ownBlock = some g -> g ≠ wr.heap.size := fun g e => by have := (hD.rp.lt g e).2; omega
     obtain ⟨H, hH⟩ := nm (wr.heap.size)
     rw [<- hH] at hT1 hGH hrl
     have HH := hid hH
     clear hD hKr hb1 hH
     go_upto_region 19 with (first
      | (refine wpList_build rfl _ _ rfl #[(1, .int .i64 v)] rfl (build_tv _ _) ?_)
      | (refine qaf rfl _ _ _ rfl wr (tmC ⟨0, v, zeroC⟩) rfl rfl _ _ (tmInfo12 _) rfl (qkO _) ?_))
     have hH := HH.out
     rw [<- hH]
     refine qab (fun y1 hy1 => ?_)
     rw [<- hy1] at hT1 hD1 hK1
     clear hy1 hH HH c0
     have hwG := hD1.hG
     go_upto_region 20 with (first
      | (refine qaa rfl _ _ rfl w.heap.size rfl _ _ _ _ hK1 Tryz.underlying172 rfl (rInfo _ _) ?_)
      | (go_at_call 165; refine (D0.out _ _ hE).mono ?_; rintro e y2 ⟨Ea, rfl, hEa, hba⟩
         have hK2 := hK1.below hba hK1.lt)
      | (refine wpList_store_row rfl _ _ _ rfl w.heap.size (rC zb.1 Ea) rfl rfl _ _ hK2 (rInfo _ _) rfl (qap _ _) ?_))
     have hK3 := qac (cs := rC zb.1 Ea) hK2
     have hD3 := (hD1.below hba).row (rC zb.1 Ea)
     have hT3 := qah (ds := rC zb.1 Ea) (hT1.below hba hT1.lt) (show w.heap.size ≠ H by omega)
     refine qab (fun y3 hy3 => ?_)
     rw [<- hy3] at hK3 hD3 hT3
     clear hy3 hK2 hK1 hD1 hT1 hba hE
     have o0 : y3.cell? ⟨H, 0, none⟩ = some (.int .i64 0) := hT3.cell 0
     have f0 := hT3.frozen 0
     have hT4 : Blk (y3.setCell ⟨H, 0, none⟩ (.int .i64 kz)) H 31 (tmC ⟨kz, v, zeroC⟩) := hT3.set_ 0 (.int .i64 kz)
     have hK4 := hK3.far (p := ⟨H, 0, none⟩) (by show w.heap.size ≠ H; omega) (.int .i64 kz)
     have hD4 := hD3.far (qbE y3 H 0 (.int .i64 kz)) (fun i e => e) hGH hrl
     clear hT3 hK3 hD3
     go_upto_region 21 with fail
     refine qab (fun y4 hy4 => ?_)
     rw [<- hy4] at hT4 hK4 hD4
     clear hy4 o0 f0
     go_upto_region 22 with (first
      | (refine qaa rfl _ _ rfl w.heap.size rfl _ _ _ _ hK4 Tryz.underlying172 rfl (rInfo _ _) ?_)
      | (go_at_call 166; refine (D1.out _ _ hEa).mono ?_; rintro e y5 ⟨Eb, rfl, hEb, hbb⟩
         have hT5 := hT4.below hbb hT4.lt
         have hth : y5.there H 2 (crtC ck).size := qha hT5 (by show 2 + 8 <= 10; omega)
         have hK5 := (qcp H (crtC ck).toList 2 y5).blk (hK4.below hbb hK4.lt) (show ¬ w.heap.size = H by omega))
      | (refine qcB rfl _ _ _ rfl H 2 (crtC ck) rfl rfl hth crtInfo (qal _) ?_
         rintro y5b hy5b
         have hT5b := qgi (crtC ck).toList 2 hT5
         have hD5b := (hD4.below hbb).far (qcp H (crtC ck).toList 2 y5) (fun i e => e) hGH hrl
         rw [<- hy5b] at hT5b hK5 hD5b
         clear hy5b
         refine wpList_store_row rfl _ _ _ rfl w.heap.size (rC zc.1 Eb) rfl rfl _ _ hK5 (rInfo _ _) rfl (qap _ _) ?_))
     have hT6 := qah (ds := rC zc.1 Eb) hT5b (show w.heap.size ≠ H by omega)
     rw [qmb] at hT6
     have hK6 := qac (cs := rC zc.1 Eb) hK5
     have hD6 := hD5b.row (rC zc.1 Eb)
     refine qab (fun y6 hy6 => ?_)
     rw [<- hy6] at hT6 hK6 hD6
     clear hy6 hth hK5 hT5 hT5b hD5b hT4 hK4 hD4 hbb hEa
     obtain ⟨x, hx⟩ : ∃ x : Tmo, x = ⟨kz, v, ck⟩ := ⟨_, rfl⟩
     have hT6' : Blk y6 H 31 (tmC x) := by rw [hx]; exact hT6
     rw [<- hx] at HS
     clear hT6 hx
     have c5 : y6.cell? ⟨G, 12, none⟩ = some P := hD6.k4.cell 12
     have hb7 := (Below.refl _ y6).alloc (Nat.le_refl _) (.cells (tmC x) 31)
     have hyb := Blk.new y6 31 (tmC x)
     have HD7 := hid (And.intro (hD6.below hb7) (hK6.below hb7 hK6.lt))
     have hr2 := (hD6.below hb7).rp
     have hs3 : G + 1 <= (y6.alloc (.cells (tmC x) 31)).heap.size := by have := hD6.k4.lt; have := hb7.size; omega
     clear hD6 hK6 hb7
     go_wp2_with (first
      | (refine qaa rfl _ _ rfl H rfl _ _ _ _ hT6' Tryz.underlying31 rfl (tmInfo12 _) ?_)
      | (refine wpList_buildSlice rfl _ _ _ rfl #[(0, .agg (tmC x))] rfl (qj7 x _) ?_)
      | (at_builtin; refine L3.qao _ rfl _ _ 32 rfl (G + 1) 31 i0 _ 10 72 Tryz.underlying32 hi hz0 hz1 hz2 rfl (by decide) P L.length (L.flatMap tmL) rfl hr2 (y6.heap.size + 1) (some ⟨y6.heap.size, 0, none⟩) 1 1 (tmL x) rfl (qbC (k := 10) rfl hyb) (qlY x) (by unfold maxLen; omega) (by omega) hs3 ?_
         intro v4 w4 hr4 hg4 hat4
         obtain ⟨A4, n4, rfl, hz4, hy4⟩ := L6.qav hr4
         clear hz4 hy4
         have hD8 := HD7.out.1.app hr4 hg4
         have hGg : ∀ g, P.ownBlock = some g -> G + 1 <= g := fun g e => (hr2.lt g e).1
         have hK8 := (L6.Turn.of_grown (S := fun i => P.ownBlock = some i) hg4 (fun i e => e)).blk HD7.out.2 (fun e => by have := hGg _ e; omega)
         have hk4 := (L6.Turn.of_grown (S := fun i => P.ownBlock = some i) hg4 (fun i e => e)).blk HD7.out.1.k4 (fun e => by have := hGg _ e; omega)
         have o12 : w4.cell? ⟨G, 12, none⟩ = some P := hk4.cell 12
         have f12 := hk4.frozen 12
         have hK9 := hK8.far (p := ⟨G, 12, none⟩) (by show w.heap.size ≠ G; omega) (.slice A4 (L.length + 1) n4)
         clear hr4 hg4 hat4 hk4 hK8 hGg))
     go_roundw
     case rel => exact ⟨k + 1, Eb, _, by go_num, by omega, by rw [HS.out.1]; exact hEb, by rw [HS.out.1]; exact hK9, by rw [HS.out.2]; exact hD8⟩
     case measure => simp [RowKit.intOf]; omega
    ·obtain rfl : k = n := by omega
     clear hlt hk
     go_upto_region 24 with (first
      | (refine qaa rfl _ _ rfl w.heap.size rfl _ _ _ _ hKr Tryz.underlying172 rfl (rInfo _ _) ?_)
      | (go_at_call 167; refine (C3.out _ _ hE).mono ?_; rintro e z3 ⟨E3, rfl, hE3, hb3⟩
         have hK3 := hKr.below hb3 hKr.lt)
      | (refine wpList_store_row rfl _ _ _ rfl w.heap.size (rC s4.1 E3) rfl rfl _ _ hK3 (rInfo _ _) rfl (qap _ _) ?_))
     have hD4 := (hD.below hb3).row (rC s4.1 E3)
     have hK4 := qac (cs := rC s4.1 E3) hK3
     refine qab (fun w11 hw11 => ?_)
     rw [<- hw11] at hD4 hK4
     clear hw11 hD hKr hb3 hK3 hE
     obtain ⟨A, ca, rfl, hD5⟩ := hD4.up rfl
     obtain ⟨BT, hBT⟩ := nm (w11.heap.size)
     rw [<- hBT] at hD5
     rw [<- hK0] at hE3 hK4
     have hD5' : Db2 w G BT ⟨N 0, N 1, N 2, N 3, c, F k, X 0⟩ A ca nS0 w11 := by rw [hX0]; exact hD5
     have hBT' : BT <= w11.heap.size := by omega
     clear hD4 hD5 hK0 hX0 hBT hi hz0 hz1 hz2
     go_wp2
     obtain ⟨j0, hj, hy0, hy1, hy2⟩ := qjC
     go_loopw [11] (fun i wr => ∃ (q : Nat) (E : Int) (T : Value), i = .int .i64 q /\ q <= m /\ okE E (K q) /\ Blk wr w.heap.size 172 (rC (K q).1 E) /\ Db2 w G BT ⟨N 0, N 1, N 2, N 3, c, F k, X q⟩ A ca T wr /\ BT <= wr.heap.size) (fun i _ => m - (RowKit.intOf i).toNat)
     case atStart => exact ⟨0, E3, nS0, rfl, Nat.zero_le _, hE3, hK4, hD5', hBT'⟩
     case round =>
      obtain ⟨q, Eq, T, rfl, hq, hE, hKr, hD, hBw⟩ := hrel
      clear hD5' hK4 hE3 hBT'
      by_cases hlt3 : q < m
      ·obtain ⟨j1, j2, j3⟩ := HK.out q
       obtain ⟨za, hza⟩ := nm (K q)
       rw [<- hza] at hE hKr j1 j2
       obtain ⟨x, hx⟩ := nm ((takeT za).1)
       obtain ⟨zc, hzc⟩ := nm ((takeT za).2)
       rw [<- hx] at j2
       rw [<- hzc] at j1
       have D0 := hid (show ∀ W E, okE E za -> Calls Tryz.prog 168 #[.agg (rC za.1 E)] W (leads (fun E' => .tuple #[.agg (txC x), .agg (rC zc.1 E')]) zc W) from fun W E h => by rw [hx, hzc]; exact qtx_any za E W h)
       obtain ⟨L, hL⟩ := nm (X q)
       rw [<- hL] at hD j2 j3
       have HS := hid (And.intro j1 j2)
       have hLl : L.length <= 100 := by omega
       clear hza hx hzc hL j1 j2 j3
       have hb1 := (Below.refl _ wr).alloc (Nat.le_refl _) (.cells (txC zeroX) 133)
       have hT1 := Blk.new wr 133 (txC zeroX)
       have hD1 := hD.below hb1
       have hK1 := hKr.below hb1 hKr.lt
       have hrl : ∀ g, T.ownBlock = some g -> g ≠ wr.heap.size := fun g e => by have := (hD.rt.lt g e).2; omega
       obtain ⟨H, hH⟩ := nm (wr.heap.size)
       rw [<- hH] at hT1 hrl hBw
       have HH := hid hH
       clear hD hKr hb1 hH
       go_upto_region 28 with (first
        | (refine wpList_build rfl _ _ rfl #[] rfl (qax _) ?_)
        | (refine qaf rfl _ _ _ rfl wr (txC zeroX) rfl rfl _ _ txInfo8 rfl (qbo _) ?_))
       have hH := HH.out
       rw [<- hH]
       refine qab (fun y1 hy1 => ?_)
       rw [<- hy1] at hT1 hD1 hK1
       clear hy1 hH HH
       have hwG := hD1.hG
       have hGB := hD1.hB
       go_upto_region 29 with (first
        | (refine qaa rfl _ _ rfl w.heap.size rfl _ _ _ _ hK1 Tryz.underlying172 rfl (rInfo _ _) ?_)
        | (go_at_call 168; refine (D0.out _ _ hE).mono ?_; rintro e y2 ⟨Ea, rfl, hEa, hba⟩
           have hT2 := hT1.below hba hT1.lt
           have hK2 := qah (ds := txC x) (hK1.below hba hK1.lt) (show H ≠ w.heap.size by omega))
        | (refine wpList_store_row rfl _ _ _ rfl H (txC x) rfl rfl _ _ hT2 txInfo8 rfl (qbo _) ?_
           refine wpList_store_row rfl _ _ _ rfl w.heap.size (rC zc.1 Ea) rfl rfl _ _ hK2 (rInfo _ _) rfl (qap _ _) ?_))
       have hK3 := qac (cs := rC zc.1 Ea) hK2
       have hD3 := ((hD1.below hba).far (qaB y2 H (txC x)) (fun i e => e) hBw hrl).row (rC zc.1 Ea)
       have hT3 := qah (ds := rC zc.1 Ea) (qac (cs := txC x) hT2) (show w.heap.size ≠ H by omega)
       refine qab (fun y3 hy3 => ?_)
       rw [<- hy3] at hK3 hD3 hT3
       clear hy3 hK2 hK1 hD1 hT1 hT2 hba hE
       have c5 : y3.cell? ⟨G, 13, none⟩ = some T := hD3.k4.cell 13
       have hb7 := (Below.refl _ y3).alloc (Nat.le_refl _) (.cells (txC x) 133)
       have hyb := Blk.new y3 133 (txC x)
       have HD7 := hid (And.intro (hD3.below hb7) (hK3.below hb7 hK3.lt))
       have hr2 := (hD3.below hb7).rt
       have hHl := hT3.lt
       have hs3 : BT <= (y3.alloc (.cells (txC x) 133)).heap.size := by have := hb7.size; omega
       clear hD3 hK3 hb7 hHl
       go_wp2_with (first
        | (refine qaa rfl _ _ rfl H rfl _ _ _ _ hT3 Tryz.underlying133 rfl txInfo8 ?_)
        | (refine wpList_buildSlice rfl _ _ _ rfl #[(0, .agg (txC x))] rfl (qj8 x _) ?_)
        | (at_builtin; refine L3.qao _ rfl _ _ 55 rfl BT 133 j0 _ 7 88 Tryz.underlying55 hj hy0 hy1 hy2 rfl (by decide) T L.length (L.flatMap txL) rfl hr2 (y3.heap.size + 1) (some ⟨y3.heap.size, 0, none⟩) 1 1 (txL x) rfl (qbC (k := 7) rfl hyb) (qlZ x) (by unfold maxLen; omega) (by omega) hs3 ?_
           intro v4 w4 hr4 hg4 hat4
           obtain ⟨A4, n4, rfl, hz4, hy4⟩ := L6.qav hr4
           clear hz4 hy4
           have hD8 := HD7.out.1.app hr4 hg4
           have hGg : ∀ g, T.ownBlock = some g -> BT <= g := fun g e => (hr2.lt g e).1
           have hK8 := (L6.Turn.of_grown (S := fun i => T.ownBlock = some i) hg4 (fun i e => e)).blk HD7.out.2 (fun e => by have := hGg _ e; omega)
           have hk4 := (L6.Turn.of_grown (S := fun i => T.ownBlock = some i) hg4 (fun i e => e)).blk HD7.out.1.k4 (fun e => by have := hGg _ e; omega)
           have o13 : w4.cell? ⟨G, 13, none⟩ = some T := hk4.cell 13
           have f13 := hk4.frozen 13
           have hK9 := hK8.far (p := ⟨G, 13, none⟩) (by show w.heap.size ≠ G; omega) (.slice A4 (L.length + 1) n4)
           have hsz4 : BT <= w4.heap.size := Nat.le_trans hs3 hg4.size
           clear hr4 hg4 hat4 hk4 hK8 hGg))
       go_roundw
       case rel => exact ⟨q + 1, Ea, _, by go_num, by omega, by rw [HS.out.1]; exact hEa, by rw [HS.out.1]; exact hK9, by rw [HS.out.2]; exact hD8, by simpa [World.setCell] using hsz4⟩
       case measure => simp [RowKit.intOf]; omega
      ·obtain rfl : q = m := by omega
       go_upto_region 30 with fail
       clear hlt3 hq hj hy0 hy1 hy2
       obtain ⟨Dd, dd, rfl, hrdT, hraT⟩ := hD.lies
       have b1 : wr.cell? ⟨w.heap.size, 1, none⟩ = some (.int .i64 Eq) := hKr.cell 1
       obtain ⟨bd, hbd⟩ : ∃ b : Blo, b = ⟨N 0, N 1, N 2, N 3, c, F k, X q⟩ := ⟨_, rfl⟩
       rw [<- hbd] at HD hD hrdT
       have hD' : Db2 w G BT bd A ca (.slice Dd bd.txs.length dd) wr := by rw [hbd] at hD ⊢; exact hD
       rw [<- HP.out] at HD
       have hwG := hD'.hG
       have hGB := hD'.hB
       obtain ⟨qs, hqs⟩ := nm (K q)
       rw [<- hqs] at HD hE hKr
       clear hbd hD hqs HJ HK
       by_cases he : Eq = 0
       case neg =>
        have q1 : (Eq != 0) = true := by simpa using he
        have HF := hid (show takeDB (Q 0) = (zeroB, qs) by rw [HD.out.1, qlw (hE.dead he).1])
        clear he
        go_upto_region 31 with fail
        clear b1
        have hAd := hKr.below (Below.refl _ wr).drew hKr.lt
        have hDd := hD'.below (Below.refl _ wr).drew
        obtain ⟨wd, hwd⟩ := nm (wr.drew)
        rw [<- hwd] at hAd hDd
        refine qak (fun W => Blk W w.heap.size 172 (rC qs.1 Eq)) [0, 1] (by kernel_rfl) ?_
        rw [<- hwd]
        clear hwd
        refine qar (f := 2) (by kernel_rfl) (fun _ x _ _ _ h => by cases x <;> exact h) hAd [0, 1] _ _ (by kernel_rfl) (by kernel_rfl) (by kernel_rfl) ?_
        have ne : Nonempty (qad (fun W => Blk W w.heap.size 172 (rC qs.1 Eq))) := ⟨⟨_, hAd⟩⟩
        conv => arg 5; simp [pick]
        refine qa5 rfl _ _ rfl #[] rfl (v := .agg (bloC zeroB nS0 nS0)) (fun W => qde W) ?_
        conv => arg 6; simp only [Act.put, sA, sB, sC]
        refine qam rfl _ _ rfl w.heap.size rfl _ _ _ _ (fun y => y.h) Tryz.underlying172 rfl (rInfo _ _) ?_
        conv => arg 6; simp only [Act.put, sA, sB, sC]
        refine wpQuiet_nil ?_
        clear ne
        have kb := qah (ds := bloC zeroB nS0 nS0) hDd.k3 (show w.heap.size + 1 ≠ w.heap.size + 2 by omega)
        refine qag 2 (by kernel_rfl) rfl ?_
        go_wp2_with (refine wpList_store_row rfl _ _ _ rfl (w.heap.size + 1) (bloC zeroB nS0 nS0) rfl rfl _ _ hDd.k2 (bloInfo12 _ _ _) rfl (qaC _ _ _ _ _ _ _) ?_)
        refine stepQ.mk ⟨fun _ => qah hAd (by omega), ?_⟩
        refine qag 3 (by kernel_rfl) rfl ?_
        go_wp2_with (refine wpList_store_row rfl _ _ _ rfl (w.heap.size + 2) (rC qs.1 Eq) rfl rfl _ _ kb (rInfo _ _) rfl (qap _ _) ?_)
        refine stepQ.mk ⟨fun _ => qah (qah hAd (by omega)) (by omega), ?_⟩
        refine qaq [] _ _ _ (by kernel_rfl) ?_
        conv => arg 4; simp [pick]
        go_wp2_with fail
        (try simp only [Exit.inBlock, Exit.then, Act.put])
        refine bodyPost_ret (v := .tuple #[.agg (bloC zeroB nS0 nS0), .agg (rC qs.1 Eq)]) (qas rfl _ _ (w.heap.size + 1) (w.heap.size + 2) rfl rfl _ _ (bloC zeroB nS0 nS0) (rC qs.1 Eq) _ _ _ _ (qah (qac hDd.k2) (by omega)) (qac kb) Tryz.underlying57 rfl (bloInfo12 _ _ _) Tryz.underlying172 rfl (rInfo _ _)) rfl ?_
        rw [HF.out]
        exact ⟨Eq, nS0, nS0, rfl, hE, qbq _ _, below_setRow (below_setRow hDd.bw (Nat.le_succ _)) (by omega)⟩
       have q1 : (Eq != 0) = false := by simpa using he
       have hq0 : qs.2 = 0 := hE.alive he
       have hck := qfY bd A ca Dd dd wr HD.out.2 hD'.rd hrdT
       by_cases hc0 : checkV bd = 0
       case neg =>
        have q2 : (checkV bd != 0) = true := by simpa using hc0
        have hf := fun W => qbi qs Eq (checkV bd) W hE
        obtain ⟨QF, hQF⟩ := nm (failS (checkV bd) qs)
        rw [<- hQF] at hf
        have HF := hid (show takeDB (Q 0) = (zeroB, QF) by rw [HD.out.1, endDB_no hq0 hc0, hQF])
        obtain ⟨ce, hce⟩ := nm (checkV bd)
        rw [<- hce] at hck q2 hf
        have HFF := hid hf
        clear hf hQF hc0 hce he hq0
        go_wp2_with (first
         | (refine qaa rfl _ _ rfl G rfl _ _ _ _ hD'.k4 Tryz.underlying57 rfl (bloInfo12 _ _ _) ?_)
         | (go_at_call 36; refine hck.mono ?_; unfold gives; rintro e wc ⟨rfl, hbc⟩
            have hDc := hD'.below hbc
            have hKc := hKr.below hbc hKr.lt)
         | (refine wpList_build rfl _ _ rfl #[] rfl (qde _) ?_)
         | (refine qaa rfl _ _ rfl w.heap.size rfl _ _ _ _ hKc Tryz.underlying172 rfl (rInfo _ _) ?_)
         | (go_at_call 169; refine (HFF.out _).mono ?_; rintro e wf ⟨Ef, rfl, hEf, hbf⟩
            have hDf := hDc.below hbf
            have kb := qah (ds := bloC zeroB nS0 nS0) hDf.k3 (show w.heap.size + 1 ≠ w.heap.size + 2 by omega))
         | (refine wpList_store_row rfl _ _ _ rfl (w.heap.size + 1) (bloC zeroB nS0 nS0) rfl rfl _ _ hDf.k2 (bloInfo12 _ _ _) rfl (qaC _ _ _ _ _ _ _) ?_
            refine wpList_store_row rfl _ _ _ rfl (w.heap.size + 2) (rC QF.1 Ef) rfl rfl _ _ kb (rInfo _ _) rfl (qap _ _) ?_))
        (try simp only [Exit.inBlock, Exit.then, Act.put])
        refine bodyPost_ret (v := .tuple #[.agg (bloC zeroB nS0 nS0), .agg (rC QF.1 Ef)]) (qas rfl _ _ (w.heap.size + 1) (w.heap.size + 2) rfl rfl _ _ (bloC zeroB nS0 nS0) (rC QF.1 Ef) _ _ _ _ (qah (qac hDf.k2) (by omega)) (qac kb) Tryz.underlying57 rfl (bloInfo12 _ _ _) Tryz.underlying172 rfl (rInfo _ _)) rfl ?_
        rw [HF.out]
        exact ⟨Ef, nS0, nS0, rfl, hEf, qbq _ _, below_setRow (below_setRow hDf.bw (Nat.le_succ _)) (by omega)⟩
       rw [hc0] at hck
       have HF := hid (show takeDB (Q 0) = (bd, qs) by rw [HD.out.1, endDB_ok hq0 hc0])
       clear hc0 he hq0
       go_upto_region 35 with (first
        | (refine qaa rfl _ _ rfl G rfl _ _ _ _ hD'.k4 Tryz.underlying57 rfl (bloInfo12 _ _ _) ?_)
        | (go_at_call 36; refine hck.mono ?_; unfold gives; rintro e wc ⟨rfl, hbc⟩))
       clear b1 hck
       have hAd := (hKr.below hbc hKr.lt).below (Below.refl _ wc).drew (hKr.below hbc hKr.lt).lt
       have hDd := (hD'.below hbc).below (Below.refl _ wc).drew
       have hTd := (hrdT.below hbc).below (Below.refl _ wc).drew
       obtain ⟨wd, hwd⟩ := nm (wc.drew)
       rw [<- hwd] at hAd hDd hTd
       obtain ⟨P, hP⟩ : ∃ v : Value, v = .slice A bd.proof.length ca := ⟨_, rfl⟩
       obtain ⟨T, hT⟩ : ∃ v : Value, v = .slice Dd bd.txs.length dd := ⟨_, rfl⟩
       have hone : (bloC bd P T).all (·.oneCell') = true := by rw [hP, hT]; exact qaC _ _ _ _ _ _ _
       have hk4 := hDd.k4
       rw [<- hP, <- hT] at hk4
       have HPT := hid (And.intro hP hT)
       clear hP hT
       refine qak (fun W => Blk W w.heap.size 172 (rC qs.1 Eq) /\ Blk W G 57 (bloC bd P T)) [0, 1] (by kernel_rfl) ?_
       rw [<- hwd]
       clear hwd hbc
       refine qar (f := 2) (by kernel_rfl) (fun _ x _ _ _ h => by cases x <;> exact h) ⟨hAd, hk4⟩ [0, 1] _ _ (by kernel_rfl) (by kernel_rfl) (by kernel_rfl) ?_
       have ne : Nonempty (qad (fun W => Blk W w.heap.size 172 (rC qs.1 Eq) /\ Blk W G 57 (bloC bd P T))) := ⟨⟨_, hAd, hk4⟩⟩
       conv => arg 5; simp [pick]
       refine qam rfl _ _ rfl G rfl _ _ _ _ (fun y => y.h.2) Tryz.underlying57 rfl (bloInfo12 _ _ _) ?_
       conv => arg 6; simp only [Act.put, sA, sB, sC]
       refine qam rfl _ _ rfl w.heap.size rfl _ _ _ _ (fun y => y.h.1) Tryz.underlying172 rfl (rInfo _ _) ?_
       conv => arg 6; simp only [Act.put, sA, sB, sC]
       refine wpQuiet_nil ?_
       clear ne
       have kb := qah (ds := bloC bd P T) hDd.k3 (show w.heap.size + 1 ≠ w.heap.size + 2 by omega)
       refine qag 2 (by kernel_rfl) rfl ?_
       go_wp2_with (refine wpList_store_row rfl _ _ _ rfl (w.heap.size + 1) (bloC bd P T) rfl rfl _ _ hDd.k2 (bloInfo12 _ _ _) rfl hone ?_)
       refine stepQ.mk ⟨fun _ => ⟨qah hAd (by omega), qah hk4 (by omega)⟩, ?_⟩
       refine qag 3 (by kernel_rfl) rfl ?_
       go_wp2_with (refine wpList_store_row rfl _ _ _ rfl (w.heap.size + 2) (rC qs.1 Eq) rfl rfl _ _ kb (rInfo _ _) rfl (qap _ _) ?_)
       refine stepQ.mk ⟨fun _ => ⟨qah (qah hAd (by omega)) (by omega), qah (qah hk4 (by omega)) (by omega)⟩, ?_⟩
       refine qaq [] _ _ _ (by kernel_rfl) ?_
       conv => arg 4; simp [pick]
       go_wp2_with fail
       (try simp only [Exit.inBlock, Exit.then, Act.put])
       refine bodyPost_ret (v := .tuple #[.agg (bloC bd P T), .agg (rC qs.1 Eq)]) (qas rfl _ _ (w.heap.size + 1) (w.heap.size + 2) rfl rfl _ _ (bloC bd P T) (rC qs.1 Eq) _ _ _ _ (qah (qac hDd.k2) (by omega)) (qac kb) Tryz.underlying57 rfl (bloInfo12 _ _ _) Tryz.underlying172 rfl (rInfo _ _)) rfl ?_
       rw [HF.out]
       have t1 := qaB wd (w.heap.size + 1) (bloC bd P T)
       have t2 := qaB (wd.setRow (w.heap.size + 1) (bloC bd P T)) (w.heap.size + 2) (rC qs.1 Eq)
       have ra := hDd.ra
       refine ⟨Eq, P, T, rfl, hE, ⟨A, ca, Dd, dd, HPT.out.1, HPT.out.2, ?_, ?_, fun ad e => by have := (ra ad e).1; omega, fun ad e => by have := hraT ad e; omega⟩, below_setRow (below_setRow hDd.bw (Nat.le_succ _)) (by omega)⟩
       ·exact (hDd.rd.kept t1 (fun ad e => by have := (ra ad e).1; omega)).kept t2 (fun ad e => by have := (ra ad e).1; omega)
       ·exact (hTd.kept t1 (fun ad e => by have := hraT ad e; omega)).kept t2 (fun ad e => by have := hraT ad e; omega)
