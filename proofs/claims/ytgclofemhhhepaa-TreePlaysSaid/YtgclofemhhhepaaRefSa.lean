/-
  A block is the same as itself, by the document; the greatest Round that acts give a number is some number.
-/
import Derived.Test.YtgclofemhhhepaaRefT
import Derived.Test.YtgclofemhhhepaaActs
import Derived.Maps.AppendAt
import Derived.DeepKeys5
import Derived.Laws.StructEq
set_option linter.unusedSimpArgs false
set_option linter.unusedVariables false
set_option maxRecDepth 10000
namespace Go.Proofs.Ytgclofemhhhepaa
open Go.RowKit Go.Maps Go.Lib
open L3 (Blk Reads block_of_add add_of_add)
open L6 (Turn moreB fresh From In)

def crLs (y : Bl) : List Value := [.int .i64 0, .int .i64 y.p, .int .i64 0, .int .i64 y.pr, .int .i64 0, .int .i64 0, .int .u32 0, .int .u32 0]
def crAr (y : Bl) : Array Value := #[.int .i64 0, .int .i64 y.p, .int .i64 0, .int .i64 y.pr, .int .i64 0, .int .i64 0, .int .u32 0, .int .u32 0]
theorem crAr_eq (y : Bl) : (crAr y).toList = crLs y := rfl
theorem crtInfo1 : (Try.prog.info? 35).map (·.size) = some 8 := by kernel_rfl
theorem cellsCr : Try.prog.cellsOf 35 = 8 := by kernel_rfl
theorem cellsIn : Try.prog.cellsOf 3 = 1 := by kernel_rfl
theorem cellsU3 : Try.prog.cellsOf 33 = 1 := by kernel_rfl
theorem lits_int (d : Nat) {n : Int} (h : inI n) : Try.prog.keyLits (d + 1) 3 [.int .i64 n] = some [.int .i64 n] := by
  simp [Program.keyLits, Try.underlying3, h.lit]
theorem lits_u32 (d : Nat) : Try.prog.keyLits (d + 1) 33 [.int .u32 0] = some [.int .u32 0] := by
  have : (Lit.int .u32 0).wf = true := by kernel_rfl
  simp [Program.keyLits, Try.underlying33, this]
theorem lits_crt (d : Nat) (y : Bl) (h : y.wf) : ∃ l, Try.prog.keyLits (d + 2) 35 (crLs y) = some l := by
  have h0 : inI 0 := ⟨by omega, by omega⟩
  have h1 := h.p
  have h3 := h.pr
  unfold Program.keyLits
  simp only [Try.underlying35]
  rw [if_pos ⟨cellsCr.symm ▸ rfl, by kernel_rfl⟩]
  simp only [cellsIn, cellsU3, crLs, List.mapM_cons, List.mapM_nil, List.drop_zero, List.drop_succ_cons, List.take_succ_cons, List.take_zero, lits_int d h0, lits_int d h1, lits_int d h3, lits_u32 d]
  exact ⟨_, rfl⟩
theorem keyAt_crt (y : Bl) (h : y.wf) : ∃ l, keyOf Try.prog 35 (.agg (crAr y)) = some l := by
  have hkt : Try.prog.keyType 35 = true := by kernel_rfl
  have hf : (Value.agg (crAr y)).formed Try.prog 35 = true := by kernel_rfl
  have hsz : 1 ≤ Try.prog.types.size := of_decide_eq_true (by kernel_rfl)
  obtain ⟨l, hl⟩ := lits_crt (Try.prog.types.size - 1) y h
  rw [show Try.prog.types.size - 1 + 2 = Try.prog.types.size + 1 by omega] at hl
  unfold keyOf
  simp only [Try.underlying35, hkt, hf, Bool.and_self, if_true, Value.cells, crAr_eq, hl, Option.map_some]
  exact ⟨_, rfl⟩
theorem neq_self (y : Bl) (h : y.wf) (w : World) : (binOp .neq 35 (.agg (crAr y)) (.agg (crAr y))).run Try.prog w = .ok (.bool false) w := by
  obtain ⟨l, h1⟩ := keyAt_crt y h
  obtain ⟨r, hr, hi⟩ := run_equal_deep (P := Try.prog) w (m := 3) (by omega) (by kernel_rfl) (by kernel_rfl) h1 h1
  have : r = true := hi.2 rfl
  simp only [binOp, Sem.run_bind, hr, this, Result.andThen_ok, Sem.run_pure]
  rfl
theorem wpList_binop {P : Program} {ops : Array Oper} {rest : List Oper} {o : Oper} {a : Act} {w : World} {Q : Exit → Act → World → Prop} (hw : Region.wanted o (yielded ops a.tmps) = true) (op : BinOp) (t : TypeId) (x y : Operand) (u : TypeId) (ho : o.op = .binOp op t x y u) (xs ys : Array Value)
    (hx : a.eval x = .agg xs) (hy : a.eval y = .agg ys) (hm : P.eqGuardType P.depth t = false) {v : Value} (hrun : (binOp op t (.agg xs) (.agg ys)).run P w = .ok v w)
    (h : wpList P ops Q rest (a.put o.dst v) w) : wpList P ops Q (o :: rest) a w := by
  refine wpList_wanted hw fun _ hK => ?_
  unfold Oper.wp
  simp only [execOp, ho, hx, hy, Sem.run_bind, run_eqGuard_agg w op t x y xs ys hm, hrun, Result.andThen_ok, Sem.run_pure]
  exact hK _ _ h
theorem sub_crt {w : World} {g : Nat} {ty : TypeId} {y : Bl} (h : Blk w g ty (blC y)) : ∀ j u, (crLs y)[j]? = some u → w.cell? ((⟨g, 4, none⟩ : Addr).add j) = some u := by
  intro j u hj
  have h2 := h.cell (4 + j)
  have e : (⟨g, 4, none⟩ : Addr).add j = ⟨g, 4 + j, none⟩ := by unfold Addr.add; split <;> simp_all
  rw [e, h2]
  match j, hj with
  | 0, hj | 1, hj | 2, hj | 3, hj | 4, hj | 5, hj | 6, hj | 7, hj => exact hj
  | j + 8, hj => simp [crLs] at hj
theorem same10_nil (w : World) : Calls Try.prog 43 #[.slice none 0 0, .slice none 0 0] w (gives (.bool true) w) := by
  go_enter Try.func43, Try.ntmps43
  go_wp2
  go_loopw [5] (fun i wr => i = .int .i64 0 ∧ Below w.heap.size w wr) (fun _ _ => 0)
  case atStart => exact ⟨rfl, Below.refl _ _⟩
  case round =>
    obtain ⟨rfl, hb⟩ := hrel
    go_wp2
    go_ret
    exact ⟨rfl, hb⟩
set_option maxHeartbeats 4000000 in
set_option maxRecDepth 100000 in
theorem same_self (y : Bl) (h : y.wf) (w : World) : Calls Try.prog 33 #[.agg (blC y), .agg (blC y)] w (gives (.bool true) w) := by
  have HC := Lib.hid (fun W => neq_self y h W)
  have HT := Lib.hid (fun W => same10_nil W)
  clear h
  go_enter Try.func33, Try.ntmps33
  go_upto_region 1 with fail
  refine name_world (fun w0 hw0 => ?_)
  have k0 : Blk w0 w.heap.size 39 (blC y) := by rw [hw0]; exact (Blk.new _ _ _).alloc _
  have k1 : Blk w0 (w.heap.size + 1) 39 (blC y) := by rw [hw0]; simpa using Blk.new (w.alloc (.cells (blC y) 39)) 39 (blC y)
  have hb0 : Below w.heap.size w w0 := by rw [hw0]; exact ((Below.refl _ _).alloc (Nat.le_refl _) _).alloc (by simp) _
  clear hw0
  have x0 : w0.cell? ⟨w.heap.size, 0, none⟩ = some (.int .i64 y.v) := k0.cell 0
  have x1 : w0.cell? ⟨w.heap.size, 1, none⟩ = some (.int .i64 y.rd) := k0.cell 1
  have x2 : w0.cell? ⟨w.heap.size, 2, none⟩ = some (.int .i64 0) := k0.cell 2
  have x3 : w0.cell? ⟨w.heap.size, 3, none⟩ = some (.int .i64 0) := k0.cell 3
  have x12 : w0.cell? ⟨w.heap.size, 12, none⟩ = some (.slice none 0 0) := k0.cell 12
  have x13 : w0.cell? ⟨w.heap.size, 13, none⟩ = some (.slice none 0 0) := k0.cell 13
  have y0 : w0.cell? ⟨w.heap.size + 1, 0, none⟩ = some (.int .i64 y.v) := k1.cell 0
  have y1 : w0.cell? ⟨w.heap.size + 1, 1, none⟩ = some (.int .i64 y.rd) := k1.cell 1
  have y2 : w0.cell? ⟨w.heap.size + 1, 2, none⟩ = some (.int .i64 0) := k1.cell 2
  have y3 : w0.cell? ⟨w.heap.size + 1, 3, none⟩ = some (.int .i64 0) := k1.cell 3
  have y12 : w0.cell? ⟨w.heap.size + 1, 12, none⟩ = some (.slice none 0 0) := k1.cell 12
  have y13 : w0.cell? ⟨w.heap.size + 1, 13, none⟩ = some (.slice none 0 0) := k1.cell 13
  have px := sub_crt k0
  have py := sub_crt k1
  have K0 := Lib.hid k0
  clear k0 k1
  go_upto_region 3 with (first
    | (refine wpList_cells_at ?hw _ _ rfl ⟨w.heap.size, 4, none⟩ rfl (crLs y) _ px Try.underlying35 rfl crtInfo1 ?_
       case hw => rfl
       (try simp only [Act.put, List.setIfInBounds_toArray, List.set_cons_zero, List.set_cons_succ]))
    | (refine wpList_cells_at ?hw _ _ rfl ⟨w.heap.size + 1, 4, none⟩ rfl (crLs y) _ py Try.underlying35 rfl crtInfo1 ?_
       case hw => rfl
       (try simp only [Act.put, List.setIfInBounds_toArray, List.set_cons_zero, List.set_cons_succ]))
    | (refine wpList_binop ?hw _ _ _ _ _ rfl (crAr y) (crAr y) rfl rfl (by kernel_rfl) (HC.out _) ?_
       case hw => rfl
       (try simp only [Act.put, List.setIfInBounds_toArray, List.set_cons_zero, List.set_cons_succ]))
    | (go_at_call 43; refine (HT.out _).mono ?_; unfold gives; rintro e w2 ⟨rfl, hb2⟩)
    | go_in)
  have hbz := nxt hb0 hb2
  have k2 := K0.out.below hb2 K0.out.lt
  clear x0 x1 x2 x3 x12 x13 y0 y1 y2 y3 y12 y13 px py hb2 K0
  go_wp2
  go_loopw [5] (fun i wr => i = .int .i64 0 ∧ Below w2.heap.size w2 wr) (fun _ _ => 0)
  case atStart => exact ⟨rfl, Below.refl _ _⟩
  case round =>
    obtain ⟨rfl, hb⟩ := hrel
    have z12 : wr.cell? ⟨w.heap.size, 12, none⟩ = some (.slice none 0 0) := (k2.below hb k2.lt).cell 12
    have hbn := nxt hbz hb
    clear k2 hbz hb
    go_wp2
    go_ret
    exact ⟨rfl, hbn⟩
/-! The greatest Round that acts give a number -/
theorem Acts.at_ {w : World} {A : Option Addr} {n : Nat} {D : Nat → Actx} (h : Acts w A n D) {k : Nat} (hk : k < n) : ∃ ad, A = some ad ∧ ad.block < w.heap.size ∧ w.cell? (ad.add (k * 4)) = some (.int .i64 (D k).kind) ∧ w.cell? ⟨(ad.add (k * 4)).block, (ad.add (k * 4)).off + 1, none⟩ = some (.int .i64 (D k).n) ∧ w.cell? ⟨(ad.add (k * 4)).block, (ad.add (k * 4)).off + 2, none⟩ = some (.int .i64 (D k).rd) ∧ w.cell? ⟨(ad.add (k * 4)).block, (ad.add (k * 4)).off + 3, none⟩ = some (.int .i64 (D k).par) := by
  obtain ⟨ad, hA, hl, h0, h1, h2, h3, _⟩ := h k hk
  rw [← add_of_add, add_posR _ _ (by decide)] at h1 h2 h3
  exact ⟨ad, hA, hl, h0, h1, h2, h3⟩
def roundV (D : Nat → Actx) (n : Int) : Nat → Int
  | 0 => 0
  | k + 1 => if (D k).kind = 0 ∧ (D k).n = n then (if roundV D n k < (D k).rd then (D k).rd else roundV D n k) else roundV D n k
set_option maxHeartbeats 4000000 in
set_option maxRecDepth 100000 in
theorem round_any (A : Option Addr) (z c : Nat) (D : Nat → Actx) (n : Int) (w : World) (h : Acts w A z D) (hz : z ≤ 1000000) :
    Calls Try.prog 9 #[.slice A z c, .int .i64 n] w (gives (.int .i64 (roundV D n z)) w) := by
  have HA := Lib.hid h
  obtain ⟨q, hq⟩ : ∃ q, q = roundV D n z := ⟨_, rfl⟩
  rw [← hq]
  have HQ := Lib.hid hq
  clear h hq
  go_enter Try.func9, Try.ntmps9
  go_wp2
  go_loopw [5, 6] (fun s i wr => ∃ (k : Nat) (r : Int), i = .int .i64 k ∧ s = .int .i64 r ∧ k ≤ z ∧ Hid (r = roundV D n k) ∧ Below w.heap.size w wr) (fun _ i _ => z - (RowKit.intOf i).toNat)
  case atStart => exact ⟨0, 0, rfl, rfl, Nat.zero_le _, Lib.hid rfl, Below.refl _ _⟩
  case round =>
    obtain ⟨k, r, rfl, rfl, hk, hR, hbw⟩ := hrel
    by_cases hlt : k < z
    · obtain ⟨ad, rfl, hadl, c0, c1, c2, c3⟩ := (HA.out.below hbw).at_ hlt
      have HRS := Lib.hid (show roundV D n (k + 1) = if (D k).kind = 0 ∧ (D k).n = n then (if roundV D n k < (D k).rd then (D k).rd else roundV D n k) else roundV D n k from rfl)
      obtain ⟨x, hx⟩ : ∃ x, x = D k := ⟨_, rfl⟩
      rw [← hx] at c0 c1 c2 c3 HRS
      clear hx c3
      by_cases h0 : x.kind = 0
      · have q0 : (x.kind == 0) = true := by simpa using h0
        by_cases h1 : x.n = n
        · have q1 : (x.n == n) = true := by simpa using h1
          have HR2 : Hid (roundV D n (k + 1) = if r < x.rd then x.rd else r) := Lib.hid (by rw [HRS.out, if_pos ⟨h0, h1⟩, hR.out])
          clear h0 h1 HRS
          go_wp2
          go_roundw
          case rel => exact ⟨k + 1, if r < x.rd then x.rd else r, by go_num, rfl, by omega, Lib.hid HR2.out.symm, hbw⟩
          case measure => simp [RowKit.intOf]; omega
        · have q1 : (x.n == n) = false := by simpa using h1
          have HR2 : Hid (roundV D n (k + 1) = r) := Lib.hid (by rw [HRS.out, if_neg (fun h => h1 h.2), hR.out])
          clear h0 h1 HRS
          go_wp2
          go_roundw
          case rel => exact ⟨k + 1, r, by go_num, rfl, by omega, Lib.hid HR2.out.symm, hbw⟩
          case measure => simp [RowKit.intOf]; omega
      · have q0 : (x.kind == 0) = false := by simpa using h0
        have HR2 : Hid (roundV D n (k + 1) = r) := Lib.hid (by rw [HRS.out, if_neg (fun h => h0 h.1), hR.out])
        clear h0 HRS
        go_wp2
        go_roundw
        case rel => exact ⟨k + 1, r, by go_num, rfl, by omega, Lib.hid HR2.out.symm, hbw⟩
        case measure => simp [RowKit.intOf]; omega
    · obtain rfl : k = z := by omega
      have HE : Hid (r = q) := Lib.hid (hR.out.trans HQ.out.symm)
      go_wp2
      go_ret
      exact ⟨by rw [HE.out]; rfl, hbw⟩
end Go.Proofs.Ytgclofemhhhepaa
