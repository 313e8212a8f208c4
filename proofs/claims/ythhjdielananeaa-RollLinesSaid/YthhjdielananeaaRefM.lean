/-
  Which entries may be, and the line of one, of the document's answer: as the program.
-/
import Derived.Test.YthhjdielananeaaRefD
import Derived.Test.YthhjdielananeaaEnt
import Derived.Test.YthhjdielananeaaL3RefWire
import Derived.Deep.RegionHeld3
import Derived.Laws.StructEq
set_option linter.unusedSimpArgs false
set_option linter.unusedVariables false
set_option maxRecDepth 10000
namespace Go.Proofs.Ythhjdielananeaa
open Go.RowKit Go.Lib
open L3 (Blk Reads block_of_add add_of_add)
open L6 (Turn moreB fresh From In)

theorem rInfo : (Try.prog.info? 34).map (·.size) = some 3 := by kernel_rfl
/-- An entry isn't unlike itself. -/
theorem eqlE (x : Ent) (w : World) : (binOp .eql 34 (.agg (enC x)) (.agg (enC x))).run Try.prog w = .ok (.bool true) w := by
  have h := run_equalIn_agg (P := Try.prog) w 9999 34 (enC x) (enC x) (by kernel_rfl) (by kernel_rfl)
  rw [run_eql_struct, show (10000 : Nat) = 9999 + 1 from rfl, h]
  have e := fun (d : Nat) (a : Int) W => run_equalIn_int (P := Try.prog) W d 3 .i64 .i64 a a Try.underlying3
  have e1 := fun (d : Nat) (a : Int) W => run_equalIn_int (P := Try.prog) W d 2 .i64 .i64 a a Try.underlying2
  have e2 := fun (d : Nat) (a : ByteArray) W => run_equalIn_string (P := Try.prog) W d 9 a a Try.underlying9
  simp [Program.fieldsOf, Try.underlying34, Op.eqFields, part, enC, Try.isAgg3, Try.isAgg2, Try.isAgg9, e, e1, e2]
theorem wpList_binop {P : Program} {ops : Array Oper} {rest : List Oper} {o : Oper} {a : Act} {w : World} {Q : Exit → Act → World → Prop} (hw : Region.wanted o (yielded ops a.tmps) = true) (op : BinOp) (t : TypeId) (x y : Operand) (u : TypeId) (ho : o.op = .binOp op t x y u) (xs ys : Array Value)
    (hx : a.eval x = .agg xs) (hy : a.eval y = .agg ys) (hm : P.eqGuardType P.depth t = false) {v : Value} (hrun : (binOp op t (.agg xs) (.agg ys)).run P w = .ok v w)
    (h : wpList P ops Q rest (a.put o.dst v) w) : wpList P ops Q (o :: rest) a w :=
  wpList_wanted hw fun _ hK => by
    unfold Oper.wp
    simp only [execOp, ho, hx, hy, Sem.run_bind, run_eqGuard_agg w op t x y xs ys hm, hrun, Result.andThen_ok, Sem.run_pure]
    exact hK _ _ h
set_option maxHeartbeats 4000000 in
set_option maxRecDepth 100000 in
theorem refmay_any (x : Ent) (w : World) (hf : x.fit) : Calls Try.prog 34 #[.agg (enC x)] w (gives (.int .i64 (mayE x)) w) := by
  obtain ⟨hn, hk, hb⟩ := hf
  have hb1 := below_new w (.cells (enC x) 34)
  have h0 := Blk.new w 34 (enC x)
  have c0 : (w.alloc (.cells (enC x) 34)).cell? ⟨w.heap.size, 0, none⟩ = some (.int .i64 x.num) := h0.cell 0
  have c1 : (w.alloc (.cells (enC x) 34)).cell? ⟨w.heap.size, 1, none⟩ = some (.int .i64 x.kind) := h0.cell 1
  have c2 : (w.alloc (.cells (enC x) 34)).cell? ⟨w.heap.size, 2, none⟩ = some (.string (str x.b)) := h0.cell 2
  obtain ⟨s, hs⟩ : ∃ s, s = str x.b := ⟨_, rfl⟩
  have hsn : s.size = x.b.length := by rw [hs, str_size]
  have hs9 : s.size ≤ maxLen := by rw [hsn]; exact hb
  unfold maxLen at hs9
  rw [← hs] at c2
  obtain ⟨z, hz⟩ : ∃ z, z = x.num := ⟨_, rfl⟩
  obtain ⟨q, hq⟩ : ∃ q, q = x.kind := ⟨_, rfl⟩
  rw [← hz] at c0
  rw [← hq] at c1
  obtain ⟨w1, hw1⟩ : ∃ w1, w.alloc (.cells (enC x) 34) = w1 := ⟨_, rfl⟩
  rw [hw1] at c0 c1 c2 hb1
  clear h0 hs
  have HB := Lib.hid hb1
  clear hb1
  by_cases hbad : z < 1 ∨ 4611686018427387904 < z ∨ q < 1 ∨ 2 < q
  · rw [mayE_arg (by rw [← hz, ← hq]; exact hbad)]
    have hcase : z < 1 ∨ (¬ z < 1 ∧ (4611686018427387904 < z ∨ (¬ 4611686018427387904 < z ∧ (q < 1 ∨ (¬ q < 1 ∧ 2 < q))))) := by omega
    clear hn hk hb hsn hz hq hs9 hbad
    rcases hcase with g1 | ⟨g1, g2 | ⟨g2, g3 | ⟨g3, g4⟩⟩⟩
    all_goals
      go_enter Try.func34, Try.ntmps34
      go_wp2
      go_ret
      exact ⟨rfl, HB.out⟩
  · have g1 : ¬ z < 1 := by omega
    have g2 : ¬ 4611686018427387904 < z := by omega
    have g3 : ¬ q < 1 := by omega
    have g4 : ¬ 2 < q := by omega
    by_cases hlen : 4194304 < s.size
    · have e : mayE x = 2 := by unfold mayE; rw [if_neg (by omega), if_pos (by omega)]
      rw [e]
      have g5 : 4194304 < (s.size : Int) := by omega
      clear hn hk hb hsn hz hq hs9 hbad hlen e
      go_enter Try.func34, Try.ntmps34
      go_wp2
      go_ret
      exact ⟨rfl, HB.out⟩
    · have e : mayE x = 0 := by unfold mayE; rw [if_neg (by omega), if_neg (by omega)]
      rw [e]
      have g5 : ¬ 4194304 < (s.size : Int) := by omega
      clear hn hk hb hsn hz hq hs9 hbad hlen e
      go_enter Try.func34, Try.ntmps34
      go_wp2
      go_ret
      exact ⟨rfl, HB.out⟩
theorem str_app (l m : List UInt8) : str l ++ str m = str (l ++ m) := L3.strOf_app l m
/-- What the last region's reads meet. -/
structure RlH (p : Nat) (q : Int) (b : ByteArray) (W : World) : Prop where
  k : W.cell? ⟨p, 1, none⟩ = some (.int .i64 q)
  s : W.cell? ⟨p, 2, none⟩ = some (.string b)
set_option maxHeartbeats 4000000 in
set_option maxRecDepth 100000 in
theorem refline_any (x : Ent) (w : World) (hf : x.fit) : Calls Try.prog 14 #[.agg (enC x)] w (gives (lineR x) w) := by
  have HM := Lib.hid (fun W => refmay_any x W hf)
  have hb1 := below_new w (.cells (enC x) 34)
  have k1 := Blk.new w 34 (enC x)
  obtain ⟨w1, hw1⟩ : ∃ w1, w.alloc (.cells (enC x) 34) = w1 := ⟨_, rfl⟩
  obtain ⟨p, hp⟩ : ∃ p, p = w.heap.size := ⟨_, rfl⟩
  rw [hw1] at hb1 k1
  rw [← hp] at k1
  have HP := Lib.hid hp
  have HB1 := Lib.hid hb1
  obtain ⟨n, hn⟩ : ∃ n, n = mayE x := ⟨_, rfl⟩
  rw [← hn] at HM
  by_cases hm : n = 0
  · have hm' : mayE x = 0 := by rw [← hn]; exact hm
    rw [lineR_ok hm']
    subst hm
    obtain ⟨h1, h2, h3, h4, h5⟩ := may_ok hm'
    obtain ⟨a, ha⟩ := Int.eq_ofNat_of_zero_le (show 0 ≤ x.num by omega)
    obtain ⟨b, hb⟩ := Int.eq_ofNat_of_zero_le (show 0 ≤ x.kind by omega)
    have HNUM := Lib.hid (fun W => L3.refnum_ok a W (by omega))
    have HK := Lib.hid (fun W => L3.refN_ok b W (by omega))
    have e1 : x.num.toNat = a := by rw [ha]; exact Int.toNat_natCast a
    have e2 : x.kind.toNat = b := by rw [hb]; exact Int.toNat_natCast b
    have hbl := bodyE_len hm'
    have HD := Lib.hid (fun W => refdress_any (bodyE x) W (by omega))
    have hdl := (dress_len (bodyE x)).2
    have hcat : L3.strOf (L3.encN a) ++ L3.strOf (L3.encN b) ++ str x.b = str (bodyE x) := by
      show str (L3.encN a) ++ str (L3.encN b) ++ str x.b = _
      rw [str_app, str_app]
      unfold bodyE
      rw [e1, e2]
    have hca2 : str (dress (bodyE x)) ++ str [0] = str (lineE x) := by rw [str_app]; rfl
    obtain ⟨s1, hs1⟩ : ∃ s1, s1 = L3.strOf (L3.encN a) := ⟨_, rfl⟩
    obtain ⟨s2, hs2⟩ : ∃ s2, s2 = L3.strOf (L3.encN b) := ⟨_, rfl⟩
    obtain ⟨s3, hs3⟩ : ∃ s3, s3 = str x.b := ⟨_, rfl⟩
    obtain ⟨s4, hs4⟩ : ∃ s4, s4 = str (dress (bodyE x)) := ⟨_, rfl⟩
    have z1 : s1.size ≤ 9 := by rw [hs1, L3.strOf_size]; exact L3.encN_le9 (by omega)
    have z2 : s2.size ≤ 9 := by rw [hs2, L3.strOf_size]; exact L3.encN_le9 (by omega)
    have z3 : s3.size ≤ 4194304 := by rw [hs3, str_size]; exact h5
    have z4 : s4.size ≤ 8388644 := by rw [hs4, str_size]; omega
    have z12 : (s1 ++ s2).size ≤ 18 := by rw [ByteArray.size_append]; omega
    rw [← hs1] at HNUM hcat
    rw [← hs2] at HK hcat
    rw [← hs3] at hcat
    rw [← hs4] at HD hca2
    rw [← hcat] at HD
    have j1 : ¬ 9223372036854775807 < s1.size + s2.size := by omega
    have j2 : ¬ 9223372036854775807 < (s1 ++ s2).size + s3.size := by omega
    have j3 : ¬ 9223372036854775807 < s4.size + 1 := by omega
    have j4 : ¬ 9223372036854775807 < s1.size + s2.size + s3.size := by omega
    have HC2 := Lib.hid hca2
    have c0 : w1.cell? ⟨p, 0, none⟩ = some (.int .i64 (a : Int)) := by rw [← ha]; exact k1.cell 0
    have HCL := Lib.hid (show ∀ W, Below w1.heap.size w1 W → RlH p (b : Int) s3 W from fun W hW => by
      have := k1.below hW k1.lt
      exact ⟨by rw [← hb]; exact this.cell 1, by rw [hs3]; exact this.cell 2⟩)
    clear hm' hn h1 h2 h3 h4 h5 ha hb e1 e2 hbl hdl hcat hca2 hs1 hs2 hs3 hs4 hp hb1 hf
    go_enter Try.func14, Try.ntmps14
    go_upto_region 1 with fail
    rw [← HP.out]
    clear hw1
    go_upto_region 4 with (first
      | (refine wpList_row_at rfl _ _ rfl p rfl _ _ _ _ k1 Try.underlying34 rfl rInfo ?_)
      | (go_at_call 34; refine (HM.out _).mono ?_; unfold gives; rintro e w2 ⟨rfl, hb2⟩; have c02 := (k1.below hb2 k1.lt).cell 0)
      | go_in)
    have c0' : w2.cell? ⟨p, 0, none⟩ = some (.int .i64 (a : Int)) := (hb2.cell (p := ⟨p, 0, none⟩) k1.lt).trans c0
    clear c02
    go_upto_region 5 with (first
      | (go_at_call 35; refine (HNUM.out _).mono ?_; rintro e w3 ⟨rfl, hb3⟩)
      | go_in)
    have HB3 := Lib.hid (nxt hb2 hb3)
    have h3 := HCL.out _ HB3.out
    have h3k := h3.k
    have h3s := h3.s
    have hbd : Below w1.heap.size w1 w3.drew := L6.below_drew HB3.out
    clear hb2 hb3 c0 c0' k1 HNUM HM
    go_region_held3 (fun wx => wx.cell? ⟨p, 1, none⟩ = some (.int .i64 (b : Int)) ∧ wx.cell? ⟨p, 2, none⟩ = some (.string s3))
      (first | exact ⟨by assumption, by assumption⟩ | exact ⟨(HCL.out _ (by assumption)).k, (HCL.out _ (by assumption)).s⟩)
      (first
        | (go_at_call 36; (with_reducible refine (HK.out _).mono ?_); rintro e w4 ⟨rfl, hb4⟩; have hbw4 : Below w1.heap.size w1 w4 := nxt hbd hb4; have d1 := (HCL.out _ hbw4).k; have d2 := (HCL.out _ hbw4).s)
        | (go_at_call 10; (with_reducible refine (HD.out _).mono ?_); unfold gives; rintro e w5 ⟨rfl, hb5⟩; have hbw5 : Below w1.heap.size w1 w5 := nxt hbw4 hb5; have f1 := (HCL.out _ hbw5).k; have f2 := (HCL.out _ hbw5).s))
    go_wp2
    go_ret2
    refine ⟨by rw [← HC2.out]; rfl, ?_⟩
    have hb1 := HB1.out
    exact nxt hb1 hbw5
  · have hlr := lineR_no (x := x) (n := n) hn.symm hm
    rw [hlr]
    have g1 : (n == 0) = false := by rw [beq_eq_false_iff_ne]; exact hm
    have g2 : (n != 0) = true := by rw [bne_iff_ne]; exact hm
    clear hn hm hlr hp hb1 hf
    go_enter Try.func14, Try.ntmps14
    go_upto_region 1 with fail
    rw [← HP.out]
    clear hw1
    go_wp2_with (first
      | (refine wpList_row_at rfl _ _ rfl p rfl _ _ _ _ k1 Try.underlying34 rfl rInfo ?_)
      | (go_at_call 34; refine (HM.out _).mono ?_; unfold gives; rintro e w2 ⟨rfl, hb2⟩)
      | go_in)
    go_ret2
    exact ⟨rfl, nxt HB1.out hb2⟩
end Go.Proofs.Ythhjdielananeaa
