/-
  There and back: the statement's walk.
-/
import Derived.Test.YthhjdielananeaaAlive
import Derived.Laws.StructEq
set_option linter.unusedSimpArgs false
set_option linter.unusedVariables false
set_option maxRecDepth 10000
namespace Go.Proofs.Ythhjdielananeaa
open Go.RowKit Go.Lib
open L3 (Blk Reads block_of_add add_of_add)
open L6 (Turn moreB fresh From In Apart)

/-- An entry isn't unlike itself. -/
theorem eqlE (x : Ent) (w : World) : (binOp .eql 34 (.agg (enC x)) (.agg (enC x))).run Try.prog w = .ok (.bool true) w := by
  have h := run_equalIn_agg (P := Try.prog) w 9999 34 (enC x) (enC x) (by kernel_rfl) (by kernel_rfl)
  rw [run_eql_struct, show (10000 : Nat) = 9999 + 1 from rfl, h]
  have e := fun (d : Nat) (a : Int) W => run_equalIn_int (P := Try.prog) W d 3 .i64 .i64 a a Try.underlying3
  have e1 := fun (d : Nat) (a : Int) W => run_equalIn_int (P := Try.prog) W d 2 .i64 .i64 a a Try.underlying2
  have e2 := fun (d : Nat) (a : ByteArray) W => run_equalIn_string (P := Try.prog) W d 9 a a Try.underlying9
  simp [Program.fieldsOf, Try.underlying34, Op.eqFields, part, enC, Try.isAgg3, Try.isAgg2, Try.isAgg9, e, e1, e2]
theorem wpList_binop {P : Program} {ops : Array Oper} {rest : List Oper} {o : Oper} {a : Act} {w : World} {Q : Exit → Act → World → Prop} (hw : Region.wanted o (yielded ops a.tmps) = true) (op : BinOp) (t : TypeId) (x y : Operand) (u : TypeId) (ho : o.op = .binOp op t x y u) (xs ys : Array Value)
    (hx : a.eval x = .agg xs) (hy : a.eval y = .agg ys) (hm : P.eqGuardType P.depth t = false) {v : Value} (hrun : (binOp op t (.agg xs) (.agg ys)).run P w = .ok v w)
    (h : wpList P ops Q rest (a.put o.dst v) w) : wpList P ops Q (o :: rest) a w :=
  wpList_wanted hw fun _ hK => by
    unfold Oper.wp
    simp only [execOp, ho, hx, hy, Sem.run_bind, run_eqGuard_agg w op t x y xs ys hm, hrun, Result.andThen_ok, Sem.run_pure]
    exact hK _ _ h
theorem rInfo : (Try.prog.info? 34).map (·.size) = some 3 := by kernel_rfl
/-- A line without its mark is none. -/
theorem ul_short (x : Ent) : ulE (dress (bodyE x)) = none := by
  unfold ulE
  rw [if_neg]
  intro h
  exact dress_mark _ (List.mem_of_getLast? h)
set_option maxHeartbeats 4000000 in
set_option maxRecDepth 100000 in
theorem back_walk (s0 : ByteArray) (x : Ent) (w : World) (hs0 : s0.size ≤ 9223372036854775807) (hx : x.fit) : Calls Try.prog 5 #[.string s0, .agg (enC x)] w (gives (.bool true) w) := by
  have HA := Lib.hid (fun W => alive_any W)
  have hb0 := below_new w (.cells (enC x) 34)
  have hk0 := Blk.new w 34 (enC x)
  obtain ⟨w0, hw0⟩ : ∃ w0, w.alloc (.cells (enC x) 34) = w0 := ⟨_, rfl⟩
  obtain ⟨p, hp⟩ : ∃ p, p = w.heap.size := ⟨_, rfl⟩
  rw [hw0] at hb0 hk0
  rw [← hp] at hk0
  have HP := Lib.hid hp
  have HB0 := Lib.hid hb0
  have hxb := hx.b
  unfold maxLen at hxb
  obtain ⟨bs, hbs⟩ : ∃ bs, bs = str x.b := ⟨_, rfl⟩
  have hbl : bs.size = x.b.length := by rw [hbs, str_size]
  have HK0 := Lib.hid (fun W (hW : Below w0.heap.size w0 W) => And.intro (hk0.below hW hk0.lt) (show W.cell? ⟨p, 2, none⟩ = some (.string bs) by rw [hbs]; exact (hk0.below hW hk0.lt).cell 2))
  have hb9 : bs.size ≤ 9223372036854775807 := by omega
  by_cases hbig : 5000 < s0.size ∨ 5000 < bs.size
  · have hg : 5000 < (s0.size : Int) ∨ (¬ 5000 < (s0.size : Int) ∧ 5000 < (bs.size : Int)) := by omega
    clear hp hb0 hk0 hx hxb hbs hbl hbig
    rcases hg with g1 | ⟨g1, g2⟩
    all_goals
      go_enter Try.func5, Try.ntmps5
      go_upto_region 1 with fail
      rw [← HP.out]
      clear hw0
      go_wp2_with (first
        | (go_at_call 8; refine (HA.out _).mono ?_; unfold gives; rintro e w1 ⟨rfl, hb1⟩; obtain ⟨-, c2⟩ := HK0.out _ hb1)
        | go_in)
      go_ret
      exact ⟨rfl, nxt HB0.out hb1⟩
  · have g1 : ¬ 5000 < (s0.size : Int) := by omega
    have g2 : ¬ 5000 < (bs.size : Int) := by omega
    have hl5 : s0.data.toList.length ≤ 5000 := by rw [Array.length_toList]; have : s0.data.size = s0.size := rfl; omega
    have hb5 : x.b.length ≤ 5000 := by omega
    obtain ⟨l, hl⟩ : ∃ l, l = s0.data.toList := ⟨_, rfl⟩
    have hsl : s0 = str l := by rw [hl, str_of]
    rw [← hl] at hl5
    have HD := Lib.hid (fun W => dress_any l W (by omega))
    have hdl := (dress_len l).2
    have HS := Lib.hid (fun W => strip_any (dress l) W (by omega))
    rw [strip_dress, show stripR (some l) = .tuple #[.string (str l), .int .i64 0] from rfl, ← hsl] at HS
    rw [← hsl] at HD
    have hdm := dress_mark l
    have q1 : (s0.toList == s0.toList) = true := by simp
    obtain ⟨d, hd⟩ : ∃ d, d = str (dress l) := ⟨_, rfl⟩
    have hdn : d.size = (dress l).length := by rw [hd, str_size]
    have hdg : ∀ k (h : k < d.size), ((d[k].toNat : Int) == 0) = false := fun k h => by
      have hk : k < (dress l).length := by rw [← hdn]; exact h
      have e : d[k] = (dress l)[k] := by subst hd; rfl
      rw [e]
      exact u8_n0 (fun h0 => hdm (by rw [← h0]; exact List.getElem_mem _))
    rw [← hd] at HD HS
    have hd9 : d.size ≤ 10000 := by omega
    have HG := Lib.hid hdg
    clear hl hsl hdl hdm hd hdn hdg hp hb0 hk0 hxb hbl hbig hbs hl5
    have HLN := Lib.hid (fun W => line_any x W hx)
    have HF := Lib.hid hx
    have HB5 := Lib.hid hb5
    clear hx hb5
    go_enter Try.func5, Try.ntmps5
    go_upto_region 1 with fail
    rw [← HP.out]
    clear hw0
    go_upto_region 6 with (first
      | (go_at_call 8; refine (HA.out _).mono ?_; unfold gives; rintro e w1 ⟨rfl, hb1⟩; obtain ⟨-, c2⟩ := HK0.out _ hb1)
      | (go_at_call 9; refine (HD.out _).mono ?_; unfold gives; rintro e w2 ⟨rfl, hb2⟩)
      | go_in)
    have HB2 := Lib.hid (nxt hb1 hb2)
    clear hb1 hb2 c2
    go_wp2_with fail
    go_loopw [6] (fun i wr => ∃ k : Nat, i = .int .i64 k ∧ k ≤ d.size ∧ wr = w2) (fun i _ => d.size - (RowKit.intOf i).toNat)
    case atStart => exact ⟨0, rfl, Nat.zero_le _, rfl⟩
    case round =>
      obtain ⟨k, rfl, hk, hw⟩ := hrel
      have HW := Lib.hid hw
      clear hw
      by_cases hlt : k < d.size
      · have hgk := HG.out k hlt
        go_wp2_with fail
        go_roundw
        case rel => exact ⟨k + 1, by go_num, by omega, HW.out⟩
        case measure => simp [RowKit.intOf]; omega
      · have hke : k = d.size := by omega
        subst hke
        have hw := HW.out
        subst hw
        by_cases hm : mayE x = 0
        · have HM := Lib.hid hm
          obtain ⟨uu, huu⟩ : ∃ uu, uu = str (lineE x) := ⟨_, rfl⟩
          have hul : uu.size = (lineE x).length := by rw [huu, str_size]
          have hup := line_pos x
          have hlen : (lineE x).length ≤ 10037 := by have := line_len hm; have := HB5.out; omega
          have HL := Lib.hid (fun W => line_ok x W hm)
          have HU := Lib.hid (fun W => unline_any (lineE x) W (by omega))
          have hll : (lineE x).length = (dress (bodyE x)).length + 1 := by unfold lineE; simp
          have HV := Lib.hid (fun W => unline_any (dress (bodyE x)) W (by omega))
          rw [ul_line hm, show unR (some x) = .tuple #[.agg (enC x), .int .i64 0] from rfl, ← huu] at HU
          rw [ul_short, show unR none = .tuple #[.agg (enC ⟨0, 0, []⟩), .int .i64 180] from rfl] at HV
          have hcut : str (dress (bodyE x)) = uu.extract 0 (uu.size - 1) := by
            rw [hul, huu, str_take _ _ (by omega)]
            have e : lineE x = dress (bodyE x) ++ [0] := rfl
            rw [e, List.length_append, List.length_singleton, Nat.add_sub_cancel, List.take_left]
          rw [hcut] at HV
          rw [← huu] at HL
          have hu1 : 0 < uu.size := by omega
          have hu9 : uu.size ≤ 10037 := by omega
          clear hm hul hup hlen hcut huu hll
          go_upto_region 14 with (first
            | (go_at_call 11; refine (HS.out _).mono ?_; unfold gives; rintro e w3 ⟨rfl, hb3⟩)
            | go_in)
          have HB3 := Lib.hid (nxt HB2.out hb3)
          have k3 := (HK0.out _ HB3.out).1
          clear hb3
          go_upto_region 17 with (first
            | (refine wpList_row_at rfl _ _ rfl p rfl _ _ _ _ k3 Try.underlying34 rfl rInfo ?_)
            | (go_at_call 13; refine (HL.out _).mono ?_; unfold gives; rintro e w4 ⟨rfl, hb4⟩)
            | go_in)
          have HB4 := Lib.hid (nxt HB3.out hb4)
          clear hb4 k3
          go_upto_region 18 with (first
            | (go_at_call 15; refine (HU.out _).mono ?_; unfold gives; rintro e w5 ⟨rfl, hb5⟩)
            | (refine wpList_store_new rfl _ _ _ rfl w5 (enC x) rfl rfl _ _ enInfo rfl (enC_ones _) ?_)
            | go_in)
          have hb6 := below_new w5 (.cells (enC x) 31)
          have k6 := Blk.new w5 31 (enC x)
          obtain ⟨w6, hw6⟩ : ∃ w6, w5.alloc (.cells (enC x) 31) = w6 := ⟨_, rfl⟩
          obtain ⟨q, hq⟩ : ∃ q, q = w5.heap.size := ⟨_, rfl⟩
          rw [hw6] at hb6 k6 ⊢
          rw [← hq] at k6 ⊢
          have HB6 := Lib.hid (nxt (nxt HB4.out hb5) hb6)
          clear hw6 hq hb6 hb5
          go_upto_region 19 with (first
            | (go_at_call 15; refine (HV.out _).mono ?_; unfold gives; rintro e w7 ⟨rfl, hb7⟩)
            | (refine wpList_store_new rfl _ _ _ rfl w7 (enC ⟨0, 0, []⟩) rfl rfl _ _ enInfo rfl (enC_ones _) ?_)
            | go_in)
          have hb8 := below_new w7 (.cells (enC ⟨0, 0, []⟩) 31)
          have k8 := (k6.below hb7 k6.lt).below hb8 (Nat.lt_of_lt_of_le k6.lt hb7.size)
          have HB8 := Lib.hid (nxt (nxt HB6.out hb7) hb8)
          obtain ⟨w8, hw8⟩ : ∃ w8, w7.alloc (.cells (enC ⟨0, 0, []⟩) 31) = w8 := ⟨_, rfl⟩
          rw [hw8] at k8 HB8 ⊢
          have kp8 := (HK0.out _ HB8.out).1
          clear hw8 hb8 hb7 k6
          go_wp2_with (first
            | (refine wpList_row_at rfl _ _ rfl q rfl _ _ _ _ k8 Try.underlying31 rfl enInfo ?_)
            | (refine wpList_row_at rfl _ _ rfl p rfl _ _ _ _ kp8 Try.underlying34 rfl rInfo ?_)
            | (refine wpList_binop rfl .eql _ _ _ _ rfl (enC x) (enC x) rfl rfl (by kernel_rfl) (v := .bool true) (eqlE x w8) ?_)
            | go_in)
          go_ret
          exact ⟨rfl, nxt HB0.out HB8.out⟩
        · obtain ⟨m, hm'⟩ : ∃ m, m = mayE x := ⟨_, rfl⟩
          have hlr := lineR_no (x := x) (n := m) hm'.symm (by rw [hm']; exact hm)
          rw [hlr] at HLN
          have z1 : (m == 0) = false := by rw [beq_eq_false_iff_ne, hm']; exact hm
          have z2 : (m != 0) = true := by rw [bne_iff_ne, hm']; exact hm
          clear hm hm' hlr
          go_upto_region 14 with (first
            | (go_at_call 11; refine (HS.out _).mono ?_; unfold gives; rintro e w3 ⟨rfl, hb3⟩)
            | go_in)
          have HB3 := Lib.hid (nxt HB2.out hb3)
          have k3 := (HK0.out _ HB3.out).1
          clear hb3
          go_wp2_with (first
            | (refine wpList_row_at rfl _ _ rfl p rfl _ _ _ _ k3 Try.underlying34 rfl rInfo ?_)
            | (go_at_call 13; refine (HLN.out _).mono ?_; unfold gives; rintro e w4 ⟨rfl, hb4⟩)
            | go_in)
          go_ret
          exact ⟨rfl, nxt HB0.out (nxt HB3.out hb4)⟩
end Go.Proofs.Ythhjdielananeaa
