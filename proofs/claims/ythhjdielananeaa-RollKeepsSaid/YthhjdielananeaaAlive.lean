/-
  The chapter's examples, and a record that lasts.
-/
import Derived.Test.YthhjdielananeaaOpn
import Derived.Test.YthhjdielananeaaRec
import Derived.Test.YthhjdielananeaaGood
import Derived.Lib.SlBytesConst
set_option linter.unusedSimpArgs false
set_option linter.unusedVariables false
set_option maxRecDepth 10000
namespace Go.Proofs.Ythhjdielananeaa
open Go.RowKit Go.Lib
open L3 (Blk Reads block_of_add add_of_add)
open L6 (Turn moreB fresh From In Apart)

theorem ex_line : lineE ⟨1, 1, [9]⟩ = [1, 2, 1, 2, 9, 0] := by
  unfold lineE bodyE
  have e : L3.encN 1 = [1] := L3.encN_small (by decide)
  dsimp only
  rw [show (1 : Int).toNat = 1 from rfl, e]
  rfl
theorem ex_line2 : (lineE ⟨1, 1, [97]⟩).length = 6 := by
  unfold lineE bodyE
  have e : L3.encN 1 = [1] := L3.encN_small (by decide)
  dsimp only
  rw [show (1 : Int).toNat = 1 from rfl, e]
  rfl
theorem rg_new (room : Nat) : RgT [] (newTp room) := ⟨rfl, rfl, rfl, rfl, new_ok_ room⟩
theorem ex_put : putE (rlOf []) (newTp 100) 1 [97] = 0 ∧ putR (rlOf []) (newTp 100) 1 [97] = rlOf [⟨1, 1, [97]⟩] := by
  obtain ⟨h1, h2, _⟩ := put_right (rg_new 100) (kind := 1) (b := [97]) (of_decide_eq_true rfl) (by
    have := ex_line2
    show 0 + (lineE ⟨1, 1, [97]⟩).length ≤ 100
    omega)
  exact ⟨h1, h2⟩
theorem build_ex (s : ByteArray) (w : World) : (Instr.build 31 #[(0, .int .i64 1), (1, .int .i64 1), (2, .string s)]).run Try.prog w = .ok (.agg #[.int .i64 1, .int .i64 1, .string s]) w := run_build w _ _ _ (by kernel_rfl)
theorem wpList_buildSlice_met {P : Program} {ops : Array Oper} {rest : List Oper} {o : Oper} {a : Act} {w w' : World} {Q : Exit → Act → World → Prop} (hgd : Region.wanted o (yielded ops a.tmps) = true) (t : TypeId) (n : Nat) (parts : Array (Nat × Operand)) (ho : o.op = .buildSlice t n parts) (ps : Array (Nat × Value))
    (hp : (parts.toList.map fun p => (p.1, a.eval p.2)) = ps.toList) {v : Value} (hrun : (Instr.buildSlice t n ps).run P w = .ok v w')
    (h : wpList P ops Q rest (a.put o.dst v) w') : wpList P ops Q (o :: rest) a w := by
  refine wpList_wanted hgd fun _ hK => ?_
  have hp' : (parts.map fun p => (p.1, a.eval p.2)) = ps := by apply Array.toList_inj.1; rw [Array.toList_map]; exact hp
  subst hp'
  unfold Oper.wp
  simp only [execOp, ho, Sem.run_bind, hrun, Result.andThen_ok, Sem.run_pure]
  exact hK _ _ h
/-- A new row with a mark, read. -/
theorem row_marked (w : World) (cs : Array Value) (t : TypeId) (fr : Nat × Nat) : Reads (w.alloc (.cells cs t fr)) (w.alloc (.cells cs t fr)).heap.size 1 (some ⟨w.heap.size, 0, none⟩) cs.size cs.toList := by
  refine ⟨by simp, fun _ => ⟨_, rfl, by simp, fun j u hj => ?_⟩⟩
  rw [Addr.add_lit, Nat.zero_add, cell_of_row _ _ _ _ _ _ (heap_alloc_new w _)]
  simpa using hj
theorem open_new {w : World} {S : Nat → Prop} {gt room : Nat} (h : Tpe w S gt (newTp room)) (hS : In w S) : Calls Try.prog 19 #[.pointer (some ⟨gt, 0, none⟩)] w (OpenPost S gt [] (newTp room) w) :=
  open_any h hS rfl [] [] rfl (by simp) trivial (.inl rfl) (Nat.zero_le _)
set_option maxHeartbeats 4000000 in
set_option maxRecDepth 100000 in
theorem alive_any (w : World) : Calls Try.prog 8 #[] w (gives (.bool true) w) := by
  have hbd := build_ex { data := #[9] }
  have HL := Lib.hid (fun W => line_ok ⟨1, 1, [9]⟩ W (of_decide_eq_true rfl))
  rw [ex_line] at HL
  have HD := Lib.hid (fun W => dress_any [0, 1, 2] W (by decide))
  rw [show dress [0, 1, 2] = [1, 1, 1, 2, 2] from rfl] at HD
  have HN := Lib.hid (fun W => new_any 100 W (by decide))
  go_enter Try.func8, Try.ntmps8
  go_upto_region 5 with (first
    | (refine wpList_build rfl _ _ rfl #[(0, .int .i64 1), (1, .int .i64 1), (2, .string { data := #[9] })] rfl (hbd _) ?_)
    | (go_at_call 13; refine (HL.out _).mono ?_; unfold gives; rintro e w1 ⟨rfl, hb1⟩)
    | (go_at_call 9; refine (HD.out _).mono ?_; unfold gives; rintro e w2 ⟨rfl, hb2⟩)
    | (go_at_call 18; refine (HN.out _).mono ?_; rintro e w3 ⟨rfl, hT3, hb3⟩)
    | go_in)
  have hO := open_new hT3 (L6.In.fresh _ _)
  have HI := Lib.hid (L6.In.fresh w2 w3)
  have HFR := Lib.hid (L6.From.fresh w2 w3)
  have HB3 := Lib.hid (nxt hb1 (nxt hb2 hb3))
  obtain ⟨S, hS⟩ : ∃ S, S = fresh w2 w3 := ⟨_, rfl⟩
  obtain ⟨gt, hgt⟩ : ∃ gt, gt = w2.heap.size := ⟨_, rfl⟩
  rw [← hS] at hO HI HFR
  rw [← hgt] at hO HFR ⊢
  have HO := Lib.hid hO
  have HW2 := Lib.hid (show w.heap.size ≤ gt by have := (nxt hb1 hb2).size; omega)
  clear hT3 hS hgt hb1 hb2 hb3 hO HL HD HN hbd
  go_upto_region 6 with (first
    | (go_at_call 19; refine HO.out.mono ?_; rintro e w4 ⟨g, rfl, hR4⟩)
    | go_in)
  have hrow := row_u8 97 w4
  have kc := fun (W : World) (C : Array Value) (n c : Nat) => Lib.run_convert_bytes_const (P := Try.prog) W 53 5 C n c Try.underlying53 Try.underlying5
  have hb5 := below_new w4 (.cells #[.int .u8 97] 5 (1, 2))
  have hrd := row_marked w4 #[.int .u8 97] 5 (1, 2)
  have iU4 : In w4 (moreB S w3 w4) := HI.out.more hR4.turn.size
  obtain ⟨ep, er⟩ := ex_put
  have HA := Lib.hid (add_any (hR4.rol.below hb5) (iU4.le hb5.size) (some ⟨w4.heap.size, 0, none⟩) 1 [97] hrd (by decide) (fun _ => by
    have h6 : (lineE ⟨(rlOf []).next, 1, [97]⟩).length = 6 := ex_line2
    rw [h6]
    exact ⟨by decide, by decide⟩) (by decide))
  unfold addE at HA
  rw [ep, er] at HA
  have HBW4 := Lib.hid (show Below w.heap.size w w4 from HB3.out.trans (hR4.turn.below (fun i hi => Nat.le_trans HW2.out (HFR.out i hi)) HB3.out.size))
  have HFU := Lib.hid (show ∀ i, moreB S w3 w4 i → w.heap.size ≤ i from fun i hi => hi.elim (fun h => Nat.le_trans HW2.out (HFR.out i h)) (fun h => Nat.le_trans HB3.out.size h.1))
  have HB5 := Lib.hid hb5
  clear hrd iU4 ep er hR4 hb5 HO
  go_wp2_with (first
    | (refine wpList_buildSlice_met rfl _ _ _ rfl #[(0, .int .u8 97)] rfl hrow ?_)
    | (go_at_call 29; refine HA.out.mono ?_; rintro e w6 hp; obtain ⟨rfl, hR6, hU6⟩ := hp; have HN6 := Lib.hid (next_any hR6))
    | (go_at_call 26; refine HN6.out.mono ?_; unfold gives; rintro e w7 ⟨rfl, hb7⟩; have HR7 := Lib.hid (records_any (hR6.below hb7)))
    | (go_at_call 22; refine HR7.out.mono ?_; rintro e w8 ⟨A8, c8, rfl, hR8, hb8⟩)
    | go_in)
  go_ret
  refine ⟨rfl, ?_⟩
  have h6 : Below w.heap.size w w6 := (nxt HBW4.out HB5.out).trans (hU6.below HFU.out (nxt HBW4.out HB5.out).size)
  exact nxt (nxt h6 hb7) hb8
end Go.Proofs.Ythhjdielananeaa
