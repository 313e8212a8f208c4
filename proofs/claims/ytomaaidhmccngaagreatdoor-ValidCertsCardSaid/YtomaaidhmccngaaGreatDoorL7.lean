import Derived.Test.YtomaaidhmccngaaGreatDoorL4
import Derived.Test.YtomaaidhmccngaaGreatDoorParts
import Derived.DeepKeys5
import Derived.Test.YtomaaidhmccngaaGreatDoorL6Foot
set_option linter.unusedSimpArgs false
set_option linter.unusedVariables false
set_option maxRecDepth 100000
set_option maxHeartbeats 16000000
namespace Go.Proofs.YtomaaidhmccngaaGreatDoor.L7
open Go.RowKit Go.Maps L3 L4 L6
theorem laidOut : laidOutB Tryz.prog = true := by kernel_rfl
structure Stm where
 a0 : Int
 a1 : Int
 a2 : Int
 a3 : Int
 a4 : Int
 a5 : Int
 a6 : Int
 a7 : Int
 a8 : Int
 a9 : Int
deriving DecidableEq, Inhabited
structure Shr where
 k : Int
 s : Stm
deriving DecidableEq, Inhabited
def stmL (s : Stm) : List Value := [.int .i64 s.a0, .int .i64 s.a1, .int .i64 s.a2, .int .i64 s.a3, .int .i64 s.a4, .int .i64 s.a5, .int .i64 s.a6, .int .i64 s.a7, .int .i64 s.a8, .int .i64 s.a9]
def shrL (x : Shr) : List Value := .int .i64 x.k :: stmL x.s
def stmC (s : Stm) : Array Value := #[.int .i64 s.a0, .int .i64 s.a1, .int .i64 s.a2, .int .i64 s.a3, .int .i64 s.a4, .int .i64 s.a5, .int .i64 s.a6, .int .i64 s.a7, .int .i64 s.a8, .int .i64 s.a9]
def shrC (x : Shr) : Array Value := #[.int .i64 x.k, .int .i64 x.s.a0, .int .i64 x.s.a1, .int .i64 x.s.a2, .int .i64 x.s.a3, .int .i64 x.s.a4, .int .i64 x.s.a5, .int .i64 x.s.a6, .int .i64 x.s.a7, .int .i64 x.s.a8, .int .i64 x.s.a9]
theorem qiG (x : Shr) : (shrC x).toList = shrL x := rfl
def inI (n : Int) : Prop := -9223372036854775808 <= n /\ n <= 9223372036854775807
def Stm.wf (s : Stm) : Prop := inI s.a0 /\ inI s.a1 /\ inI s.a2 /\ inI s.a3 /\ inI s.a4 /\ inI s.a5 /\ inI s.a6 /\ inI s.a7 /\ inI s.a8 /\ inI s.a9
def Shr.wf (x : Shr) : Prop := inI x.k /\ x.s.wf
theorem inI.lit {n : Int} (h : inI n) : (Lit.int .i64 n).wf = true := WalkArith.wf_i64 h
theorem shrC_inj {x y : Shr} (h : shrC x = shrC y) : x = y := by
 obtain ⟨k, ⟨a0, a1, a2, a3, a4, a5, a6, a7, a8, a9⟩⟩ := x
 obtain ⟨k', ⟨b0, b1, b2, b3, b4, b5, b6, b7, b8, b9⟩⟩ := y
 simp only [shrC, Array.mk.injEq, List.cons.injEq, Value.int.injEq, true_and, and_true] at h
 obtain ⟨rfl, rfl, rfl, rfl, rfl, rfl, rfl, rfl, rfl, rfl, rfl⟩ := h
 rfl
theorem qct (x : Shr) : ∀ u ∈ shrL x, u.oneCell' = true := by
 intro u hu
 simp only [shrL, stmL, List.mem_cons, List.not_mem_nil, or_false] at hu
 rcases hu with rfl | rfl | rfl | rfl | rfl | rfl | rfl | rfl | rfl | rfl | rfl <;> rfl
theorem kdS : Keyed Tryz.prog 75 := Keyed.of_law (deep_law_laid laidOut (m := 3) (by omega) (of_decide_eq_true (by kernel_rfl)) (by kernel_rfl) (by kernel_rfl))
theorem cS : Tryz.prog.cellsOf 75 = 11 := by kernel_rfl
theorem cM : Tryz.prog.cellsOf 73 = 10 := by kernel_rfl
theorem cI : Tryz.prog.cellsOf 3 = 1 := by kernel_rfl
theorem qaM (d : Nat) {n : Int} (h : inI n) : Tryz.prog.keyLits (d + 1) 3 [.int .i64 n] = some [.int .i64 n] := by
 simp [Program.keyLits, Tryz.underlying3, h.lit]
theorem kl_stm (d : Nat) (s : Stm) (h : s.wf) : Tryz.prog.keyLits (d + 2) 73 (stmL s) = some [.int .i64 s.a0, .int .i64 s.a1, .int .i64 s.a2, .int .i64 s.a3, .int .i64 s.a4, .int .i64 s.a5, .int .i64 s.a6, .int .i64 s.a7, .int .i64 s.a8, .int .i64 s.a9] := by
 obtain ⟨h0, h1, h2, h3, h4, h5, h6, h7, h8, h9⟩ := h
 unfold Program.keyLits
 simp only [Tryz.underlying73]
 rw [if_pos ⟨cM.symm ▸ rfl, by kernel_rfl⟩]
 simp only [cI, stmL, List.mapM_cons, List.mapM_nil, List.drop_zero, List.drop_succ_cons, List.take_succ_cons, List.take_zero, qaM d h0, qaM d h1, qaM d h2, qaM d h3, qaM d h4, qaM d h5, qaM d h6, qaM d h7, qaM d h8, qaM d h9]
 rfl
theorem kl_shr (d : Nat) (x : Shr) (h : x.wf) : ∃ l, Tryz.prog.keyLits (d + 3) 75 (shrL x) = some l := by
 obtain ⟨h0, h1⟩ := h
 unfold Program.keyLits
 simp only [Tryz.underlying75]
 rw [if_pos ⟨cS.symm ▸ rfl, by kernel_rfl⟩]
 have e : List.take 10 (stmL x.s) = stmL x.s := rfl
 simp only [cI, cM, shrL, List.mapM_cons, List.mapM_nil, List.drop_zero, List.drop_succ_cons, List.take_succ_cons, List.take_zero, e, qaM (d + 1) h0, kl_stm d x.s h1]
 exact ⟨_, rfl⟩
theorem key_at (x : Shr) (h : x.wf) : ∃ l, keyOf Tryz.prog 75 (.agg (shrC x)) = some l := by
 have hkt : Tryz.prog.keyType 75 = true := by kernel_rfl
 have hf : (Value.agg (shrC x)).formed Tryz.prog 75 = true := by kernel_rfl
 have hsz : 2 <= Tryz.prog.types.size := of_decide_eq_true (by kernel_rfl)
 obtain ⟨l, hl⟩ := kl_shr (Tryz.prog.types.size - 2) x h
 rw [show Tryz.prog.types.size - 2 + 3 = Tryz.prog.types.size + 1 by omega] at hl
 unfold keyOf
 simp only [Tryz.underlying75, hkt, hf, Bool.and_self, if_true, Value.cells, qiG, hl, Option.map_some]
 exact ⟨_, rfl⟩
noncomputable def keyS (x : Shr) : Lit := (keyOf Tryz.prog 75 (.agg (shrC x))).getD (.bool false)
theorem qcR (x : Shr) (h : x.wf) : keyOf Tryz.prog 75 (.agg (shrC x)) = some (keyS x) := by
 obtain ⟨l, hl⟩ := key_at x h
 rw [keyS, hl]; rfl
theorem qji {x y : Shr} (hx : x.wf) (hy : y.wf) (h : keyS x = keyS y) : x = y := by
 have h1 := qcR x hx
 rw [h] at h1
 have := kdS.inj h1 (qcR y hy)
 injection this with this
 exact shrC_inj this
def FitsS (D : DataW Unit) (L : List Shr) : Prop := ∀ x : Shr, x.wf -> Maps.has D (keyS x) = decide (x ∈ L)
theorem FitsS.nil : FitsS (.map []) [] := fun x _ => by rfl
theorem FitsS.put {D : DataW Unit} {L : List Shr} {x : Shr} (h : FitsS D L) (hm : Maps.IsMap D) (hx : x.wf) (d : DataW Unit) : FitsS (D.put (keyS x) d) (L ++ [x]) := by
 intro y hy
 by_cases he : x = y
 ·subst he
  rw [Maps.has_put_same hm (kdS.key (qcR x hx))]
  simp
 ·rw [Maps.has_put_other (fun h' => he (qji hx hy (by first | exact h' | exact h'.symm))), h y hy]
  have : ¬ y = x := fun e => he e.symm
  simp [this]
theorem zeroU (w : World) : (zeroValue 142).run Tryz.prog w = .ok (.agg #[]) w := by kernel_rfl
theorem qbN (k : Int) (s : Stm) (w : World) : (Instr.build 75 #[(0, .int .i64 k), (1, .agg (stmC s))]).run Tryz.prog w = .ok (.agg (shrC ⟨k, s⟩)) w := run_build w _ _ _ (by kernel_rfl)
theorem shrInfo : (Tryz.prog.info? 75).map (fun i => (i.zero, i.size, i.bytes)) = some (some (.agg #[.int .i64 0, .int .i64 0, .int .i64 0, .int .i64 0, .int .i64 0, .int .i64 0, .int .i64 0, .int .i64 0, .int .i64 0, .int .i64 0, .int .i64 0]), 11, 88) := by kernel_rfl
theorem qco (x : Shr) (w : World) : (Instr.buildSlice 25 1 #[(0, .agg (shrC x))]).run Tryz.prog w = .ok (.slice (some ⟨w.heap.size, 0, none⟩) 1 1) (w.alloc (.cells (shrC x) 75)) := by kernel_rfl
theorem qgd (w : World) : (Instr.buildSlice 25 0 #[]).run Tryz.prog w = .ok (.slice (some ⟨w.heap.size, 0, none⟩) 0 0) (w.alloc (.cells #[] 75)) := by kernel_rfl
theorem qfo {w : World} {b : Nat} {x : Shr} {e : TypeId} (h : Blk w b e (shrC x)) : Reads w (b + 1) 11 (some ⟨b, 0, none⟩) 1 (shrL x) := by
 refine ⟨rfl, fun _ => ⟨_, rfl, by simp, fun j v hj => ?_⟩⟩
 have hadd : (⟨b, 0, none⟩ : Addr).add j = ⟨b, j, none⟩ := by unfold Addr.add; split <;> simp_all
 rw [hadd, h.cell j, <- qiG] at *
 simpa using hj
theorem qdT (w : World) (x : Shr) (e : TypeId) : Reads (w.alloc (.cells (shrC x) e)) (w.heap.size + 1) 11 (some ⟨w.heap.size, 0, none⟩) 1 (shrL x) := by
 refine ⟨rfl, fun _ => ⟨_, rfl, by simp, fun j v hj => ?_⟩⟩
 have hadd : (⟨w.heap.size, 0, none⟩ : Addr).add j = ⟨w.heap.size, j, none⟩ := by unfold Addr.add; split <;> simp_all
 rw [hadd, (Blk.new w e (shrC x)).cell j, <- qiG] at *
 simpa using hj
theorem equalS {x y : Shr} (hx : x.wf) (hy : y.wf) (w : World) : (Op.equal 75 (.agg (shrC x)) (.agg (shrC y))).run Tryz.prog w = .ok (decide (x = y)) w := by
 obtain ⟨r, hr, hi⟩ := run_equal_deep (P := Tryz.prog) w (m := 3) (by omega) (by kernel_rfl) (by kernel_rfl) (qcR x hx) (qcR y hy)
 have : r = decide (x = y) := by
  rw [Bool.eq_iff_iff, hi, decide_eq_true_eq]
  exact ⟨fun h => qji hx hy h, fun h => by rw [h]⟩
 rw [hr, this]
theorem eqlS {x y : Shr} (hx : x.wf) (hy : y.wf) (w : World) : (binOp .eql 75 (.agg (shrC x)) (.agg (shrC y))).run Tryz.prog w = .ok (.bool (decide (x = y))) w := by
 simp only [binOp, Sem.run_bind, equalS hx hy, Result.andThen_ok, Sem.run_pure]
end Go.Proofs.YtomaaidhmccngaaGreatDoor.L7
namespace Go.Proofs.YtomaaidhmccngaaGreatDoor.L7
open Go.RowKit Go.Maps Go.Lib L3 L4 L6
def inN (f k : Int) : Bool := decide (0 <= k /\ k < more 3 f)
theorem qdJ (f k : Int) : hasV (2 ^ (more 3 f).toNat - 1) k = inN f k := by
 obtain ⟨m, hm, hm10⟩ := qbv f
 unfold hasV fitsV inN
 rw [hm, Int.toNat_natCast, Nat.testBit_two_pow_sub_one]
 rw [Bool.eq_iff_iff, Bool.and_eq_true, decide_eq_true_eq, decide_eq_true_eq, decide_eq_true_eq]
 constructor
 ·rintro ⟨⟨h0, _⟩, h1⟩; exact ⟨h0, by omega⟩
 ·rintro ⟨h0, h1⟩; exact ⟨⟨h0, by omega⟩, by omega⟩
def shrs (L : List Shr) : List Value := L.flatMap shrL
theorem qj6 (L : List Shr) : (shrs L).length = L.length * 11 := by
 induction L with
 | nil => rfl
 | cons x L ih => simp only [shrs, List.flatMap_cons, List.length_append, List.length_cons] at ih ⊢; rw [ih]; simp [shrL, stmL]; omega
theorem qda (L : List Shr) (x : Shr) : shrs (L ++ [x]) = shrs L ++ shrL x := by simp [shrs]
theorem qgJ (L : List Shr) : ∀ u ∈ shrs L, u.oneCell' = true := by
 intro u hu
 simp only [shrs, List.mem_flatMap] at hu
 obtain ⟨x, _, hx⟩ := hu
 exact qct x u hx
def Sg (w : World) (S : Nat -> Prop) (g : Nat) (f : Int) (bad : Nat) (L : List Shr) : Prop :=
 ∃ b v D, Blk w g 146 #[.int .i64 f, .int .u32 bad, .map (some b), v] /\ w.ownsMap Tryz.prog 75 (unitElem (H := Unit)) b L.length D /\ FitsS D L /\ w.ownsRow 0 75 11 v L.length (shrs L) /\
   S g /\ S b /\ (∀ k, v.ownBlock = some k -> S k)
theorem Sg.mono {w : World} {S S' : Nat -> Prop} {g : Nat} {f : Int} {bad : Nat} {L : List Shr} (h : Sg w S g f bad L) (hs : ∀ k, k < w.heap.size -> S k -> S' k) : Sg w S' g f bad L := by
 obtain ⟨b, v, D, hb, hm, hf, hr, h1, h2, h3⟩ := h
 exact ⟨b, v, D, hb, hm, hf, hr, hs _ hb.lt h1, hs _ hm.lt h2, fun k hk => hs _ (hr.lt k hk).2 (h3 k hk)⟩
theorem Sg.kept {w w' : World} {S T : Nat -> Prop} {g : Nat} {f : Int} {bad : Nat} {L : List Shr} (h : Sg w S g f bad L) (ht : Turn T w w') (hd : ∀ k, k < w.heap.size -> S k -> ¬ T k) : Sg w' S g f bad L := by
 obtain ⟨b, v, D, hb, hm, hf, hr, h1, h2, h3⟩ := h
 exact ⟨b, v, D, ht.blk hb (hd _ hb.lt h1), ht.map hm (hd _ hm.lt h2), hf, ht.row hr (fun k hk => hd _ (hr.lt k hk).2 (h3 k hk)), h1, h2, h3⟩
theorem Sg.below {w w' : World} {S : Nat -> Prop} {g : Nat} {f : Int} {bad : Nat} {L : List Shr} (h : Sg w S g f bad L) (hb : Below w.heap.size w w') : Sg w' S g f bad L := h.kept (Turn.of_keep (S := fun _ => False) hb) (fun _ _ _ h => h)
def repE (f k : Int) : Int := if inN f k = true then 0 else 40
theorem qbz (g : Nat) (f k : Int) (w : World) (c0 : w.cell? ⟨g, 0, none⟩ = some (.int .i64 f)) :
 Calls Tryz.prog 99 #[.pointer (some ⟨g, 0, none⟩), .int .i64 k] w fun e w' => e = .returned (.int .i64 (repE f k)) /\ w = w' := by
 obtain ⟨m, hm, hm10⟩ := qbv f
 have hf := qdl f
 have hh := fun w => qd3 (2 ^ (more 3 f).toNat - 1) k w (by have := qbM (k := (more 3 f).toNat) (by omega); omega)
 rw [qdJ] at hh
 obtain ⟨y, hy⟩ := nm (2 ^ (more 3 f).toNat - 1)
 rw [<- hy] at hf hh
 unfold repE
 have HH := hid (And.intro hf hh)
 clear hf hh hy hm
 rcases Bool.eq_false_or_eq_true (inN f k) with h | h
 all_goals
  rw [h]
  have HH2 := HH.out.2
  rw [h] at HH2
  have H2 := hid HH2
  clear HH2 h
  go_enter Tryz.func99, Tryz.ntmps99
  go_wp2_with (first
   | (go_at_call 117; refine (HH.out.1 _).mono ?_; rintro e w1 ⟨rfl, rfl⟩)
   | (go_at_call 104; refine (H2.out _).mono ?_; rintro e w1 ⟨rfl, rfl⟩))
  go_ret
  exact ⟨rfl, rfl⟩
def holdS (g b m n : Nat) (x : Shr) (D : DataW Unit) (W : World) : Prop :=
 W.cell? ⟨g, 2, none⟩ = some (.map (some b)) /\ Blk W m 75 (shrC x) /\ W.ownsMap Tryz.prog 75 (unitElem (H := Unit)) b n D
def holdR (g m : Nat) (x : Shr) (v : Value) (W : World) : Prop := W.cell? ⟨g, 3, none⟩ = some v /\ Blk W m 75 (shrC x)
theorem qlF (S : Nat -> Prop) (g : Nat) (f : Int) (bad : Nat) (L : List Shr) (x : Shr) (w : World) (h : Sg w S g f bad L) (hx : x.wf) (hl : L.length <= 1000000000) (hk : inN f x.k = true) (hn : x ∉ L) :
 Calls Tryz.prog 29 #[.pointer (some ⟨g, 0, none⟩), .agg (shrC x)] w fun e w' => e = .returned (.int .i64 0) /\ Sg w' (moreB S w w') g f bad (L ++ [x]) /\ Turn S w w' := by
 have HB := hid h
 obtain ⟨b, v, D, hb, hm, hf, hr, h1, h2, h3⟩ := h
 have c0 := (hb.alloc (.cells (shrC x) 75)).cell 0
 have hrep := qbz g f x.k (w.alloc (.cells (shrC x) 75)) c0
 unfold repE at hrep
 rw [if_pos hk] at hrep
 have s0 : (shrC x)[0]? = some (.int .i64 x.k) := rfl
 have HR := hid hrep
 have hh : Maps.has D (keyS x) = false := by rw [hf x hx]; simp [hn]
 have HF := hid hf
 have HRW := hid hr
 have hgb := qcd hb hm
 obtain ⟨i0, hi, hz0, hz1, hz2⟩ := info_parts shrInfo
 clear hrep hr hf
 go_enter Tryz.func29, Tryz.ntmps29
 go_wp2_with (go_at_call 99; refine HR.out.mono ?_; rintro e w1 ⟨rfl, rfl⟩)
 have hS : holdS g b w.heap.size L.length x D (w.alloc (.cells (shrC x) 75)).drew := ⟨(hb.alloc _).cell 2, Blk.new _ _ _, hm.alloc _⟩
 refine qak (holdS g b w.heap.size L.length x D) [0, 1, 2, 3, 4, 5, 6, 7, 8] (by kernel_rfl) ?_
 refine' qa8 (f := 3) (n := 42) _ (by kernel_rfl) (fun _ x _ _ _ h => by cases x <;> exact h) hS [0, 1, 2, 3, 4, 5, 6, 7, 8] _ _ (by kernel_rfl) (by kernel_rfl) (by kernel_rfl) (by rfl) (fun W hW => ?hr) ?hk
 case hr =>
  obtain ⟨q2, qb, qm⟩ := hW
  conv => arg 5; simp [pick]
  repeat (first | still_step | (refine qay rfl _ _ rfl _ rfl _ _ _ _ qb Tryz.underlying75 rfl (by kernel_rfl) ?_) | (refine qaZ rfl _ _ _ rfl _ _ kdS Tryz.underlying144 (zeroU _) b _ D rfl qm _ _ rfl (qcR x hx) false hh ?_))
  refine wpStill_nil ?_
  rfl
 refine qag 9 (by kernel_rfl) rfl ?_
 go_wp2
 refine stepQ.mk ⟨fun _ => ⟨((hb.alloc _).alloc _).cell 2, (Blk.new _ _ _).alloc _, (hm.alloc _).alloc _⟩, ?_⟩
 refine qag 10 (by kernel_rfl) rfl ?_
 go_wp2
 refine stepQ.mk ⟨fun _ => ⟨((hb.alloc _).alloc _).cell 2, (Blk.new _ _ _).alloc _, (hm.alloc _).alloc _⟩, ?_⟩
 refine qaq [11] _ _ _ (by kernel_rfl) ?_
 conv => arg 4; simp [pick]
 go_wp2
 refine qab (fun w4 hw4 => ?_)
 have hb4 : Blk w4 g 146 #[.int .i64 f, .int .u32 bad, .map (some b), v] := by rw [hw4]; exact ((hb.alloc _).alloc _)
 have hm4 : w4.ownsMap Tryz.prog 75 (unitElem (H := Unit)) b L.length D := by rw [hw4]; exact ((hm.alloc _).alloc _)
 have hx4 : Blk w4 w.heap.size 75 (shrC x) := by rw [hw4]; exact ((Blk.new _ _ _).alloc _)
 refine qak (holdS g b w.heap.size L.length x D) [0, 1, 2, 3, 4, 5] (by kernel_rfl) ?_
 refine' qa8 (f := 1) (n := 42) _ (by kernel_rfl) (fun _ x _ _ _ h => by cases x <;> exact h) (⟨hb4.cell 2, hx4, hm4⟩ : holdS g b w.heap.size L.length x D w4.drew) [0, 1, 2, 3, 4, 5] _ _ (by kernel_rfl) (by kernel_rfl) (by kernel_rfl) (by rfl) (fun W hW => ?hr6) ?hk6
 case hr6 =>
  obtain ⟨q2, qb, qm⟩ := hW
  conv => arg 5; simp [pick]
  repeat (first | still_step | (refine qay rfl _ _ rfl _ rfl _ _ _ _ qb Tryz.underlying75 rfl (by kernel_rfl) ?_))
  refine wpStill_nil ?_
  rfl
 refine qaq [6] _ _ _ (by kernel_rfl) ?_
 conv => arg 4; simp [pick]
 go_wp2_with (at_mapUpdate
              refine wpList_mapUpdate_own _ rfl _ _ _ 144 rfl 75 142 kdS Tryz.underlying144 _ b L.length D rfl hm4 (by unfold maxLen; omega) _ _ (keyS x) rfl rfl (qcR x hx) (.agg []) [] unitElem_mk ?_
              intro w5 hm5 hg5)
 have hb5 := hb4.drew.grown hg5 (fun e => hgb (by simpa using e))
 have hx5 := hx4.drew.grown hg5 (fun e => qcd hx4 hm4 (by simpa using e))
 have hr4 : w4.ownsRow 0 75 11 v L.length (shrs L) := by rw [hw4]; exact (HRW.out.alloc _).alloc _
 have hr5 := (show w4.drew.ownsRow 0 75 11 v L.length (shrs L) from hr4).kept hg5 (.inr (qds hr4 hm4))
 have hvg := qa1 hr5 hb5 (by decide)
 refine qak (holdR g w.heap.size x v) [0, 1, 2, 3, 4, 5] (by kernel_rfl) ?_
 refine' qa8 (f := 5) (n := 42) _ (by kernel_rfl) (fun _ x _ _ _ h => by cases x <;> exact h) (⟨hb5.cell 3, hx5⟩ : holdR g w.heap.size x v w5.drew) [0, 1, 2, 3, 4, 5] _ _ (by kernel_rfl) (by kernel_rfl) (by kernel_rfl) (by rfl) (fun W hW => ?hr7) ?hk7
 case hr7 =>
  obtain ⟨q2, qb⟩ := hW
  conv => arg 5; simp [pick]
  repeat (first | still_step | (refine qay rfl _ _ rfl _ rfl _ _ _ _ qb Tryz.underlying75 rfl (by kernel_rfl) ?_))
  refine wpStill_nil ?_
  rfl
 refine qag 6 (by kernel_rfl) rfl ?_
 refine wpList_buildSlice rfl _ _ _ rfl #[(0, .agg (shrC x))] rfl (qco x w5.drew) ?_
 go_wp2
 refine stepQ.mk ⟨fun _ => ⟨(hb5.alloc _).cell 3, hx5.alloc _⟩, ?_⟩
 refine qag 7 (by kernel_rfl) rfl ?_
 have hrA : (w5.alloc (.cells (shrC x) 75)).drew.ownsRow 0 75 11 v L.length (shrs L) := hr5.alloc _
 have hxA : Reads (w5.alloc (.cells (shrC x) 75)).drew (w5.heap.size + 1) 11 (some ⟨w5.heap.size, 0, none⟩) 1 (shrL x) := qdT w5 x _
 refine qao _ rfl (.tmp 36) (.tmp 38) 25 rfl 0 75 i0 _ 11 88 Tryz.underlying25 hi hz0 hz1 hz2 rfl (by decide) v L.length (shrs L) rfl hrA (w5.heap.size + 1) (some ⟨w5.heap.size, 0, none⟩) 1 1 (shrL x) rfl hxA (qct x) (by unfold maxLen; omega) (by omega) (Nat.zero_le _) ?_
 intro v6 w6 ho6 hg6 hat6
 go_wp2
 have hb6 := (hb5.alloc (.cells (shrC x) 75)).drew.grown hg6 (fun e => hvg e.symm)
 have hx6 := (hx5.alloc (.cells (shrC x) 75)).drew.grown hg6 (fun e => by
  have := h3 _ e.symm
  have h9 := HRW.out.lt _ e.symm
  omega)
 refine stepQ.mk ⟨fun _ => ⟨hb6.cell 3, hx6⟩, ?_⟩
 obtain ⟨A6, cp6, rfl, hc6, hrd6⟩ := qav ho6
 have c3 := hb6.cell 3
 have f3 := hb6.frozen 3
 refine qaq [8, 9, 10] _ _ _ (by kernel_rfl) ?_
 conv => arg 4; simp [pick]
 go_wp2
 go_ret
 have e4 : w4.heap.size = w.heap.size + 2 := by rw [hw4]; simp
 have s5 : w4.heap.size <= w5.heap.size := hg5.size
 have hv6 : ∀ k, (Value.slice A6 (L.length + 1) cp6).ownBlock = some k -> S k ∨ w.heap.size <= k := by
  intro k hk
  rcases hat6 with e | e
  ·rw [e] at hk; exact .inl (h3 k hk)
  ·rw [e] at hk; simp at hk; right; omega
 have ht4 : Turn S w w4 := by rw [hw4]; exact ((((Turn.refl S w).alloc _).alloc _).drew)
 have ht5 : Turn S w w5 := ht4.drew.grown hg5 (fun i e => by cases e; exact .inl h2)
 have ht6 : Turn S w w6 := (ht5.alloc (.cells (shrC x) 75)).drew.grown hg6 (fun i e => .inl (h3 i e))
 have hm6 := ((show (w5.alloc (.cells (shrC x) 75)).drew.ownsMap Tryz.prog 75 (unitElem (H := Unit)) b (L.length + 1) _ from hm5.alloc _).kept hg6 (fun e => qds hr5 hm5 e.symm)).setCell (a := ⟨g, 3, none⟩) (fun e => hgb e.symm) (.slice A6 (L.length + 1) cp6)
 have hR7 := ((Turn.refl (fun k => k = g) w6).setCell (p := ⟨g, 3, none⟩) (.inl rfl) (.slice A6 (L.length + 1) cp6)).row ho6 (fun k hk e => qa1 ho6 hb6 (by decide) (by rw [hk, e]))
 refine ⟨rfl, ⟨b, .slice A6 (L.length + 1) cp6, D.put (keyS x) (.agg []), hb6.set_ 3 _, ?_, HF.out.put hm.isMap hx _, ?_, .inl h1, .inl h2, fun k hk => (hv6 k hk).imp id (fun h => ⟨h, (hR7.lt k hk).2⟩)⟩, ht6.setCell (.inl h1) _⟩
 ·rw [List.length_append]; exact hm6
 ·rw [List.length_append, qda]; exact hR7
def issL (f : Int) (L : List Shr) (x : Shr) : List Shr := if inN f x.k = true then (if x ∈ L then L else L ++ [x]) else L
theorem qlG (S : Nat -> Prop) (g : Nat) (f : Int) (bad : Nat) (L : List Shr) (x : Shr) (w : World) (h : Sg w S g f bad L) (hx : x.wf) (hk : inN f x.k = true) (hn : x ∈ L) :
 Calls Tryz.prog 29 #[.pointer (some ⟨g, 0, none⟩), .agg (shrC x)] w fun e w' => e = .returned (.int .i64 0) /\ Below w.heap.size w w' := by
 obtain ⟨b, v, D, hb, hm, hf, hr, h1, h2, h3⟩ := h
 have c0 := (hb.alloc (.cells (shrC x) 75)).cell 0
 have hrep := qbz g f x.k (w.alloc (.cells (shrC x) 75)) c0
 unfold repE at hrep
 rw [if_pos hk] at hrep
 have s0 : (shrC x)[0]? = some (.int .i64 x.k) := rfl
 have HR := hid hrep
 have hh : Maps.has D (keyS x) = true := by rw [hf x hx]; simp [hn]
 clear hrep hr hf
 go_enter Tryz.func29, Tryz.ntmps29
 go_wp2_with (go_at_call 99; refine HR.out.mono ?_; rintro e w1 ⟨rfl, rfl⟩)
 refine qak (holdS g b w.heap.size L.length x D) [0, 1, 2, 3, 4, 5, 6, 7, 8] (by kernel_rfl) ?_
 refine' qa8 (f := 3) (n := 42) _ (by kernel_rfl) (fun _ x _ _ _ h => by cases x <;> exact h) (⟨(hb.alloc _).cell 2, Blk.new _ _ _, hm.alloc _⟩ : holdS g b w.heap.size L.length x D (w.alloc (.cells (shrC x) 75)).drew) [0, 1, 2, 3, 4, 5, 6, 7, 8] _ _ (by kernel_rfl) (by kernel_rfl) (by kernel_rfl) (by rfl) (fun W hW => ?hr) ?hk
 case hr =>
  obtain ⟨q2, qb, qm⟩ := hW
  conv => arg 5; simp [pick]
  repeat (first | still_step | (refine qay rfl _ _ rfl _ rfl _ _ _ _ qb Tryz.underlying75 rfl (by kernel_rfl) ?_) | (refine qaZ rfl _ _ _ rfl _ _ kdS Tryz.underlying144 (zeroU _) b _ D rfl qm _ _ rfl (qcR x hx) true hh ?_))
  refine wpStill_nil ?_
  rfl
 refine qag 9 (by kernel_rfl) rfl ?_
 go_wp2
 refine stepQ.mk ⟨fun _ => ⟨((hb.alloc _).alloc _).cell 2, (Blk.new _ _ _).alloc _, (hm.alloc _).alloc _⟩, ?_⟩
 refine qag 10 (by kernel_rfl) rfl ?_
 go_wp2
 refine stepQ.mk ⟨fun _ => ⟨((hb.alloc _).alloc _).cell 2, (Blk.new _ _ _).alloc _, (hm.alloc _).alloc _⟩, ?_⟩
 refine qaq [11] _ _ _ (by kernel_rfl) ?_
 conv => arg 4; simp [pick]
 go_wp2
 go_ret
 exact ⟨rfl, qbp (((Below.refl _ _).alloc (Nat.le_refl _) _).alloc (by simp) _)⟩
theorem qlH (S : Nat -> Prop) (g : Nat) (f : Int) (bad : Nat) (L : List Shr) (x : Shr) (w : World) (h : Sg w S g f bad L) (hk : inN f x.k = false) :
 Calls Tryz.prog 29 #[.pointer (some ⟨g, 0, none⟩), .agg (shrC x)] w fun e w' => e = .returned (.int .i64 40) /\ Below w.heap.size w w' := by
 obtain ⟨b, v, D, hb, hm, hf, hr, h1, h2, h3⟩ := h
 have c0 := (hb.alloc (.cells (shrC x) 75)).cell 0
 have hrep := qbz g f x.k (w.alloc (.cells (shrC x) 75)) c0
 unfold repE at hrep
 rw [if_neg (by rw [hk]; decide)] at hrep
 have s0 : (shrC x)[0]? = some (.int .i64 x.k) := rfl
 have HR := hid hrep
 clear hrep hr hf hm hb c0
 go_enter Tryz.func29, Tryz.ntmps29
 go_wp2_with (go_at_call 99; refine HR.out.mono ?_; rintro e w1 ⟨rfl, rfl⟩)
 go_ret
 exact ⟨rfl, (Below.refl _ _).alloc (Nat.le_refl _) _⟩
theorem qlE (S : Nat -> Prop) (g : Nat) (f : Int) (bad : Nat) (L : List Shr) (x : Shr) (w : World) (h : Sg w S g f bad L) (hx : x.wf) (hl : L.length <= 1000000000) :
 Calls Tryz.prog 29 #[.pointer (some ⟨g, 0, none⟩), .agg (shrC x)] w fun e w' => e = .returned (.int .i64 (repE f x.k)) /\ Sg w' (moreB S w w') g f bad (issL f L x) /\ Turn S w w' := by
 rcases Bool.eq_false_or_eq_true (inN f x.k) with hk | hk
 ·by_cases hn : x ∈ L
  ·have e1 : issL f L x = L := by simp [issL, hk, hn]
   have e2 : repE f x.k = 0 := by simp [repE, hk]
   rw [e1, e2]
   refine (qlG S g f bad L x w h hx hk hn).mono ?_
   rintro e w' ⟨rfl, hb⟩
   exact ⟨rfl, (h.below hb).mono fun _ _ => .inl, Turn.of_keep hb⟩
  ·have e1 : issL f L x = L ++ [x] := by simp [issL, hk, hn]
   have e2 : repE f x.k = 0 := by simp [repE, hk]
   rw [e1, e2]
   exact qlF S g f bad L x w h hx hl hk hn
 ·have e1 : issL f L x = L := by simp [issL, hk]
  have e2 : repE f x.k = 40 := by simp [repE, hk]
  rw [e1, e2]
  refine (qlH S g f bad L x w h hk).mono ?_
  rintro e w' ⟨rfl, hb⟩
  exact ⟨rfl, (h.below hb).mono fun _ _ => .inl, Turn.of_keep hb⟩
end Go.Proofs.YtomaaidhmccngaaGreatDoor.L7
namespace Go.Proofs.YtomaaidhmccngaaGreatDoor.L7
open Go.RowKit Go.Maps Go.Lib L3 L4 L6
theorem qaY {P : Program} {f : FuncId} {args : Array Value} {w : World} {n : Nat} {v : Value} (h : Calls P f args (w.drewN n) fun e w' => e = .returned v /\ w.drewN n = w') :
 Calls P f args (w.drewN n) fun e w'' => e = .returned v /\ ∃ m, w'' = w.drewN m := h.mono fun _ _ ⟨he, hw⟩ => ⟨he, n, hw.symm⟩
def cntE (f : Int) (bad : Nat) (L : List Shr) (x : Shr) : Int := if inN f x.k = true then (if x ∈ L then 0 else if hasV bad x.k = true then 0 else 60) else 40
theorem counts_old (S : Nat -> Prop) (g : Nat) (f : Int) (bad : Nat) (L : List Shr) (x : Shr) (w : World) (h : Sg w S g f bad L) (hx : x.wf) (hbad : bad < 4294967296) (hk : inN f x.k = true) (hn : x ∈ L) :
 Calls Tryz.prog 34 #[.pointer (some ⟨g, 0, none⟩), .agg (shrC x)] w fun e w' => e = .returned (.int .i64 0) /\ Below w.heap.size w w' := by
 obtain ⟨b, v, D, hb, hm, hf, hr, h1, h2, h3⟩ := h
 have c0 := (hb.alloc (.cells (shrC x) 75)).cell 0
 have hrep := qbz g f x.k (w.alloc (.cells (shrC x) 75)) c0
 unfold repE at hrep
 rw [if_pos hk] at hrep
 have s0 : (shrC x)[0]? = some (.int .i64 x.k) := rfl
 have HR := hid hrep
 have hh : Maps.has D (keyS x) = true := by rw [hf x hx]; simp [hn]
 clear hrep hr hf
 go_enter Tryz.func34, Tryz.ntmps34
 go_wp2_with (go_at_call 99; refine HR.out.mono ?_; rintro e w1 ⟨rfl, rfl⟩)
 refine qak (holdS g b w.heap.size L.length x D) [0, 1, 2, 3, 4, 5, 6, 7, 8] (by kernel_rfl) ?_
 refine' qa8 (f := 3) (n := 36) _ (by kernel_rfl) (fun _ x _ _ _ h => by cases x <;> exact h) (⟨(hb.alloc _).cell 2, Blk.new _ _ _, hm.alloc _⟩ : holdS g b w.heap.size L.length x D (w.alloc (.cells (shrC x) 75)).drew) [0, 1, 2, 3, 4, 5, 6, 7, 8] _ _ (by kernel_rfl) (by kernel_rfl) (by kernel_rfl) (by rfl) (fun W hW => ?hr) ?hk
 case hr =>
  obtain ⟨q2, qb, qm⟩ := hW
  conv => arg 5; simp [pick]
  repeat (first | still_step | (refine qay rfl _ _ rfl _ rfl _ _ _ _ qb Tryz.underlying75 rfl (by kernel_rfl) ?_) | (refine qaZ rfl _ _ _ rfl _ _ kdS Tryz.underlying144 (zeroU _) b _ D rfl qm _ _ rfl (qcR x hx) true hh ?_))
  refine wpStill_nil ?_
  rfl
 refine qag 9 (by kernel_rfl) rfl ?_
 go_wp2
 refine stepQ.mk ⟨fun _ => ⟨((hb.alloc _).alloc _).cell 2, (Blk.new _ _ _).alloc _, (hm.alloc _).alloc _⟩, ?_⟩
 refine qag 10 (by kernel_rfl) rfl ?_
 go_wp2
 refine stepQ.mk ⟨fun _ => ⟨((hb.alloc _).alloc _).cell 2, (Blk.new _ _ _).alloc _, (hm.alloc _).alloc _⟩, ?_⟩
 refine qaq [11] _ _ _ (by kernel_rfl) ?_
 conv => arg 4; simp [pick]
 go_wp2
 go_quiet (fail)
 go_wp2
 go_ret
 exact ⟨rfl, below_drewN (qbp (((Below.refl _ _).alloc (Nat.le_refl _) _).alloc (by simp) _)) _⟩
theorem qke (S : Nat -> Prop) (g : Nat) (f : Int) (bad : Nat) (L : List Shr) (x : Shr) (w : World) (h : Sg w S g f bad L) (hx : x.wf) (hbad : bad < 4294967296) (hk : inN f x.k = true) (hn : x ∉ L) (hv : hasV bad x.k = true) :
 Calls Tryz.prog 34 #[.pointer (some ⟨g, 0, none⟩), .agg (shrC x)] w fun e w' => e = .returned (.int .i64 0) /\ Below w.heap.size w w' := by
 obtain ⟨b, v, D, hb, hm, hf, hr, h1, h2, h3⟩ := h
 have c0 := (hb.alloc (.cells (shrC x) 75)).cell 0
 have hrep := qbz g f x.k (w.alloc (.cells (shrC x) 75)) c0
 unfold repE at hrep
 rw [if_pos hk] at hrep
 have s0 : (shrC x)[0]? = some (.int .i64 x.k) := rfl
 have HR := hid hrep
 have hh : Maps.has D (keyS x) = false := by rw [hf x hx]; simp [hn]
 clear hrep hr hf
 go_enter Tryz.func34, Tryz.ntmps34
 go_wp2_with (go_at_call 99; refine HR.out.mono ?_; rintro e w1 ⟨rfl, rfl⟩)
 refine qak (holdS g b w.heap.size L.length x D) [0, 1, 2, 3, 4, 5, 6, 7, 8] (by kernel_rfl) ?_
 refine' qa8 (f := 3) (n := 36) _ (by kernel_rfl) (fun _ x _ _ _ h => by cases x <;> exact h) (⟨(hb.alloc _).cell 2, Blk.new _ _ _, hm.alloc _⟩ : holdS g b w.heap.size L.length x D (w.alloc (.cells (shrC x) 75)).drew) [0, 1, 2, 3, 4, 5, 6, 7, 8] _ _ (by kernel_rfl) (by kernel_rfl) (by kernel_rfl) (by rfl) (fun W hW => ?hr) ?hk
 case hr =>
  obtain ⟨q2, qb, qm⟩ := hW
  conv => arg 5; simp [pick]
  repeat (first | still_step | (refine qay rfl _ _ rfl _ rfl _ _ _ _ qb Tryz.underlying75 rfl (by kernel_rfl) ?_) | (refine qaZ rfl _ _ _ rfl _ _ kdS Tryz.underlying144 (zeroU _) b _ D rfl qm _ _ rfl (qcR x hx) false hh ?_))
  refine wpStill_nil ?_
  rfl
 refine qag 9 (by kernel_rfl) rfl ?_
 go_wp2
 refine stepQ.mk ⟨fun _ => ⟨((hb.alloc _).alloc _).cell 2, (Blk.new _ _ _).alloc _, (hm.alloc _).alloc _⟩, ?_⟩
 refine qag 10 (by kernel_rfl) rfl ?_
 go_wp2
 refine stepQ.mk ⟨fun _ => ⟨((hb.alloc _).alloc _).cell 2, (Blk.new _ _ _).alloc _, (hm.alloc _).alloc _⟩, ?_⟩
 refine qaq [11] _ _ _ (by kernel_rfl) ?_
 conv => arg 4; simp [pick]
 go_wp2
 refine qab (fun w4 hw4 => ?_)
 have c1 : w4.cell? ⟨g, 1, none⟩ = some (.int .u32 bad) := by rw [hw4]; exact ((hb.alloc _).alloc _).cell 1
 have d0 : w4.cell? ⟨w.heap.size, 0, none⟩ = some (.int .i64 x.k) := by rw [hw4]; exact ((Blk.new w 75 (shrC x)).alloc _).cell 0
 have hb4 : Below w.heap.size w w4 := by rw [hw4]; exact qbp (((Below.refl _ _).alloc (Nat.le_refl _) _).alloc (by simp) _)
 have hq := fun w => qd3 bad x.k w hbad
 rw [hv] at hq
 have HQ := hid hq
 clear hq hw4 c0 s0 hb
 go_quiet ((go_at_call 104; exact qaY (HQ.out _)))
 go_wp2
 go_ret
 exact ⟨rfl, below_drewN hb4 _⟩
theorem qgq (S : Nat -> Prop) (g : Nat) (f : Int) (bad : Nat) (L : List Shr) (x : Shr) (w : World) (h : Sg w S g f bad L) (hx : x.wf) (hbad : bad < 4294967296) (hk : inN f x.k = true) (hn : x ∉ L) (hv : hasV bad x.k = false) :
 Calls Tryz.prog 34 #[.pointer (some ⟨g, 0, none⟩), .agg (shrC x)] w fun e w' => e = .returned (.int .i64 60) /\ Below w.heap.size w w' := by
 obtain ⟨b, v, D, hb, hm, hf, hr, h1, h2, h3⟩ := h
 have c0 := (hb.alloc (.cells (shrC x) 75)).cell 0
 have hrep := qbz g f x.k (w.alloc (.cells (shrC x) 75)) c0
 unfold repE at hrep
 rw [if_pos hk] at hrep
 have s0 : (shrC x)[0]? = some (.int .i64 x.k) := rfl
 have HR := hid hrep
 have hh : Maps.has D (keyS x) = false := by rw [hf x hx]; simp [hn]
 clear hrep hr hf
 go_enter Tryz.func34, Tryz.ntmps34
 go_wp2_with (go_at_call 99; refine HR.out.mono ?_; rintro e w1 ⟨rfl, rfl⟩)
 refine qak (holdS g b w.heap.size L.length x D) [0, 1, 2, 3, 4, 5, 6, 7, 8] (by kernel_rfl) ?_
 refine' qa8 (f := 3) (n := 36) _ (by kernel_rfl) (fun _ x _ _ _ h => by cases x <;> exact h) (⟨(hb.alloc _).cell 2, Blk.new _ _ _, hm.alloc _⟩ : holdS g b w.heap.size L.length x D (w.alloc (.cells (shrC x) 75)).drew) [0, 1, 2, 3, 4, 5, 6, 7, 8] _ _ (by kernel_rfl) (by kernel_rfl) (by kernel_rfl) (by rfl) (fun W hW => ?hr) ?hk
 case hr =>
  obtain ⟨q2, qb, qm⟩ := hW
  conv => arg 5; simp [pick]
  repeat (first | still_step | (refine qay rfl _ _ rfl _ rfl _ _ _ _ qb Tryz.underlying75 rfl (by kernel_rfl) ?_) | (refine qaZ rfl _ _ _ rfl _ _ kdS Tryz.underlying144 (zeroU _) b _ D rfl qm _ _ rfl (qcR x hx) false hh ?_))
  refine wpStill_nil ?_
  rfl
 refine qag 9 (by kernel_rfl) rfl ?_
 go_wp2
 refine stepQ.mk ⟨fun _ => ⟨((hb.alloc _).alloc _).cell 2, (Blk.new _ _ _).alloc _, (hm.alloc _).alloc _⟩, ?_⟩
 refine qag 10 (by kernel_rfl) rfl ?_
 go_wp2
 refine stepQ.mk ⟨fun _ => ⟨((hb.alloc _).alloc _).cell 2, (Blk.new _ _ _).alloc _, (hm.alloc _).alloc _⟩, ?_⟩
 refine qaq [11] _ _ _ (by kernel_rfl) ?_
 conv => arg 4; simp [pick]
 go_wp2
 refine qab (fun w4 hw4 => ?_)
 have c1 : w4.cell? ⟨g, 1, none⟩ = some (.int .u32 bad) := by rw [hw4]; exact ((hb.alloc _).alloc _).cell 1
 have d0 : w4.cell? ⟨w.heap.size, 0, none⟩ = some (.int .i64 x.k) := by rw [hw4]; exact ((Blk.new w 75 (shrC x)).alloc _).cell 0
 have hb4 : Below w.heap.size w w4 := by rw [hw4]; exact qbp (((Below.refl _ _).alloc (Nat.le_refl _) _).alloc (by simp) _)
 have hq := fun w => qd3 bad x.k w hbad
 rw [hv] at hq
 have HQ := hid hq
 clear hq hw4 c0 s0 hb
 go_quiet ((go_at_call 104; exact qaY (HQ.out _)))
 go_wp2
 go_ret
 exact ⟨rfl, below_drewN hb4 _⟩
theorem qkf (S : Nat -> Prop) (g : Nat) (f : Int) (bad : Nat) (L : List Shr) (x : Shr) (w : World) (h : Sg w S g f bad L) (hk : inN f x.k = false) :
 Calls Tryz.prog 34 #[.pointer (some ⟨g, 0, none⟩), .agg (shrC x)] w fun e w' => e = .returned (.int .i64 40) /\ Below w.heap.size w w' := by
 obtain ⟨b, v, D, hb, hm, hf, hr, h1, h2, h3⟩ := h
 have c0 := (hb.alloc (.cells (shrC x) 75)).cell 0
 have hrep := qbz g f x.k (w.alloc (.cells (shrC x) 75)) c0
 unfold repE at hrep
 rw [if_neg (by rw [hk]; decide)] at hrep
 have s0 : (shrC x)[0]? = some (.int .i64 x.k) := rfl
 have HR := hid hrep
 clear hrep hr hf hm hb c0
 go_enter Tryz.func34, Tryz.ntmps34
 go_wp2_with (go_at_call 99; refine HR.out.mono ?_; rintro e w1 ⟨rfl, rfl⟩)
 go_ret
 exact ⟨rfl, (Below.refl _ _).alloc (Nat.le_refl _) _⟩
theorem qfL (S : Nat -> Prop) (g : Nat) (f : Int) (bad : Nat) (L : List Shr) (x : Shr) (w : World) (h : Sg w S g f bad L) (hx : x.wf) (hbad : bad < 4294967296) :
 Calls Tryz.prog 34 #[.pointer (some ⟨g, 0, none⟩), .agg (shrC x)] w fun e w' => e = .returned (.int .i64 (cntE f bad L x)) /\ Below w.heap.size w w' := by
 unfold cntE
 rcases Bool.eq_false_or_eq_true (inN f x.k) with hk | hk
 ·rw [if_pos hk]
  by_cases hn : x ∈ L
  ·rw [if_pos hn]; exact counts_old S g f bad L x w h hx hbad hk hn
  ·rw [if_neg hn]
   rcases Bool.eq_false_or_eq_true (hasV bad x.k) with hv | hv
   ·rw [if_pos hv]; exact qke S g f bad L x w h hx hbad hk hn hv
   ·rw [if_neg (by rw [hv]; decide)]; exact qgq S g f bad L x w h hx hbad hk hn hv
 ·rw [if_neg (by rw [hk]; decide)]; exact qkf S g f bad L x w h hk
end Go.Proofs.YtomaaidhmccngaaGreatDoor.L7
namespace Go.Proofs.YtomaaidhmccngaaGreatDoor.L7
open Go.RowKit Go.Maps Go.Lib L3 L4 L6
def firstE (f : Int) (bad : Nat) (L : List Shr) (s : Stm) : List Nat -> Int
 | [] => 0
 | k :: ks => if cntE f bad L ⟨k, s⟩ = 0 then firstE f bad L s ks else cntE f bad L ⟨k, s⟩
theorem qd0 (f : Int) (bad : Nat) (L : List Shr) (s : Stm) (k : Nat) (ks : List Nat) : firstE f bad L s (k :: ks) = if cntE f bad L ⟨k, s⟩ = 0 then firstE f bad L s ks else cntE f bad L ⟨k, s⟩ := rfl
def allE (f : Int) (bad : Nat) (L : List Shr) (s : Stm) (n : Nat) : Int := if checkV f n = 0 then firstE f bad L s (bts 0 n) else checkV f n
def enoughE (f : Int) (bad : Nat) (L : List Shr) (s : Stm) (n : Nat) (least : Int) : Int := if allE f bad L s n = 0 then (if (cnt n : Int) < least then 61 else 0) else allE f bad L s n
theorem qlq (f : Int) (bad : Nat) (L : List Shr) (x : Shr) : 0 <= cntE f bad L x /\ cntE f bad L x <= 60 := by unfold cntE; split <;> (try split) <;> (try split) <;> omega
theorem nat_wf {k : Nat} (h : k < 32) : inI (k : Int) := ⟨by omega, by omega⟩
theorem all_sets (S : Nat -> Prop) (g : Nat) (f : Int) (bad : Nat) (L : List Shr) (s : Stm) (n : Nat) (w : World) (h : Sg w S g f bad L) (hs : s.wf) (hbad : bad < 4294967296) (hn : n < 4294967296) (hT : Tab w) (hc : checkV f n = 0) :
 Calls Tryz.prog 121 #[.pointer (some ⟨g, 0, none⟩), .agg (stmC s), .int .u32 n] w fun e w' => e = .returned (.int .i64 (firstE f bad L s (bts 0 n))) /\ Below w.heap.size w w' := by
 have HB := hid h
 have HT := hid hT
 have hlt32 : ∀ j ∈ bts 0 n, j < 32 := fun j hj => qiU (k := 32) hn hj
 have hl := qej hn
 have hlist := list_any n
 have hcheck := fun w => qaD f n w hn
 rw [hc] at hcheck
 obtain ⟨M, hM⟩ := nm (bts 0 n)
 rw [<- hM] at hl hlt32 ⊢
 simp only [<- hM] at hlist
 have HL := hid (And.intro hlist (And.intro hcheck hlt32))
 obtain ⟨b, v, D, hb, hm, hf, hr, h1, h2, h3⟩ := h
 have c0 := (hb.alloc (.cells (stmC s) 73)).cell 0
 clear hT hm hf hr h1 h2 h3 hM hlist hcheck hlt32 hc hb
 go_enter Tryz.func121, Tryz.ntmps121
 go_wp2_with (first
  | (go_at_call 109; refine (HL.out.2.1 _).mono ?_; rintro e w1 ⟨rfl, rfl⟩)
  | (go_at_call 33; refine (HL.out.1 _ hn (HT.out.kept ((Below.refl _ _).alloc (Nat.le_refl _) _))).mono ?_; rintro e w2 ⟨v2, rfl, ho2⟩; obtain ⟨A2, c2, rfl, hr2, hc2⟩ := ho2.form))
 have hb2 : Below w.heap.size w w2 := ((Below.refl w.heap.size w).alloc (Nat.le_refl _) (.cells (stmC s) 73)).trans (ho2.below.mono (by simp))
 have hx2 : Blk w2 w.heap.size 73 (stmC s) := (Blk.new _ _ _).below ho2.below (by simp)
 clear ho2
 go_loopw [25] (fun i wr => ∃ k : Nat, i = .int .i64 k /\ k <= M.length /\ Below w2.heap.size w2 wr /\ firstE f bad L s (M.drop k) = firstE f bad L s M) (fun i _ => M.length - (intOf i).toNat)
 case atStart => exact ⟨0, rfl, Nat.zero_le _, Below.refl _ _, rfl⟩
 case round =>
  obtain ⟨k, rfl, hk, hbr, hi⟩ := hrel
  have hbw := nxt hb2 hbr hb2.size
  by_cases hlt : k < M.length
  ·obtain ⟨ad, u, rfl, _, hx, hcl⟩ := (hr2.below hbr).at_ hlt
   obtain rfl := qdp hlt hx
   have hxr := hx2.below hbr hx2.lt
   obtain ⟨q, hq⟩ := nm (M[k])
   have hq32 : q < 32 := by rw [hq]; exact HL.out.2.2 _ (List.getElem_mem hlt)
   have hdr : M.drop k = q :: M.drop (k + 1) := by rw [hq]; exact (List.drop_eq_getElem_cons hlt)
   rw [hdr] at hi
   rw [<- hq] at hcl
   have hcnt := qfL S g f bad L ⟨q, s⟩ wr (HB.out.below hbw) ⟨nat_wf hq32, hs⟩ hbad
   have hin := qlq f bad L ⟨q, s⟩
   obtain ⟨e, he⟩ := nm (cntE f bad L ⟨q, s⟩)
   rw [<- he] at hcnt hin
   rw [qd0, <- he] at hi
   have HC := hid hcnt
   clear hx hq hdr he hcnt
   by_cases h0 : e = 0
   ·subst h0
    rw [if_pos rfl] at hi
    have HI := hid hi
    clear hi
    go_wp2_with (first
     | (refine wpList_load_row rfl _ _ rfl _ rfl _ _ _ _ hxr Tryz.underlying73 rfl (by kernel_rfl) ?_)
     | (refine wpList_build rfl _ _ rfl #[(0, .int .i64 (q : Int)), (1, .agg (stmC s))] rfl (qbN _ s _) ?_)
     | (go_at_call 34; refine HC.out.mono ?_; rintro e w3 ⟨rfl, hb3⟩))
    go_roundw
    case rel => exact ⟨k + 1, by go_num, by omega, hbr.trans (hb3.mono hbr.size), HI.out⟩
    case measure => simp [intOf]; omega
   ·rw [if_neg h0] at hi
    have h0' : (e == 0) = false := by simpa using h0
    have HI := hid hi
    clear hi h0
    go_wp2_with (first
     | (refine wpList_load_row rfl _ _ rfl _ rfl _ _ _ _ hxr Tryz.underlying73 rfl (by kernel_rfl) ?_)
     | (refine wpList_build rfl _ _ rfl #[(0, .int .i64 (q : Int)), (1, .agg (stmC s))] rfl (qbN _ s _) ?_)
     | (go_at_call 34; refine HC.out.mono ?_; rintro e w3 ⟨rfl, hb3⟩))
    go_ret
    exact ⟨by rw [<- HI.out]; rfl, nxt hbw hb3 hbw.size⟩
  ·have hkl : M.drop k = [] := List.drop_eq_nil_of_le (by omega)
   rw [hkl] at hi
   have HI := hid hi
   clear hi hkl
   go_wp2_with fail
   go_ret
   exact ⟨by rw [<- HI.out]; rfl, hbw⟩
theorem all_not (S : Nat -> Prop) (g : Nat) (f : Int) (bad : Nat) (L : List Shr) (s : Stm) (n : Nat) (w : World) (h : Sg w S g f bad L) (hn : n < 4294967296) (hc : checkV f n ≠ 0) :
 Calls Tryz.prog 121 #[.pointer (some ⟨g, 0, none⟩), .agg (stmC s), .int .u32 n] w fun e w' => e = .returned (.int .i64 (checkV f n)) /\ Below w.heap.size w w' := by
 have hcheck := fun w => qaD f n w hn
 obtain ⟨e, he⟩ := nm (checkV f n)
 rw [<- he] at hcheck hc ⊢
 have h0' : (e == 0) = false := by simpa using hc
 have HC := hid hcheck
 obtain ⟨b, v, D, hb, hm, hf, hr, h1, h2, h3⟩ := h
 have c0 := (hb.alloc (.cells (stmC s) 73)).cell 0
 clear hm hf hr h1 h2 h3 hcheck hb he hc
 go_enter Tryz.func121, Tryz.ntmps121
 go_wp2_with (go_at_call 109; refine (HC.out _).mono ?_; rintro e w1 ⟨rfl, rfl⟩)
 go_ret
 exact ⟨rfl, (Below.refl _ _).alloc (Nat.le_refl _) _⟩
theorem sall_any (S : Nat -> Prop) (g : Nat) (f : Int) (bad : Nat) (L : List Shr) (s : Stm) (n : Nat) (w : World) (h : Sg w S g f bad L) (hs : s.wf) (hbad : bad < 4294967296) (hn : n < 4294967296) (hT : Tab w) :
 Calls Tryz.prog 121 #[.pointer (some ⟨g, 0, none⟩), .agg (stmC s), .int .u32 n] w fun e w' => e = .returned (.int .i64 (allE f bad L s n)) /\ Below w.heap.size w w' := by
 unfold allE
 by_cases hc : checkV f n = 0
 ·rw [if_pos hc]; exact all_sets S g f bad L s n w h hs hbad hn hT hc
 ·rw [if_neg hc]; exact all_not S g f bad L s n w h hn hc
theorem qfN (S : Nat -> Prop) (g : Nat) (f : Int) (bad : Nat) (L : List Shr) (s : Stm) (n : Nat) (least : Int) (w : World) (h : Sg w S g f bad L) (hs : s.wf) (hbad : bad < 4294967296) (hn : n < 4294967296) (hT : Tab w) :
 Calls Tryz.prog 55 #[.pointer (some ⟨g, 0, none⟩), .agg (stmC s), .int .u32 n, .int .i64 least] w fun e w' => e = .returned (.int .i64 (enoughE f bad L s n least)) /\ Below w.heap.size w w' := by
 have hb0 : Below w.heap.size w (w.alloc (.cells (stmC s) 73)) := (Below.refl _ _).alloc (Nat.le_refl _) _
 have hall := sall_any S g f bad L s n _ (h.below hb0) hs hbad hn (hT.kept hb0)
 have hcount := fun w => qeZ n w hn
 unfold enoughE
 obtain ⟨e, he⟩ := nm (allE f bad L s n)
 obtain ⟨m, hm⟩ := nm (cnt n)
 simp only [<- he, <- hm] at hall hcount ⊢
 have HA := hid (And.intro hall hcount)
 clear hall hcount he hm
 by_cases h0 : e = 0
 ·subst h0
  rw [if_pos rfl]
  by_cases hl : (m : Int) < least
  all_goals
   first | rw [if_pos hl] | rw [if_neg hl]
   go_enter Tryz.func55, Tryz.ntmps55
   go_wp2_with (first
    | (refine wpList_load_row rfl _ _ rfl _ rfl _ _ _ _ (Blk.new _ _ (stmC s)) Tryz.underlying73 rfl (by kernel_rfl) ?_)
    | (go_at_call 121; refine HA.out.1.mono ?_; rintro e w1 ⟨rfl, hb1⟩)
    | (go_at_call 31; refine (HA.out.2 _).mono ?_; rintro e w2 ⟨rfl, rfl⟩))
   go_ret
   exact ⟨rfl, hb0.trans (hb1.mono hb0.size)⟩
 ·rw [if_neg h0]
  have h0' : (e == 0) = false := by simpa using h0
  clear h0
  go_enter Tryz.func55, Tryz.ntmps55
  go_wp2_with (first
   | (refine wpList_load_row rfl _ _ rfl _ rfl _ _ _ _ (Blk.new _ _ (stmC s)) Tryz.underlying73 rfl (by kernel_rfl) ?_)
   | (go_at_call 121; refine HA.out.1.mono ?_; rintro e w1 ⟨rfl, hb1⟩))
  go_ret
  exact ⟨rfl, hb0.trans (hb1.mono hb0.size)⟩
theorem f_any (S : Nat -> Prop) (g : Nat) (f : Int) (bad : Nat) (L : List Shr) (w : World) (h : Sg w S g f bad L) : Calls Tryz.prog 120 #[.pointer (some ⟨g, 0, none⟩)] w fun e w' => e = .returned (.int .i64 f) /\ w = w' := by
 obtain ⟨b, v, D, hb, hm, hf, hr, h1, h2, h3⟩ := h
 have c0 := hb.cell 0
 clear hm hf hr h1 h2 h3 hb
 go_enter Tryz.func120, Tryz.ntmps120
 go_wp2
 go_ret
 exact ⟨rfl, rfl⟩
def newE (f : Int) (bad : Nat) : Int := if checkV f bad = 0 then (if f < (cnt bad : Int) then 1 else 0) else checkV f bad
theorem new_ok (f : Int) (bad : Nat) (w : World) (hbad : bad < 4294967296) (he : newE f bad = 0) :
 Calls Tryz.prog 40 #[.int .i64 f, .int .u32 bad] w fun e w' => ∃ g, e = .returned (.tuple #[.pointer (some ⟨g, 0, none⟩), .int .i64 0]) /\ Sg w' (fresh w w') g f bad [] /\ Below w.heap.size w w' := by
 have hcheck := fun w => qaD f bad w hbad
 have hcount := fun w => qeZ bad w hbad
 have hc : checkV f bad = 0 := by unfold newE at he; split at he <;> assumption
 have hle : ¬ f < (cnt bad : Int) := by
  unfold newE at he; rw [if_pos hc] at he
  intro h; rw [if_pos h] at he; cases he
 rw [hc] at hcheck
 obtain ⟨m, hm⟩ := nm (cnt bad)
 rw [<- hm] at hcount hle
 have HH := hid (And.intro hcheck hcount)
 have hmm := @run_makeMap Tryz.prog
 clear hcheck hcount hc he hm
 go_enter Tryz.func40, Tryz.ntmps40
 go_wp2_with (first
  | (go_at_call 109; refine (HH.out.1 _).mono ?_; rintro e w1 ⟨rfl, rfl⟩)
  | (go_at_call 31; refine (HH.out.2 _).mono ?_; rintro e w2 ⟨rfl, rfl⟩))
 go_ret2
 have hs : (w.alloc (.map #[] 0)).heap.size = w.heap.size + 1 := by simp
 refine ⟨w.heap.size + 1, rfl, ⟨w.heap.size, .slice none 0 0, .map [], by rw [<- hs]; exact Blk.new _ _ _, (World.ownsMap_made w _ _ _).alloc _, FitsS.nil, World.ownsRow_nil _ _ _ _, by simp [fresh] <;> omega, by simp [fresh] <;> omega, by simp [Value.ownBlock]⟩, ((Below.refl _ _).alloc (Nat.le_refl _) _).alloc (by simp) _⟩
theorem new_not (f : Int) (bad : Nat) (w : World) (hbad : bad < 4294967296) (he : newE f bad ≠ 0) :
 Calls Tryz.prog 40 #[.int .i64 f, .int .u32 bad] w fun e w' => e = .returned (.tuple #[.pointer none, .int .i64 (newE f bad)]) /\ w = w' := by
 have hcheck := fun w => qaD f bad w hbad
 have hcount := fun w => qeZ bad w hbad
 unfold newE at he ⊢
 by_cases hc : checkV f bad = 0
 ·rw [if_pos hc] at he ⊢
  rw [hc] at hcheck
  have hle : f < (cnt bad : Int) := by
   rcases Int.lt_or_le f (cnt bad : Int) with h | h
   ·exact h
   ·rw [if_neg (by omega)] at he; exact absurd rfl he
  rw [if_pos hle]
  obtain ⟨m, hm⟩ := nm (cnt bad)
  rw [<- hm] at hcount hle
  have HH := hid (And.intro hcheck hcount)
  clear hcheck hcount hc he hm
  go_enter Tryz.func40, Tryz.ntmps40
  go_wp2_with (first
   | (go_at_call 109; refine (HH.out.1 _).mono ?_; rintro e w1 ⟨rfl, rfl⟩)
   | (go_at_call 31; refine (HH.out.2 _).mono ?_; rintro e w2 ⟨rfl, rfl⟩))
  go_ret2
  exact ⟨rfl, rfl⟩
 ·rw [if_neg hc] at he ⊢
  obtain ⟨e, hq⟩ := nm (checkV f bad)
  rw [<- hq] at hcheck he ⊢
  have h0' : (e == 0) = false := by simpa using he
  have HH := hid (And.intro hcheck hcount)
  clear hcheck hcount hc he hq
  go_enter Tryz.func40, Tryz.ntmps40
  go_wp2_with (go_at_call 109; refine (HH.out.1 _).mono ?_; rintro e w1 ⟨rfl, rfl⟩)
  go_ret2
  exact ⟨rfl, rfl⟩
end Go.Proofs.YtomaaidhmccngaaGreatDoor.L7
