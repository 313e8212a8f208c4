/-
  Texts of one layer in one: CheckT, RefCheckT, BytesT, ReadT, TakeT, Great.
-/
import Derived.Test.YtgmejaiifibfoaaGreatDoorT1
import Derived.Test.YtgmejaiifibfoaaGreatDoorL3
import Derived.Deep.RegionHeld3
import Derived.Deep.QuietTactic
import Derived.Deep.DeepCutAuto
import Derived.BigQuiet

/-
  Which transactions are right, by the code and by the document's answer: the same.
-/
set_option linter.unusedSimpArgs false
set_option linter.unusedVariables false
namespace Go.Proofs.YtgmejaiifibfoaaGreatDoor
open Go.RowKit Go.Lib

/-- What its kind names is right, and the rest zero. -/
def fitsB (t : Txx) : Bool :=
  (decide (t.kind = 1) && (L2.chk t.to && posN t.amount && t.key.isEmpty && t.val.isEmpty)) || (decide (t.kind = 2) && (L2.chk t.key && L2.vlu t.val && t.to.isEmpty && decide (t.amount = 0)))
theorem right_eq (t : Txx) : right t = (posN t.nonce && L2.chk t.frm && fitsB t) := rfl
theorem isE {l : List UInt8} (h : l.isEmpty = true) : l = [] := List.isEmpty_iff.1 h
theorem noE {l : List UInt8} (h : l.isEmpty = false) : l ≠ [] := by intro e; rw [e] at h; cases h
theorem str_is0 {l : List UInt8} (h : l.isEmpty = true) : ((str l).toList == []) = true := by rw [str_toList, isE h]; rfl
theorem str_no0 {l : List UInt8} (h : l.isEmpty = false) : ((str l).toList == []) = false := by rw [str_toList]; cases l with | nil => cases h | cons => rfl
/-- The first of four that is false, or none. -/
theorem four (a b c d : Bool) : a = false ∨ (a = true ∧ b = false) ∨ (a = true ∧ b = true ∧ c = false) ∨ (a = true ∧ b = true ∧ c = true ∧ d = false) ∨ (a = true ∧ b = true ∧ c = true ∧ d = true) := by
  cases a <;> cases b <;> cases c <;> cases d <;> simp
set_option maxHeartbeats 1000000 in
set_option maxRecDepth 100000 in
theorem fits_any (t : Txx) (w : World) (h : t.wf 1000000) (hT : Tabs w) : Calls Tryz.prog 85 #[.agg (txC t)] w (gives (.bool (fitsB t)) w) := by
  obtain ⟨h0, h1, h2, h3, h4, h5, h6⟩ := h
  have hb0 : Below w.heap.size w (w.alloc (.cells (txC t) 32)) := below_box _ t
  have hT0 := Lib.hid (fun w' (hb : Below w.heap.size w w') => hT.kept hb)
  have B0 := Lib.hid (fun w1 => @box_at w w1 32 t)
  obtain ⟨c0, c1, c2, c3, c4, c5, c6⟩ := box_of (box_new w 32 t)
  clear hT
  by_cases hk : t.kind = 1
  · have e : fitsB t = (L2.chk t.to && posN t.amount && t.key.isEmpty && t.val.isEmpty) := by unfold fitsB; rw [hk]; simp
    rw [hk] at c0
    clear hk h0 h1 h6
    rcases four (L2.chk t.to) (posN t.amount) t.key.isEmpty t.val.isEmpty with a | ⟨a, b⟩ | ⟨a, b, c⟩ | ⟨a, b, c, d⟩ | ⟨a, b, c, d⟩
    case' inr.inr.inl => have c' := str_no0 c
    case' inr.inr.inr.inl => have c' := str_is0 c; have d' := str_no0 d
    case' inr.inr.inr.inr => have c' := str_is0 c; have d' := str_is0 d
    all_goals
      have HE : Hid (fitsB t = _) := Lib.hid e
      clear e
      go_enter Tryz.func85, Tryz.ntmps85
      go_wp2_with (first
        | (go_at_call 83; first | ((with_reducible refine (c_name_ok _ _ h2 a).mono ?_); unfold gives; rintro e w1 ⟨rfl, hb1⟩; obtain ⟨_, _, _, d3, d4, d5, _⟩ := B0.out _ hb1) | ((with_reducible refine (c_name_no _ _ h2 a).mono ?_); unfold gives; rintro e w1 ⟨rfl, hb1⟩))
        | (go_at_call 84; (with_reducible refine (c_counted_is _ _ _ b).mono ?_); rintro e w2 ⟨rfl, rfl⟩))
      go_ret
      refine ⟨?_, nxt hb0 hb1⟩
      rw [HE.out]
      simp [*]
  · have hk' : (t.kind == 1) = false := by simpa using hk
    by_cases hk2 : t.kind = 2
    · have e : fitsB t = (L2.chk t.key && L2.vlu t.val && t.to.isEmpty && decide (t.amount = 0)) := by unfold fitsB; rw [hk2]; simp
      rw [hk2] at c0
      clear hk hk' hk2 h0 h1 h6
      rcases four (L2.chk t.key) (L2.vlu t.val) t.to.isEmpty (decide (t.amount = 0)) with a | ⟨a, b⟩ | ⟨a, b, c⟩ | ⟨a, b, c, d⟩ | ⟨a, b, c, d⟩
      case' inr.inr.inl => have c' := str_no0 c
      case' inr.inr.inr.inl => have c' := str_is0 c; have d' : (t.amount == 0) = false := by simpa using d
      case' inr.inr.inr.inr => have c' := str_is0 c; have d' : (t.amount == 0) = true := by simpa using d
      all_goals
        have HE : Hid (fitsB t = _) := Lib.hid e
        clear e
        go_enter Tryz.func85, Tryz.ntmps85
        go_wp2_with (first
          | (go_at_call 83; first | ((with_reducible refine (c_name_ok _ _ h3 a).mono ?_); unfold gives; rintro e w1 ⟨rfl, hb1⟩; obtain ⟨_, _, d2, _, d4, d5, _⟩ := B0.out _ hb1; replace hb1 := nxt hb0 hb1; clear hb0; have hb2 := hb1) | ((with_reducible refine (c_name_no _ _ h3 a).mono ?_); unfold gives; rintro e w1 ⟨rfl, hb1⟩; have hb2 := nxt hb0 hb1))
          | (go_at_call 114; first | ((with_reducible refine (c_value_ok _ _ h4 (hT0.out _ hb1) b).mono ?_); unfold gives; rintro e w2 ⟨rfl, hb3⟩; have g2 := (hb3.cell (L2.cell_in d2)).trans d2; have g5 := (hb3.cell (L2.cell_in d5)).trans d5; replace hb2 := nxt hb1 hb3) | ((with_reducible refine (c_value_no _ _ h4 (hT0.out _ hb1) b).mono ?_); unfold gives; rintro e w2 ⟨rfl, hb3⟩; replace hb2 := nxt hb1 hb3)))
        go_ret
        refine ⟨?_, hb2⟩
        rw [HE.out]
        simp [*]
    · have hk3 : (t.kind == 2) = false := by simpa using hk2
      have e : fitsB t = false := by unfold fitsB; simp [hk, hk2]
      rw [e]
      clear e hk hk2
      go_enter Tryz.func85, Tryz.ntmps85
      go_wp2
      go_ret
      exact ⟨rfl, hb0⟩
set_option maxHeartbeats 1000000 in
set_option maxRecDepth 100000 in
theorem check_any (t : Txx) (w : World) (h : t.wf 1000000) (hT : Tabs w) : Calls Tryz.prog 47 #[.agg (txC t)] w (gives (.int .i64 (errI (right t) 80)) w) := by
  have hb0 : Below w.heap.size w (w.alloc (.cells (txC t) 32)) := below_box _ t
  have hT0 := Lib.hid (fun w' (hb : Below w.heap.size w w') => hT.kept hb)
  have B0 := Lib.hid (fun w1 => @box_at w w1 32 t)
  have K0 := Lib.hid (fun w1 (hb : Below (w.alloc (.cells (txC t) 32)).heap.size (w.alloc (.cells (txC t) 32)) w1) => (box_new w 32 t).below hb (by simp))
  have hF := Lib.hid (fun w' hT' => fits_any t w' h hT')
  obtain ⟨c0, c1, c2, c3, c4, c5, c6⟩ := box_of (box_new w 32 t)
  have h1 := h.2.1
  clear hT h
  have e : right t = (posN t.nonce && L2.chk t.frm && fitsB t) := rfl
  have HE := Lib.hid e
  clear e
  rcases four (L2.chk t.frm) (posN t.nonce) (fitsB t) true with a | ⟨a, b⟩ | ⟨a, b, c⟩ | ⟨a, b, c, d⟩ | ⟨a, b, c, _⟩
  case' inr.inr.inr.inl => cases d
  all_goals
    go_enter Tryz.func47, Tryz.ntmps47
    go_wp2_with (first
      | (go_at_call 83; first | ((with_reducible refine (c_name_ok _ _ h1 a).mono ?_); unfold gives; rintro e w1 ⟨rfl, hb1⟩; obtain ⟨_, _, _, _, _, _, d6⟩ := B0.out _ hb1; have k1 := K0.out _ hb1; replace hb1 := nxt hb0 hb1; have hb2 := hb1) | ((with_reducible refine (c_name_no _ _ h1 a).mono ?_); unfold gives; rintro e w1 ⟨rfl, hb1⟩; have hb2 := nxt hb0 hb1))
      | (go_at_call 84; (with_reducible refine (c_counted_is _ _ _ b).mono ?_); rintro e w2 ⟨rfl, rfl⟩)
      | (refine wpList_row_at rfl _ _ rfl w.heap.size rfl _ _ _ _ k1 Tryz.underlying32 rfl (by kernel_rfl) ?_)
      | (go_at_call 85; refine (hF.out _ (hT0.out _ hb1)).mono ?_; rw [c]; unfold gives; rintro e w3 ⟨rfl, hb3⟩; replace hb2 := nxt hb1 hb3))
    go_ret
    refine ⟨?_, hb2⟩
    rw [HE.out]
    first | (rw [a, b, c]; rfl) | (rw [a, b]; rfl) | (rw [a]; simp [errI])
end Go.Proofs.YtgmejaiifibfoaaGreatDoor

/-
  Which transactions are right, by the document's answer.
-/
set_option linter.unusedSimpArgs false
set_option linter.unusedVariables false
namespace Go.Proofs.YtgmejaiifibfoaaGreatDoor
open Go.RowKit Go.Lib

theorem threeR (a b : Bool) : a = false ∨ (a = true ∧ b = false) ∨ (a = true ∧ b = true) := by cases a <;> cases b <;> simp
set_option maxHeartbeats 2000000 in
set_option maxRecDepth 100000 in
theorem refcheck_any (t : Txx) (w : World) (h : t.wf 1000000) : Calls Tryz.prog 28 #[.agg (txC t)] w (gives (.bool (right t)) w) := by
  have hb0 : Below w.heap.size w (w.alloc (.cells (txC t) 32)) := below_box _ t
  have B0 := Lib.hid (fun w1 => @box_at w w1 32 t)
  obtain ⟨c0, c1, c2, c3, c4, c5, c6⟩ := box_of (box_new w 32 t)
  obtain ⟨h0, h1, h2, h3, h4, h5, h6⟩ := h
  have HE := Lib.hid (right_eq t)
  clear h0 h5 h6
  rcases (show t.nonce < 1 ∨ (1 ≤ t.nonce ∧ 4611686018427387904 < t.nonce) ∨ (1 ≤ t.nonce ∧ t.nonce ≤ 4611686018427387904) by omega) with n0 | ⟨n0, n1⟩ | ⟨n0, n1⟩
  · have hp : posN t.nonce = false := by unfold posN; simp; omega
    go_enter Tryz.func28, Tryz.ntmps28
    go_wp2
    go_ret
    exact ⟨by rw [HE.out, hp]; rfl, hb0⟩
  · have hp : posN t.nonce = false := by unfold posN; simp; omega
    go_enter Tryz.func28, Tryz.ntmps28
    go_wp2
    go_ret
    exact ⟨by rw [HE.out, hp]; rfl, hb0⟩
  have HP : Hid (posN t.nonce = true) := Lib.hid (by unfold posN; simp; omega)
  rcases (Bool.eq_false_or_eq_true (L2.chk t.frm)).symm with a | a
  · go_enter Tryz.func28, Tryz.ntmps28
    go_wp2_with (go_at_call 60; (with_reducible refine (c_refname_is _ _ _ h1 a).mono ?_); unfold gives; rintro e w1 ⟨rfl, hb1⟩)
    go_ret
    exact ⟨by rw [HE.out, a]; simp, nxt hb0 hb1⟩
  by_cases hk : t.kind = 1
  · have e : fitsB t = (L2.chk t.to && (decide (1 ≤ t.amount) && decide (t.amount ≤ 4611686018427387904)) && t.key.isEmpty && t.val.isEmpty) := by unfold fitsB; rw [hk, posN_eq]; simp
    rw [hk] at c0
    have HA := Lib.hid a
    have B1 : Hid (∀ w1, Below (w.alloc (.cells (txC t) 32)).heap.size (w.alloc (.cells (txC t) 32)) w1 → Box w1 w.heap.size 1 t.frm t.to t.key t.val t.amount t.nonce) := Lib.hid fun w1 h => by have := B0.out w1 h; rw [hk] at this; exact this
    have E := Lib.hid e
    clear e hk B0
    rcases (Bool.eq_false_or_eq_true (L2.chk t.to)).symm with b | b
    · go_enter Tryz.func28, Tryz.ntmps28
      go_wp2_with (go_at_call 60; first | ((with_reducible refine (c_refname_is _ _ _ h1 a).mono ?_); unfold gives; rintro e w1 ⟨rfl, hb1⟩; obtain ⟨d0, d1, d2, d3, d4, d5, d6⟩ := B1.out _ hb1) | ((with_reducible refine (c_refname_is _ _ _ h2 b).mono ?_); unfold gives; rintro e w2 ⟨rfl, hb2⟩))
      go_ret
      exact ⟨by rw [HE.out, E.out, b]; simp, nxt (nxt hb0 hb1) hb2⟩
    rcases (show t.amount < 1 ∨ (1 ≤ t.amount ∧ 4611686018427387904 < t.amount) ∨ (1 ≤ t.amount ∧ t.amount ≤ 4611686018427387904) by omega) with m0 | ⟨m0, m1⟩ | ⟨m0, m1⟩
    case' inr.inr => rcases threeR t.key.isEmpty t.val.isEmpty with x | ⟨x, y⟩ | ⟨x, y⟩
    all_goals
      (try have x' := str_no0 x)
      (try have x' := str_is0 x)
      (try have y' := str_no0 y)
      (try have y' := str_is0 y)
      go_enter Tryz.func28, Tryz.ntmps28
      go_wp2_with (go_at_call 60; first | ((with_reducible refine (c_refname_is _ _ _ h1 a).mono ?_); unfold gives; rintro e w1 ⟨rfl, hb1⟩; obtain ⟨d0, d1, d2, d3, d4, d5, d6⟩ := B1.out _ hb1) | ((with_reducible refine (c_refname_is _ _ _ h2 b).mono ?_); unfold gives; rintro e w2 ⟨rfl, hb2⟩; have g3 := (hb2.cell (L2.cell_in d3)).trans d3; have g4 := (hb2.cell (L2.cell_in d4)).trans d4; have g5 := (hb2.cell (L2.cell_in d5)).trans d5))
      go_ret
      refine ⟨?_, nxt (nxt hb0 hb1) hb2⟩
      rw [HE.out, E.out, HP.out, HA.out, b]
      simp [*] <;> omega
  · have hk' : (t.kind == 1) = false := by simpa using hk
    have HA := Lib.hid a
    by_cases hk2 : t.kind = 2
    · have e : fitsB t = (L2.chk t.key && L2.vlu t.val && t.to.isEmpty && decide (t.amount = 0)) := by unfold fitsB; rw [hk2]; simp
      have B1 : Hid (∀ w1, Below (w.alloc (.cells (txC t) 32)).heap.size (w.alloc (.cells (txC t) 32)) w1 → Box w1 w.heap.size 2 t.frm t.to t.key t.val t.amount t.nonce) := Lib.hid fun w1 h => by have := B0.out w1 h; rw [hk2] at this; exact this
      have E := Lib.hid e
      clear e hk hk' hk2 B0 c0
      rcases four (L2.chk t.key) (L2.vlu t.val) t.to.isEmpty (decide (t.amount = 0)) with x | ⟨x, y⟩ | ⟨x, y, z⟩ | ⟨x, y, z, u⟩ | ⟨x, y, z, u⟩
      case' inr.inr.inl => have z' := str_no0 z
      case' inr.inr.inr.inl => have z' := str_is0 z; have u' : (t.amount == 0) = false := by simpa using u
      case' inr.inr.inr.inr => have z' := str_is0 z; have u' : (t.amount == 0) = true := by simpa using u
      all_goals
        go_enter Tryz.func28, Tryz.ntmps28
        go_wp2_with (first
          | (go_at_call 60; first | ((with_reducible refine (c_refname_is _ _ _ h1 a).mono ?_); unfold gives; rintro e w1 ⟨rfl, hb1⟩; obtain ⟨d0, d1, d2, d3, d4, d5, d6⟩ := B1.out _ hb1; replace hb1 := nxt hb0 hb1) | ((with_reducible refine (c_refname_is _ _ _ h3 x).mono ?_); unfold gives; rintro e w2 ⟨rfl, hb2⟩; have g2 := (hb2.cell (L2.cell_in d2)).trans d2; have g4 := (hb2.cell (L2.cell_in d4)).trans d4; have g5 := (hb2.cell (L2.cell_in d5)).trans d5; replace hb2 := nxt hb1 hb2; have hb3 := hb2))
          | (go_at_call 61; (with_reducible refine (c_refvalue_is _ _ _ h4 y).mono ?_); unfold gives; rintro e w3 ⟨rfl, hb4⟩; have k2 := (hb4.cell (L2.cell_in g2)).trans g2; have k5 := (hb4.cell (L2.cell_in g5)).trans g5; replace hb3 := nxt hb2 hb4))
        go_ret
        refine ⟨?_, hb3⟩
        rw [HE.out, E.out, HP.out, HA.out]
        simp [*]
    · have hk3 : (t.kind == 2) = false := by simpa using hk2
      have e : fitsB t = false := by unfold fitsB; simp [hk, hk2]
      have E := Lib.hid e
      clear e hk hk2
      go_enter Tryz.func28, Tryz.ntmps28
      go_wp2_with (go_at_call 60; (with_reducible refine (c_refname_is _ _ _ h1 a).mono ?_); unfold gives; rintro e w1 ⟨rfl, hb1⟩; obtain ⟨d0, d1, d2, d3, d4, d5, d6⟩ := B0.out _ hb1)
      go_ret
      exact ⟨by rw [HE.out, E.out]; simp, nxt hb0 hb1⟩
end Go.Proofs.YtgmejaiifibfoaaGreatDoor

/-
  A transaction's bytes, by the code.
-/
set_option linter.unusedSimpArgs false
set_option linter.unusedVariables false
namespace Go.Proofs.YtgmejaiifibfoaaGreatDoor
open Go.RowKit Go.Lib
open L3 (Reads encN)

/-- Bytes that a call made, and no error. -/
def made (l : List UInt8) (w : World) (e : Ending) (w' : World) : Prop :=
  ∃ A c, e = .returned (.tuple #[.slice A l.length c, .int .i64 0]) ∧ Reads w' w'.heap.size 1 A l.length (byteCells l) ∧ l.length ≤ c ∧ Below w.heap.size w w'
theorem made_of {l : List UInt8} {w : World} {e : Ending} {w' : World} (h : L3.wrote l w e w') : made l w e w' := by
  obtain ⟨v, rfl, ho⟩ := h
  obtain ⟨A, c, rfl, hr, hc⟩ := ho.form
  exact ⟨A, c, rfl, hr, hc, ho.2.1⟩
theorem reads_two (w : World) (k n : Int) (ty : TypeId) : Reads (w.alloc (.cells #[.int .i64 k, .int .i64 n] ty)) (w.alloc (.cells #[.int .i64 k, .int .i64 n] ty)).heap.size 1 (some ⟨w.heap.size, 0, none⟩) 2 (L3.intCells [k, n]) := by
  refine ⟨rfl, fun _ => ⟨_, rfl, by simp, fun j u hu => ?_⟩⟩
  match j, hu with
  | 0, hu => simp [L3.intCells] at hu; subst hu; simp [Addr.add]
  | 1, hu => simp [L3.intCells] at hu; subst hu; simp [Addr.add]
theorem c_nums (k n : Int) (w : World) (ty : TypeId) (hk : 0 ≤ k ∧ k ≤ 4611686018427387904) (hn : 0 ≤ n ∧ n ≤ 4611686018427387904) :
    Calls Tryz.prog 94 #[.slice (some ⟨w.heap.size, 0, none⟩) 2 2] (w.alloc (.cells #[.int .i64 k, .int .i64 n] ty)) (made (encN k.toNat ++ encN n.toNat) (w.alloc (.cells #[.int .i64 k, .int .i64 n] ty))) := by
  refine (L3.nums_any _ 2 2 [k, n] _ (reads_two w k n ty) (by omega)).mono ?_
  intro e w' h
  have hall : [k, n].all L3.okN = true := by simp [L3.okN_mk hk.1 hk.2, L3.okN_mk hn.1 hn.2]
  rcases h with ⟨_, v, rfl, ho⟩ | ⟨h, _⟩
  · have : L3.encs [k, n] = encN k.toNat ++ encN n.toNat := by simp [L3.encs]
    rw [this] at ho
    exact made_of ⟨v, rfl, ho⟩
  · rw [hall] at h; cases h
theorem c_text (l s : List UInt8) (A : Option Addr) (c : Nat) (w : World) (hl : l.length ≤ 100000000) (hs : s.length ≤ 65536) (h : Reads w w.heap.size 1 A l.length (byteCells l)) :
    Calls Tryz.prog 95 #[.slice A l.length c, .string (str s)] w (made (l ++ txtB s) w) := by
  refine (L3.text_ok _ A l.length c l (str s) w h hl (Nat.le_refl _) (by rw [str_size]; exact hs)).mono fun e w' h => ?_
  rw [str_size, str_list] at h
  exact made_of h
theorem c_num (l : List UInt8) (k : Int) (A : Option Addr) (c : Nat) (w : World) (hl : l.length ≤ 100000000) (hk : 0 ≤ k ∧ k ≤ 4611686018427387904) (h : Reads w w.heap.size 1 A l.length (byteCells l)) :
    Calls Tryz.prog 54 #[.slice A l.length c, .int .i64 k] w (made (l ++ encN k.toNat) w) := by
  obtain ⟨m, rfl⟩ := Int.eq_ofNat_of_zero_le hk.1
  exact (L3.num_ok _ A l.length c l m w h hl (Nat.le_refl _) (by omega)).mono fun e w' h => made_of h
theorem len_app (a b : List UInt8) (n m : Nat) (ha : a.length ≤ n) (hb : b.length ≤ m) : (a ++ b).length ≤ n + m := by rw [List.length_append]; omega
theorem txtB_len {s : List UInt8} (h : s.length ≤ 128) : (txtB s).length ≤ 137 := by
  have := L3.encN_le9 (n := s.length) (by omega)
  unfold txtB
  rw [List.length_append]; omega
theorem encN_len {n : Int} (h : 0 ≤ n ∧ n ≤ 4611686018427387904) : (encN n.toNat).length ≤ 9 := L3.encN_le9 (by omega)

set_option maxHeartbeats 1000000 in
set_option maxRecDepth 100000 in
theorem bytes_no (t : Txx) (w : World) (h : t.wf 1000000) (hT : Tabs w) (hr : right t = false) : Calls Tryz.prog 57 #[.agg (txC t)] w (gives (.tuple #[.slice none 0 0, .int .i64 80]) w) := by
  have hb0 : Below w.heap.size w (w.alloc (.cells (txC t) 32)) := below_box _ t
  have k0 := box_new w 32 t
  have hc := check_any t _ h (hT.kept hb0)
  rw [hr] at hc
  have HC := Lib.hid hc
  clear hc h hT
  go_enter Tryz.func57, Tryz.ntmps57
  go_wp2_with (first
    | (refine wpList_row_at rfl _ _ rfl w.heap.size rfl _ _ _ _ k0 Tryz.underlying32 rfl (by kernel_rfl) ?_)
    | (go_at_call 47; refine HC.out.mono ?_; unfold gives errI; rintro e w1 ⟨rfl, hb1⟩))
  go_ret2
  exact ⟨rfl, nxt hb0 hb1⟩
set_option maxHeartbeats 2000000 in
set_option maxRecDepth 100000 in
theorem bytes_ok (t : Txx) (w : World) (hT : Tabs w) (hr : right t = true) : Calls Tryz.prog 57 #[.agg (txC t)] w (made (bytesT t) w) := by
  have hwf := right_wf hr
  have hb0 : Below w.heap.size w (w.alloc (.cells (txC t) 32)) := below_box _ t
  have k0 := box_new w 32 t
  have B0 := Lib.hid (fun w1 => @box_at w w1 32 t)
  have hc := check_any t _ (hwf.le (by omega)) (hT.kept hb0)
  rw [hr] at hc
  obtain ⟨_, w1, w2, w3, w4, _, _⟩ := hwf
  by_cases hk : t.kind = 1
  · obtain ⟨p1, p2, p3, p4, p5, p6⟩ := right_move hr hk
    have n1 := posN_in p1
    have n4 := posN_in p4
    obtain ⟨y1, hy1⟩ : ∃ y, y = encN (1 : Int).toNat ++ encN t.nonce.toNat := ⟨_, rfl⟩
    obtain ⟨y2, hy2⟩ : ∃ y, y = y1 ++ txtB t.frm := ⟨_, rfl⟩
    obtain ⟨y3, hy3⟩ : ∃ y, y = y2 ++ txtB t.to := ⟨_, rfl⟩
    obtain ⟨y4, hy4⟩ : ∃ y, y = y3 ++ encN t.amount.toNat := ⟨_, rfl⟩
    have l1 : y1.length ≤ 18 := by rw [hy1]; exact len_app _ _ 9 9 (encN_len ⟨by omega, by omega⟩) (encN_len ⟨by omega, by omega⟩)
    have l2 : y2.length ≤ 155 := by rw [hy2]; exact len_app _ _ 18 137 l1 (txtB_len w1)
    have l3 : y3.length ≤ 292 := by rw [hy3]; exact len_app _ _ 155 137 l2 (txtB_len w2)
    have e : bytesT t = y4 := by rw [hy4, hy3, hy2, hy1]; unfold bytesT; rw [if_pos hk, hk]; simp
    have hN := fun wx ty => c_nums 1 t.nonce wx ty ⟨by omega, by omega⟩ ⟨by omega, n1.2⟩
    rw [← hy1] at hN
    have hT1 := fun A c wx => c_text y1 t.frm A c wx (by omega) (by omega)
    rw [← hy2] at hT1
    have hT2 := fun A c wx => c_text y2 t.to A c wx (by omega) (by omega)
    rw [← hy3] at hT2
    have hT3 := fun A c wx => c_num y3 t.amount A c wx (by omega) ⟨by omega, n4.2⟩
    rw [← hy4] at hT3
    have HH := Lib.hid (And.intro hc (And.intro hN (And.intro hT1 (And.intro hT2 hT3))))
    have B1 : Hid (∀ w1, Below (w.alloc (.cells (txC t) 32)).heap.size (w.alloc (.cells (txC t) 32)) w1 → Box w1 w.heap.size 1 t.frm t.to t.key t.val t.amount t.nonce) := Lib.hid fun w1 h => by have := B0.out w1 h; rw [hk] at this; exact this
    rw [e]
    clear hc hN hT1 hT2 hT3 hy1 hy2 hy3 hy4 e l1 l2 l3 w1 w2 w3 w4 p1 p2 p3 p4 p5 p6 n1 n4 hk hr hT B0
    go_enter Tryz.func57, Tryz.ntmps57
    go_wp2_with (first
      | (refine wpList_row_at rfl _ _ rfl w.heap.size rfl _ _ _ _ k0 Tryz.underlying32 rfl (by kernel_rfl) ?_)
      | (go_at_call 47; refine HH.out.1.mono ?_; unfold gives errI; rintro e w1 ⟨rfl, hb1⟩; obtain ⟨d0, d1, d2, d3, d4, d5, d6⟩ := B1.out _ hb1)
      | (go_at_call 94; refine (HH.out.2.1 _ _).mono ?_; unfold made; rintro e w2 ⟨A2, c2, rfl, r2, _, hb2⟩; replace hb2 := nxtB (hb1.alloc hb1.size _) hb2 (by have := hb1.size; simp at this ⊢; omega); obtain ⟨e0, e1, e2, e3, e4, e5, e6⟩ := B1.out _ hb2)
      | (go_at_call 95; (with_reducible refine (HH.out.2.2.1 _ _ _ r2).mono ?_); unfold made; rintro e w3 ⟨A3, c3, rfl, r3, _, hb3⟩; replace hb3 := nxtB hb2 hb3 hb2.size; obtain ⟨g0, g1, g2, g3, g4, g5, g6⟩ := B1.out _ hb3)
      | (go_at_call 95; (with_reducible refine (HH.out.2.2.2.1 _ _ _ r3).mono ?_); unfold made; rintro e w4 ⟨A4, c4, rfl, r4, _, hb4⟩; replace hb4 := nxtB hb3 hb4 hb3.size; obtain ⟨i0, i1, i2, i3, i4, i5, i6⟩ := B1.out _ hb4)
      | (go_at_call 54; (with_reducible refine (HH.out.2.2.2.2 _ _ _ r4).mono ?_); unfold made; rintro e w5 ⟨A5, c5, rfl, r5, q5, hb5⟩; replace hb5 := nxtB hb4 hb5 hb4.size))
    go_ret2
    exact ⟨A5, c5, rfl, r5, q5, hb0.trans (hb5.mono (by simp))⟩
  · obtain ⟨p1, p2, p3, p4, p5, p6, hk2⟩ := right_put hr hk
    have n1 := posN_in p1
    obtain ⟨y1, hy1⟩ : ∃ y, y = encN (2 : Int).toNat ++ encN t.nonce.toNat := ⟨_, rfl⟩
    obtain ⟨y2, hy2⟩ : ∃ y, y = y1 ++ txtB t.frm := ⟨_, rfl⟩
    obtain ⟨y3, hy3⟩ : ∃ y, y = y2 ++ txtB t.key := ⟨_, rfl⟩
    obtain ⟨y4, hy4⟩ : ∃ y, y = y3 ++ txtB t.val := ⟨_, rfl⟩
    have l1 : y1.length ≤ 18 := by rw [hy1]; exact len_app _ _ 9 9 (encN_len ⟨by omega, by omega⟩) (encN_len ⟨by omega, by omega⟩)
    have l2 : y2.length ≤ 155 := by rw [hy2]; exact len_app _ _ 18 137 l1 (txtB_len w1)
    have l3 : y3.length ≤ 292 := by rw [hy3]; exact len_app _ _ 155 137 l2 (txtB_len w3)
    have e : bytesT t = y4 := by rw [hy4, hy3, hy2, hy1]; unfold bytesT; rw [if_neg hk, hk2]; simp
    have hN := fun wx ty => c_nums 2 t.nonce wx ty ⟨by omega, by omega⟩ ⟨by omega, n1.2⟩
    rw [← hy1] at hN
    have hT1 := fun A c wx => c_text y1 t.frm A c wx (by omega) (by omega)
    rw [← hy2] at hT1
    have hT2 := fun A c wx => c_text y2 t.key A c wx (by omega) (by omega)
    rw [← hy3] at hT2
    have hT3 := fun A c wx => c_text y3 t.val A c wx (by omega) (by omega)
    rw [← hy4] at hT3
    have HH := Lib.hid (And.intro hc (And.intro hN (And.intro hT1 (And.intro hT2 hT3))))
    have B1 : Hid (∀ w1, Below (w.alloc (.cells (txC t) 32)).heap.size (w.alloc (.cells (txC t) 32)) w1 → Box w1 w.heap.size 2 t.frm t.to t.key t.val t.amount t.nonce) := Lib.hid fun w1 h => by have := B0.out w1 h; rw [hk2] at this; exact this
    rw [e]
    clear hc hN hT1 hT2 hT3 hy1 hy2 hy3 hy4 e l1 l2 l3 w1 w2 w3 w4 p1 p2 p3 p4 p5 p6 n1 hk hk2 hr hT B0
    go_enter Tryz.func57, Tryz.ntmps57
    go_wp2_with (first
      | (refine wpList_row_at rfl _ _ rfl w.heap.size rfl _ _ _ _ k0 Tryz.underlying32 rfl (by kernel_rfl) ?_)
      | (go_at_call 47; refine HH.out.1.mono ?_; unfold gives errI; rintro e w1 ⟨rfl, hb1⟩; obtain ⟨d0, d1, d2, d3, d4, d5, d6⟩ := B1.out _ hb1)
      | (go_at_call 94; refine (HH.out.2.1 _ _).mono ?_; unfold made; rintro e w2 ⟨A2, c2, rfl, r2, _, hb2⟩; replace hb2 := nxtB (hb1.alloc hb1.size _) hb2 (by have := hb1.size; simp at this ⊢; omega); obtain ⟨e0, e1, e2, e3, e4, e5, e6⟩ := B1.out _ hb2)
      | (go_at_call 95; (with_reducible refine (HH.out.2.2.1 _ _ _ r2).mono ?_); unfold made; rintro e w3 ⟨A3, c3, rfl, r3, _, hb3⟩; replace hb3 := nxtB hb2 hb3 hb2.size; obtain ⟨g0, g1, g2, g3, g4, g5, g6⟩ := B1.out _ hb3)
      | (go_at_call 95; (with_reducible refine (HH.out.2.2.2.1 _ _ _ r3).mono ?_); unfold made; rintro e w4 ⟨A4, c4, rfl, r4, _, hb4⟩; replace hb4 := nxtB hb3 hb4 hb3.size; obtain ⟨i0, i1, i2, i3, i4, i5, i6⟩ := B1.out _ hb4)
      | (go_at_call 95; (with_reducible refine (HH.out.2.2.2.2 _ _ _ r4).mono ?_); unfold made; rintro e w5 ⟨A5, c5, rfl, r5, q5, hb5⟩; replace hb5 := nxtB hb4 hb5 hb4.size))
    go_ret2
    exact ⟨A5, c5, rfl, r5, q5, hb0.trans (hb5.mono (by simp))⟩
end Go.Proofs.YtgmejaiifibfoaaGreatDoor

/-
  The next transaction of a reader, by the code: whatever is left of its bytes.
-/
set_option linter.unusedSimpArgs false
set_option linter.unusedVariables false
namespace Go.Proofs.YtgmejaiifibfoaaGreatDoor
open Go.RowKit Go.Lib
open L3 (Rdr leaves numS textS textV failS rdN)

theorem right_kind0 {t : Txx} (h : t.kind = 0) : right t = false := by unfold right; rw [h]; simp
theorem rdr_set {w : World} {g G i : Nat} {p : List UInt8 × Int} (h : Rdr w g p) (hG : g < G) (u : Value) : Rdr (w.setCell ⟨G, i, none⟩ u) g p := by
  obtain ⟨A, c, hb, hr, h3⟩ := h
  exact ⟨A, c, hb.far (by show g ≠ G; omega) u, hr.setCell (by show g ≤ G; omega) u, h3⟩
theorem rdr_alloc {w : World} {g : Nat} {p : List UInt8 × Int} (h : Rdr w g p) (o : Obj) : Rdr (w.alloc o) g p := by
  have hl := h.lt
  obtain ⟨A, c, hb, hr, h3⟩ := h
  exact ⟨A, c, hb.alloc o, hr.alloc (by omega) o, h3⟩
theorem rdr_below {w w' : World} {g B : Nat} {p : List UInt8 × Int} (h : Rdr w g p) (hb : Below B w w') (hg : g < B) : Rdr w' g p := by
  obtain ⟨A, c, h1, h2, h3⟩ := h
  exact ⟨A, c, h1.below hb hg, h2.below (hb.mono (by omega)), h3⟩
theorem rdr_row {w : World} {g G : Nat} {p : List UInt8 × Int} (h : Rdr w g p) (hG : g < G) (cs : Array Value) : Rdr (w.setRow G cs) g p := by
  refine rdr_below h (B := g + 1) ⟨rfl, rfl, rfl, by simp [World.setRow], fun i hi => ?_⟩ (Nat.lt_succ_self _)
  have : ¬ G = i := by omega
  simp [World.setRow, Array.getElem?_modify, this]
theorem num_at (p : List UInt8 × Int) : 0 ≤ numV p ∧ numV p ≤ 4611686018427387904 := by
  unfold numV
  obtain ⟨k, s, e, hq⟩ : ∃ k s e, rdN 0 0 p.1 = (k, s, e) := ⟨_, _, _, rfl⟩
  rw [hq]
  by_cases he : e = 0
  · subst he
    have := (L3.rd_back0 hq).2.2.2
    constructor
    · exact Int.natCast_nonneg _
    · show (k : Int) ≤ _; omega
  · have := ((L3.rd_err _ _ _ _ _ _ hq).2 he).1
    subst this
    constructor
    · exact Int.natCast_nonneg _
    · show ((0 : Nat) : Int) ≤ _; omega
theorem numV_in (p : List UInt8 × Int) : inI (numV p) := by
  have := num_at p
  unfold inI; omega
theorem textV_len (p : List UInt8 × Int) : (textV p).length ≤ 65536 := by
  unfold L3.textV
  split
  · simp
  · have h : L3.mostV 65536 p ≤ 65536 := by unfold L3.mostV; split <;> omega
    rw [List.length_take]; omega
/-- What read tells and leaves. -/
def readT (p : List UInt8 × Int) : Txx × (List UInt8 × Int) :=
  if numV p = 1 then (⟨1, textV (numS (numS p)), textV (textS (numS (numS p))), [], [], numV (textS (textS (numS (numS p)))), numV (numS p)⟩, numS (textS (textS (numS (numS p)))))
  else if numV p = 2 then (⟨2, textV (numS (numS p)), [], textV (textS (numS (numS p))), textV (textS (textS (numS (numS p)))), 0, numV (numS p)⟩, textS (textS (textS (numS (numS p)))))
  else (zeroX, numS p)
theorem readT_wf (p : List UInt8 × Int) : (readT p).1.wf 1000000 := by
  have i0 : inI 0 := by unfold inI; omega
  have i1 : inI 1 := by unfold inI; omega
  have i2 : inI 2 := by unfold inI; omega
  have t := fun q => Nat.le_trans (textV_len q) (show 65536 ≤ 1000000 by omega)
  unfold readT
  generalize hq1 : numS (numS p) = q1
  generalize hq2 : textS q1 = q2
  generalize hq3 : textS q2 = q3
  split
  · dsimp only
    exact ⟨i1, t q1, t q2, Nat.zero_le _, Nat.zero_le _, numV_in q3, numV_in (numS p)⟩
  · split
    · dsimp only
      exact ⟨i2, t q1, Nat.zero_le _, t q2, t q3, i0, numV_in (numS p)⟩
    · exact zeroX_wf _
theorem take_read (p : List UInt8 × Int) : takeT p = endT (readT p).1 (readT p).2 := by
  unfold takeT readT
  generalize numS p = q
  generalize numV p = n
  by_cases h1 : n = 1
  · rw [if_neg (fun h => h.1 h1), if_pos h1, if_pos h1]
  · by_cases h2 : n = 2
    · rw [if_neg (fun h => h.2 h2), if_neg h1, if_neg h1, if_pos h2]
    · rw [if_pos ⟨h1, h2⟩, if_neg h1, if_neg h2]
      unfold endT
      rw [if_pos (.inr (right_kind0 rfl))]
theorem c_rnum (g : Nat) (q : List UInt8 × Int) (W : World) (h : Rdr W g q) : Calls Tryz.prog 39 #[.pointer (some ⟨g, 0, none⟩)] W fun e w' => e = .returned (.int .i64 (numV q)) ∧ leaves g (numS q) W w' := L3.rnum_any g q W h
theorem c_rtext (g : Nat) (q : List UInt8 × Int) (W : World) (h : Rdr W g q) : Calls Tryz.prog 123 #[.pointer (some ⟨g, 0, none⟩)] W fun e w' => e = .returned (.string (str (textV q))) ∧ leaves g (textS q) W w' := L3.rtext_any g q W h
/-- What holds of the world while a transaction is read. -/
def ReadAt (w : World) (g : Nat) (t : Txx) (q : List UInt8 × Int) (W : World) : Prop :=
  Rdr W g q ∧ L3.Blk W w.heap.size 32 (txC zeroX) ∧ L3.Blk W (w.heap.size + 1) 32 (txC t) ∧ w.grownBy W (some g) ∧ g < w.heap.size
theorem ReadAt.rdr {w W : World} {g : Nat} {t : Txx} {q : List UInt8 × Int} (h : ReadAt w g t q W) : Rdr W g q := h.1
theorem ReadAt.next {w W W' : World} {g : Nat} {t : Txx} {q q' : List UInt8 × Int} (h : ReadAt w g t q W) (hl : leaves g q' W W') : ReadAt w g t q' W' :=
  ⟨hl.1, h.2.1.grown hl.2 (fun e => by injection e with e; have := h.2.2.2.2; omega), h.2.2.1.grown hl.2 (fun e => by injection e with e; have := h.2.2.2.2; omega), L3.grown_trans h.2.2.2.1 hl.2, h.2.2.2.2⟩
theorem grown_new {w W : World} {g : Nat} (h : w.grownBy W (some g)) {G i : Nat} (hG : w.heap.size ≤ G) (u : Value) : w.grownBy (W.setCell ⟨G, i, none⟩ u) (some g) :=
  ⟨h.os, h.tape, h.output, by simpa [World.setCell] using h.size, fun k hk hne => (Below.heap_setCell W ⟨G, i, none⟩ u k (by show k ≠ G; omega)).trans (h.block k hk hne)⟩
theorem grown_row {w W : World} {g : Nat} (h : w.grownBy W (some g)) {G : Nat} (hG : w.heap.size ≤ G) (cs : Array Value) : w.grownBy (W.setRow G cs) (some g) := by
  refine ⟨h.os, h.tape, h.output, by simpa [World.setRow] using h.size, fun k hk hne => ?_⟩
  have : ¬ G = k := by omega
  rw [← h.block k hk hne]
  simp [World.setRow, Array.getElem?_modify, this]
theorem ReadAt.set_ {w W : World} {g : Nat} {t : Txx} {q : List UInt8 × Int} (h : ReadAt w g t q W) (i : Nat) (u : Value) (t' : Txx) (he : (txC t).setIfInBounds i u = txC t') : ReadAt w g t' q (W.setCell ⟨w.heap.size + 1, i, none⟩ u) := by
  have hg := h.2.2.2.2
  refine ⟨rdr_set h.1 (by omega) u, h.2.1.far (by simp) u, ?_, grown_new h.2.2.2.1 (Nat.le_succ _) u, hg⟩
  rw [← he]
  exact h.2.2.1.set_ i u
theorem ReadAt.mk {w : World} {g : Nat} {q : List UInt8 × Int} (h : Rdr w g q) (t : Txx) : ReadAt w g t q ((w.alloc (.cells (txC zeroX) 32)).alloc (.cells (txC t) 32)) := by
  have e1 : (w.alloc (.cells (txC zeroX) 32)).heap.size = w.heap.size + 1 := by simp
  refine ⟨rdr_alloc (rdr_alloc h _) _, (box_new w _ zeroX).alloc _, ?_, L3.grown_trans (World.grownBy_alloc w _ _) (World.grownBy_alloc _ _ _), h.lt⟩
  have := box_new (w.alloc (.cells (txC zeroX) 32)) 32 t
  rw [e1] at this
  exact this
set_option maxHeartbeats 4000000 in
set_option maxRecDepth 100000 in
theorem read_any (g : Nat) (p : List UInt8 × Int) (w : World) (h : Rdr w g p) :
    Calls Tryz.prog 103 #[.pointer (some ⟨g, 0, none⟩)] w fun e w' => e = .returned (.agg (txC (readT p).1)) ∧ leaves g (readT p).2 w w' := by
  have HA := Lib.hid (ReadAt.mk h zeroX)
  have hn0 := fun W h => c_rnum g p W h
  obtain ⟨n0, e0⟩ : ∃ n, numV p = n := ⟨_, rfl⟩
  obtain ⟨q1, s1⟩ : ∃ q, numS p = q := ⟨_, rfl⟩
  obtain ⟨r, hX⟩ : ∃ r, r = readT p := ⟨_, rfl⟩
  rw [← hX]
  rw [e0, s1] at hn0
  unfold readT at hX
  rw [e0, s1] at hX
  by_cases k1 : n0 = 1
  · have hn1 := fun W h => c_rnum g q1 W h
    have ht2 := fun W h => c_rtext g (numS q1) W h
    have ht3 := fun W h => c_rtext g (textS (numS q1)) W h
    have hn4 := fun W h => c_rnum g (textS (textS (numS q1))) W h
    rw [if_pos k1] at hX
    obtain ⟨n1, e1⟩ : ∃ n, numV q1 = n := ⟨_, rfl⟩
    obtain ⟨q2, s2⟩ : ∃ q, numS q1 = q := ⟨_, rfl⟩
    rw [e1, s2] at hX hn1
    rw [s2] at ht2 ht3 hn4
    obtain ⟨x2, e2⟩ : ∃ n, textV q2 = n := ⟨_, rfl⟩
    obtain ⟨q3, s3⟩ : ∃ q, textS q2 = q := ⟨_, rfl⟩
    rw [e2, s3] at hX ht2
    rw [s3] at ht3 hn4
    obtain ⟨x3, e3⟩ : ∃ n, textV q3 = n := ⟨_, rfl⟩
    obtain ⟨q4, s4⟩ : ∃ q, textS q3 = q := ⟨_, rfl⟩
    rw [e3, s4] at hX ht3
    rw [s4] at hn4
    obtain ⟨n4, e4⟩ : ∃ n, numV q4 = n := ⟨_, rfl⟩
    obtain ⟨q5, s5⟩ : ∃ q, numS q4 = q := ⟨_, rfl⟩
    rw [e4, s5] at hX hn4
    subst k1
    have HX := Lib.hid hX
    have HH := Lib.hid (And.intro hn0 (And.intro hn1 (And.intro ht2 (And.intro ht3 hn4))))
    clear hX hn0 hn1 ht2 ht3 hn4 e0 s1 e1 s2 e2 s3 e3 s4 e4 s5 h
    go_enter Tryz.func103, Tryz.ntmps103
    go_upto_region 2 with (first
      | (refine wpList_build rfl _ _ rfl #[] rfl (build_zero _) ?_)
      | (refine wpList_store_last rfl _ _ _ rfl (w.alloc _) (w.heap.size + 1) (by simp) (txC zeroX) rfl rfl _ _ (by kernel_rfl) rfl (txC_ones _) ?_))
    refine name_world (fun w0 hw0 => ?_)
    have hA : ReadAt w g zeroX p w0 := by rw [hw0]; exact HA.out
    clear hw0 HA
    go_upto_region 5 with (first
      | (go_at_call 39; (with_reducible refine (HH.out.1 _ hA.rdr).mono ?_); rintro e w1 ⟨rfl, hl1⟩; have hA1 := hA.next hl1)
      | (go_at_call 39; (with_reducible refine (HH.out.2.1 _ hA1.rdr).mono ?_); rintro e w2 ⟨rfl, hl2⟩; have hA2 := hA1.next hl2)
      | (go_at_call 123; (with_reducible refine (HH.out.2.2.1 _ hA2.rdr).mono ?_); rintro e w3 ⟨rfl, hl3⟩; have hA3 := hA2.next hl3; have f0 := hA3.2.2.1.frozen 0; have f6 := hA3.2.2.1.frozen 6; have f1 := hA3.2.2.1.frozen 1; have b0 : w3.cell? ⟨w.heap.size + 1, 0, none⟩ = some (.int .i64 0) := hA3.2.2.1.cell 0; have b6 : w3.cell? ⟨w.heap.size + 1, 6, none⟩ = some (.int .i64 0) := hA3.2.2.1.cell 6; have b1 : w3.cell? ⟨w.heap.size + 1, 1, none⟩ = some (.string ⟨#[]⟩) := hA3.2.2.1.cell 1))
    have hB := ((hA3.set_ 0 (.int .i64 1) ⟨1, [], [], [], [], 0, 0⟩ rfl).set_ 6 (.int .i64 n1) ⟨1, [], [], [], [], 0, n1⟩ rfl).set_ 1 (.string (str x2)) ⟨1, x2, [], [], [], 0, n1⟩ rfl
    clear hA hA1 hA2 hA3 f0 f6 f1 b0 b6 b1 hl1 hl2 hl3
    refine name_world (fun w4 hw4 => ?_)
    rw [← hw4] at hB
    clear hw4
    go_upto_region 9 with (first
      | (go_at_call 123; (with_reducible refine (HH.out.2.2.2.1 _ hB.rdr).mono ?_); rintro e w5 ⟨rfl, hl5⟩; have hB5 := hB.next hl5)
      | (go_at_call 39; (with_reducible refine (HH.out.2.2.2.2 _ hB5.rdr).mono ?_); rintro e w6 ⟨rfl, hl6⟩; have hB6 := hB5.next hl6; have f2 := hB6.2.2.1.frozen 2; have f5 := hB6.2.2.1.frozen 5; have b2 : w6.cell? ⟨w.heap.size + 1, 2, none⟩ = some (.string ⟨#[]⟩) := hB6.2.2.1.cell 2; have b5 : w6.cell? ⟨w.heap.size + 1, 5, none⟩ = some (.int .i64 0) := hB6.2.2.1.cell 5))
    have hC := (hB6.set_ 2 (.string (str x3)) ⟨1, x2, x3, [], [], 0, n1⟩ rfl).set_ 5 (.int .i64 n4) ⟨1, x2, x3, [], [], n4, n1⟩ rfl
    clear hB hB5 hB6 f2 f5 b2 b5 hl5 hl6
    go_wp2_with (first
      | (refine wpList_row_at rfl _ _ rfl (w.heap.size + 1) rfl _ _ _ _ hC.2.2.1 Tryz.underlying32 rfl (by kernel_rfl) ?_)
      | (refine wpList_store_row rfl _ _ _ rfl w.heap.size (txC ⟨1, x2, x3, [], [], n4, n1⟩) rfl rfl _ _ hC.2.1 (by kernel_rfl) rfl (txC_ones _) ?_))
    (try simp only [Exit.inBlock, Exit.then])
    refine bodyPost_ret (v := .agg (txC ⟨1, x2, x3, [], [], n4, n1⟩)) (results_row rfl _ _ w.heap.size rfl _ _ _ _ (blk_setRow hC.2.1) Tryz.underlying32 rfl (by kernel_rfl)) rfl ?_
    exact ⟨by rw [HX.out], by rw [HX.out]; exact ⟨rdr_row hC.1 hC.2.2.2.2 _, grown_row hC.2.2.2.1 (Nat.le_refl _) _⟩⟩
  have k1' : (n0 == 1) = false := by simpa using k1
  rw [if_neg k1] at hX
  by_cases k2 : n0 = 2
  · have hn1 := fun W h => c_rnum g q1 W h
    have ht2 := fun W h => c_rtext g (numS q1) W h
    have ht3 := fun W h => c_rtext g (textS (numS q1)) W h
    have hn4 := fun W h => c_rtext g (textS (textS (numS q1))) W h
    rw [if_pos k2] at hX
    obtain ⟨n1, e1⟩ : ∃ n, numV q1 = n := ⟨_, rfl⟩
    obtain ⟨q2, s2⟩ : ∃ q, numS q1 = q := ⟨_, rfl⟩
    rw [e1, s2] at hX hn1
    rw [s2] at ht2 ht3 hn4
    obtain ⟨x2, e2⟩ : ∃ n, textV q2 = n := ⟨_, rfl⟩
    obtain ⟨q3, s3⟩ : ∃ q, textS q2 = q := ⟨_, rfl⟩
    rw [e2, s3] at hX ht2
    rw [s3] at ht3 hn4
    obtain ⟨x3, e3⟩ : ∃ n, textV q3 = n := ⟨_, rfl⟩
    obtain ⟨q4, s4⟩ : ∃ q, textS q3 = q := ⟨_, rfl⟩
    rw [e3, s4] at hX ht3
    rw [s4] at hn4
    obtain ⟨x4, e4⟩ : ∃ n, textV q4 = n := ⟨_, rfl⟩
    obtain ⟨q5, s5⟩ : ∃ q, textS q4 = q := ⟨_, rfl⟩
    rw [e4, s5] at hX hn4
    subst k2
    have HX := Lib.hid hX
    have HH := Lib.hid (And.intro hn0 (And.intro hn1 (And.intro ht2 (And.intro ht3 hn4))))
    clear hX hn0 hn1 ht2 ht3 hn4 e0 s1 e1 s2 e2 s3 e3 s4 e4 s5 h k1 k1'
    go_enter Tryz.func103, Tryz.ntmps103
    go_upto_region 2 with (first
      | (refine wpList_build rfl _ _ rfl #[] rfl (build_zero _) ?_)
      | (refine wpList_store_last rfl _ _ _ rfl (w.alloc _) (w.heap.size + 1) (by simp) (txC zeroX) rfl rfl _ _ (by kernel_rfl) rfl (txC_ones _) ?_))
    refine name_world (fun w0 hw0 => ?_)
    have hA : ReadAt w g zeroX p w0 := by rw [hw0]; exact HA.out
    clear hw0 HA
    go_upto_region 8 with (first
      | (go_at_call 39; (with_reducible refine (HH.out.1 _ hA.rdr).mono ?_); rintro e w1 ⟨rfl, hl1⟩; have hA1 := hA.next hl1)
      | (go_at_call 39; (with_reducible refine (HH.out.2.1 _ hA1.rdr).mono ?_); rintro e w2 ⟨rfl, hl2⟩; have hA2 := hA1.next hl2)
      | (go_at_call 123; (with_reducible refine (HH.out.2.2.1 _ hA2.rdr).mono ?_); rintro e w3 ⟨rfl, hl3⟩; have hA3 := hA2.next hl3; have f0 := hA3.2.2.1.frozen 0; have f6 := hA3.2.2.1.frozen 6; have f1 := hA3.2.2.1.frozen 1; have b0 : w3.cell? ⟨w.heap.size + 1, 0, none⟩ = some (.int .i64 0) := hA3.2.2.1.cell 0; have b6 : w3.cell? ⟨w.heap.size + 1, 6, none⟩ = some (.int .i64 0) := hA3.2.2.1.cell 6; have b1 : w3.cell? ⟨w.heap.size + 1, 1, none⟩ = some (.string ⟨#[]⟩) := hA3.2.2.1.cell 1))
    have hB := ((hA3.set_ 0 (.int .i64 2) ⟨2, [], [], [], [], 0, 0⟩ rfl).set_ 6 (.int .i64 n1) ⟨2, [], [], [], [], 0, n1⟩ rfl).set_ 1 (.string (str x2)) ⟨2, x2, [], [], [], 0, n1⟩ rfl
    clear hA hA1 hA2 hA3 f0 f6 f1 b0 b6 b1 hl1 hl2 hl3
    refine name_world (fun w4 hw4 => ?_)
    rw [← hw4] at hB
    clear hw4
    go_upto_region 9 with (first
      | (go_at_call 123; (with_reducible refine (HH.out.2.2.2.1 _ hB.rdr).mono ?_); rintro e w5 ⟨rfl, hl5⟩; have hB5 := hB.next hl5)
      | (go_at_call 123; (with_reducible refine (HH.out.2.2.2.2 _ hB5.rdr).mono ?_); rintro e w6 ⟨rfl, hl6⟩; have hB6 := hB5.next hl6; have f3 := hB6.2.2.1.frozen 3; have f4 := hB6.2.2.1.frozen 4; have b3 : w6.cell? ⟨w.heap.size + 1, 3, none⟩ = some (.string ⟨#[]⟩) := hB6.2.2.1.cell 3; have b4 : w6.cell? ⟨w.heap.size + 1, 4, none⟩ = some (.string ⟨#[]⟩) := hB6.2.2.1.cell 4))
    have hC := (hB6.set_ 3 (.string (str x3)) ⟨2, x2, [], x3, [], 0, n1⟩ rfl).set_ 4 (.string (str x4)) ⟨2, x2, [], x3, x4, 0, n1⟩ rfl
    clear hB hB5 hB6 f3 f4 b3 b4 hl5 hl6
    go_wp2_with (first
      | (refine wpList_row_at rfl _ _ rfl (w.heap.size + 1) rfl _ _ _ _ hC.2.2.1 Tryz.underlying32 rfl (by kernel_rfl) ?_)
      | (refine wpList_store_row rfl _ _ _ rfl w.heap.size (txC ⟨2, x2, [], x3, x4, 0, n1⟩) rfl rfl _ _ hC.2.1 (by kernel_rfl) rfl (txC_ones _) ?_))
    (try simp only [Exit.inBlock, Exit.then])
    refine bodyPost_ret (v := .agg (txC ⟨2, x2, [], x3, x4, 0, n1⟩)) (results_row rfl _ _ w.heap.size rfl _ _ _ _ (blk_setRow hC.2.1) Tryz.underlying32 rfl (by kernel_rfl)) rfl ?_
    exact ⟨by rw [HX.out], by rw [HX.out]; exact ⟨rdr_row hC.1 hC.2.2.2.2 _, grown_row hC.2.2.2.1 (Nat.le_refl _) _⟩⟩
  · have k2' : (n0 == 2) = false := by simpa using k2
    rw [if_neg k2] at hX
    have HX := Lib.hid hX
    have HH := Lib.hid hn0
    clear hX hn0 e0 s1 h k1 k2
    go_enter Tryz.func103, Tryz.ntmps103
    go_upto_region 2 with (first
      | (refine wpList_build rfl _ _ rfl #[] rfl (build_zero _) ?_)
      | (refine wpList_store_last rfl _ _ _ rfl (w.alloc _) (w.heap.size + 1) (by simp) (txC zeroX) rfl rfl _ _ (by kernel_rfl) rfl (txC_ones _) ?_))
    refine name_world (fun w0 hw0 => ?_)
    have hA : ReadAt w g zeroX p w0 := by rw [hw0]; exact HA.out
    clear hw0 HA
    go_upto_region 9 with (first
      | (go_at_call 39; (with_reducible refine (HH.out _ hA.rdr).mono ?_); rintro e w1 ⟨rfl, hl1⟩; have hC := hA.next hl1))
    clear hA
    go_wp2_with (first
      | (refine wpList_row_at rfl _ _ rfl (w.heap.size + 1) rfl _ _ _ _ hC.2.2.1 Tryz.underlying32 rfl (by kernel_rfl) ?_)
      | (refine wpList_store_row rfl _ _ _ rfl w.heap.size (txC zeroX) rfl rfl _ _ hC.2.1 (by kernel_rfl) rfl (txC_ones _) ?_))
    (try simp only [Exit.inBlock, Exit.then])
    refine bodyPost_ret (v := .agg (txC zeroX)) (results_row rfl _ _ w.heap.size rfl _ _ _ _ (blk_setRow hC.2.1) Tryz.underlying32 rfl (by kernel_rfl)) rfl ?_
    exact ⟨by rw [HX.out], by rw [HX.out]; exact ⟨rdr_row hC.1 hC.2.2.2.2 _, grown_row hC.2.2.2.1 (Nat.le_refl _) _⟩⟩
end Go.Proofs.YtgmejaiifibfoaaGreatDoor

/-
  The next transaction of a reader, by the code: what is right, or an error and nothing.
-/
set_option linter.unusedSimpArgs false
set_option linter.unusedVariables false
namespace Go.Proofs.YtgmejaiifibfoaaGreatDoor
open Go.RowKit Go.Lib
open L3 (Rdr leaves numS textS textV failS)

theorem done_eq (p : List UInt8 × Int) (h : p.2 ≠ 0 → p.1 = []) (h0 : p.1.length = 0) : L3.doneV p = p.2 := by
  unfold L3.doneV
  by_cases he : p.2 = 0
  · rw [if_neg (by simpa using he), if_neg (by omega), he]
  · rw [if_pos he]
theorem failed_any (g : Nat) (p : List UInt8 × Int) (w : World) (h : Rdr w g p) : Calls Tryz.prog 104 #[.pointer (some ⟨g, 0, none⟩)] w fun e w' => e = .returned (.bool (decide (p.2 ≠ 0))) ∧ w = w' := by
  have hR := L3.rrest_any g p w h
  have hD := L3.rdone_any g p w h
  have he : p.2 ≠ 0 → p.1 = [] := by obtain ⟨_, _, _, _, _, _, he⟩ := h; exact he
  by_cases h0 : p.1.length = 0
  · rw [done_eq p he h0] at hD
    obtain ⟨e, hp⟩ : ∃ e, e = p.2 := ⟨_, rfl⟩
    obtain ⟨n, hn⟩ : ∃ n, n = p.1.length := ⟨_, rfl⟩
    rw [← hn] at hR h0
    rw [← hp] at hD ⊢
    subst h0
    clear hp hn he h
    by_cases e0 : e = 0
    · subst e0
      go_enter Tryz.func104, Tryz.ntmps104
      go_wp2_with (first
        | (go_at_call 121; refine hR.mono ?_; rintro e w1 ⟨rfl, rfl⟩)
        | (go_at_call 41; refine hD.mono ?_; rintro e w1 ⟨rfl, rfl⟩))
      go_ret
      exact ⟨rfl, rfl⟩
    · have e1 : (e == 0) = false := by simpa using e0
      have e2 : (e != 0) = true := by simpa using e0
      have e3 : decide (e ≠ 0) = true := by simpa using e0
      rw [e3]
      clear e0 e3
      go_enter Tryz.func104, Tryz.ntmps104
      go_wp2_with (first
        | (go_at_call 121; refine hR.mono ?_; rintro e w1 ⟨rfl, rfl⟩)
        | (go_at_call 41; refine hD.mono ?_; rintro e w1 ⟨rfl, rfl⟩))
      go_ret
      exact ⟨rfl, rfl⟩
  · have e0 : p.2 = 0 := by
      rcases Classical.em (p.2 = 0) with h1 | h1
      · exact h1
      · exact absurd (by rw [he h1]; rfl) h0
    rw [e0]
    obtain ⟨n, hn⟩ : ∃ n, n = p.1.length := ⟨_, rfl⟩
    rw [← hn] at hR h0
    have h1 : ((n : Int) == 0) = false := by simp; omega
    clear hn hD he h h0 e0
    go_enter Tryz.func104, Tryz.ntmps104
    go_wp2_with (first
      | (go_at_call 121; refine hR.mono ?_; rintro e w1 ⟨rfl, rfl⟩))
    go_ret
    exact ⟨rfl, rfl⟩
/-- What holds of the world while a transaction is taken. -/
def TakeAt (w : World) (g G : Nat) (t : Txx) (q : List UInt8 × Int) (W : World) : Prop :=
  Rdr W g q ∧ L3.Blk W w.heap.size 32 (txC zeroX) ∧ L3.Blk W G 32 (txC t) ∧ w.grownBy W (some g) ∧ g < w.heap.size ∧ w.heap.size < G
section
variable {w W W' : World} {g G : Nat} {t : Txx} {q q' : List UInt8 × Int}
theorem TakeAt.rdr (h : TakeAt w g G t q W) : Rdr W g q := h.1
theorem TakeAt.blkR (h : TakeAt w g G t q W) : L3.Blk W w.heap.size 32 (txC zeroX) := h.2.1
theorem TakeAt.blkG (h : TakeAt w g G t q W) : L3.Blk W G 32 (txC t) := h.2.2.1
theorem TakeAt.grown (h : TakeAt w g G t q W) : w.grownBy W (some g) := h.2.2.2.1
theorem TakeAt.lt (h : TakeAt w g G t q W) : g < w.heap.size := h.2.2.2.2.1
theorem TakeAt.next (h : TakeAt w g G t q W) (hl : leaves g q' W W') : TakeAt w g G t q' W' := by
  have hg := h.2.2.2.2
  exact ⟨hl.1, h.2.1.grown hl.2 (fun e => by injection e with e; omega), h.2.2.1.grown hl.2 (fun e => by injection e with e; omega), L3.grown_trans h.2.2.2.1 hl.2, hg⟩
theorem TakeAt.below (h : TakeAt w g G t q W) (hb : Below W.heap.size W W') : TakeAt w g G t q W' := by
  have hgr := h.2.2.2.1
  exact ⟨rdr_below h.1 hb h.1.lt, h.2.1.below hb h.2.1.lt, h.2.2.1.below hb h.2.2.1.lt, ⟨hb.os.trans hgr.os, hb.tape.trans hgr.tape, hb.output.trans hgr.output, Nat.le_trans hgr.size hb.size, fun k hk hne => (hb.block k (Nat.lt_of_lt_of_le hk hgr.size)).trans (hgr.block k hk hne)⟩, h.2.2.2.2⟩
theorem TakeAt.mk {w2 : World} (h : Rdr w g q') (hl : leaves g q (w.alloc (.cells (txC zeroX) 32)) w2) (t : Txx) : TakeAt w g w2.heap.size t q (w2.alloc (.cells (txC t) 32)) := by
  have hg := h.lt
  have hs := hl.2.size
  simp only [World.alloc, Array.size_push] at hs
  refine ⟨rdr_alloc hl.1 _, ((box_new w _ zeroX).grown hl.2 (fun e => by injection e with e; omega)).alloc _, box_new _ _ _, L3.grown_trans (L3.grown_trans (World.grownBy_alloc w _ _) hl.2) (World.grownBy_alloc _ _ _), hg, by omega⟩
end
/-- Tables stand, whatever a reader's block becomes. -/
theorem tabs_grown {w0 w W : World} {g : Nat} (hT : Tabs w0) (hb : Below w0.heap.size w0 w) (hg : w0.heap.size ≤ g) (h : w.grownBy W (some g)) : Tabs W :=
  hT.kept (hb.grown h hb.size (fun k hk => by cases hk; exact hg))
set_option maxHeartbeats 4000000 in
set_option maxRecDepth 100000 in
theorem take_any (g : Nat) (p : List UInt8 × Int) (w : World) (h : Rdr w g p) (hT : ∀ W, w.grownBy W (some g) → Tabs W) :
    Calls Tryz.prog 72 #[.pointer (some ⟨g, 0, none⟩)] w fun e w' => e = .returned (.agg (txC (takeT p).1)) ∧ leaves g (takeT p).2 w w' := by
  have hrd := fun W h => read_any g p W h
  have hwf := readT_wf p
  have h1 : Rdr (w.alloc (.cells (txC zeroX) 32)) g p := rdr_alloc h _
  have hr1 := hrd _ h1
  obtain ⟨r, hX⟩ : ∃ r, r = takeT p := ⟨_, rfl⟩
  rw [← hX]
  rw [take_read] at hX
  obtain ⟨t, ht⟩ : ∃ t, t = (readT p).1 := ⟨_, rfl⟩
  obtain ⟨q, hq⟩ : ∃ q, q = (readT p).2 := ⟨_, rfl⟩
  rw [← ht, ← hq] at hX hr1
  rw [← ht] at hwf
  have HM := Lib.hid (fun w2 (hl : leaves g q (w.alloc (.cells (txC zeroX) 32)) w2) => TakeAt.mk h hl t)
  have HC := Lib.hid (And.intro hr1 (And.intro hT (fun W hW => check_any t W hwf hW)))
  clear hrd h1 hr1 hT ht hq hwf h
  unfold endT at hX
  go_enter Tryz.func72, Tryz.ntmps72
  have HXX := Lib.hid hX
  clear hX
  go_upto_region 2 with (first
    | (go_at_call 103; refine HC.out.1.mono ?_; rintro e w2 ⟨rfl, hl2⟩; have hA := HM.out _ hl2)
    | (refine wpList_store_new rfl _ _ _ rfl _ (txC t) rfl rfl _ _ (by kernel_rfl) rfl (txC_ones _) ?_))
  obtain ⟨G, hG⟩ : ∃ G, G = w2.heap.size := ⟨_, rfl⟩
  rw [← hG] at hA
  rw [← hG]
  clear hG hl2 HM
  refine name_world (fun w3 hw3 => ?_)
  rw [← hw3] at hA
  clear hw3
  have hX := HXX.out
  clear HXX
  by_cases hq : q.2 = 0
  case neg =>
    rw [if_pos (.inl hq)] at hX
    have HX := Lib.hid hX
    have hf := failed_any g q w3 hA.rdr
    rw [decide_eq_true (show q.2 ≠ 0 from hq)] at hf
    clear hX hq
    go_wp2_with (first
        | (go_at_call 104; refine hf.mono ?_; rintro e w4 ⟨rfl, rfl⟩)
        | (go_at_call 68; refine (L3.fail_any g q 80 _ hA.rdr).mono ?_; rintro e w6 ⟨rfl, hl6⟩; have hD := hA.next hl6)
        | (refine wpList_build rfl _ _ rfl #[] rfl (build_zero _) ?_)
        | (refine wpList_store_row rfl _ _ _ rfl w.heap.size (txC zeroX) rfl rfl _ _ hD.blkR (by kernel_rfl) rfl (txC_ones _) ?_))
    (try simp only [Exit.inBlock, Exit.then])
    refine bodyPost_ret (v := .agg (txC zeroX)) (results_row rfl _ _ w.heap.size rfl _ _ _ _ (blk_setRow hD.blkR) Tryz.underlying32 rfl (by kernel_rfl)) rfl ?_
    exact ⟨by rw [HX.out], by rw [HX.out]; exact ⟨rdr_row hD.rdr hD.lt _, grown_row hD.grown (Nat.le_refl _) _⟩⟩
  case pos =>
  have hf := failed_any g q w3 hA.rdr
  rw [decide_eq_false (show ¬ q.2 ≠ 0 from fun h => h hq)] at hf
  have hck := HC.out.2.2 w3 (HC.out.2.1 w3 hA.grown)
  rcases (Bool.eq_false_or_eq_true (right t)).symm with hr | hr
  · rw [if_pos (.inr hr)] at hX
    rw [hr] at hck
    have HX := Lib.hid hX
    have HK := Lib.hid hck
    clear hX hq hck hr
    go_wp2_with (first
        | (go_at_call 104; refine hf.mono ?_; rintro e w4 ⟨rfl, rfl⟩)
        | (refine wpList_row_at rfl _ _ rfl (G) rfl _ _ _ _ hA.blkG Tryz.underlying32 rfl (by kernel_rfl) ?_)
        | (go_at_call 47; refine HK.out.mono ?_; unfold gives errI; rintro e w5 ⟨rfl, hb5⟩; have hB := hA.below hb5)
        | (go_at_call 68; refine (L3.fail_any g q 80 _ hB.rdr).mono ?_; rintro e w6 ⟨rfl, hl6⟩; have hD := hB.next hl6)
        | (refine wpList_build rfl _ _ rfl #[] rfl (build_zero _) ?_)
        | (refine wpList_store_row rfl _ _ _ rfl w.heap.size (txC zeroX) rfl rfl _ _ hD.blkR (by kernel_rfl) rfl (txC_ones _) ?_))
    (try simp only [Exit.inBlock, Exit.then])
    refine bodyPost_ret (v := .agg (txC zeroX)) (results_row rfl _ _ w.heap.size rfl _ _ _ _ (blk_setRow hD.blkR) Tryz.underlying32 rfl (by kernel_rfl)) rfl ?_
    exact ⟨by rw [HX.out], by rw [HX.out]; exact ⟨rdr_row hD.rdr hD.lt _, grown_row hD.grown (Nat.le_refl _) _⟩⟩
  · rw [if_neg (fun h => h.elim (fun h => h hq) (fun h => by rw [hr] at h; cases h))] at hX
    rw [hr] at hck
    have HX := Lib.hid hX
    have HK := Lib.hid hck
    clear hX hq hck hr
    go_wp2_with (first
        | (go_at_call 104; refine hf.mono ?_; rintro e w4 ⟨rfl, rfl⟩)
        | (go_at_call 47; refine HK.out.mono ?_; unfold gives errI; rintro e w5 ⟨rfl, hb5⟩; have hB := hA.below hb5)
        | (refine wpList_row_at rfl _ _ rfl (G) rfl _ _ _ _ hB.blkG Tryz.underlying32 rfl (by kernel_rfl) ?_)
        | (refine wpList_row_at rfl _ _ rfl (G) rfl _ _ _ _ hA.blkG Tryz.underlying32 rfl (by kernel_rfl) ?_)
        | (refine wpList_store_row rfl _ _ _ rfl w.heap.size (txC t) rfl rfl _ _ hB.blkR (by kernel_rfl) rfl (txC_ones _) ?_))
    (try simp only [Exit.inBlock, Exit.then])
    refine bodyPost_ret (v := .agg (txC t)) (results_row rfl _ _ w.heap.size rfl _ _ _ _ (blk_setRow hB.blkR) Tryz.underlying32 rfl (by kernel_rfl)) rfl ?_
    exact ⟨by rw [HX.out], by rw [HX.out]; exact ⟨rdr_row hB.rdr hB.lt _, grown_row hB.grown (Nat.le_refl _) _⟩⟩
end Go.Proofs.YtgmejaiifibfoaaGreatDoor

/-
  Is a transaction more than is looked at?
-/
set_option linter.unusedSimpArgs false
set_option linter.unusedVariables false
namespace Go.Proofs.YtgmejaiifibfoaaGreatDoor
open Go.RowKit Go.Lib

theorem ret_b {a b : Bool} (h : a = b) : Ending.returned (.bool a) = .returned (.bool b) := by rw [h]
def greatB (t : Txx) : Bool := decide (1000 < t.frm.length) || decide (1000 < t.to.length) || decide (1000 < t.key.length) || decide (1000 < t.val.length)
theorem great_wf {t : Txx} {n : Nat} (h : t.wf n) (hg : greatB t = false) : t.wf 1000 := by
  obtain ⟨h0, h1, h2, h3, h4, h5, h6⟩ := h
  unfold greatB at hg
  simp only [Bool.or_eq_false_iff, decide_eq_false_iff_not] at hg
  exact ⟨h0, by omega, by omega, by omega, by omega, h5, h6⟩
set_option maxHeartbeats 1000000 in
set_option maxRecDepth 100000 in
theorem great_any (t : Txx) (w : World) : Calls Tryz.prog 15 #[.agg (txC t)] w (gives (.bool (greatB t)) w) := by
  have hb0 : Below w.heap.size w (w.alloc (.cells (txC t) 32)) := below_box _ t
  obtain ⟨c0, c1, c2, c3, c4, c5, c6⟩ := box_of (box_new w 32 t)
  have HG : Hid (greatB t = (decide (1000 < t.frm.length) || decide (1000 < t.to.length) || decide (1000 < t.key.length) || decide (1000 < t.val.length))) := Lib.hid rfl
  have z1 := str_size t.frm
  have z2 := str_size t.to
  have z3 := str_size t.key
  have z4 := str_size t.val
  rcases (show 1000 < t.frm.length ∨ (t.frm.length ≤ 1000 ∧ 1000 < t.to.length) ∨ (t.frm.length ≤ 1000 ∧ t.to.length ≤ 1000 ∧ 1000 < t.key.length) ∨ (t.frm.length ≤ 1000 ∧ t.to.length ≤ 1000 ∧ t.key.length ≤ 1000 ∧ 1000 < t.val.length) ∨ (t.frm.length ≤ 1000 ∧ t.to.length ≤ 1000 ∧ t.key.length ≤ 1000 ∧ t.val.length ≤ 1000) by omega) with a | ⟨a, b⟩ | ⟨a, b, c⟩ | ⟨a, b, c, d⟩ | ⟨a, b, c, d⟩
  all_goals
    go_enter Tryz.func15, Tryz.ntmps15
    go_wp2
    go_ret
    refine ⟨?_, hb0⟩
    rw [HG.out]
    refine ret_b ?_
    rw [Bool.eq_iff_iff]
    simp only [Bool.or_eq_true, decide_eq_true_eq, true_iff, iff_true, false_iff, Bool.false_eq_true]
    omega
end Go.Proofs.YtgmejaiifibfoaaGreatDoor
