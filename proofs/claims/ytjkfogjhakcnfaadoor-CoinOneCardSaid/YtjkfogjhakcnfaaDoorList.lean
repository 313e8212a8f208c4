/-
  A set's numbers as a slice that the call made, of the code and of the document's answer: the same, rising.
-/
import Derived.Test.YtjkfogjhakcnfaaDoorSets
import Derived.Lib.BufSteps
set_option linter.unusedSimpArgs false
set_option linter.unusedVariables false
namespace Go.Proofs.YtjkfogjhakcnfaaDoor
open Go.RowKit Go.Lib

theorem intInfo : (Tryd.prog.info? 3).map (fun i => (i.zero, i.size, i.bytes)) = some (some (.int .i64 0), 1, 8) := by kernel_rfl
section
variable {P : Program}
/-- One more number behind a row that the call owns. -/
theorem wpList_append_one {ops : Array Oper} {rest : List Oper} {o : Oper} {a : Act} {Q : Exit → Act → World → Prop} (hgd : o.guard = none) (s x : Operand) (t : TypeId)
    (ho : o.op = .call { callee := .builtin .append, args := #[s, x], argTypes := #[t, t] })
    (B : Nat) (e : TypeId) (i : TypeInfo) (z : Value) (bytes : Nat) (ht : P.underlying t = some (.slice e)) (hi : P.info? e = some i) (hz : i.zero = some z) (hsize : i.size = 1) (hby : i.bytes = bytes) (hzs : z.cells.size = 1)
    (v : Value) (n : Nat) (xs : List Value) (hs : a.eval s = v) (W0 w0 : World) (u : Value) (hu : u.oneCell' = true) (hb : OwnBuf B e v n xs W0 w0)
    (hx : a.eval x = .slice (some ⟨w0.heap.size, 0, none⟩) 1 1) (hlen : (n + 1) * bytes ≤ 140737488355328) (hmax : n + 1 ≤ 140737488355328)
    (h : ∀ v' w', OwnBuf B e v' (n + 1) (xs ++ [u]) W0 w' → wpList P ops Q rest (a.put o.dst v') w') : wpList P ops Q (o :: rest) a (w0.alloc (.cells #[u] e)) := by
  have hb' := hb.alloc (.cells #[u] e)
  refine wpList_append_ownF _ hgd s x t ho B e i z 1 bytes ht hi hz hsize hby hzs (by decide) v n xs hs hb'.1 ⟨w0.heap.size, 0, none⟩ 1 1 [u] hx rfl ?_ ?_ (by unfold maxLen; omega) hlen hb'.2.2 ?_
  · intro j u' hj
    match j, hj with
    | 0, hj => simp at hj; subst hj; simp [Addr.add]
    | (j + 1), hj => simp at hj
  · intro u' hu'; simp at hu'; subst hu'; exact hu
  · intro v' w' ho' hg _
    exact h v' w' (hb'.grown ho' hg)
end
def natCells (l : List Nat) : List Value := l.map fun (n : Nat) => Value.int .i64 (n : Int)
theorem natCells_snoc (l : List Nat) (n : Nat) : natCells (l ++ [n]) = natCells l ++ [.int .i64 (n : Int)] := by simp [natCells]
/-- Numbers that the call owns: in w' the slice v holds l, in a block from B on; below B all is as it was in w. -/
def Owns (B : Nat) (v : Value) (l : List Nat) (w w' : World) : Prop := OwnBuf B 3 v l.length (natCells l) w w'
theorem Owns.nil (w : World) (B : Nat) (h : B ≤ w.heap.size) : Owns B (.slice none 0 0) [] w w := ⟨World.ownsRowF_nil _ _ _ _, Below.refl _ _, h⟩
theorem Owns.form {B : Nat} {v : Value} {l : List Nat} {w w' : World} (h : Owns B v l w w') : ∃ A c, v = .slice A l.length c ∧ Reads w' w'.heap.size 1 A l.length (natCells l) ∧ l.length ≤ c := by
  rcases h.1.2 with ⟨rfl, h0⟩ | ⟨g, cap, cur, fz, rfl, hb, hh, _, hn, _, hsz, htake⟩
  · have : l = [] := List.eq_nil_of_length_eq_zero h0
    subst this
    exact ⟨none, 0, rfl, Reads.none_, Nat.le_refl _⟩
  · refine ⟨some ⟨g, 0, none⟩, cap, rfl, ⟨by simp [natCells], fun _ => ⟨_, rfl, (Array.getElem?_eq_some_iff.1 hh).1, h.1.cells (g := g) rfl⟩⟩, hn⟩
theorem cell_lt0 {w : World} {a : Addr} {v : Value} (h : w.cell? a = some v) : a.block < w.heap.size := by
  rcases Nat.lt_or_ge a.block w.heap.size with hlt | hge
  · exact hlt
  · have e : w.heap[a.block]? = none := Array.getElem?_eq_none hge
    simp [World.cell?, e] at h
theorem Tab.kept {w w' : World} (h : Tab w) (hb : Below w.heap.size w w') : Tab w' := fun j hj => (hb.cell (cell_lt0 (h j hj))).trans (h j hj)

set_option maxHeartbeats 1000000 in
set_option maxRecDepth 100000 in
theorem list_any (n : Nat) (w : World) (hn : n < 4294967296) (hT : Tab w) : Calls Tryd.prog 47 #[.int .u32 n] w fun e w' => ∃ v, e = .returned v ∧ Owns w.heap.size v (bts 0 n) w w' := by
  obtain ⟨i0, hi, hz0, hz1, hz2⟩ := info_parts intInfo
  have HT := Lib.hid hT
  clear hT
  go_enter Tryd.func47, Tryd.ntmps47
  go_wp2
  go_loopw [0, 3] (fun a b wr => ∃ (m : Nat) (l : List Nat), a = .int .u32 m ∧ m < 4294967296 ∧ l ++ bts 0 m = bts 0 n ∧ Owns w.heap.size b l w wr) (fun a _ _ => (intOf a).toNat)
  case atStart => exact ⟨n, [], rfl, hn, rfl, Owns.nil _ _ (Nat.le_refl _)⟩
  case round =>
    obtain ⟨m, l, rfl, hm, he, ho⟩ := hrel
    by_cases h0 : m = 0
    · subst h0
      rw [bts_zero, List.append_nil] at he
      have hz : ((0 : Int) == 0) = true := rfl
      go_wp2_with fail
      go_ret
      exact ⟨_, rfl, by rw [← he]; exact ho⟩
    · have hr := bts_rest h0 hm
      have hl := rest_lt h0
      have hz : ((m : Int) == 0) = false := by simp; omega
      have hle : l.length ≤ 32 := by
        have := congrArg List.length he
        have h32 := cnt_le 32 n hn
        rw [List.length_append, bts_length, bts_length] at this; omega
      have HE := Lib.hid he
      have HR := Lib.hid hr
      have HK := Lib.hid (HT.out.kept ho.2.1)
      clear he hr
      go_wp2_with (first
        | (go_at_call 36; refine (rest_any m _ h0 hm).mono ?_; rintro e w1 ⟨rfl, rfl⟩)
        | (go_at_call 49; refine (tz_any m _ h0 hm HK.out).mono ?_; rintro e w1 ⟨rfl, rfl⟩)
        | (at_builtin; refine wpList_append_one rfl _ _ 38 rfl w.heap.size 3 i0 (.int .i64 0) 8 Tryd.underlying38 hi hz0 hz1 hz2 rfl u3 l.length (natCells l) rfl w wr _ rfl ho rfl (by omega) (by omega) ?_; intro v2 w2 ho2))
      go_round
      case rel =>
        refine ⟨m &&& (m - 1), l ++ [Lib.ctz 32 m], rfl, by omega, ?_, ?_⟩
        · rw [List.append_assoc, List.singleton_append, ← HR.out]; exact HE.out
        · unfold Owns; rw [natCells_snoc, List.length_append, List.length_singleton]; exact ho2
      case measure => simp [intOf]; omega
set_option maxHeartbeats 1000000 in
set_option maxRecDepth 100000 in
theorem reflist_any (n : Nat) (w : World) (hn : n < 4294967296) : Calls Tryd.prog 24 #[.int .u32 n] w fun e w' => ∃ v, e = .returned v ∧ Owns w.heap.size v (bts 0 n) w w' := by
  obtain ⟨i0, hi, hz0, hz1, hz2⟩ := info_parts intInfo
  go_enter Tryd.func24, Tryd.ntmps24
  go_wp2
  go_loopw [0, 3, 4] (fun a b c wr => ∃ (m k : Nat) (l : List Nat), a = .int .u32 m ∧ c = .int .i64 k ∧ k ≤ 32 ∧ m < 2 ^ (32 - k) ∧ m < 4294967296 ∧ l ++ bts k m = bts 0 n ∧ Owns w.heap.size b l w wr) (fun a _ _ _ => (intOf a).toNat)
  case atStart => exact ⟨n, 0, [], rfl, rfl, by omega, hn, hn, rfl, Owns.nil _ _ (Nat.le_refl _)⟩
  case round =>
    obtain ⟨m, k, l, rfl, rfl, hk, hm, hm32, he, ho⟩ := hrel
    by_cases h0 : m = 0
    · subst h0
      rw [bts_zero, List.append_nil] at he
      have hz : decide ((0 : Int) < 0) = false := rfl
      go_wp2_with fail
      go_ret
      exact ⟨_, rfl, by rw [← he]; exact ho⟩
    · have hz : decide (0 < m) = true := by simp; omega
      have hk2 : k < 32 := by
        rcases Nat.lt_or_ge k 32 with h | h
        · exact h
        · rw [show 32 - k = 0 by omega] at hm; omega
      have hm2 : m / 2 < 2 ^ (32 - (k + 1)) := by
        rw [show 32 - k = (32 - (k + 1)) + 1 by omega, Nat.pow_succ] at hm; omega
      have hle : l.length ≤ 32 := by
        have := congrArg List.length he
        have h32 := cnt_le 32 n hn
        rw [List.length_append, bts_length, bts_length] at this; omega
      have hq : IntKind.u32.wrap ((m : Int).tdiv 2) = ((m / 2 : Nat) : Int) := by rw [IntWalk.u32_quo _ _ (by omega)]; omega
      have hh := bts_half k m
      have HE := Lib.hid he
      have HM := Lib.hid hm2
      clear he hm hm2
      by_cases h1 : m % 2 = 1
      · rw [if_pos h1] at hh
        have HH := Lib.hid hh
        have h1' : ((m : Int) % 2 == 1) = true := by simp; omega
        clear hh h1
        go_wp2_with (at_builtin; refine wpList_append_one rfl _ _ 38 rfl w.heap.size 3 i0 (.int .i64 0) 8 Tryd.underlying38 hi hz0 hz1 hz2 rfl u3 l.length (natCells l) rfl w wr _ rfl ho rfl (by omega) (by omega) ?_; intro v2 w2 ho2)
        go_round
        case rel =>
          refine ⟨m / 2, k + 1, l ++ [k], rfl, by go_num, by omega, HM.out, by omega, ?_, ?_⟩
          · rw [List.append_assoc, ← HH.out]; exact HE.out
          · unfold Owns; rw [natCells_snoc, List.length_append, List.length_singleton]; exact ho2
        case measure => simp [intOf]; omega
      · rw [if_neg h1, List.nil_append] at hh
        have HH := Lib.hid hh
        have h1' : ((m : Int) % 2 == 1) = false := by simp; omega
        clear hh h1
        go_wp2_with fail
        go_round
        case rel =>
          refine ⟨m / 2, k + 1, l, rfl, by go_num, by omega, HM.out, by omega, ?_, ho⟩
          rw [← HH.out]; exact HE.out
        case measure => simp [intOf]; omega
end Go.Proofs.YtjkfogjhakcnfaaDoor
