/-
  The runes of a text by the document's answer, and how many there are, and where each begins, by the code.
-/
import Derived.Test.YtfoabgjcndgflaaDoorL2Step
import Derived.Test.YtfoabgjcndgflaaDoorShelf
import Derived.WalkSpells
import Derived.LoopTactic
import Derived.OwnWalk
import Derived.Lib.IndexBytes
import Derived.Deep.QuietTactic
import Derived.BigQuiet
set_option linter.unusedSimpArgs false
set_option linter.unusedVariables false
namespace Go.Proofs.YtfoabgjcndgflaaDoor.L2
open Go.RowKit Go.Lib

/-- Are all of a text's runes ones? -/
def allOk (l : List UInt8) : Bool := (runes l).all okR
theorem allOk_nil : allOk [] = true := rfl
theorem allOk_cons {l : List UInt8} (h : l ≠ []) : allOk l = (okR (dec l) && allOk (l.drop (dec l).2)) := by unfold allOk; rw [runes_cons h]; rfl
theorem ne_nil {s : ByteArray} (h : 0 < s.size) : s.data.toList ≠ [] := by
  intro e; rw [size_len, e] at h; exact absurd h (by simp)
theorem is_nil {s : ByteArray} (h : ¬ 0 < s.size) : s.data.toList = [] := by
  rw [size_len] at h; exact List.length_eq_zero_iff.1 (by omega)
theorem intInfo : (Tryd.prog.info? 3).map (fun i => (i.zero, i.size, i.bytes)) = some (some (.int .i64 0), 1, 8) := by kernel_rfl
/-- How many bytes a text has that a slot holds. -/
def strSize : Value → Nat | .string x => x.size | _ => 0

/-- What Runes tells: a new slice of the runes, and whether all are ones. -/
def runesPost (l : List UInt8) (w : World) (e : Ending) (w' : World) : Prop :=
  ∃ v : Value, e = .returned (.tuple #[v, .bool (allOk l)]) ∧ w'.ownsRow w.heap.size 3 1 v (nums l).length ((nums l).map (Value.int .i64)) ∧ Below w.heap.size w w'
def runesRel (l : List UInt8) (w : World) (s0 v b : Value) (wr : World) : Prop :=
  ∃ (x : ByteArray) (done : List Int) (a : Bool), s0 = .string x ∧ b = .bool a ∧ x.size ≤ l.length ∧ done.length + x.size ≤ l.length ∧ nums l = done ++ nums x.data.toList ∧ allOk l = (a && allOk x.data.toList) ∧
    wr.ownsRow w.heap.size 3 1 v done.length (done.map (Value.int .i64)) ∧ Below w.heap.size w wr
theorem runesRel_next {l : List UInt8} {x : ByteArray} {done : List Int} {a : Bool} (hx : 0 < x.size) (hd : done.length + x.size ≤ l.length) (h1 : nums l = done ++ nums x.data.toList) (h2 : allOk l = (a && allOk x.data.toList)) :
    nums l = (done ++ [((dec x.data.toList).1 : Int)]) ++ nums (x.extract (dec x.data.toList).2 x.size).data.toList ∧ allOk l = ((a && okR (dec x.data.toList)) && allOk (x.extract (dec x.data.toList).2 x.size).data.toList) ∧
    (done ++ [((dec x.data.toList).1 : Int)]).length + (x.extract (dec x.data.toList).2 x.size).size ≤ l.length := by
  have hf := dec_facts x.data.toList (ne_nil hx)
  rw [extract_to_end, tail_size]
  refine ⟨?_, ?_, ?_⟩
  · rw [h1, nums_cons (ne_nil hx)]; simp
  · rw [h2, allOk_cons (ne_nil hx)]; simp [Bool.and_assoc]
  · rw [List.length_append, List.length_singleton]; rw [← size_len] at hf; omega

set_option maxHeartbeats 1000000 in
set_option maxRecDepth 100000 in
theorem runes_any (s : ByteArray) (w : World) (hs : s.size ≤ 1000000) : Calls Tryd.prog 48 #[.string s] w (runesPost s.data.toList w) := by
  obtain ⟨i0, hi, hz0, hz1, hz2⟩ := info_parts intInfo
  have hs' : s.data.toList.length ≤ 1000000 := by rw [← size_len]; exact hs
  go_enter Tryd.func48, Tryd.ntmps48
  go_wp2
  go_loopw [0, 4, 5] (fun s0 v b wr => runesRel s.data.toList w s0 v b wr) (fun s0 _ _ _ => strSize s0)
  case atStart => exact ⟨s, [], true, rfl, rfl, by rw [size_len]; exact Nat.le_refl _, by rw [size_len]; simp, rfl, rfl, World.ownsRow_nil _ _ _ _, Below.refl _ _⟩
  case round =>
    obtain ⟨x, done, a, rfl, rfl, hx, hd, hn, ha, hown, hb⟩ := hrel
    by_cases hlt : 0 < x.size
    · have hf := dec_facts x.data.toList (ne_nil hlt)
      rw [← size_len] at hf
      obtain ⟨f1, f2, f3, _⟩ := hf
      have R := runesRel_next hlt hd hn ha
      obtain ⟨R1, R2, R3⟩ := R
      have HR := Lib.hid R1
      have HR2 := Lib.hid R2
      have HN := Lib.hid hn
      have HA := Lib.hid ha
      clear R1 R2 hn ha
      go_wp2_with (first
        | (go_at_call 60; (with_reducible refine (step_any x _ hlt).mono ?_); unfold stepE; rintro e w' ⟨rfl, rfl⟩)
        | (at_builtin; refine wpList_append_own _ rfl _ _ 73 rfl w.heap.size 3 i0 (.int .i64 0) 1 8 Tryd.underlying73 hi hz0 hz1 hz2 rfl (by decide) _ _ _ rfl (hown.alloc _) ⟨wr.heap.size, 0, none⟩ 1 1 [.int .i64 ((dec x.data.toList).1 : Int)] rfl rfl ?c1 ?c2 ?c3 ?c4 ?c5 ?_))
      case c1 =>
        intro j u hj
        match j, hj with
        | 0, hj => simp at hj; subst hj; simp [Addr.add]
      case c2 => intro u hu; simp at hu; subst hu; rfl
      case c3 => unfold maxLen; omega
      case c4 => omega
      case c5 => have := hb.size; simp; omega
      intro v' w1 hown' hgrow hn0
      have hown2 : w1.ownsRow w.heap.size 3 1 v' (done ++ [((dec x.data.toList).1 : Int)]).length ((done ++ [((dec x.data.toList).1 : Int)]).map (Value.int .i64)) := by
        rw [List.length_append, List.length_singleton, List.map_append]; exact hown'
      have hb2 : Below w.heap.size w w1 := (hb.alloc hb.size _).grown hgrow (by have := hb.size; simp; omega) (fun k hk => (hown.lt k hk).1)
      have HO := Lib.hid hown2
      clear hown2 hown' hgrow hown hn0
      cases a
      all_goals
        go_wp2
        go_roundw
        case rel => exact ⟨_, _, _, rfl, rfl, by rw [tail_size]; omega, R3, HR.out, HR2.out, HO.out, hb2⟩
        case measure => show (x.extract _ x.size).size < x.size; rw [tail_size]; omega
    · go_wp2
      go_ret2
      have e := is_nil hlt
      rw [e] at hn ha
      rw [nums_nil, List.append_nil] at hn
      rw [allOk_nil, Bool.and_true] at ha
      refine ⟨_, by rw [ha]; rfl, by rw [hn]; exact hown, hb⟩

/-- The slice at A reads as these numbers (none of them: whatever A is), in a block from B on. -/
def Reads (w : World) (B : Nat) (A : Option Addr) (zs : List Int) : Prop :=
  zs = [] ∨ ∃ g, A = some ⟨g, 0, none⟩ ∧ B ≤ g ∧ g < w.heap.size ∧ ∀ j, j < zs.length → w.cell? ⟨g, j, none⟩ = some (.int .i64 (zs.getD j 0))
theorem reads_of_own {w : World} {B : Nat} {e : TypeId} {v : Value} {zs : List Int} (h : w.ownsRow B e 1 v zs.length (zs.map (Value.int .i64))) : ∃ A cap, v = .slice A zs.length cap ∧ Reads w B A zs := by
  have hl := h.lt
  have hc := fun (g : Nat) (hg : v.ownBlock = some g) => h.cells hg
  rcases h.2 with ⟨rfl, h0⟩ | ⟨g, cap, cur, rfl, _⟩
  · have e : zs = [] := List.length_eq_zero_iff.1 h0
    exact ⟨none, 0, by rw [h0], Or.inl e⟩
  · refine ⟨_, cap, rfl, Or.inr ⟨g, rfl, (hl g rfl).1, (hl g rfl).2, fun j hj => ?_⟩⟩
    have hx := hc g rfl j (.int .i64 (zs.getD j 0)) (by rw [List.getElem?_map, List.getD_eq_getElem?_getD, List.getElem?_eq_getElem hj]; rfl)
    rwa [show (⟨g, 0, none⟩ : Addr).add j = ⟨g, j, none⟩ by unfold Addr.add; split <;> simp_all] at hx
theorem Reads.kept {w w' : World} {B : Nat} {A : Option Addr} {zs : List Int} (h : Reads w B A zs) (hb : Below w.heap.size w w') : Reads w' B A zs := by
  rcases h with h | ⟨g, e, hB, hlt, hc⟩
  · exact Or.inl h
  · exact Or.inr ⟨g, e, hB, Nat.lt_of_lt_of_le hlt hb.size, fun j hj => (hb.cell (p := ⟨g, j, none⟩) hlt).trans (hc j hj)⟩
def runesAt (l : List UInt8) (w : World) (e : Ending) (w' : World) : Prop :=
  ∃ (A : Option Addr) (cap : Nat), e = .returned (.tuple #[.slice A (nums l).length cap, .bool (allOk l)]) ∧ Reads w' w.heap.size A (nums l) ∧ Below w.heap.size w w'
theorem runes_at (s : ByteArray) (w : World) (hs : s.size ≤ 1000000) : Calls Tryd.prog 48 #[.string s] w (runesAt s.data.toList w) := by
  refine (runes_any s w hs).mono ?_
  rintro e w' ⟨v, rfl, ho, hb⟩
  obtain ⟨A, cap, rfl, hr⟩ := reads_of_own ho
  exact ⟨A, cap, rfl, hr, hb⟩

theorem toNat_pred (n : Int) (h : 0 < n) : n.toNat = (n - 1).toNat + 1 := by omega
/-- The text of these bytes. -/
def strOf (l : List UInt8) : ByteArray := ⟨l.toArray⟩
theorem strOf_list (l : List UInt8) : (strOf l).data.toList = l := by simp [strOf]
theorem strOf_size (l : List UInt8) : (strOf l).size = l.length := by rw [size_len, strOf_list]
theorem strOf_eq (s : ByteArray) : strOf s.data.toList = s := by cases s; simp [strOf]
theorem strOf_of {s : ByteArray} {l : List UInt8} (h : s.data.toList = l) : s = strOf l := by rw [← h, strOf_eq]
theorem head_of (s : ByteArray) (p : Nat) : s.extract 0 p = strOf (s.data.toList.take p) := strOf_of (by rw [extract_data, List.drop_zero, Nat.sub_zero])
theorem tail_of (s : ByteArray) (p : Nat) : s.extract p s.size = strOf (s.data.toList.drop p) := strOf_of (extract_to_end s p)

end Go.Proofs.YtfoabgjcndgflaaDoor.L2
