/-
  What the document dresses bytes as, and what it strips them to: as the program.
-/
import Derived.Test.YthhjdielananeaaStp
import Derived.Test.YthhjdielananeaaLin
set_option linter.unusedSimpArgs false
set_option linter.unusedVariables false
set_option maxRecDepth 10000
namespace Go.Proofs.Ythhjdielananeaa
open Go.RowKit Go.Lib
open L3 (Blk Reads block_of_add add_of_add)
open L6 (Turn moreB fresh From In)

/-- A row of bytes of the call's own. -/
def OwnB (w W : World) (v : Value) (l : List UInt8) : Prop := W.ownsRow w.heap.size 5 1 v l.length (bcs l) ∧ Below w.heap.size w W
theorem OwnB.nil (w : World) : OwnB w w (.slice none 0 0) [] := ⟨World.ownsRow_nil _ _ _ _, Below.refl _ _⟩
theorem OwnB.form {w W : World} {v : Value} {l : List UInt8} (h : OwnB w W v l) : ∃ A c, v = .slice A l.length c ∧ (convert 53 9 (.slice A l.length c)).run Try.prog W = .ok (.string (str l)) W := by
  obtain ⟨A, c, rfl, _, hr⟩ := L6.row_reads h.1
  have := conv_reads (c := c) hr (Nat.le_refl _)
  rw [List.take_length] at this
  exact ⟨A, c, rfl, this⟩
theorem OwnB.push {w W W4 : World} {v v4 : Value} {l m : List UInt8} {o : Obj} (h : OwnB w W v l) (ho4 : W4.ownsRow w.heap.size 5 1 v4 (l.length + m.length) (bcs l ++ bcs m)) (hg : (W.alloc o).grownBy W4 v.ownBlock) : OwnB w W4 v4 (l ++ m) := by
  refine ⟨?_, (h.2.alloc h.2.size o).grown hg (Nat.le_trans h.2.size (below_new W o).size) (fun q e => (h.1.lt q e).1)⟩
  rw [List.length_append, show bcs (l ++ m) = bcs l ++ bcs m from Lib.byteCells_append l m]
  exact ho4
theorem OwnB.alloc {w W : World} {v : Value} {l : List UInt8} (h : OwnB w W v l) (o : Obj) : (W.alloc o).ownsRow w.heap.size 5 1 v l.length (bcs l) := (L6.Turn.of_keep (S := fun _ => False) (below_new W o)).row h.1 (fun _ _ h => h)
theorem row_u8s (z : Int) (w : World) : (Instr.buildSlice 53 1 #[(0, .int .u8 z)]).run Try.prog w = .ok (.slice (some ⟨w.heap.size, 0, none⟩) 1 1) (w.alloc (.cells #[.int .u8 z] 5)) := by kernel_rfl
theorem row_u8t (y z : Int) (w : World) : (Instr.buildSlice 53 2 #[(0, .int .u8 y), (1, .int .u8 z)]).run Try.prog w = .ok (.slice (some ⟨w.heap.size, 0, none⟩) 2 2) (w.alloc (.cells #[.int .u8 y, .int .u8 z] 5)) := by kernel_rfl
set_option maxHeartbeats 4000000 in
set_option maxRecDepth 100000 in
theorem refdress_any (l : List UInt8) (w : World) (hl : l.length ≤ 1000000000) : Calls Try.prog 10 #[.string (str l)] w (gives (.string (str (dress l))) w) := by
  obtain ⟨i0, hi, hz0, hz1, hz2⟩ := u8_info
  obtain ⟨s, hs⟩ : ∃ s, s = str l := ⟨_, rfl⟩
  have hn : s.size = l.length := by rw [hs, str_size]
  have hg : ∀ (k : Nat) (h : k < s.size) (h' : k < l.length), s[k] = l[k] := fun k h h' => by subst hs; rfl
  rw [← hs]
  have HN := Lib.hid hn
  have HG := Lib.hid hg
  have hn9 : s.size ≤ 1000000000 := by omega
  clear hs hn hg hl
  go_enter Try.func10, Try.ntmps10
  go_wp2
  go_loopw [3, 4] (fun v i wr => ∃ k : Nat, i = .int .i64 k ∧ k ≤ s.size ∧ OwnB w wr v (dress (l.take k))) (fun _ i _ => s.size - (RowKit.intOf i).toNat)
  case atStart => exact ⟨0, rfl, Nat.zero_le _, OwnB.nil w⟩
  case round =>
    obtain ⟨k, rfl, hk, hO⟩ := hrel
    by_cases hlt : k < s.size
    · have hkl : k < l.length := by have := HN.out; omega
      have hdl := (dress_len (l.take k)).2
      have hd9 : (dress (l.take k)).length ≤ 2000000000 := by rw [List.length_take] at hdl; omega
      have HD := Lib.hid (dress_snoc l k hkl)
      have hgk := HG.out k hlt hkl
      obtain ⟨D, hD⟩ : ∃ D, D = dress (l.take k) := ⟨_, rfl⟩
      rw [← hD] at hO hd9 HD
      obtain ⟨c, hc⟩ : ∃ c, c = l[k] := ⟨_, rfl⟩
      rw [← hc] at HD hgk
      have hzc : (s[k].toNat : Int) = c.toNat := u8_int hgk
      have HZ := Lib.hid hzc
      have HO := Lib.hid hO
      have hbs : w.heap.size ≤ wr.heap.size := hO.2.size
      obtain ⟨A, cp, rfl, -⟩ := hO.form
      obtain ⟨m, hm⟩ : ∃ m, m = D.length := ⟨_, rfl⟩
      have HM := Lib.hid hm
      have hown : ∀ o, (wr.alloc o).ownsRow w.heap.size 5 1 (.slice A m cp) m (bcs D) := fun o => by rw [hm]; exact hO.alloc o
      rw [← hm] at hd9 ⊢
      have hbn : ∀ o, w.heap.size ≤ (wr.alloc o).heap.size := fun o => Nat.le_trans hbs (below_new wr o).size
      clear hD hdl hkl hc hO hm hgk
      by_cases h0 : c = 0
      · have g0 : ((s[k].toNat : Int) == 0) = true := by rw [hzc, h0]; rfl
        have HX := Lib.hid h0
        have hrw := row_u8t 1 1 wr
        have hnew := row_read wr #[.int .u8 1, .int .u8 1] 5 (Nat.zero_lt_succ 1)
        clear hzc h0
        go_wp2_with (first
          | (refine wpList_buildSlice rfl _ _ _ rfl #[(0, .int .u8 1), (1, .int .u8 1)] rfl hrw ?_)
          | (at_builtin; refine L3.wpList_append_any _ rfl _ _ 53 rfl w.heap.size 5 i0 _ 1 1 Try.underlying53 hi hz0 hz1 hz2 rfl (by decide) (.slice A m cp) m (bcs D) rfl (hown _) _ (some ⟨wr.heap.size, 0, none⟩) 2 2 [.int .u8 1, .int .u8 1] rfl hnew (fun u hu => by simp at hu; subst hu; rfl) (by unfold maxLen; omega) (by omega) (hbn _) ?_
             intro v4 w4 ho4 hg4 hat4)
          | go_in)
        go_roundw
        case rel =>
          refine ⟨k + 1, by go_num, by omega, ?_⟩
          rw [HD.out, if_pos HX.out]
          exact HO.out.push (m := [1, 1]) (by rw [← HM.out]; exact ho4) (by rw [← HM.out]; exact hg4)
        case measure => simp [RowKit.intOf]; omega
      · have g0 : ((s[k].toNat : Int) == 0) = false := by rw [hzc]; exact u8_n0 h0
        by_cases h1 : c = 1
        · have g1 : ((s[k].toNat : Int) == 1) = true := by rw [hzc, h1]; rfl
          have HX := Lib.hid (And.intro h0 h1)
          have hrw := row_u8t 1 2 wr
          have hnew := row_read wr #[.int .u8 1, .int .u8 2] 5 (Nat.zero_lt_succ 1)
          clear hzc h0 h1
          go_wp2_with (first
            | (refine wpList_buildSlice rfl _ _ _ rfl #[(0, .int .u8 1), (1, .int .u8 2)] rfl hrw ?_)
            | (at_builtin; refine L3.wpList_append_any _ rfl _ _ 53 rfl w.heap.size 5 i0 _ 1 1 Try.underlying53 hi hz0 hz1 hz2 rfl (by decide) (.slice A m cp) m (bcs D) rfl (hown _) _ (some ⟨wr.heap.size, 0, none⟩) 2 2 [.int .u8 1, .int .u8 2] rfl hnew (fun u hu => by simp at hu; rcases hu with rfl | rfl <;> rfl) (by unfold maxLen; omega) (by omega) (hbn _) ?_
               intro v4 w4 ho4 hg4 hat4)
            | go_in)
          go_roundw
          case rel =>
            refine ⟨k + 1, by go_num, by omega, ?_⟩
            rw [HD.out, if_neg HX.out.1, if_pos HX.out.2]
            exact HO.out.push (m := [1, 2]) (by rw [← HM.out]; exact ho4) (by rw [← HM.out]; exact hg4)
          case measure => simp [RowKit.intOf]; omega
        · have g1 : ((s[k].toNat : Int) == 1) = false := by rw [hzc]; exact u8_n1 h1
          have HX := Lib.hid (And.intro h0 h1)
          have hrw := row_u8s (s[k].toNat : Int) wr
          have hnew := row_read wr #[.int .u8 (s[k].toNat : Int)] 5 (Nat.zero_lt_succ 0)
          clear hzc h0 h1
          go_wp2_with (first
            | (refine wpList_buildSlice rfl _ _ _ rfl #[(0, .int .u8 (s[k].toNat : Int))] rfl hrw ?_)
            | (at_builtin; refine L3.wpList_append_any _ rfl _ _ 53 rfl w.heap.size 5 i0 _ 1 1 Try.underlying53 hi hz0 hz1 hz2 rfl (by decide) (.slice A m cp) m (bcs D) rfl (hown _) _ (some ⟨wr.heap.size, 0, none⟩) 1 1 [.int .u8 (s[k].toNat : Int)] rfl hnew (fun u hu => by simp at hu; subst hu; rfl) (by unfold maxLen; omega) (by omega) (hbn _) ?_
               intro v4 w4 ho4 hg4 hat4)
            | go_in)
          go_roundw
          case rel =>
            refine ⟨k + 1, by go_num, by omega, ?_⟩
            rw [HD.out, if_neg HX.out.1, if_neg HX.out.2]
            rw [HZ.out] at ho4
            exact HO.out.push (m := [c]) (by rw [← HM.out]; exact ho4) (by rw [← HM.out]; exact hg4)
          case measure => simp [RowKit.intOf]; omega
    · have hkl : l.take k = l := List.take_of_length_le (by have := HN.out; omega)
      rw [hkl] at hO
      have HBW := Lib.hid hO.2
      obtain ⟨A, cp, rfl, hcv⟩ := hO.form
      clear hO hkl
      go_wp2_with fail
      go_ret
      exact ⟨rfl, HBW.out⟩
end Go.Proofs.Ythhjdielananeaa
