/-
  What is wanted.
-/
import Derived.Test.YtglnocclhhdbbaaTick
set_option linter.unusedSimpArgs false
set_option linter.unusedVariables false
set_option maxRecDepth 10000
namespace Go.Proofs.Ytglnocclhhdbbaa
open Go.RowKit Go.Lib
open L3 (Blk Reads block_of_add add_of_add)
open L6 (Turn moreB fresh From In)

theorem intInfo : (Try.prog.info? 3).map (fun i => (i.zero, i.size, i.bytes)) = some (some (.int .i64 0), 1, 8) := by kernel_rfl
/-- In w the slice v owns the numbers l. -/
abbrev OwnI (w : World) (base : Nat) (v : Value) (l : List Int) : Prop := w.ownsRow base 3 1 v l.length (l.map (Value.int .i64))
theorem ownI_nil (w : World) (base : Nat) : OwnI w base (.slice none 0 0) [] := ⟨by simp, .inl ⟨rfl, rfl⟩⟩
theorem ownI_snoc {w : World} {base : Nat} {v : Value} {l : List Int} {x : Int} {k : Nat} (hk : l.length = k) (h : w.ownsRow base 3 1 v (k + 1) (l.map (Value.int .i64) ++ [.int .i64 x])) : OwnI w base v (l ++ [x]) := by
  have e1 : (l ++ [x]).length = k + 1 := by simp [hk]
  have e2 : (l ++ [x]).map (Value.int .i64) = l.map (Value.int .i64) ++ [.int .i64 x] := by simp
  unfold OwnI
  rw [e1, e2]
  exact h
def numsOf (L : List Wnt) : List Int := L.map (·.n)
theorem nums_snoc {L : List Wnt} {k : Nat} (h : k < L.length) : numsOf (L.take (k + 1)) = numsOf (L.take k) ++ [L[k].n] := by
  unfold numsOf
  rw [List.take_succ_eq_append_getElem h, List.map_append]
  rfl
theorem nums_len (L : List Wnt) : (numsOf L).length = L.length := by simp [numsOf]
theorem row_below {w w' : World} {base size n : Nat} {e : TypeId} {v : Value} {xs : List Value} (h : w.ownsRow base e size v n xs) (hb : Below w.heap.size w w') : w'.ownsRow base e size v n xs := (show Turn (fun _ => False) w w' from L6.Turn.of_keep hb).row h (fun k _ h => h)
/-- What Wants tells. -/
def WantsPost (l : List Int) (w : World) (e : Ending) (w' : World) : Prop := ∃ v, e = .returned v ∧ OwnI w' w.heap.size v l ∧ Below w.heap.size w w'
set_option maxHeartbeats 4000000 in
set_option maxRecDepth 100000 in
theorem wants_any {w : World} {S : Nat → Prop} {g : Nat} {s : FS} (h : Ft w S g s) :
    Calls Try.prog 16 #[.pointer (some ⟨g, 0, none⟩)] w (WantsPost (numsOf s.L) w) := by
  obtain ⟨i0, hi, hz0, hz1, hz2⟩ := info_parts intInfo
  obtain ⟨A, c, hblk, hrd, hrow, hok, hSg, hSk⟩ := h.open_
  have hz16 := hok.1.small
  have c4 : w.cell? ⟨g, 4, none⟩ = some (.slice A s.L.length c) := hblk.cell 4
  have HR := Lib.hid hrd
  obtain ⟨z, hz⟩ : ∃ z, z = s.L.length := ⟨_, rfl⟩
  rw [← hz] at c4 hz16
  have HZ := Lib.hid hz
  clear hblk hrd hrow hok hSg hSk hz h
  go_enter Try.func16, Try.ntmps16
  go_wp2
  go_loopw [3, 13] (fun l i wr => ∃ k : Nat, i = .int .i64 k ∧ k ≤ z ∧ OwnI wr w.heap.size l (numsOf (s.L.take k)) ∧ Below w.heap.size w wr) (fun _ i _ => z - (RowKit.intOf i).toNat)
  case atStart => exact ⟨0, rfl, Nat.zero_le _, ownI_nil _ _, Below.refl _ _⟩
  case round =>
    clear c4
    obtain ⟨k, rfl, hk, hown, hbw⟩ := hrel
    by_cases hlt : k < z
    · have hkL : k < s.L.length := by rw [← HZ.out]; exact hlt
      obtain ⟨ad, rfl, hadl, hcs⟩ := (HR.out.below hbw).wn hkL
      have hsn := nums_snoc hkL
      have hln : (numsOf (s.L.take k)).length = k := by rw [nums_len, List.length_take]; omega
      obtain ⟨y, hy⟩ : ∃ y, y = s.L[k] := ⟨_, rfl⟩
      rw [← hy] at hcs hsn
      have hcs1 : ∀ j u, (wnL y)[j]? = some u → wr.cell? ((ad.add (k * 2)).add j) = some u := hcs
      have HSN := Lib.hid hsn
      have HLN := Lib.hid hln
      obtain ⟨l, hl⟩ : ∃ l, l = numsOf (s.L.take k) := ⟨_, rfl⟩
      rw [← hl] at hown HLN HSN
      have hmax : k + 1 ≤ maxLen := by unfold maxLen; omega
      clear hcs hsn hln hy hkL hl
      go_upto_region 7 with (first
        | (refine wpList_cells_at rfl _ _ rfl (ad.add (k * 2)) rfl (wnL y) _ hcs1 Try.underlying63 rfl wnInfo ?_)
        | (refine wpList_store_new rfl _ _ _ rfl wr (wnC y) rfl rfl _ _ wnInfo rfl (wnC_ones _) ?_)
        | go_in)
      have hb1 := below_new wr (.cells (wnC y) 63)
      have hx1 : Blk (wr.alloc (.cells (wnC y) 63)) wr.heap.size 63 (wnC y) := wbox_new wr _ y
      have hown1 := row_below hown hb1
      obtain ⟨w1, hw1⟩ : ∃ w1, w1 = wr.alloc (.cells (wnC y) 63) := ⟨_, rfl⟩
      rw [← hw1] at hb1 hx1 hown1 ⊢
      obtain ⟨p, hp⟩ : ∃ p, p = wr.heap.size := ⟨_, rfl⟩
      rw [← hp] at hx1 ⊢
      have c0 : w1.cell? ⟨p, 0, none⟩ = some (.int .i64 y.n) := hx1.cell 0
      have hbz : Below w.heap.size w w1 := nxt hbw hb1
      rw [HLN.out] at hown1
      clear hw1 hp hx1 hown hcs1 hb1
      have hsz := hbz.size
      go_wp2_with (first
        | (at_builtin; refine wpList_append_own _ rfl _ _ 28 rfl w.heap.size 3 i0 (.int .i64 0) 1 8 Try.underlying28 hi hz0 hz1 hz2 rfl (by decide) _ _ _ rfl (hown1.alloc _) ⟨w1.heap.size, 0, none⟩ 1 1 [.int .i64 y.n] rfl rfl (cell_one_new _ _ _) (ints_oneCell .i64 [y.n]) hmax (by omega) (by simp; omega) ?_; intro v4 w4 hr4 hg4 _)
        | go_in)
      go_roundw
      case rel =>
        refine ⟨k + 1, by go_num, by omega, ?_, ?_⟩
        · rw [HSN.out]
          exact ownI_snoc HLN.out hr4
        · exact (hbz.alloc hsz _).trans ((L6.Turn.of_grown (S := fun i => _ = some i) hg4 (fun _ h => h)).below (fun i e => (hown1.lt i e).1) (by simp; omega))
      case measure => simp [RowKit.intOf]; omega
    · obtain rfl : k = z := by omega
      go_wp2
      go_ret
      have e : s.L.take k = s.L := by rw [HZ.out, List.take_length]
      rw [e] at hown
      exact ⟨_, rfl, hown, hbw⟩
end Go.Proofs.Ytglnocclhhdbbaa
