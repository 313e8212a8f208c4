/-
  One more in its place: slices.Insert, at this struct.
-/
import Derived.Test.YtglnocclhhdbbaaFind2
import Derived.Shelf.Spec.SlicesInsert
import Derived.Lib.AppendZerosOnto
import Derived.Laws.NewBlocks
import Derived.Maps.AppendAt
set_option linter.unusedSimpArgs false
set_option linter.unusedVariables false
set_option maxRecDepth 10000
namespace Go.Proofs.Ytglnocclhhdbbaa
open Go.RowKit Go.Lib
open L3 (Blk Reads block_of_add add_of_add)
open L6 (Turn moreB fresh From In)

theorem wnInfo3 : (Try.prog.info? 63).map (fun i => (i.zero, i.size, i.bytes)) = some (some (.agg (wnC zeroWn)), 2, 16) := by kernel_rfl
theorem blk_shape {w : World} {g : Nat} {t : TypeId} {cs : Array Value} (h : Blk w g t cs) : w.shape? g = some (t, cs.size) := by
  unfold Blk at h
  simp [World.shape?, h]
theorem blk_wn {w : World} {g : Nat} {t : TypeId} {x : Wnt} (h : Blk w g t (wnC x)) : ∀ j u, (wnL x)[j]? = some u → w.cell? ((⟨g, 0, none⟩ : Addr).add j) = some u := blk_cells w g t (wnL x) h
/-- What an insertion tells and leaves: the row v, or a new one, has these. -/
def RowPost (v : Value) (M : List Wnt) (w : World) (e : Ending) (w' : World) : Prop :=
  ∃ v', e = .returned v' ∧ w'.ownsRow 0 63 2 v' M.length (M.flatMap wnL) ∧ (∀ k, v'.ownBlock = some k → v.ownBlock = some k ∨ w.heap.size ≤ k) ∧ Turn (fun k => v.ownBlock = some k) w w'
set_option maxHeartbeats 4000000 in
set_option maxRecDepth 100000 in
/-- At the end. -/
theorem insEnd_any {w : World} {v : Value} {L : List Wnt} (hrow : w.ownsRow 0 63 2 v L.length (L.flatMap wnL)) (hl : L.length ≤ 1000) (x : Wnt) {vb : Nat} {ta : TypeId} (hx : Blk w vb ta (wnC x)) :
    Calls Try.prog 24 #[v, .int .i64 L.length, .slice (some ⟨vb, 0, none⟩) 1 1] w (RowPost v (L ++ [x]) w) := by
  obtain ⟨i0, hi, hz0, hz1, hz2⟩ := info_parts wnInfo3
  obtain ⟨A, c, rfl, _, _⟩ := Rd.of_row (f := wnL) (k := 2) (fun _ => rfl) hrow
  have hcell := blk_wn hx
  have HE := Lib.hid (show (L ++ [x]).length = L.length + 1 ∧ (L ++ [x]).flatMap wnL = L.flatMap wnL ++ wnL x from ⟨by simp, by simp⟩)
  obtain ⟨F, hF⟩ : ∃ F, F = L.flatMap wnL := ⟨_, rfl⟩
  obtain ⟨n, hn⟩ : ∃ n, n = L.length := ⟨_, rfl⟩
  rw [← hF, ← hn] at hrow
  rw [← hF, ← hn] at HE
  rw [← hn] at hl
  rw [← hn]
  have hmax : n + 1 ≤ maxLen := by unfold maxLen; omega
  clear hF hn hx
  rcases hrow.2 with ⟨hA, rfl⟩ | ⟨b, cap, cur, hA, _, _, hnc, hcm, _, _⟩
  · injection hA with hA1 _ hA3
    subst hA1 hA3
    go_enter Try.func24, Try.ntmps24
    go_wp2_with (at_builtin; refine wpList_append_own_at _ rfl _ _ 56 rfl 0 63 i0 (.agg (wnC zeroWn)) 2 16 Try.underlying56 hi hz0 hz1 hz2 rfl (by decide) _ _ _ rfl hrow ⟨vb, 0, none⟩ 1 1 (wnL x) rfl rfl hcell (one_wnL x) hmax (by omega) (Nat.zero_le _) ?_; intro v' w1 ho1 hg1 _ hat1)
    go_ret
    refine ⟨v', rfl, by rw [HE.out.1, HE.out.2]; exact ho1, fun k hk => ?_, L6.Turn.of_grown hg1 (fun _ h => h)⟩
    rcases hat1 with h | h
    · rw [h] at hk; exact .inl hk
    · rw [h] at hk; exact .inr (by injection hk with hk; omega)
  · injection hA with hA1 _ hA3
    subst hA1 hA3
    unfold maxLen at hcm
    go_enter Try.func24, Try.ntmps24
    go_wp2_with (at_builtin; refine wpList_append_own_at _ rfl _ _ 56 rfl 0 63 i0 (.agg (wnC zeroWn)) 2 16 Try.underlying56 hi hz0 hz1 hz2 rfl (by decide) _ _ _ rfl hrow ⟨vb, 0, none⟩ 1 1 (wnL x) rfl rfl hcell (one_wnL x) hmax (by omega) (Nat.zero_le _) ?_; intro v' w1 ho1 hg1 _ hat1)
    all_goals
      go_ret
      refine ⟨v', rfl, by rw [HE.out.1, HE.out.2]; exact ho1, fun k hk => ?_, L6.Turn.of_grown hg1 (fun _ h => h)⟩
      rcases hat1 with h | h
      · rw [h] at hk; exact .inl hk
      · rw [h] at hk; exact .inr (by injection hk with hk; omega)
end Go.Proofs.Ytglnocclhhdbbaa
