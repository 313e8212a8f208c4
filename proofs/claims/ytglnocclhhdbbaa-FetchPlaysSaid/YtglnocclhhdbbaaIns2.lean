/-
  One more in its place, where there is room: what stands behind it goes one up.
-/
import Derived.Test.YtglnocclhhdbbaaIns
set_option linter.unusedSimpArgs false
set_option linter.unusedVariables false
set_option maxRecDepth 10000
namespace Go.Proofs.Ytglnocclhhdbbaa
open Go.RowKit Go.Lib
open L3 (Blk Reads block_of_add add_of_add)
open L6 (Turn moreB fresh From In)

/-- One more, at place i. -/
def insAt (L : List Wnt) (i : Nat) (x : Wnt) : List Wnt := L.take i ++ [x] ++ L.drop i
theorem insAt_len {L : List Wnt} {i : Nat} (hi : i ≤ L.length) (x : Wnt) : (insAt L i x).length = L.length + 1 := by
  unfold insAt
  rw [List.length_append, List.length_append, List.length_take, List.length_drop, List.length_singleton]
  omega
theorem row_ins {w : World} {b cap : Nat} {L : List Wnt} (h : RowW w b cap L) {i : Nat} (hi : i < L.length) (hc : L.length + 1 ≤ cap) (x : Wnt) :
    RowW ((w.setCells b ((i + 1) * 2) ((L.drop i).flatMap wnL)).setCells b (i * 2) (wnL x)) b cap (insAt L i x) := by
  have h1 := h.lay (j := i + 1) (by omega) (F := L.drop i) (by rw [List.length_drop]; omega)
  have e1 : L.take (i + 1) ++ L.drop i ++ L.drop (i + 1 + (L.drop i).length) = L.take (i + 1) ++ L.drop i := by
    have : L.drop (i + 1 + (L.drop i).length) = [] := List.drop_eq_nil_of_le (by rw [List.length_drop]; omega)
    rw [this, List.append_nil]
  rw [e1] at h1
  have h2 := h1.lay (j := i) (by simp only [List.length_append, List.length_take, List.length_drop]; omega) (F := [x]) (by simp; omega)
  have e2 : ([x] : List Wnt).flatMap wnL = wnL x := by simp
  have e3 : (L.take (i + 1) ++ L.drop i).take i = L.take i := by
    rw [List.take_append_of_le_length (by rw [List.length_take]; omega), List.take_take, Nat.min_eq_left (by omega)]
  have e4 : (L.take (i + 1) ++ L.drop i).drop (i + ([x] : List Wnt).length) = L.drop i := by
    have : (L.take (i + 1)).length = i + ([x] : List Wnt).length := by rw [List.length_take, List.length_singleton]; omega
    rw [← this, List.drop_left]
  rw [e2, e3, e4] at h2
  exact h2
theorem callOverlaps (w : World) (b vb o la lc lb cb : Nat) {ta : TypeId} {cs cur : Array Value} (hx : Blk w vb ta cs) (hb : Blk w b 63 cur) (hc : cur.size ≠ 0) (hne : vb ≠ b) :
    (callFunc 37 #[.slice (some ⟨vb, 0, none⟩) la lc, .slice (some ⟨b, o, none⟩) lb cb]).run Try.prog w = .ok (.value (.bool false)) w := by
  rw [run_callFunc_extern Try.func37 (by kernel_rfl) (by kernel_rfl) (by kernel_rfl) (e := Extern.SlicesOverlaps.overlaps #[56, 56] #[4]) (by kernel_rfl),
    Lib.run_overlaps_apart w 56 4 63 Try.underlying56 2 Try.sizeOf63 ⟨vb, 0, none⟩ ⟨b, o, none⟩ la lc lb cb hne _ _ _ _ (blk_shape hx) (blk_shape hb) hc (hx.frozen _) (hx.frozen _)]
  rfl
set_option maxHeartbeats 4000000 in
set_option maxRecDepth 100000 in
theorem insMid_any {w : World} {b c : Nat} {L : List Wnt} (hX : RowW w b c L) {i : Nat} (hi : i < L.length) (hroom : L.length + 1 ≤ c) (hl : L.length ≤ 1000) (x : Wnt) {vb : Nat} {ta : TypeId} (hx : Blk w vb ta (wnC x)) (hne : vb ≠ b) :
    Calls Try.prog 24 #[.slice (some ⟨b, 0, none⟩) L.length c, .int .i64 i, .slice (some ⟨vb, 0, none⟩) 1 1] w (RowPost (.slice (some ⟨b, 0, none⟩) L.length c) (insAt L i x) w) := by
  have hcm := hX.le.1
  unfold maxLen at hcm
  have hall := row_ins hX.drew hi hroom x
  obtain ⟨cur, hcb, hcs, _⟩ := hX
  have hX : RowW w b c L := ⟨cur, hcb, hcs, ‹_›⟩
  have hov := Lib.hid (fun o lb cb => callOverlaps w b vb o 1 1 lb cb hx hcb (by omega) hne)
  have hfl := flat_wn (L.drop i)
  rw [List.length_drop] at hfl
  obtain ⟨W1, hW1⟩ : ∃ W1, W1 = w.drew.setCells b ((i + 1) * 2) ((L.drop i).flatMap wnL) := ⟨_, rfl⟩
  have hX1 : RowW W1 b c (L.take (i + 1) ++ L.drop i ++ L.drop (i + 1 + (L.drop i).length)) := by rw [hW1]; exact hX.drew.lay (by omega) (by rw [List.length_drop]; omega)
  have hx1 : Blk W1 vb ta (wnC x) := by rw [hW1]; exact (turn_cells b _ _ w.drew).blk hx.drew hne
  have hcp1 := Lib.hid (show ∀ ty dc sc, (Builtin.copy_ #[56, 56] ty #[.slice (some ⟨b, (i + 1) * 2, none⟩) (L.length - i) dc, .slice (some ⟨b, i * 2, none⟩) (L.length + 1 - i) sc]).run Try.prog w.drew = .ok (goInt ((L.length - i : Nat) : Int)) W1 from fun ty dc sc => by
    rw [hW1]
    have hfr := hX.drew.from_ i
    exact run_copy_sized w.drew _ _ ty 63 2 b ((i + 1) * 2) _ dc ⟨b, i * 2, none⟩ _ sc (L.length - i) _ Try.underlying56 wnInfo (by simp only [Nat.min_def]; split <;> omega) hfl
      (fun j v hj => by rw [Addr.add_lit]; exact hfr j v hj)
      (fun j hj => ((hX.drew.there (i := i + 1) (n := (L.length - i) * 2) (by omega)) j (by omega)).1) (fun j hj => ((hX.drew.there (i := i + 1) (n := (L.length - i) * 2) (by omega)) j (by omega)).2) (one_flat _))
  have hcp2 := Lib.hid (show ∀ ty dc, (Builtin.copy_ #[56, 56] ty #[.slice (some ⟨b, i * 2, none⟩) (L.length + 1 - i) dc, .slice (some ⟨vb, 0, none⟩) 1 1]).run Try.prog W1 = .ok (goInt ((1 : Nat) : Int)) (W1.setCells b (i * 2) (wnL x)) from fun ty dc =>
    run_copy_sized W1 _ _ ty 63 2 b (i * 2) _ dc ⟨vb, 0, none⟩ 1 1 1 (wnL x) Try.underlying56 wnInfo (by simp only [Nat.min_def]; split <;> omega) rfl
      (blk_wn hx1) (fun j hj => ((hX1.there (i := i) (n := 2) (by omega)) j hj).1) (fun j hj => ((hX1.there (i := i) (n := 2) (by omega)) j hj).2) (one_wnL x))
  rw [← hW1] at hall
  have HT : Hid (Turn (fun k => k = b) w (W1.setCells b (i * 2) (wnL x))) := Lib.hid (by
    rw [hW1]
    exact ((L6.Turn.refl (fun k => k = b) w).drew.trans (turn_cells b _ _ w.drew) (fun k h => .inl h)).trans (turn_cells b _ _ _) (fun k h => .inl h))
  have HA := Lib.hid hall
  have HL := Lib.hid (insAt_len (Nat.le_of_lt hi) x)
  have hW := Lib.hid hW1
  obtain ⟨n, hn⟩ : ∃ n, n = L.length := ⟨_, rfl⟩
  rw [← hn] at hcp1 hcp2 hi hroom hl HL
  rw [← hn]
  have mixed : Try.prog.follows .mixedOrders = true := by kernel_rfl
  have hw1 : IntKind.i64.wrap ((i : Int) + 1) = (i : Int) + 1 := by rw [IntKind.wrap_i64]; omega
  have hb1 : (0 : Int) ≤ (i : Int) + 1 := by omega
  have hin : i ≤ n := by omega
  have htn : ((i : Int) + 1).toNat = i + 1 := by omega
  have htn2 : ((n : Int) + 1).toNat = n + 1 := by omega
  have hb2 : ¬ (c = i + 1) := by omega
  have hb3 : (i : Int) ≤ (n : Int) + 1 := by omega
  have hb5 : i ≤ n + 1 := by omega
  have hb4 : ¬ (c = i) := by omega
  have hni : ((i : Int) == (n : Int)) = false := beq_eq_false_iff_ne.2 (by omega)
  clear hall hX hX1 hx1 hcb hcs hfl hn hx hW1
  go_enter Try.func24, Try.ntmps24
  go_wp2_with (simp only [hov.out])
  go_region_law_o (refine step_copy_runI rfl _ _ 56 56 rfl (.slice (some ⟨b, (i + 1) * 2, none⟩) (n - i) (c - (i + 1))) (.slice (some ⟨b, i * 2, none⟩) (n + 1 - i) (c - i)) (by simp [Act.eval, Act.put]) (by simp [Act.eval, Act.put]) (hcp1.out 3 (c - (i + 1)) (c - i)) ?_)
  go_wp2_with (refine wpList_copy_runI _ rfl _ _ 56 56 rfl _ _ rfl rfl (hcp2.out _ _) ?_)
  go_ret
  refine ⟨_, rfl, ?_, fun k hk => .inl hk, HT.out.mono fun k _ hk => by rw [hk]; rfl⟩
  have hr := HA.out.row (base := 0) (Nat.zero_le _)
  rw [HL.out] at hr ⊢
  exact hr
end Go.Proofs.Ytglnocclhhdbbaa
