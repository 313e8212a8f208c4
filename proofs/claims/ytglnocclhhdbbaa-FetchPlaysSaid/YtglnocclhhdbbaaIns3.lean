/-
  One more in its place, where there is no room: a new row; and in whatever case.
-/
import Derived.Test.YtglnocclhhdbbaaIns2
set_option linter.unusedSimpArgs false
set_option linter.unusedVariables false
set_option maxRecDepth 10000
namespace Go.Proofs.Ytglnocclhhdbbaa
open Go.RowKit Go.Lib
open L3 (Blk Reads block_of_add add_of_add)
open L6 (Turn moreB fresh From In)

theorem zeros_size (n : Nat) : (Builtin.zeroCells (wnC zeroWn) n).size = n * 2 := by simp [Builtin.zeroCells, wnC]
/-- A new row: the first ones, and zero cells behind them. -/
theorem row_new (w : World) (M : List Wnt) (k G : Nat) (hG : M.length + k ≤ G) (hm : G ≤ maxLen) :
    RowW (w.alloc (.cells ((M.flatMap wnL).toArray ++ Builtin.zeroCells (wnC zeroWn) k ++ Builtin.zeroCells (wnC zeroWn) (G - (M.length + k))) 63)) w.heap.size G M := by
  refine ⟨_, Blk.new _ _ _, ?_, hm, by omega, fun i hi c u hu => ?_⟩
  · rw [Array.size_append, Array.size_append, zeros_size, zeros_size, List.size_toArray, flat_wn]
    omega
  · have hc2 := wnL_lt hu
    have hf := flat_wn M
    have h1 := flat_get (f := wnL) (k := 2) (fun _ => rfl) (L := M) hi hc2
    rw [hu] at h1
    rw [Array.append_assoc, Array.getElem?_append_left (by rw [List.size_toArray, hf]; omega), List.getElem?_toArray]
    exact h1
set_option maxHeartbeats 4000000 in
set_option maxRecDepth 100000 in
theorem insGrow_any {w : World} {b c : Nat} {L : List Wnt} (hX : RowW w b c L) {i : Nat} (hi : i < L.length) (hroom : c < L.length + 1) (hl : L.length ≤ 1000) (x : Wnt) {vb : Nat} {ta : TypeId} (hx : Blk w vb ta (wnC x)) :
    Calls Try.prog 24 #[.slice (some ⟨b, 0, none⟩) L.length c, .int .i64 i, .slice (some ⟨vb, 0, none⟩) 1 1] w (RowPost (.slice (some ⟨b, 0, none⟩) L.length c) (insAt L i x) w) := by
  obtain ⟨i0, hi0, hz0, hz1, hz2⟩ := info_parts wnInfo3
  have hlc := hX.le.2
  have hbw := hX.lt
  have hvw := hx.lt
  obtain ⟨G, hG⟩ : ∃ G, G = grownCap w (L.length + 1) c 63 := ⟨_, rfl⟩
  have hGn : L.length + 1 ≤ G := by rw [hG]; exact grownCap_ge w _ _ _
  have hGm : G ≤ maxLen := by rw [hG]; exact grownCap_le_maxLen w (L.length + 1) c _ (by unfold maxLen; omega)
  have hold : (Builtin.firstCells i0.size i (.slice (some ⟨b, 0, none⟩) i c)).run Try.prog w.drew = .ok ((L.take i).flatMap wnL).toArray w.drew := by
    rw [hz1]
    refine run_firstCells_some w.drew 2 i ⟨b, 0, none⟩ i c _ (by rw [flat_wn, List.length_take]; omega) (fun j v hj => ?_)
    have h1 := (hX.drew.take i).from_ 0 j v (by rw [List.drop_zero]; exact hj)
    rw [Addr.add_lit]
    rw [Nat.zero_mul] at h1
    exact h1
  have hik : i + (L.length + 1 - i) = L.length + 1 := by omega
  obtain ⟨W1, hW1⟩ : ∃ W1, W1 = w.drew.alloc (.cells (((L.take i).flatMap wnL).toArray ++ Builtin.zeroCells (wnC zeroWn) (L.length + 1 - i) ++ Builtin.zeroCells (wnC zeroWn) (G - (L.length + 1))) 63) := ⟨_, rfl⟩
  have hkk : (L.length : Int) + 1 - (i : Int) = ((L.length + 1 - i : Nat) : Int) := by omega
  have hrz : ∀ ty, (Builtin.append_ #[56, 3] ty #[.slice (some ⟨b, 0, none⟩) i c, .int .i64 ((L.length : Int) + 1 - (i : Int))]).run Try.prog w = .ok (.slice (some ⟨w.heap.size, 0, none⟩) (L.length + 1) G) W1 := fun ty => by
    have h := Lib.run_append_grow_zeros w 56 3 ty 63 i0 _ .i64 .i64 Try.underlying56 Try.underlying3 hi0 hz0 (some ⟨b, 0, none⟩) i c _ hold (L.length + 1 - i) (by omega) (by rw [hz1]; decide) (by omega) (by omega) (by rw [hz2]; omega) (by rw [hz2, hik]; exact growslice_fits hroom (by omega))
    rw [hik, ← hG] at h
    rw [hkk, hW1]
    exact h
  have hR1 : RowW W1 w.heap.size G (L.take i) := by
    have h := row_new w.drew (L.take i) (L.length + 1 - i) G (by rw [List.length_take]; omega) hGm
    rw [show (L.take i).length + (L.length + 1 - i) = L.length + 1 by rw [List.length_take]; omega] at h
    rw [hW1]
    exact h
  have hb1 : Below w.heap.size w W1 := by rw [hW1]; exact (Below.refl _ _).drew.alloc (by simp) _
  obtain ⟨g, hg⟩ : ∃ g, g = w.heap.size := ⟨_, rfl⟩
  rw [← hg] at hR1 hrz hb1 hbw hvw
  have hlt : (L.take i).length = i := by rw [List.length_take]; omega
  have e2 : ([x] : List Wnt).flatMap wnL = wnL x := by simp
  obtain ⟨W2, hW2⟩ : ∃ W2, W2 = W1.setCells g (i * 2) (wnL x) := ⟨_, rfl⟩
  have hR2 : RowW W2 g G (L.take i ++ [x]) := by
    have h := hR1.lay (j := i) (by omega) (F := [x]) (by rw [List.length_singleton]; omega)
    have e4 : (L.take i).take i = L.take i := List.take_of_length_le (by omega)
    have e5 : (L.take i).drop (i + ([x] : List Wnt).length) = [] := List.drop_eq_nil_of_le (by omega)
    rw [e2, e4, e5, List.append_nil, ← hW2] at h
    exact h
  have hb2 : Below g w W2 := by rw [hW2]; exact hb1.trans ((turn_cells g _ _ W1).below (fun k hk => by omega) (Nat.le_of_lt hR1.lt))
  obtain ⟨W3, hW3⟩ : ∃ W3, W3 = W2.drew.setCells g ((i + 1) * 2) ((L.drop i).flatMap wnL) := ⟨_, rfl⟩
  have hR3 : RowW W3 g G (insAt L i x) := by
    have hl2 : (L.take i ++ [x]).length = i + 1 := by rw [List.length_append, hlt, List.length_singleton]
    have h := hR2.drew.lay (j := i + 1) (by omega) (F := L.drop i) (by rw [List.length_drop]; omega)
    have e4 : (L.take i ++ [x]).take (i + 1) = L.take i ++ [x] := List.take_of_length_le (by omega)
    have e5 : (L.take i ++ [x]).drop (i + 1 + (L.drop i).length) = [] := List.drop_eq_nil_of_le (by omega)
    rw [e4, e5, List.append_nil, ← hW3] at h
    exact h
  have hb3 : Below g w W3 := by rw [hW3]; exact hb2.drew.trans ((turn_cells g _ _ W2.drew).below (fun k hk => by omega) (Nat.le_of_lt hR2.drew.lt))
  have hx1 : Blk W1 vb ta (wnC x) := (show Turn (fun _ => False) w W1 from L6.Turn.of_keep (by rw [← hg]; exact hb1)).blk hx (fun h => h)
  have hX2 : RowW W2 b c L := hX.below (by rw [← hg]; exact hb2)
  have hfl := flat_wn (L.drop i)
  rw [List.length_drop] at hfl
  have hcp1 := Lib.hid (show ∀ ty dc, (Builtin.copy_ #[56, 56] ty #[.slice (some ⟨g, i * 2, none⟩) (L.length + 1 - i) dc, .slice (some ⟨vb, 0, none⟩) 1 1]).run Try.prog W1 = .ok (goInt ((1 : Nat) : Int)) W2 from fun ty dc => by
    rw [hW2]
    exact run_copy_sized W1 _ _ ty 63 2 g (i * 2) _ dc ⟨vb, 0, none⟩ 1 1 1 (wnL x) Try.underlying56 wnInfo (by simp only [Nat.min_def]; split <;> omega) rfl
      (blk_wn hx1) (fun j hj => ((hR1.there (i := i) (n := 2) (by omega)) j hj).1) (fun j hj => ((hR1.there (i := i) (n := 2) (by omega)) j hj).2) (one_wnL x))
  have hcp2 := Lib.hid (show ∀ ty dc sc, (Builtin.copy_ #[56, 56] ty #[.slice (some ⟨g, (i + 1) * 2, none⟩) (L.length - i) dc, .slice (some ⟨b, i * 2, none⟩) (L.length - i) sc]).run Try.prog W2.drew = .ok (goInt ((L.length - i : Nat) : Int)) W3 from fun ty dc sc => by
    rw [hW3]
    have hfr := hX2.drew.from_ i
    exact run_copy_sized W2.drew _ _ ty 63 2 g ((i + 1) * 2) _ dc ⟨b, i * 2, none⟩ _ sc (L.length - i) _ Try.underlying56 wnInfo (by simp only [Nat.min_def]; split <;> omega) hfl
      (fun j v hj => by rw [Addr.add_lit]; exact hfr j v hj)
      (fun j hj => ((hR2.drew.there (i := i + 1) (n := (L.length - i) * 2) (by omega)) j (by omega)).1) (fun j hj => ((hR2.drew.there (i := i + 1) (n := (L.length - i) * 2) (by omega)) j (by omega)).2) (one_flat _))
  have HA := Lib.hid hR3
  have HT := Lib.hid hb3
  have HG := Lib.hid hg
  have HL := Lib.hid (insAt_len (Nat.le_of_lt hi) x)
  have hrz1 := Lib.hid hrz
  obtain ⟨n, hn⟩ : ∃ n, n = L.length := ⟨_, rfl⟩
  rw [← hn] at hcp1 hcp2 hrz1 hi hroom hl hlc HL hGn
  rw [← hn]
  have mixed : Try.prog.follows .mixedOrders = true := by kernel_rfl
  unfold maxLen at hGm
  have hz3 : (c : Int) < (n : Int) + 1 := by omega
  have hw1 : IntKind.i64.wrap ((i : Int) + 1) = (i : Int) + 1 := by rw [IntKind.wrap_i64]; omega
  have hb1 : (0 : Int) ≤ (i : Int) + 1 := by omega
  have hin : i ≤ n := by omega
  have htn : ((i : Int) + 1).toNat = i + 1 := by omega
  have hb3 : (i : Int) ≤ (n : Int) := by omega
  have hb5 : (i : Int) ≤ (n : Int) + 1 := by omega
  have hb6 : i ≤ n + 1 := by omega
  have hGi : ¬ (G = i) := by omega
  have hGim : ¬ (G = i + 1) := by omega
  have hci : ¬ (c = i) := by omega
  have hni : ((i : Int) == (n : Int)) = false := beq_eq_false_iff_ne.2 (by omega)
  clear hX hX2 hx hx1 hR1 hR2 hR3 hb2 hW1 hW2 hW3 hold hG hkk hrz hg hik hfl hlt e2 hz0 hz1 hz2 hi0 hn
  go_enter Try.func24, Try.ntmps24
  go_wp2_with (first
    | (refine Lib.wpList_append_run _ rfl _ _ _ _ rfl _ _ rfl rfl _ _ (hrz1.out _) ?_)
    | (refine wpList_copy_runI _ rfl _ _ 56 56 rfl _ _ rfl rfl (hcp1.out _ _) ?_)
    | go_in)
  go_region_law_o (refine step_copy_runI rfl _ _ 56 56 rfl (.slice (some ⟨g, (i + 1) * 2, none⟩) (n - i) (G - (i + 1))) (.slice (some ⟨b, i * 2, none⟩) (n - i) (c - i)) (by simp [Act.eval, Act.put]) (by simp [Act.eval, Act.put]) (hcp2.out 3 (G - (i + 1)) (c - i)) ?_)
  go_wp2
  go_ret
  refine ⟨_, rfl, ?_, fun k hk => .inr ?_, L6.Turn.of_keep (by rw [← HG.out]; exact HT.out)⟩
  · have hr := HA.out.row (base := 0) (Nat.zero_le _)
    rw [HL.out] at hr ⊢
    exact hr
  · have : g = k := by simpa [Value.ownBlock] using hk
    rw [← this, HG.out]
    exact Nat.le_refl _
/-- In whatever case. -/
theorem insert_any {w : World} {v : Value} {L : List Wnt} (hrow : w.ownsRow 0 63 2 v L.length (L.flatMap wnL)) (hl : L.length ≤ 1000) {i : Nat} (hi : i ≤ L.length) (x : Wnt) {vb : Nat} {ta : TypeId} (hx : Blk w vb ta (wnC x)) (hne : v.ownBlock ≠ some vb) :
    Calls Try.prog 24 #[v, .int .i64 i, .slice (some ⟨vb, 0, none⟩) 1 1] w (RowPost v (insAt L i x) w) := by
  rcases Nat.eq_or_lt_of_le hi with h | h
  · subst h
    have e : insAt L L.length x = L ++ [x] := by unfold insAt; rw [List.take_length, List.drop_length, List.append_nil]
    rw [e]
    exact insEnd_any hrow hl x hx
  · obtain ⟨b, c, rfl, _, hX⟩ := row_of hrow (fun e => by rw [e] at h; simp at h)
    rcases Nat.lt_or_ge c (L.length + 1) with hc | hc
    · exact insGrow_any hX h hc hl x hx
    · exact insMid_any hX h hc hl x hx (fun e => hne (by simp [Value.ownBlock, e]))
end Go.Proofs.Ytglnocclhhdbbaa
