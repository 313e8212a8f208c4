/-
  One less: slices.Delete of one, at this struct.
-/
import Derived.Test.YtglnocclhhdbbaaIns
set_option linter.unusedSimpArgs false
set_option linter.unusedVariables false
set_option maxRecDepth 10000
namespace Go.Proofs.Ytglnocclhhdbbaa
open Go.RowKit Go.Lib
open L3 (Blk Reads block_of_add add_of_add)
open L6 (Turn moreB fresh From In)

/-- One less, at place i. -/
def delAt (L : List Wnt) (i : Nat) : List Wnt := L.take i ++ L.drop (i + 1)
theorem delAt_len {L : List Wnt} {i : Nat} (hi : i < L.length) : (delAt L i).length = L.length - 1 := by
  unfold delAt
  rw [List.length_append, List.length_take, List.length_drop]
  omega
/-- append of some, whose run is known: one step of a region that draws. -/
theorem step_append_runI {P : Program} {ops : Array Oper} {o : Oper} {a : Act} {w : World} {K : Act → World → Prop} {Q : Exit → Act → World → Prop} {E : Prop}
    (hg : o.guard = none) (d x : Operand) (dT sT : TypeId) (hop : o.op = Op.call { callee := Callee.builtin Builtin.append, args := #[d, x], argTypes := #[dT, sT] })
    (v u : Value) (hd : a.eval d = v) (hx : a.eval x = u) {v' : Value} {w' : World} (hr : (Builtin.append_ #[dT, sT] o.type #[v, u]).run P w = .ok v' w') (hK : K (a.put o.dst v') w') :
    if Region.wanted o (yielded ops a.tmps) = true then Oper.wp P o a w K Q else E := by
  have hw : Region.wanted o (yielded ops a.tmps) = true := by simp [Region.wanted, hg]
  rw [if_pos hw]
  unfold Oper.wp
  simp [execOp, hop, resolve, invoke, builtin, hd, hx, hr, Result.andThen]
  exact hK
set_option maxHeartbeats 4000000 in
set_option maxRecDepth 100000 in
theorem deleteX_any {w : World} {b c : Nat} {L : List Wnt} (hX : RowW w b c L) {i : Nat} (hi : i < L.length) (hl : L.length ≤ 1000) :
    Calls Try.prog 26 #[.slice (some ⟨b, 0, none⟩) L.length c, .int .i64 i, .int .i64 ((i : Int) + 1)] w (RowPost (.slice (some ⟨b, 0, none⟩) L.length c) (delAt L i) w) := by
  obtain ⟨i0, hi0, hz0, hz1, hz2⟩ := info_parts wnInfo3
  have hlc := hX.le.2
  have hcm := hX.le.1
  unfold maxLen at hcm
  have hfl := flat_wn (L.drop (i + 1))
  rw [List.length_drop] at hfl
  obtain ⟨W1, hW1⟩ : ∃ W1, W1 = w.drew.setCells b (i * 2) ((L.drop (i + 1)).flatMap wnL) := ⟨_, rfl⟩
  have hX1 : RowW W1 b c (L.take i ++ L.drop (i + 1) ++ L.drop (i + (L.drop (i + 1)).length)) := by rw [hW1]; exact hX.drew.lay (by omega) (by rw [List.length_drop]; omega)
  have hl1 : (L.take i ++ L.drop (i + 1) ++ L.drop (i + (L.drop (i + 1)).length)).length = L.length := by simp only [List.length_append, List.length_take, List.length_drop]; omega
  have hcut : (L.take i ++ L.drop (i + 1) ++ L.drop (i + (L.drop (i + 1)).length)).take (L.length - 1) = delAt L i := by
    rw [← delAt_len hi]
    exact List.take_left
  have hap : ∀ ty, (Builtin.append_ #[56, 56] ty #[.slice (some ⟨b, 0, none⟩) i c, .slice (if c = i + 1 then some ⟨b, 0, none⟩ else some ⟨b, (i + 1) * 2, none⟩) (L.length - (i + 1)) (c - (i + 1))]).run Try.prog w.drew = .ok (.slice (some ⟨b, 0, none⟩) (L.length - 1) c) W1 := fun ty => by
    obtain ⟨A, hA, hsrc⟩ : ∃ A : Addr, (if c = i + 1 then (some ⟨b, 0, none⟩ : Option Addr) else some ⟨b, (i + 1) * 2, none⟩) = some A ∧ ∀ j u, ((L.drop (i + 1)).flatMap wnL)[j]? = some u → w.drew.cell? (A.add j) = some u := by
      by_cases h : c = i + 1
      · refine ⟨⟨b, 0, none⟩, by simp [h], fun j u hj => ?_⟩
        have h0 : ((L.drop (i + 1)).flatMap wnL).length = 0 := by rw [hfl]; omega
        rw [List.length_eq_zero_iff.1 h0] at hj
        simp at hj
      · refine ⟨⟨b, (i + 1) * 2, none⟩, by simp [h], fun j u hj => ?_⟩
        rw [Addr.add_lit]
        exact hX.drew.from_ (i + 1) j u hj
    rw [hA]
    have hS : Src Try.prog i0.size 56 (.slice (some A) (L.length - (i + 1)) (c - (i + 1))) (L.length - (i + 1)) ((L.drop (i + 1)).flatMap wnL) w.drew :=
      Src.ofSlice w.drew Try.underlying56 A _ _ _ (by rw [hz1]; exact hfl) hsrc (one_flat _)
    have h := run_append_room_src w.drew 56 56 ty 63 i0 Try.underlying56 hi0 b 0 i c _ _ _ hS (by omega)
      (fun j hj => by rw [hz1, Nat.zero_add]; exact ((hX.drew.there (i := i) (n := (L.length - (i + 1)) * 2) (by omega)) j (by omega)).1) (fun j hj => by rw [hz1, Nat.zero_add]; exact ((hX.drew.there (i := i) (n := (L.length - (i + 1)) * 2) (by omega)) j (by omega)).2)
    rw [hz1, Nat.zero_add, ← hW1, show i + (L.length - (i + 1)) = L.length - 1 by omega] at h
    exact h
  obtain ⟨vs, hvs⟩ := run_clear_wn W1 0 b ((L.length - 1) * 2) (L.length - (L.length - 1)) (c - (L.length - 1)) (by omega) (hX1.there (i := L.length - 1) (n := (L.length - (L.length - 1)) * 2) (by omega))
  have hX2 := hX1.cut (L.length - 1) vs
  rw [hcut] at hX2
  have HT : Hid (Turn (fun k => k = b) w (W1.setCells b ((L.length - 1) * 2) vs)) := Lib.hid (by
    rw [hW1]
    exact ((L6.Turn.refl (fun k => k = b) w).drew.trans (turn_cells b _ _ w.drew) (fun k h => .inl h)).trans (turn_cells b _ _ _) (fun k h => .inl h))
  have HA := Lib.hid hX2
  have HL := Lib.hid (delAt_len hi)
  obtain ⟨n, hn⟩ : ∃ n, n = L.length := ⟨_, rfl⟩
  rw [← hn] at hap hvs HT HL HA hi hl hlc
  rw [← hn]
  have HAP := Lib.hid hap
  have mixed : Try.prog.follows .mixedOrders = true := by kernel_rfl
  obtain ⟨m, hm⟩ : ∃ m, m = n - 1 := ⟨_, rfl⟩
  rw [← hm] at HAP hvs HT HL HA
  have hmn : n = m + 1 := by omega
  subst hmn
  rw [show m + 1 - m = 1 by omega] at hvs
  have HAP2 := Lib.hid (show ∀ ty, (Builtin.append_ #[56, 56] ty #[.slice (some ⟨b, 0, none⟩) i c, .slice (if c = i + 1 then some ⟨b, 0, none⟩ else some ⟨b, (i + 1) * 2, none⟩) (m - i) (c - (i + 1))]).run Try.prog w.drew = .ok (.slice (some ⟨b, 0, none⟩) m c) W1 from fun ty => by
    have := HAP.out ty
    rwa [show m + 1 - (i + 1) = m - i by omega] at this)
  have hw1 : IntKind.i64.wrap ((i : Int) + 1) = (i : Int) + 1 := by rw [IntKind.wrap_i64]; omega
  have hii : ((i : Int) == (i : Int) + 1) = false := beq_eq_false_iff_ne.2 (by omega)
  have hb1 : (0 : Int) ≤ (i : Int) + 1 := by omega
  have hb2 : (i : Int) + 1 ≤ (m : Int) + 1 := by omega
  have hb3 : (i : Int) ≤ (i : Int) + 1 := by omega
  have hb4 : i ≤ c := by omega
  have hb5 : i + 1 ≤ c := by omega
  have htn : ((i : Int) + 1).toNat = i + 1 := by omega
  have hcm2 : ¬ (c = m) := by omega
  clear hX hX1 hX2 hfl hl1 hcut hap hW1 hm hz0 hz1 hz2 hi0 hn
  by_cases hci : c = i + 1
  · subst hci
    rw [if_pos rfl] at HAP2
    go_enter Try.func26, Try.ntmps26
    go_wp2_with fail
    go_region_law_o (refine step_append_runI rfl _ _ 56 56 rfl (.slice (some ⟨b, 0, none⟩) i (i + 1)) (.slice (some ⟨b, 0, none⟩) (m - i) (i + 1 - (i + 1))) (by simp [Act.eval, Act.put]) (by simp [Act.eval, Act.put]; try omega) (HAP2.out 56) ?_)
    go_wp2
    go_ret
    refine ⟨_, rfl, ?_, fun k hk => .inl hk, HT.out.mono fun k _ hk => by rw [hk]; rfl⟩
    have hr := HA.out.row (base := 0) (Nat.zero_le _)
    rw [HL.out] at hr ⊢
    exact hr
  · rw [if_neg hci] at HAP2
    go_enter Try.func26, Try.ntmps26
    go_wp2_with fail
    go_region_law_o (refine step_append_runI rfl _ _ 56 56 rfl (.slice (some ⟨b, 0, none⟩) i c) (.slice (some ⟨b, (i + 1) * 2, none⟩) (m - i) (c - (i + 1))) (by simp [Act.eval, Act.put]) (by simp [Act.eval, Act.put]; try omega) (HAP2.out 56) ?_)
    go_wp2
    go_ret
    refine ⟨_, rfl, ?_, fun k hk => .inl hk, HT.out.mono fun k _ hk => by rw [hk]; rfl⟩
    have hr := HA.out.row (base := 0) (Nat.zero_le _)
    rw [HL.out] at hr ⊢
    exact hr
end Go.Proofs.Ytglnocclhhdbbaa
