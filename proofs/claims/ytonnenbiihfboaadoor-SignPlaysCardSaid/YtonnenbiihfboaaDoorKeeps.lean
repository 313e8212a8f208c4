/-
  What was issued grows; what counts goes on counting; bad ones alone are too few: plain facts.
-/
import Derived.Test.YtonnenbiihfboaaDoorRowKit
set_option linter.unusedSimpArgs false
set_option linter.unusedVariables false
namespace Go.Proofs.YtonnenbiihfboaaDoor
open Go.RowKit Go.Maps Go.Lib

/-- The share of a call. -/
def Actx.shr (a : Actx) : Shr := ⟨a.signer, a.s⟩
theorem Actx.fit.shr {a : Actx} (h : a.fit) : a.shr.wf := ⟨h.2.1, h.2.2.2.2⟩
/-- What is issued behind k calls. -/
def iss (f : Int) (D : Nat → Actx) : Nat → List Shr
  | 0 => []
  | k + 1 => issL f (iss f D k) (D k).shr
theorem issL_sub {f : Int} {L : List Shr} {x y : Shr} (h : y ∈ L) : y ∈ issL f L x := by
  unfold issL
  split
  · split
    · exact h
    · exact List.mem_append_left _ h
  · exact h
theorem issL_mem {f : Int} {L : List Shr} {x y : Shr} (h : y ∈ issL f L x) : y ∈ L ∨ y = x := by
  unfold issL at h
  split at h
  · split at h
    · exact .inl h
    · simpa using h
  · exact .inl h
theorem issL_len (f : Int) (L : List Shr) (x : Shr) : (issL f L x).length ≤ L.length + 1 := by
  unfold issL
  split
  · split <;> simp
  · simp
theorem iss_len (f : Int) (D : Nat → Actx) : ∀ k, (iss f D k).length ≤ k
  | 0 => Nat.le_refl _
  | k + 1 => Nat.le_trans (issL_len _ _ _) (Nat.succ_le_succ (iss_len f D k))
theorem cntE_mono {f : Int} {bad : Nat} {L L' : List Shr} {x : Shr} (h : ∀ y ∈ L, y ∈ L') (h0 : cntE f bad L x = 0) : cntE f bad L' x = 0 := by
  unfold cntE at h0 ⊢
  split at h0
  · next hk =>
    rw [if_pos hk]
    split at h0
    · next hm => rw [if_pos (h x hm)]
    · split at h0
      · next hv =>
        by_cases hm' : x ∈ L'
        · rw [if_pos hm']
        · rw [if_neg hm', if_pos hv]
      · omega
  · omega
theorem firstE_iff {f : Int} {bad : Nat} {L : List Shr} {s : Stm} : ∀ l : List Nat, firstE f bad L s l = 0 ↔ ∀ k ∈ l, cntE f bad L ⟨k, s⟩ = 0
  | [] => by simp [firstE]
  | k :: ks => by
    rw [firstE_cons]
    by_cases h : cntE f bad L ⟨k, s⟩ = 0
    · rw [if_pos h, firstE_iff ks]
      simp [h]
    · rw [if_neg h]
      simp [h]
theorem allE_zero {f : Int} {bad : Nat} {L : List Shr} {s : Stm} {n : Nat} (h : allE f bad L s n = 0) : checkV f n = 0 ∧ ∀ k ∈ bts 0 n, cntE f bad L ⟨k, s⟩ = 0 := by
  unfold allE at h
  split at h
  · next hc => exact ⟨hc, (firstE_iff _).1 h⟩
  · next hc => exact absurd h hc
theorem allE_mono {f : Int} {bad : Nat} {L L' : List Shr} {s : Stm} {n : Nat} (h : ∀ y ∈ L, y ∈ L') (h0 : allE f bad L s n = 0) : allE f bad L' s n = 0 := by
  obtain ⟨hc, h1⟩ := allE_zero h0
  unfold allE
  rw [if_pos hc, firstE_iff]
  exact fun k hk => cntE_mono h (h1 k hk)
/-- Has nobody but bad ones issued this statement? -/
def onlyB (bad : Nat) (s : Stm) (D : Nat → Actx) : Nat → Bool
  | 0 => true
  | k + 1 => onlyB bad s D k && (!decide ((D k).s = s) || hasV bad (D k).signer)
theorem only_bad {f : Int} {bad : Nat} {s : Stm} {D : Nat → Actx} : ∀ k, onlyB bad s D k = true → ∀ x ∈ iss f D k, x.s = s → hasV bad x.k = true
  | 0, _, x, hx, _ => by cases hx
  | k + 1, h, x, hx, hs => by
    simp only [onlyB, Bool.and_eq_true] at h
    rcases issL_mem hx with hx | rfl
    · exact only_bad k h.1 x hx hs
    · have h2 := h.2
      have hd : decide ((D k).s = s) = true := decide_eq_true hs
      rw [hd] at h2
      show hasV bad (D k).signer = true
      simpa using h2
theorem sub_cnt {n bad : Nat} (h : ∀ k ∈ bts 0 n, bad.testBit k = true) : cnt n ≤ cnt bad := by
  have e : n &&& bad = n := by
    apply Nat.eq_of_testBit_eq
    intro i
    rw [Nat.testBit_and]
    cases hi : n.testBit i with
    | false => rfl
    | true => rw [h i ((mem_bts n 0 i).2 ⟨Nat.zero_le _, by simpa using hi⟩)]; rfl
  have := cnt_and_le n bad
  rwa [e] at this
theorem too_few {f : Int} {bad : Nat} {s : Stm} {D : Nat → Actx} {k n : Nat} (hnew : newE f bad = 0) (ho : onlyB bad s D k = true) (hc : ¬ (cnt n : Int) ≤ f) : enoughE f bad (iss f D k) s n 0 ≠ 0 := by
  intro h
  have ha : allE f bad (iss f D k) s n = 0 := by
    unfold enoughE at h
    split at h
    · assumption
    · next h1 => exact absurd h h1
  obtain ⟨_, h1⟩ := allE_zero ha
  have hb : ¬ f < (cnt bad : Int) := by
    intro hlt
    unfold newE at hnew
    by_cases h2 : checkV f bad = 0
    · rw [if_pos h2, if_pos hlt] at hnew; cases hnew
    · rw [if_neg h2] at hnew; exact h2 hnew
  have := sub_cnt (n := n) (bad := bad) fun j hj => by
    have h2 := h1 j hj
    unfold cntE at h2
    have hv : hasV bad (j : Int) = true := by
      split at h2
      · split at h2
        · next hm => exact only_bad k ho ⟨j, s⟩ hm rfl
        · split at h2
          · assumption
          · omega
      · omega
    unfold hasV at hv
    rw [Bool.and_eq_true] at hv
    simpa using hv.2
  omega

theorem add_pos (b : Addr) (f : Nat) (h : 0 < f) : b.add f = ⟨b.block, b.off + f, none⟩ := by
  unfold Addr.add
  rw [if_neg (by omega)]
/-- A call's cells. -/
theorem act_parts {W : World} {b : Addr} {a : Actx} (hc : ∀ j u, (actL a)[j]? = some u → W.cell? (b.add j) = some u) :
    W.cell? b = some (.int .i64 a.kind) ∧ W.cell? ⟨b.block, b.off + 1, none⟩ = some (.int .i64 a.signer) ∧ W.cell? ⟨b.block, b.off + 2, none⟩ = some (.int .i64 a.least) ∧ W.cell? ⟨b.block, b.off + 3, none⟩ = some (.int .u32 a.set) ∧
      ∀ j u, (stmL a.s)[j]? = some u → W.cell? ((⟨b.block, b.off + 4, none⟩ : Addr).add j) = some u := by
  have h0 := hc 0 _ rfl
  have h1 := hc 1 _ rfl
  have h2 := hc 2 _ rfl
  have h3 := hc 3 _ rfl
  rw [add_pos _ _ (by decide)] at h1 h2 h3
  refine ⟨by simpa [Addr.add] using h0, h1, h2, h3, fun j u hj => ?_⟩
  rw [← add_pos b 4 (by decide), add_of_add]
  refine hc (4 + j) u ?_
  rw [Nat.add_comm]
  exact hj
end Go.Proofs.YtonnenbiihfboaaDoor
