/-
  Whom views' coins elect: what was chosen, what was seen; plainly, and as the datum of a map.
-/
import Derived.Test.YtjkfogjhakcnfaaDoorAll
set_option linter.unusedSimpArgs false
set_option linter.unusedVariables false
namespace Go.Proofs.YtjkfogjhakcnfaaDoor
open Go.RowKit Go.Maps Go.Lib

/-- A view's coin's statement. -/
def coinS (u : Int) : Stm := ⟨5, 0, u, 0, 0, 0, 0, 0, 0, 0⟩
theorem coinS_wf {u : Int} (h : inI u) : (coinS u).wf := by
  refine ⟨?_, ?_, h, ?_, ?_, ?_, ?_, ?_, ?_, ?_⟩ <;> simp [inI, coinS]
/-- Is it a view's number? -/
def mayV (u : Int) : Bool := decide (1 ≤ u ∧ u ≤ 1048576)
theorem mayV_in {u : Int} (h : mayV u = true) : 1 ≤ u ∧ u ≤ 1048576 := of_decide_eq_true h
theorem mayV_out {u : Int} (h : mayV u = false) : u < 1 ∨ 1048576 < u := by have := of_decide_eq_false h; omega
/-- Whom a view's coin elects by choice (view and replica of each choice, the first stands); below 0: nobody. -/
def chosenV : List (Int × Int) → Int → Int
  | [], _ => -1
  | p :: G, u => if p.1 = u then p.2 else chosenV G u
/-- Whom it elects. -/
def whoV (f : Int) (G : List (Int × Int)) (u : Int) : Int := if chosenV G u < 0 then leadV f u else chosenV G u
/-- Was it chosen or seen? -/
def thereV (G : List (Int × Int)) (N : List Int) (u : Int) : Bool := decide (0 ≤ chosenV G u) || decide (u ∈ N)
theorem inN_in {f k : Int} (h : inN f k = true) : 0 ≤ k ∧ k < more 3 f := of_decide_eq_true h
theorem leadV_in {f : Int} (u : Int) (h : isF f = true) : 0 ≤ leadV f u ∧ leadV f u < more 3 f := by
  have hf := isF_le h
  unfold leadV more
  rw [if_pos h, if_pos h]
  exact ⟨Int.emod_nonneg _ (by omega), Int.emod_lt_of_pos _ (by omega)⟩
theorem chosenV_in {f : Int} : ∀ {G : List (Int × Int)} {u : Int}, (∀ p ∈ G, inN f p.2 = true) → chosenV G u < 0 ∨ (0 ≤ chosenV G u ∧ chosenV G u < more 3 f)
  | [], _, _ => .inl (by simp [chosenV])
  | p :: G, u, h => by
    unfold chosenV
    split
    · exact .inr (inN_in (h p (List.mem_cons_self ..)))
    · exact chosenV_in fun q hq => h q (List.mem_cons_of_mem _ hq)
theorem whoV_in {f : Int} {G : List (Int × Int)} (u : Int) (hf : isF f = true) (h : ∀ p ∈ G, inN f p.2 = true) : 0 ≤ whoV f G u ∧ whoV f G u < more 3 f := by
  unfold whoV
  split
  · exact leadV_in u hf
  · rcases chosenV_in (u := u) h with h' | h'
    · omega
    · exact h'
theorem chosenV_snoc {G : List (Int × Int)} {v k u : Int} (h : ∀ p ∈ G, 0 ≤ p.2) : chosenV (G ++ [(v, k)]) u = if chosenV G u < 0 then (if v = u then k else -1) else chosenV G u := by
  induction G with
  | nil => simp [chosenV]
  | cons p G ih =>
    have ih := ih fun q hq => h q (List.mem_cons_of_mem _ hq)
    have hp := h p (List.mem_cons_self ..)
    simp only [List.cons_append, chosenV]
    split
    · rw [if_neg (by omega)]
    · exact ih
/-- What Choose tells. -/
def chooseE (f : Int) (G : List (Int × Int)) (N : List Int) (u k : Int) : Int := if mayV u = true then (if inN f k = true then (if thereV G N u = true then 100 else 0) else 40) else 70
/-- .. and leaves. -/
def chooseG (f : Int) (G : List (Int × Int)) (N : List Int) (u k : Int) : List (Int × Int) := if chooseE f G N u k = 0 then G ++ [(u, k)] else G
/-- What See tells over a register of F h. -/
def seeE (f h : Int) (bad : Nat) (L : List Shr) (u : Int) (n : Nat) : Int := if mayV u = true then (if h = f then enoughE h bad L (coinS u) n (f + 1) else 1) else 70
def seeW (f h : Int) (bad : Nat) (L : List Shr) (G : List (Int × Int)) (u : Int) (n : Nat) : Int := if seeE f h bad L u n = 0 then whoV f G u else 0
def putN (N : List Int) (u : Int) : List Int := if u ∈ N then N else N ++ [u]
/-- .. and leaves. -/
def seeN (f h : Int) (bad : Nat) (L : List Shr) (N : List Int) (u : Int) (n : Nat) : List Int := if seeE f h bad L u n = 0 then putN N u else N
theorem mem_putN {N : List Int} {u x : Int} : x ∈ putN N u ↔ x ∈ N ∨ x = u := by
  unfold putN
  split
  · rename_i h
    exact ⟨.inl, fun h' => h'.elim id fun e => e ▸ h⟩
  · simp
theorem enoughE_in (f : Int) (bad : Nat) (L : List Shr) (s : Stm) (n : Nat) (least : Int) : 0 ≤ enoughE f bad L s n least ∧ enoughE f bad L s n least ≤ 61 := by
  have h := allE_in f bad L s n
  unfold enoughE
  split
  · split <;> omega
  · omega
theorem chooseG_in {f : Int} {G : List (Int × Int)} {N : List Int} {u k : Int} (h : ∀ p ∈ G, inN f p.2 = true) : ∀ p ∈ chooseG f G N u k, inN f p.2 = true := by
  unfold chooseG
  split
  · rename_i h0
    intro p hp
    rw [List.mem_append] at hp
    rcases hp with hp | hp
    · exact h p hp
    · have hk : inN f k = true := by
        unfold chooseE at h0
        split at h0
        · split at h0
          · assumption
          · cases h0
        · cases h0
      rw [List.mem_singleton] at hp
      rw [hp]; exact hk
  · exact h

/-- How what stands for a view reads: a struct of an int and a bool. -/
def tossElem {H : Type} (v : Value) : Option (DataW H × List MemPlace) :=
  match v with
  | .agg xs => (match xs.toList with | [.int .i64 a, .bool b] => some (.agg [.lit (.int .i64 a), .lit (.bool b)], []) | _ => none)
  | _ => none
theorem tossElem_mk {H : Type} (a : Int) (b : Bool) : tossElem (H := H) (.agg #[.int .i64 a, .bool b]) = some (.agg [.lit (.int .i64 a), .lit (.bool b)], []) := rfl
theorem tossElem_inv {H : Type} {v : Value} {z : DataW H × List MemPlace} (h : tossElem v = some z) : ∃ a b, v = .agg #[.int .i64 a, .bool b] ∧ z = (.agg [.lit (.int .i64 a), .lit (.bool b)], []) := by
  cases v with
  | agg xs =>
    obtain ⟨l⟩ := xs
    match l, h with
    | [.int .i64 a, .bool b], h => exact ⟨a, b, rfl, (Option.some.inj h).symm⟩
  | _ => simp [tossElem] at h
/-- What stands for a view. -/
def tossD (a : Int) (b : Bool) : DataW Unit := .agg [.lit (.int .i64 a), .lit (.bool b)]
/-- What a view reads as, where it is a key. -/
def keyI (u : Int) : Lit := .int .i64 u
theorem key_at_i {u : Int} (h : inI u) : keyOf Tryd.prog 3 (.int .i64 u) = some (keyI u) := keyOf_int_mk Tryd.underlying3 h.lit
theorem kdI : Keyed Tryd.prog 3 := int_keyed Tryd.underlying3
theorem sameKey_i {a b : Int} (h : a ≠ b) : (keyI a).sameKey (keyI b) = false := by simp [keyI, Lit.sameKey, h]
/-- The map's datum D tells what was chosen and seen. -/
def FitsT (D : DataW Unit) (f : Int) (G : List (Int × Int)) (N : List Int) : Prop :=
  ∀ u, inI u → Maps.has D (keyI u) = thereV G N u ∧ (thereV G N u = true → ∀ z, D.atKey (keyI u) z = tossD (whoV f G u) (decide (u ∈ N)))
theorem FitsT.nil (f : Int) : FitsT (.map []) f [] [] := fun u _ => ⟨by simp [thereV, chosenV, Maps.has], fun h => by simp [thereV, chosenV] at h⟩
theorem keyI_key {u : Int} (h : inI u) : WideAt.IsKeyLit (keyI u) := kdI.key (key_at_i h)
theorem keyI_ne {u v : Int} (h : u ≠ v) : keyI u ≠ keyI v := fun e => h (by simpa [keyI] using e)
theorem there_iff {G : List (Int × Int)} {N : List Int} {u : Int} : thereV G N u = true ↔ 0 ≤ chosenV G u ∨ u ∈ N := by simp [thereV]
theorem there_not {G : List (Int × Int)} {N : List Int} {u : Int} : thereV G N u = false ↔ chosenV G u < 0 ∧ u ∉ N := by
  unfold thereV
  rw [Bool.or_eq_false_iff, decide_eq_false_iff_not, decide_eq_false_iff_not]
  exact ⟨fun h => ⟨by omega, h.2⟩, fun h => ⟨by omega, h.2⟩⟩
/-- A choice. -/
theorem FitsT.choose {D : DataW Unit} {f : Int} {G : List (Int × Int)} {N : List Int} {u k : Int} (h : FitsT D f G N) (hm : IsMap D) (hG : ∀ p ∈ G, inN f p.2 = true) (hu : inI u) (hk : inN f k = true) (hn : thereV G N u = false) :
    FitsT (D.put (keyI u) (tossD k false)) f (G ++ [(u, k)]) N := by
  have hG0 : ∀ p ∈ G, 0 ≤ p.2 := fun p hp => (inN_in (hG p hp)).1
  have hk0 := (inN_in hk).1
  obtain ⟨hc, hN⟩ := there_not.1 hn
  intro v hv
  have hs := chosenV_snoc (G := G) (v := u) (k := k) (u := v) hG0
  by_cases he : u = v
  · subst he
    rw [if_pos hc, if_pos rfl] at hs
    refine ⟨by rw [has_put_same hm (keyI_key hu)]; simp [thereV, hs, hk0], fun _ z => ?_⟩
    rw [atKey_put_same hm (keyI_key hu)]
    unfold whoV
    rw [hs, if_neg (by omega), decide_eq_false hN]
  · have hne := keyI_ne (Ne.symm he)
    obtain ⟨h1, h2⟩ := h v hv
    have e1 : thereV (G ++ [(u, k)]) N v = thereV G N v := by
      unfold thereV
      rw [hs, if_neg he]
      split
      · rename_i hlt
        rw [decide_eq_false (by omega : ¬ (0 : Int) ≤ -1), decide_eq_false (by omega : ¬ 0 ≤ chosenV G v)]
      · rfl
    have e2 : whoV f (G ++ [(u, k)]) v = whoV f G v := by
      unfold whoV
      rw [hs, if_neg he]
      by_cases hlt : chosenV G v < 0
      · rw [if_pos hlt, if_pos hlt, if_pos (by omega)]
      · rw [if_neg hlt, if_neg hlt]
    refine ⟨by rw [has_put_other hne, h1, e1], fun ht z => ?_⟩
    rw [atKey_put_other hne, e2]
    exact h2 (by rw [← e1]; exact ht) z
/-- It was seen. -/
theorem FitsT.see {D : DataW Unit} {f : Int} {G : List (Int × Int)} {N : List Int} {u : Int} (h : FitsT D f G N) (hm : IsMap D) (hu : inI u) : FitsT (D.put (keyI u) (tossD (whoV f G u) true)) f G (putN N u) := by
  intro v hv
  by_cases he : u = v
  · subst he
    have hin : u ∈ putN N u := mem_putN.2 (.inr rfl)
    refine ⟨by rw [has_put_same hm (keyI_key hu)]; simp [thereV, hin], fun _ z => ?_⟩
    rw [atKey_put_same hm (keyI_key hu), decide_eq_true hin]
  · have hne := keyI_ne (Ne.symm he)
    obtain ⟨h1, h2⟩ := h v hv
    have e0 : decide (v ∈ putN N u) = decide (v ∈ N) := by
      apply decide_eq_decide.2
      rw [mem_putN]
      exact ⟨fun h => h.elim id fun e => absurd e.symm he, .inl⟩
    have e1 : thereV G (putN N u) v = thereV G N v := by unfold thereV; rw [e0]
    refine ⟨by rw [has_put_other hne, h1, e1], fun ht z => ?_⟩
    rw [atKey_put_other hne, e0]
    exact h2 (by rw [← e1]; exact ht) z
/-- What is looked up. -/
theorem FitsT.look {D : DataW Unit} {f : Int} {G : List (Int × Int)} {N : List Int} {u : Int} (h : FitsT D f G N) (hu : inI u) : D.atKey (keyI u) (tossD 0 false) = tossD (if thereV G N u = true then whoV f G u else 0) (decide (u ∈ N)) := by
  obtain ⟨h1, h2⟩ := h u hu
  rcases Bool.eq_false_or_eq_true (thereV G N u) with ht | ht
  · rw [if_pos ht]; exact h2 ht _
  · rw [if_neg (by rw [ht]; decide), atKey_of_not_has (by rw [h1, ht]), decide_eq_false (there_not.1 ht).2]

theorem zeroT (w : World) : (zeroValue 77).run Tryd.prog w = .ok (.agg #[.int .i64 0, .bool false]) w := by kernel_rfl
section
variable {ops : Array Oper} {rest : List Oper} {o : Oper} {a : Act} {Q : Exit → Act → World → Prop}
theorem toss_is {v : Value} {ps : List MemPlace} {x : DataW Unit} {k : Int} {s : Bool} (hv : tossElem v = some (x, ps)) (hat : x = tossD k s) : v = .agg #[.int .i64 k, .bool s] := by
  obtain ⟨a0, b0, rfl, hz⟩ := tossElem_inv hv
  have h1 : x = .agg [.lit (.int .i64 a0), .lit (.bool b0)] := congrArg Prod.fst hz
  rw [hat] at h1
  unfold tossD at h1
  simp only [DataW.agg.injEq, List.cons.injEq, DataW.lit.injEq, Lit.int.injEq, Lit.bool.injEq, true_and, and_true] at h1
  rw [h1.1, h1.2]
/-- 't, there := tosses[view]'. -/
theorem wpList_look_toss_ok (w : World) (hg : o.guard = none) (m x : Operand) (hop : o.op = Op.lookup 70 m x true) (b n : Nat) (D : DataW Unit) (hm : a.eval m = .map (some b)) (hown : w.ownsMap Tryd.prog 3 tossElem b n D)
    (u : Int) (hx : a.eval x = .int .i64 u) (hu : inI u) (k : Int) (s r : Bool) (hat : D.atKey (keyI u) (tossD 0 false) = tossD k s) (hh : Maps.has D (keyI u) = r)
    (h : wpList Tryd.prog ops Q rest (a.put o.dst (.tuple #[.agg #[.int .i64 k, .bool s], .bool r])) w) : wpList Tryd.prog ops Q (o :: rest) a w :=
  wpList_lookup_own_ok w hg m x 70 hop 3 77 kdI Tryd.underlying70 tossElem (zeroT w) (tossD 0 false) [] rfl b n D hm hown _ (keyI u) hx (key_at_i hu) (fun v ps hv => by
    obtain rfl := toss_is hv hat
    rw [hh]
    exact h)
/-- 'tosses[view]'. -/
theorem wpList_look_toss (w : World) (hg : o.guard = none) (m x : Operand) (hop : o.op = Op.lookup 70 m x false) (b n : Nat) (D : DataW Unit) (hm : a.eval m = .map (some b)) (hown : w.ownsMap Tryd.prog 3 tossElem b n D)
    (u : Int) (hx : a.eval x = .int .i64 u) (hu : inI u) (k : Int) (s : Bool) (hat : D.atKey (keyI u) (tossD 0 false) = tossD k s)
    (h : wpList Tryd.prog ops Q rest (a.put o.dst (.agg #[.int .i64 k, .bool s])) w) : wpList Tryd.prog ops Q (o :: rest) a w := by
  refine wpList_plain hg fun K' hK' => ?_
  obtain ⟨v, ps, hrun, hv⟩ := hown.lookup kdI Tryd.underlying70 (zeroT w) (show tossElem (.agg #[.int .i64 0, .bool false]) = some (tossD 0 false, []) from rfl) (key_at_i hu)
  obtain rfl := toss_is hv hat
  unfold Oper.wp
  simp [execOp, hop, hm, hx, hrun, Result.andThen]
  exact hK' _ _ h
end
end Go.Proofs.YtjkfogjhakcnfaaDoor
