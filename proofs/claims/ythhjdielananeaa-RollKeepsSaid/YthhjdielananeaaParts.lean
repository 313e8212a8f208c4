/-
  A region that draws its order, part by part: what only reads (in every world that meets a condition S) is taken first, in the text's order; what writes comes step by step, S shown behind each but where all that reads is bound to stand ahead of it. No program in this text.
-/
import Derived.Test.YthhjdielananeaaRows
import Derived.OrdersHeld
import Derived.StillTail
import Derived.StillTactics
import Derived.RegionTactic
import Derived.BigQuiet
import Derived.Deep.QuietTactic
import Derived.ProofKit
import Derived.Maps.OwnSet
import Derived.Laws.Rows
import Derived.Laws.StructEq
set_option linter.unusedSimpArgs false
set_option linter.unusedVariables false
namespace Go.Proofs.Ythhjdielananeaa

theorem run_loadVar_cells {P : Program} (w : World) (ad : Addr) (ty : TypeId) (cs : List Value) (d : TypeDesc) (hc : ∀ j v, cs[j]? = some v → w.cell? (ad.add j) = some v)
    (hu : P.underlying ty = some d) (hd : (match d with | .struct _ | .array _ _ => true | _ => false) = true) (hi : (P.info? ty).map (·.size) = some cs.length) :
    (loadVar ty ad).run P w = .ok (.agg cs.toArray) w := by
  have hl := run_loadCells_list (P := P) w ad cs hc
  cases hq : P.info? ty with
  | none => simp [hq] at hi
  | some i =>
    have hs : i.size = cs.length := by simpa [hq] using hi
    have hagg : (isAgg ty).run P w = .ok true w := by
      unfold isAgg
      rw [Sem.run_bind, run_underlying hu w]
      cases d <;> simp_all
    simp [loadVar, Sem.run_bind, hagg, sizeOf, typeInfo, hq, hs, hl]
/-- One operation, said by an equation. -/
theorem wpList_value {P : Program} {ops : Array Oper} {rest : List Oper} {o : Oper} {a : Act} {w w' : World} {Q : Exit → Act → World → Prop} (hgd : o.guard = none) {v : Value} (hrun : (execOp a.eval o).run P w = .ok (.value v) w')
    (h : wpList P ops Q rest (a.put o.dst v) w') : wpList P ops Q (o :: rest) a w := by
  refine wpList_plain hgd fun _ hK => ?_
  unfold Oper.wp
  rw [hrun]
  exact hK _ _ h
/-- A slice of values that are named. -/
theorem wpList_buildSlice {P : Program} {ops : Array Oper} {rest : List Oper} {o : Oper} {a : Act} {w w' : World} {Q : Exit → Act → World → Prop} (hgd : o.guard = none) (t : TypeId) (n : Nat) (parts : Array (Nat × Operand)) (ho : o.op = .buildSlice t n parts) (ps : Array (Nat × Value))
    (hp : (parts.toList.map fun p => (p.1, a.eval p.2)) = ps.toList) {v : Value} (hrun : (Instr.buildSlice t n ps).run P w = .ok v w')
    (h : wpList P ops Q rest (a.put o.dst v) w') : wpList P ops Q (o :: rest) a w := by
  refine wpList_plain hgd fun _ hK => ?_
  have hp' : (parts.map fun p => (p.1, a.eval p.2)) = ps := by apply Array.toList_inj.1; rw [Array.toList_map]; exact hp
  subst hp'
  unfold Oper.wp
  simp only [execOp, ho, Sem.run_bind, hrun, Result.andThen_ok, Sem.run_pure]
  exact hK _ _ h
/-- A struct of values that are named. -/
theorem wpList_build {P : Program} {ops : Array Oper} {rest : List Oper} {o : Oper} {a : Act} {w w' : World} {Q : Exit → Act → World → Prop} (hgd : o.guard = none) (t : TypeId) (parts : Array (Nat × Operand)) (ho : o.op = .build t parts) (ps : Array (Nat × Value))
    (hp : (parts.toList.map fun p => (p.1, a.eval p.2)) = ps.toList) {v : Value} (hrun : (Instr.build t ps).run P w = .ok v w')
    (h : wpList P ops Q rest (a.put o.dst v) w') : wpList P ops Q (o :: rest) a w := by
  refine wpList_plain hgd fun _ hK => ?_
  have hp' : (parts.map fun p => (p.1, a.eval p.2)) = ps := by apply Array.toList_inj.1; rw [Array.toList_map]; exact hp
  subst hp'
  unfold Oper.wp
  simp only [execOp, ho, Sem.run_bind, hrun, Result.andThen_ok, Sem.run_pure]
  exact hK _ _ h
/-- A struct read whole out of cells, in a plain region. -/
theorem wpList_load_cells {P : Program} {ops : Array Oper} {rest : List Oper} {o : Oper} {a : Act} {w : World} {Q : Exit → Act → World → Prop} (hgd : o.guard = none) (ty : TypeId) (x : Operand) (ho : o.op = .load ty x)
    (ad : Addr) (hx : a.eval x = .pointer (some ad)) (cs : List Value) (d : TypeDesc) (hc : ∀ j v, cs[j]? = some v → w.cell? (ad.add j) = some v)
    (hu : P.underlying ty = some d) (hd : (match d with | .struct _ | .array _ _ => true | _ => false) = true) (hi : (P.info? ty).map (·.size) = some cs.length)
    (h : wpList P ops Q rest (a.put o.dst (.agg cs.toArray)) w) : wpList P ops Q (o :: rest) a w := by
  refine wpList_plain hgd fun _ hK => ?_
  unfold Oper.wp execOp
  simp only [ho, hx, Instr.loadAt, Instr.sureAddr, Sem.run_bind, Sem.run_pure, Result.andThen_ok, run_loadVar_cells w ad ty cs d hc hu hd hi]
  exact hK _ _ h

section
variable {P : Program} {ops : Array Oper} {Q : Exit → Act → World → Prop} {md : Region.Mode} {S : World → Prop} {R : List Nat}

/-- In state a, in every world that meets S, operation o leaves v and does nothing else. -/
def YieldsS (P : Program) (ops : Array Oper) (S : World → Prop) (o : Oper) (v : Value) (a : Act) : Prop := ∀ W, S W → YieldsAt P ops W o v a
theorem YieldsS.of_same {o : Oper} {v : Value} {a a' : Act} (hy : YieldsS P ops S o v a) (he : execOp a'.eval o = execOp a.eval o)
    (hw : Region.wanted o (yielded ops a'.tmps) = Region.wanted o (yielded ops a.tmps)) : YieldsS P ops S o v a' := fun W hW => (hy W hW).of_same he hw
theorem YieldsS.wpOp {i : Nat} {o : Oper} {v : Value} {a : Act} (hi : ops[i]? = some o) (hy : YieldsS P ops S o v a) {K : Act → World → Prop} {w : World} (hS : S w) (h : K (a.put o.dst v) w) : wpOp P ops Q i K a w :=
  wpOp_of_stOp (K := fun a' => K a' w) (fun _ h' => h') ((hy w hS).stOp hi h)

theorem wpOp_putS {j : Nat} {oi oj : Oper} {v : Value} (hj : ops[j]? = some oj) (hap : oi.apart ops oj = true)
    (hsi : ∀ cs b, oi.op ≠ .select cs b) (hsj : ∀ cs b, oj.op ≠ .select cs b)
    (hQ : ∀ c a w, Q (.panic c) (a.put oi.dst v) w → Q (.panic c) a w) {K : Act → World → Prop} {a : Act} {w : World}
    (hy : YieldsS P ops S oi v a) (h : wpOp P ops Q j K (a.put oi.dst v) w) :
    wpOp P ops Q j (fun a' w' => YieldsS P ops S oi v a' ∧ K (a'.put oi.dst v) w') a w := by
  obtain ⟨h1, h2, h3⟩ := Oper.apart_spec hap
  have keep : ∀ (a : Act), YieldsS P ops S oi v a → ∀ u, YieldsS P ops S oi v (a.put oj.dst u) := fun a hy u =>
    hy.of_same (execOp_put oi hsi a oj.dst u h3) (wanted_put oi a oj.dst u h3)
  have keepD : ∀ d, YieldsS P ops S oi v { a with defers := d :: a.defers } := fun d => hy.of_same rfl rfl
  unfold wpOp at *
  simp only [hj] at *
  rw [wanted_put oj a oi.dst v h1] at h
  split
  · rename_i hw
    simp only [hw, if_true] at h
    rcases h with h | ⟨hasks, hlets⟩
    case inr => exact .inr ⟨by unfold Oper.asks at *; rw [execOp_put oj hsj a oi.dst v h1] at hasks; exact hasks, hlets⟩
    refine .inl ?_
    unfold Oper.wp at *
    rw [execOp_put oj hsj a oi.dst v h1] at h
    generalize (execOp a.eval oj).run P w = r at *
    cases r with
    | ok n w' =>
      cases n <;> simp only [Oper.upon] at h ⊢
      case value u => exact ⟨keep a hy u, by rw [← Act.put_comm a v u h2]; exact h⟩
      case skip => exact ⟨keep a hy _, by rw [← Act.put_comm a v undef h2]; exact h⟩
      case defer d =>
        refine ⟨keep _ (keepD d) _, ?_⟩
        rw [← Act.put_comm _ v undef h2, ← Act.put_defers]
        exact h
      case enter f args =>
        refine Calls.mono h fun e w'' he => ?_
        cases e with
        | returned u => exact ⟨keep a hy u, by rw [← Act.put_comm a v u h2]; exact he⟩
        | panicked c => exact hQ _ _ _ he
        | outgrown => exact he
      case row row args => exact Rows.mono h fun u w'' he => ⟨keep a hy u, by rw [← Act.put_comm a v u h2]; exact he⟩
    | halt x w' =>
      cases x <;> simp only [Oper.upon] at h ⊢
      case panic u => exact hQ _ _ _ h
  · rename_i hw
    simp only [hw] at h
    exact ⟨keep a hy _, by rw [← Act.put_comm a v undef h2]; exact h⟩

/-- Are all of R bound to stand ahead of j? -/
def lateB (md : Region.Mode) (ops : Array Oper) (R : List Nat) (j : Nat) : Bool := R.all fun r => Region.waitsFor md ops j r

/-- Whatever order is picked from here on; S holds behind every operation that may stand ahead of one of R. -/
def wpK (P : Program) (md : Region.Mode) (ops : Array Oper) (Q : Exit → Act → World → Prop) (S : World → Prop) (R : List Nat) : Nat → Array Bool → Act → World → Prop
  | 0, listed, a, w => Region.ready md ops listed = [] ∧ Q .normal a w
  | fuel + 1, listed, a, w =>
    (Region.ready md ops listed = [] → Q .normal a w) ∧
    ∀ i ∈ Region.ready md ops listed, wpOp P ops Q i (fun a' w' => (lateB md ops R i = false → S w') ∧ wpK P md ops Q S R fuel (listed.setIfInBounds i true) a' w') a w

theorem wpAny_of_K : ∀ (fuel : Nat) (listed : Array Bool) (a : Act) (w : World), wpK P md ops Q S R fuel listed a w → wpAny P md ops Q fuel listed a w
  | 0, _, _, _, h => h
  | fuel + 1, _, _, _, h => ⟨h.1, fun i hi => wpOp_mono (fun a' w' h' => wpAny_of_K fuel _ a' w' h'.2) (h.2 i hi)⟩

/-- One of R that may come up now may be taken first. -/
theorem wpK_first {i : Nat} {oi : Oper} {v : Value} (hR : i ∈ R) (hi : ops[i]? = some oi) (hsel : ∀ (j : Nat) (o : Oper) cs b, ops[j]? = some o → o.op ≠ .select cs b)
    (hQ : ∀ c a w, Q (.panic c) (a.put oi.dst v) w → Q (.panic c) a w) :
    ∀ (fuel : Nat) (listed : Array Bool) (a : Act) (w : World),
      (∀ j oj, ops[j]? = some oj → j ≠ i → listed.getD j true = false → (∀ e ∈ oj.after, Region.binds md e = true → e.on ≠ i) → oi.apart ops oj = true) →
      i ∈ Region.ready md ops listed → YieldsS P ops S oi v a → S w →
      wpK P md ops Q S R fuel (listed.setIfInBounds i true) (a.put oi.dst v) w → wpK P md ops Q S R (fuel + 1) listed a w := by
  intro fuel
  induction fuel with
  | zero =>
    intro listed a w _ hr hy hS H
    refine ⟨fun h => (by rw [h] at hr; cases hr), fun j hj => ?_⟩
    by_cases hji : j = i
    · subst hji; exact hy.wpOp hi hS ⟨fun _ => hS, H⟩
    · have := ready_mono hj hji
      rw [H.1] at this
      cases this
  | succ fuel ih =>
    intro listed a w hfree hr hy hS H
    refine ⟨fun h => (by rw [h] at hr; cases hr), fun j hj => ?_⟩
    by_cases hji : j = i
    · subst hji; exact hy.wpOp hi hS ⟨fun _ => hS, H⟩
    · have h1 := H.2 j (ready_mono hj hji)
      obtain ⟨hjun, oj, hoj, hall⟩ := mem_ready.1 hj
      have hnot : ∀ e ∈ oj.after, Region.binds md e = true → e.on ≠ i := fun e he hb heq => by
        have h1 := hall e he hb
        have h0 := (mem_ready.1 hr).1
        rw [heq] at h1
        rcases Nat.lt_or_ge i listed.size with h' | h'
        · simp [h'] at h0 h1; rw [h0] at h1; cases h1
        · simp [Array.getElem?_eq_none h'] at h1
      have hlate : lateB md ops R j = false := by
        cases hl : lateB md ops R j with
        | false => rfl
        | true =>
          obtain ⟨oj', hoj', e, he, hb, hon⟩ := Region.waitsFor_spec (List.all_eq_true.1 hl i hR)
          have : oj' = oj := Option.some.inj (hoj'.symm.trans hoj)
          subst this
          exact absurd hon (hnot e he hb)
      have h2 := wpOp_putS hoj (hfree j oj hoj hji hjun hnot) (fun cs b => hsel i oi cs b hi) (fun cs b => hsel j oj cs b hoj) hQ hy h1
      have hfree' : ∀ k ok, ops[k]? = some ok → k ≠ i → (listed.setIfInBounds j true).getD k true = false →
          (∀ e ∈ ok.after, Region.binds md e = true → e.on ≠ i) → oi.apart ops ok = true := fun k ok hk hki hun hno => by
        refine hfree k ok hk hki ?_ hno
        by_cases hjk : j = k
        · subst hjk; exact hjun
        · rw [getD_set_ne true hjk] at hun; exact hun
      refine wpOp_mono (fun a' w' h3 => ⟨fun _ => h3.2.1 hlate, ih (listed.setIfInBounds j true) a' w' hfree' (ready_mono hr (Ne.symm hji)) h3.1 (h3.2.1 hlate) ?_⟩) h2
      rw [Array.setIfInBounds_comm _ _ hji]
      exact h3.2.2

theorem put_size (a : Act) (x : Option Tmp) (v : Value) : (a.put x v).tmps.size = a.tmps.size := by
  unfold Act.put; cases x <;> simp
theorem put_other (a : Act) (x : Option Tmp) (v : Value) (d : Nat) (h : x ≠ some d) : (a.put x v).tmps[d]? = a.tmps[d]? := by
  unfold Act.put
  cases x with
  | none => rfl
  | some e =>
    have : e ≠ d := fun he => h (by rw [he])
    simp [Array.getElem?_setIfInBounds_ne this]
theorem put_same (a : Act) (v : Value) (d : Nat) (h : d < a.tmps.size) : (a.put (some d) v).tmps[d]? = some v := by
  unfold Act.put
  simp [Array.getElem?_setIfInBounds, h]

theorem still_next {W : World} {o : Oper} {rest : List Oper} {a : Act} {Qa : Act → Prop} (h : wpStill P ops W Qa (o :: rest) a) : ∃ v, YieldsAt P ops W o v a ∧ wpStill P ops W Qa rest (a.put o.dst v) := by
  unfold wpStill at h
  by_cases hw : Region.wanted o (yielded ops a.tmps) = true
  · simp only [hw, if_true, Oper.still] at h
    generalize hr : (execOp a.eval o).run P W = r at h
    cases r with
    | ok n w' =>
      cases n <;> simp only [Oper.stillUpon] at h
      case value u => obtain ⟨rfl, h2⟩ := h; exact ⟨u, .inl ⟨hw, .inl hr⟩, h2⟩
      case skip => obtain ⟨rfl, h2⟩ := h; exact ⟨undef, .inl ⟨hw, .inr (.inl ⟨hr, rfl⟩)⟩, h2⟩
      case enter f args => obtain ⟨rfl, v, hc, h2⟩ := h; exact ⟨v, .inl ⟨hw, .inr (.inr ⟨f, args, hr, hc⟩)⟩, h2⟩
    | halt x w' => simp only [Oper.stillUpon] at h
  · simp only [hw] at h
    exact ⟨undef, .inr ⟨by simpa using hw, rfl⟩, h⟩
theorem still_keeps {W : World} {A : Act} {d : Nat} : ∀ (l : List Oper) (a : Act), (∀ o ∈ l, o.dst ≠ some d) → wpStill P ops W (fun a' => a' = A) l a → A.tmps[d]? = a.tmps[d]?
  | [], a, _, h => by have h : a = A := h; rw [h]
  | o :: l, a, hd, h => by
    obtain ⟨v, _, h2⟩ := still_next h
    rw [still_keeps l _ (fun o' ho' => hd o' (by simp [ho'])) h2, put_other _ _ _ _ (hd o (by simp))]

/-- Slots below n, no two of them one. -/
def dstsB (n : Nat) : List Oper → Bool
  | [] => true
  | o :: l => (match o.dst with | some d => decide (d < n) && l.all (fun o' => o'.dst != some d) | none => false) && dstsB n l
/-- Each of these may come up in its turn, and is free. -/
def readsB (md : Region.Mode) (ops : Array Oper) : List Nat → Array Bool → Bool
  | [], _ => true
  | i :: is, listed => (Region.ready md ops listed).contains i && Region.free md ops listed i && readsB md ops is (listed.setIfInBounds i true)
def pick (ops : Array Oper) (is : List Nat) : List Oper := is.filterMap fun i => ops[i]?
def listAll (is : List Nat) (listed : Array Bool) : Array Bool := is.foldl (fun l i => l.setIfInBounds i true) listed

/-- What reads in every world that meets S is taken first, in the order named; A: the frame behind it. -/
theorem wpK_reads (A : Act) (hsel : Region.noSelect ops = true) (hQ : ∀ c x v a w, Q (.panic c) (Act.put a x v) w → Q (.panic c) a w) {w : World} (hS : S w) {f n : Nat} : ∀ (is : List Nat) (listed : Array Bool) (a : Act),
    (is.all fun i => R.contains i) = true → readsB md ops is listed = true → dstsB n (pick ops is) = true → a.tmps.size = n →
    (∀ W, S W → wpStill P ops W (fun a' => a' = A) (pick ops is) a) → wpK P md ops Q S R f (listAll is listed) A w → wpK P md ops Q S R (f + is.length) listed a w
  | [], listed, a, _, _, _, _, h, H => by
    have : a = A := h w hS
    subst this
    exact H
  | i :: is, listed, a, hR, hB, hD, hn, h, H => by
    simp only [readsB, Bool.and_eq_true] at hB
    obtain ⟨⟨hr, hf⟩, hB'⟩ := hB
    obtain ⟨_, o, hi, _⟩ := mem_ready.1 (by simpa using hr : i ∈ Region.ready md ops listed)
    have hp : pick ops (i :: is) = o :: pick ops is := by simp [pick, hi]
    rw [hp] at hD h
    simp only [dstsB, Bool.and_eq_true] at hD
    obtain ⟨hd, hD'⟩ := hD
    simp only [List.all_cons, Bool.and_eq_true] at hR
    cases ho : o.dst with
    | none => rw [ho] at hd; cases hd
    | some d =>
      rw [ho] at hd
      simp only [Bool.and_eq_true, decide_eq_true_eq] at hd
      obtain ⟨hdn, hall⟩ := hd
      have hne : ∀ o' ∈ pick ops is, o'.dst ≠ some d := fun o' ho' => by simpa using List.all_eq_true.1 hall o' ho'
      have hv : ∀ W, S W → YieldsAt P ops W o ((A.tmps[d]?).getD undef) a ∧ wpStill P ops W (fun a' => a' = A) (pick ops is) (a.put o.dst ((A.tmps[d]?).getD undef)) := fun W hW => by
        obtain ⟨v, hy, h2⟩ := still_next (h W hW)
        have hk := still_keeps _ _ hne h2
        have hlt : d < a.tmps.size := by rw [hn]; exact hdn
        rw [ho, put_same _ _ _ hlt] at hk
        rw [hk]
        exact ⟨hy, h2⟩
      have := wpK_first (md := md) (S := S) (R := R) (v := (A.tmps[d]?).getD undef) (by simpa using hR.1) hi (Region.noSelect_spec hsel) (fun c a w => hQ c _ _ a w) (f + is.length) listed a w (Region.free_spec hi hf) (by simpa using hr) (fun W hW => (hv W hW).1) hS
        (wpK_reads A hsel hQ hS is _ _ hR.2 hB' hD' (by rw [put_size]; exact hn) (fun W hW => (hv W hW).2) H)
      exact this

/-- Q behind one operation: K where it ends normally. -/
def stepQ (Q : Exit → Act → World → Prop) (K : Act → World → Prop) : Exit → Act → World → Prop
  | .normal, a, w => K a w
  | e, a, w => Q e a w
theorem stepQ.mk {K : Act → World → Prop} {a : Act} {w : World} (h : K a w) : stepQ Q K .normal a w := h
theorem upon_step {o : Oper} {a : Act} {K : Act → World → Prop} {r : Result Next} (hout : ∀ a w, stepQ Q K .outgrown a w → Q .outgrown a w) (h : o.upon P a K (stepQ Q K) r) : o.upon P a K Q r := by
  cases r with
  | ok n w' =>
    cases n <;> simp only [Oper.upon] at h ⊢
    case enter f args =>
      refine Calls.mono h fun e w'' he => ?_
      cases e with
      | returned u => exact he
      | panicked c => exact he
      | outgrown => obtain ⟨a', w1, h1⟩ := he; exact ⟨a', w1, hout _ _ h1⟩
    all_goals exact h
  | halt x w' => cases x <;> simp only [Oper.upon] at h ⊢ <;> exact h
theorem wpOp_of_list {i : Nat} {o : Oper} {K : Act → World → Prop} {a : Act} {w : World} (ho : ops[i]? = some o) (h : wpList P ops (stepQ Q K) [o] a w) : wpOp P ops Q i K a w := by
  unfold wpOp
  rw [ho]
  simp only [wpList] at h ⊢
  split
  · next hw =>
    simp only [hw, if_true] at h
    rcases h with h | ⟨h1, h2⟩
    · exact .inl (upon_step (fun _ _ h => h) h)
    · obtain ⟨a', w', h3⟩ := h2
      exact .inr ⟨h1, ⟨a', w', h3⟩⟩
  · next hw =>
    simp only [hw] at h
    exact h
/-- One operation alone may come up. -/
theorem wpK_step (i : Nat) {o : Oper} {f : Nat} {listed : Array Bool} {a : Act} {w : World} (hr : Region.ready md ops listed = [i]) (ho : ops[i]? = some o)
    (h : wpList P ops (stepQ Q fun a' w' => (lateB md ops R i = false → S w') ∧ wpK P md ops Q S R f (listed.setIfInBounds i true) a' w') [o] a w) : wpK P md ops Q S R (f + 1) listed a w :=
  ⟨fun h0 => (by rw [hr] at h0; cases h0), fun j hj => by
    rw [hr] at hj
    have : j = i := by simpa using hj
    subst this
    exact wpOp_of_list ho h⟩
/-- Two may come up. -/
theorem wpK_two (i j : Nat) {oi oj : Oper} {f : Nat} {listed : Array Bool} {a : Act} {w : World} (hr : Region.ready md ops listed = [i, j]) (hi : ops[i]? = some oi) (hj : ops[j]? = some oj)
    (h1 : wpList P ops (stepQ Q fun a' w' => (lateB md ops R i = false → S w') ∧ wpK P md ops Q S R f (listed.setIfInBounds i true) a' w') [oi] a w)
    (h2 : wpList P ops (stepQ Q fun a' w' => (lateB md ops R j = false → S w') ∧ wpK P md ops Q S R f (listed.setIfInBounds j true) a' w') [oj] a w) : wpK P md ops Q S R (f + 1) listed a w :=
  ⟨fun h0 => (by rw [hr] at h0; cases h0), fun k hk => by
    rw [hr] at hk
    have : k = i ∨ k = j := by simpa using hk
    rcases this with rfl | rfl
    · exact wpOp_of_list hi h1
    · exact wpOp_of_list hj h2⟩
/-- In this order alone, each behind all of R. -/
def seqLB (md : Region.Mode) (ops : Array Oper) (R : List Nat) : List Nat → Array Bool → Bool
  | [], listed => (Region.ready md ops listed).isEmpty
  | k :: ks, listed => decide (Region.ready md ops listed = [k]) && lateB md ops R k && seqLB md ops R ks (listed.setIfInBounds k true)
theorem wpK_seq : ∀ (ks : List Nat) (listed : Array Bool) (a : Act) (w : World), seqLB md ops R ks listed = true → wpList P ops Q (pick ops ks) a w → wpK P md ops Q S R ks.length listed a w
  | [], listed, a, w, hB, h => ⟨by simpa [seqLB] using hB, h⟩
  | k :: ks, listed, a, w, hB, h => by
    simp only [seqLB, Bool.and_eq_true, decide_eq_true_eq] at hB
    obtain ⟨⟨hr, hl⟩, hB'⟩ := hB
    obtain ⟨_, o, ho, _⟩ := mem_ready.1 (show k ∈ Region.ready md ops listed by rw [hr]; simp)
    have hp : pick ops (k :: ks) = o :: pick ops ks := by simp [pick, ho]
    rw [hp] at h
    refine ⟨fun h0 => (by rw [hr] at h0; cases h0), fun j hj => ?_⟩
    rw [hr] at hj
    have : j = k := by simpa using hj
    subst this
    have hw : wpOp P ops Q j (wpList P ops Q (pick ops ks)) a w := by unfold wpOp; simp only [ho]; exact h
    exact wpOp_mono (fun a' w' h' => ⟨fun h0 => (by rw [hl] at h0; cases h0), wpK_seq ks _ a' w' hB' h'⟩) hw
/-- The beginning. -/
theorem wp_region_K {id : Nat} {a : Act} {w : World} (S : World → Prop) (R : List Nat) (hm : P.follows .mixedOrders = true) (h : wpK P .any ops Q S R ops.size (Array.replicate ops.size false) a w.drew) : (Code.region id ops true).wp P Q a w :=
  wp_region_any hm (wpAny_of_K _ _ _ _ h)
/-- One operation that reads: what it leaves is said by an equation. -/
theorem wpStill_value {W : World} {o : Oper} {rest : List Oper} {a : Act} {Qa : Act → Prop} (hg : Region.wanted o (yielded ops a.tmps) = true) {v : Value} (hrun : (execOp a.eval o).run P W = .ok (.value v) W) (h : wpStill P ops W Qa rest (a.put o.dst v)) : wpStill P ops W Qa (o :: rest) a := by
  unfold wpStill
  rw [if_pos hg]
  unfold Oper.still
  rw [hrun]
  exact ⟨rfl, h⟩
/-- A struct or an array read whole out of its block. -/
theorem wpStill_load_row {W : World} {o : Oper} {rest : List Oper} {a : Act} {Qa : Act → Prop} (hg : Region.wanted o (yielded ops a.tmps) = true) (ty : TypeId) (x : Operand) (ho : o.op = .load ty x)
    (g : Nat) (hx : a.eval x = .pointer (some ⟨g, 0, none⟩)) (t : TypeId) (cs : Array Value) (fr : Nat × Nat) (d : TypeDesc) (hb : W.heap[g]? = some (.cells cs t fr))
    (hu : P.underlying ty = some d) (hd : (match d with | .struct _ | .array _ _ => true | _ => false) = true) (hi : (P.info? ty).map (·.size) = some cs.size)
    (h : wpStill P ops W Qa rest (a.put o.dst (.agg cs))) : wpStill P ops W Qa (o :: rest) a := by
  refine wpStill_value hg ?_ h
  unfold execOp
  simp only [ho, hx, Instr.loadAt, Instr.sureAddr, Sem.run_bind, Sem.run_pure, Result.andThen_ok, run_loadVar_row W g t ty cs fr d hb hu hd hi]
theorem wpStill_wanted {W : World} {o : Oper} {rest : List Oper} {a : Act} {Qa : Act → Prop} (hw : Region.wanted o (yielded ops a.tmps) = true) {v : Value} (hrun : (execOp a.eval o).run P W = .ok (.value v) W) (h : wpStill P ops W Qa rest (a.put o.dst v)) : wpStill P ops W Qa (o :: rest) a := by
  unfold wpStill
  rw [if_pos hw]
  unfold Oper.still
  rw [hrun]
  exact ⟨rfl, h⟩
theorem wpStill_row_at {W : World} {o : Oper} {rest : List Oper} {a : Act} {Qa : Act → Prop} (hw : Region.wanted o (yielded ops a.tmps) = true) (ty : TypeId) (x : Operand) (ho : o.op = .load ty x)
    (g : Nat) (hx : a.eval x = .pointer (some ⟨g, 0, none⟩)) (t : TypeId) (cs : Array Value) (fr : Nat × Nat) (d : TypeDesc) (hb : W.heap[g]? = some (.cells cs t fr))
    (hu : P.underlying ty = some d) (hd : (match d with | .struct _ | .array _ _ => true | _ => false) = true) (hi : (P.info? ty).map (·.size) = some cs.size)
    (h : wpStill P ops W Qa rest (a.put o.dst (.agg cs))) : wpStill P ops W Qa (o :: rest) a := by
  refine wpStill_wanted hw ?_ h
  unfold execOp
  simp only [ho, hx, Instr.loadAt, Instr.sureAddr, Sem.run_bind, Sem.run_pure, Result.andThen_ok, run_loadVar_row W g t ty cs fr d hb hu hd hi]
/-- A struct read whole out of cells. -/
theorem wpStill_load_cells {W : World} {o : Oper} {rest : List Oper} {a : Act} {Qa : Act → Prop} (hg : Region.wanted o (yielded ops a.tmps) = true) (ty : TypeId) (x : Operand) (ho : o.op = .load ty x)
    (ad : Addr) (hx : a.eval x = .pointer (some ad)) (cs : List Value) (d : TypeDesc) (hb : ∀ j v, cs[j]? = some v → W.cell? (ad.add j) = some v)
    (hu : P.underlying ty = some d) (hd : (match d with | .struct _ | .array _ _ => true | _ => false) = true) (hi : (P.info? ty).map (·.size) = some cs.length)
    (h : wpStill P ops W Qa rest (a.put o.dst (.agg cs.toArray))) : wpStill P ops W Qa (o :: rest) a := by
  refine wpStill_value hg ?_ h
  unfold execOp
  simp only [ho, hx, Instr.loadAt, Instr.sureAddr, Sem.run_bind, Sem.run_pure, Result.andThen_ok, run_loadVar_cells W ad ty cs d hb hu hd hi]
/-- Two structs held against each other. -/
theorem wpStill_binop {W : World} {o : Oper} {rest : List Oper} {a : Act} {Qa : Act → Prop} (hg : Region.wanted o (yielded ops a.tmps) = true) (op : BinOp) (t : TypeId) (x y : Operand) (u : TypeId) (ho : o.op = .binOp op t x y u) (xs ys : Array Value)
    (hx : a.eval x = .agg xs) (hy : a.eval y = .agg ys) (hm : P.eqGuardType P.depth t = false) {v : Value} (hrun : (binOp op t (.agg xs) (.agg ys)).run P W = .ok v W)
    (h : wpStill P ops W Qa rest (a.put o.dst v)) : wpStill P ops W Qa (o :: rest) a := by
  refine wpStill_value hg ?_ h
  simp only [execOp, ho, hx, hy, Sem.run_bind, run_eqGuard_agg W op t x y xs ys hm, hrun, Result.andThen_ok, Sem.run_pure]
/-- A struct of values that are named. -/
theorem wpStill_build {W : World} {o : Oper} {rest : List Oper} {a : Act} {Qa : Act → Prop} (hg : Region.wanted o (yielded ops a.tmps) = true) (t : TypeId) (parts : Array (Nat × Operand)) (ho : o.op = .build t parts) (ps : Array (Nat × Value))
    (hp : (parts.toList.map fun p => (p.1, a.eval p.2)) = ps.toList) {v : Value} (hrun : (Instr.build t ps).run P W = .ok v W)
    (h : wpStill P ops W Qa rest (a.put o.dst v)) : wpStill P ops W Qa (o :: rest) a := by
  have hp' : (parts.map fun p => (p.1, a.eval p.2)) = ps := by apply Array.toList_inj.1; rw [Array.toList_map]; exact hp
  subst hp'
  refine wpStill_value hg ?_ h
  simp only [execOp, ho, Sem.run_bind, hrun, Result.andThen_ok, Sem.run_pure]
/-- 'v, ok := m[k]' on a set. -/
theorem wpStill_look_unit {H : Type} {W : World} {o : Oper} {rest : List Oper} {a : Act} {Qa : Act → Prop} (hg : Region.wanted o (yielded ops a.tmps) = true) (m x : Operand) (t : TypeId) (ho : o.op = .lookup t m x true) (k e : TypeId) (K : Maps.Keyed P k) (ht : P.underlying t = some (.map k e)) (hz : (zeroValue e).run P W = .ok (.agg #[]) W) (b n : Nat) (D : DataW H)
    (hm : a.eval m = .map (some b)) (hown : W.ownsMap P k unitElem b n D) (key : Value) (kl : Lit) (hx : a.eval x = key) (hkey : keyOf P k key = some kl) (B : Bool) (hB : Maps.has D kl = B)
    (h : wpStill P ops W Qa rest (a.put o.dst (.tuple #[.agg #[], .bool B]))) : wpStill P ops W Qa (o :: rest) a := by
  obtain ⟨v, ps, hrun, hv⟩ := hown.look_ok K ht hz unitElem_mk hkey
  obtain ⟨rfl, _⟩ := unitElem_inv hv
  rw [hB] at hrun
  refine wpStill_value hg ?_ h
  unfold execOp
  simp [ho, hm, hx, hrun, Result.andThen]
end
/-- A world that meets S. -/
structure WorldIn (S : World → Prop) where
  w : World
  h : S w
/-- Operations that read. -/
def readOp : Op → Bool
  | .move _ | .assign _ | .pick .. | .build .. | .load .. | .binOp .. | .unOp .. | .convert .. | .fieldAddr .. | .field .. | .indexAddr .. | .index .. | .lookup .. | .extract .. | .slice .. | .nilCheck _ => true
  | _ => false
theorem bind_not_enter {P : Program} {α : Type} {s : Sem α} {k : α → Sem Next} {f : FuncId} {args : Array Value} (hk : ∀ x w w', (k x).run P w = .ok (.enter f args) w' → False) {w w' : World} (h : (s >>= k).run P w = .ok (.enter f args) w') : False := by
  rw [Sem.run_bind] at h
  cases hs : s.run P w with
  | ok v w1 => rw [hs, Result.andThen_ok] at h; exact hk _ _ _ h
  | halt x w1 => rw [hs] at h; cases h
theorem val_not_enter {P : Program} {s : Sem Value} {w w' : World} {f : FuncId} {args : Array Value} (h : (do pure (Next.value (← s)) : Sem Next).run P w = .ok (.enter f args) w') : False := by
  rw [Sem.run_bind] at h
  cases hs : s.run P w with
  | ok v w1 => rw [hs, Result.andThen_ok, Sem.run_pure] at h; cases h
  | halt x w1 => rw [hs] at h; cases h
theorem read_not_enter {P : Program} {ρ : Operand → Value} {o : Oper} {w w' : World} {f : FuncId} {args : Array Value} (hr : readOp o.op = true) (h : (execOp ρ o).run P w = .ok (.enter f args) w') : False := by
  obtain ⟨dst, op, type, pos, after, guard⟩ := o
  cases op <;> simp only [readOp] at hr <;> first | (cases hr; done) | skip
  all_goals first | exact val_not_enter h | skip
  case move => cases h
  case assign => cases h
  case pick c x y =>
    simp only [execOp, Sem.run_bind] at h
    cases hs : (asBool (ρ c)).run P w with
    | ok v w1 => rw [hs, Result.andThen_ok, Sem.run_pure] at h; cases h
    | halt x w1 => rw [hs] at h; cases h
  case nilCheck x =>
    simp only [execOp] at h
    split at h
    · cases h
    · cases h
    · cases h
    · split at h
      · cases h
      · refine bind_not_enter (fun _ _ _ h1 => ?_) h
        refine bind_not_enter (fun _ _ _ h2 => ?_) h1
        split at h2
        · exact bind_not_enter (fun _ _ _ h3 => by cases h3) h2
        · cases h2
      · cases h
    · cases h
section
variable {P : Program} {ops : Array Oper} {Q : Exit → Act → World → Prop} {md : Region.Mode} {S : World → Prop} {R : List Nat}
/-- What reads in every world that meets S is taken first, in the order named. -/
theorem wpK_quiet (hsel : Region.noSelect ops = true) (hQ : ∀ c x v a w, Q (.panic c) (Act.put a x v) w → Q (.panic c) a w) {w : World} (hS : S w) {f : Nat} : ∀ (is : List Nat) (listed : Array Bool) (a : Act),
    (is.all fun i => R.contains i) = true → readsB md ops is listed = true → ((pick ops is).all fun o => readOp o.op) = true →
    wpQuiet P ops (fun w' => ∃ x : WorldIn S, w' = x.w) (fun a' => wpK P md ops Q S R f (listAll is listed) a' w) (pick ops is) a → wpK P md ops Q S R (f + is.length) listed a w
  | [], listed, a, _, _, _, h => h
  | i :: is, listed, a, hR, hB, hD, h => by
    simp only [readsB, Bool.and_eq_true] at hB
    obtain ⟨⟨hr, hf⟩, hB'⟩ := hB
    obtain ⟨_, o, hi, _⟩ := mem_ready.1 (by simpa using hr : i ∈ Region.ready md ops listed)
    have hp : pick ops (i :: is) = o :: pick ops is := by simp [pick, hi]
    rw [hp] at hD h
    simp only [List.all_cons, Bool.and_eq_true] at hR hD
    have hv : ∃ v, YieldsS P ops S o v a ∧ wpQuiet P ops (fun w' => ∃ x : WorldIn S, w' = x.w) (fun a' => wpK P md ops Q S R f (listAll (i :: is) listed) a' w) (pick ops is) (a.put o.dst v) := by
      unfold wpQuiet at h
      by_cases hw : Region.wanted o (yielded ops a.tmps) = true
      · rw [if_pos hw] at h
        obtain ⟨v, h1, h2⟩ := h
        refine ⟨v, fun W hW => ?_, h2⟩
        have h3 := h1 W ⟨⟨W, hW⟩, rfl⟩
        unfold Oper.quietAt at h3
        generalize hx : (execOp a.eval o).run P W = r at h3
        cases r with
        | ok n w' =>
          cases n <;> simp only [Oper.quietUpon] at h3
          case value u => obtain ⟨rfl, rfl⟩ := h3; exact .inl ⟨hw, .inl hx⟩
          case skip => obtain ⟨rfl, rfl⟩ := h3; exact .inl ⟨hw, .inr (.inl ⟨hx, rfl⟩)⟩
          case enter f args => exact (read_not_enter hD.1 hx).elim
        | halt x w' => simp only [Oper.quietUpon] at h3
      · rw [if_neg hw] at h
        exact ⟨undef, fun W _ => .inr ⟨by simpa using hw, rfl⟩, h⟩
    obtain ⟨v, hy, h2⟩ := hv
    exact wpK_first (md := md) (S := S) (R := R) (v := v) (by simpa using hR.1) hi (Region.noSelect_spec hsel) (fun c a w => hQ c _ _ a w) (f + is.length) listed a w (Region.free_spec hi hf) (by simpa using hr) hy hS
      (wpK_quiet hsel hQ hS is _ _ hR.2 hB' hD.2 h2)
/-- A region whose operations read and whose callees keep S. -/
theorem wp_region_S {id : Nat} {l : List Oper} {a : Act} {w : World} (S : World → Prop) (hm : P.follows .mixedOrders = true) (hB : Region.lexB .any l.toArray = true) (hS : S w.drew)
    (h : wpQuiet P l.toArray (fun w' => ∃ x : WorldIn S, w' = x.w) (fun a' => ∀ x : WorldIn S, Q .normal a' x.w) l a) : (Code.region id l.toArray true).wp P Q a w :=
  wp_region_quiet (C := fun w' => ∃ x : WorldIn S, w' = x.w) hm hB ⟨⟨_, hS⟩, rfl⟩ (by
    have e : (fun a' => ∀ w', (∃ x : WorldIn S, w' = x.w) → Q .normal a' w') = (fun a' => ∀ x : WorldIn S, Q .normal a' x.w) := by
      funext a'
      exact propext ⟨fun h x => h x.w ⟨x, rfl⟩, fun h w' ⟨x, hx⟩ => by rw [hx]; exact h x⟩
    rw [e]
    simpa using h)
/-- One operation that reads: what it leaves is said by an equation. -/
theorem wpQuiet_value {o : Oper} {rest : List Oper} {a : Act} {Qa : Act → Prop} (hg : Region.wanted o (yielded ops a.tmps) = true) {v : Value} (hrun : ∀ x : WorldIn S, (execOp a.eval o).run P x.w = .ok (.value v) x.w) (h : wpQuiet P ops (fun w' => ∃ x : WorldIn S, w' = x.w) Qa rest (a.put o.dst v)) : wpQuiet P ops (fun w' => ∃ x : WorldIn S, w' = x.w) Qa (o :: rest) a := by
  unfold wpQuiet
  rw [if_pos hg]
  refine ⟨v, fun w' ⟨x, hx⟩ => ?_, h⟩
  subst hx
  unfold Oper.quietAt
  rw [hrun x]
  exact ⟨rfl, rfl⟩
theorem wpQuiet_row {o : Oper} {rest : List Oper} {a : Act} {Qa : Act → Prop} (hg : Region.wanted o (yielded ops a.tmps) = true) (ty : TypeId) (x : Operand) (ho : o.op = .load ty x)
    (g : Nat) (hx : a.eval x = .pointer (some ⟨g, 0, none⟩)) (t : TypeId) (cs : Array Value) (fr : Nat × Nat) (d : TypeDesc) (hb : ∀ y : WorldIn S, y.w.heap[g]? = some (.cells cs t fr))
    (hu : P.underlying ty = some d) (hd : (match d with | .struct _ | .array _ _ => true | _ => false) = true) (hi : (P.info? ty).map (·.size) = some cs.size)
    (h : wpQuiet P ops (fun w' => ∃ x : WorldIn S, w' = x.w) Qa rest (a.put o.dst (.agg cs))) : wpQuiet P ops (fun w' => ∃ x : WorldIn S, w' = x.w) Qa (o :: rest) a := by
  refine wpQuiet_value hg (fun y => ?_) h
  unfold execOp
  simp only [ho, hx, Instr.loadAt, Instr.sureAddr, Sem.run_bind, Sem.run_pure, Result.andThen_ok, run_loadVar_row y.w g t ty cs fr d (hb y) hu hd hi]
theorem wpQuiet_cells {o : Oper} {rest : List Oper} {a : Act} {Qa : Act → Prop} (hg : Region.wanted o (yielded ops a.tmps) = true) (ty : TypeId) (x : Operand) (ho : o.op = .load ty x)
    (ad : Addr) (hx : a.eval x = .pointer (some ad)) (cs : List Value) (d : TypeDesc) (hb : ∀ y : WorldIn S, ∀ j v, cs[j]? = some v → y.w.cell? (ad.add j) = some v)
    (hu : P.underlying ty = some d) (hd : (match d with | .struct _ | .array _ _ => true | _ => false) = true) (hi : (P.info? ty).map (·.size) = some cs.length)
    (h : wpQuiet P ops (fun w' => ∃ x : WorldIn S, w' = x.w) Qa rest (a.put o.dst (.agg cs.toArray))) : wpQuiet P ops (fun w' => ∃ x : WorldIn S, w' = x.w) Qa (o :: rest) a := by
  refine wpQuiet_value hg (fun y => ?_) h
  unfold execOp
  simp only [ho, hx, Instr.loadAt, Instr.sureAddr, Sem.run_bind, Sem.run_pure, Result.andThen_ok, run_loadVar_cells y.w ad ty cs d (hb y) hu hd hi]
theorem wpQuiet_binop {o : Oper} {rest : List Oper} {a : Act} {Qa : Act → Prop} (hg : Region.wanted o (yielded ops a.tmps) = true) (op : BinOp) (t : TypeId) (x y : Operand) (u : TypeId) (ho : o.op = .binOp op t x y u) (xs ys : Array Value)
    (hx : a.eval x = .agg xs) (hy : a.eval y = .agg ys) (hm : P.eqGuardType P.depth t = false) {v : Value} (hrun : ∀ W : World, (binOp op t (.agg xs) (.agg ys)).run P W = .ok v W)
    (h : wpQuiet P ops (fun w' => ∃ x : WorldIn S, w' = x.w) Qa rest (a.put o.dst v)) : wpQuiet P ops (fun w' => ∃ x : WorldIn S, w' = x.w) Qa (o :: rest) a := by
  refine wpQuiet_value hg (fun z => ?_) h
  simp only [execOp, ho, hx, hy, Sem.run_bind, run_eqGuard_agg z.w op t x y xs ys hm, hrun, Result.andThen_ok, Sem.run_pure]
theorem wpQuiet_build {o : Oper} {rest : List Oper} {a : Act} {Qa : Act → Prop} (hg : Region.wanted o (yielded ops a.tmps) = true) (t : TypeId) (parts : Array (Nat × Operand)) (ho : o.op = .build t parts) (ps : Array (Nat × Value))
    (hp : (parts.toList.map fun p => (p.1, a.eval p.2)) = ps.toList) {v : Value} (hrun : ∀ W : World, (Instr.build t ps).run P W = .ok v W)
    (h : wpQuiet P ops (fun w' => ∃ x : WorldIn S, w' = x.w) Qa rest (a.put o.dst v)) : wpQuiet P ops (fun w' => ∃ x : WorldIn S, w' = x.w) Qa (o :: rest) a := by
  have hp' : (parts.map fun p => (p.1, a.eval p.2)) = ps := by apply Array.toList_inj.1; rw [Array.toList_map]; exact hp
  subst hp'
  refine wpQuiet_value hg (fun z => ?_) h
  simp only [execOp, ho, Sem.run_bind, hrun, Result.andThen_ok, Sem.run_pure]
/-- A callee that keeps S: what it hands back is known. -/
theorem wpQuiet_call {o : Oper} {rest : List Oper} {a : Act} {Qa : Act → Prop} (hg : Region.wanted o (yielded ops a.tmps) = true) (f : FuncId) (args : Array Value) (hrun : ∀ w : World, (execOp a.eval o).run P w = .ok (.enter f args) w) {v : Value}
    (hc : ∀ x : WorldIn S, Calls P f args x.w fun e w' => e = .returned v ∧ S w')
    (h : wpQuiet P ops (fun w' => ∃ x : WorldIn S, w' = x.w) Qa rest (a.put o.dst v)) : wpQuiet P ops (fun w' => ∃ x : WorldIn S, w' = x.w) Qa (o :: rest) a := by
  unfold wpQuiet
  rw [if_pos hg]
  refine ⟨v, fun w' ⟨x, hx⟩ => ?_, h⟩
  subst hx
  unfold Oper.quietAt
  rw [hrun]
  exact ⟨rfl, (hc x).mono fun e w'' ⟨he, hs⟩ => ⟨he, ⟨⟨w'', hs⟩, rfl⟩⟩⟩
end
section
variable {P : Program} {ops : Array Oper} {rest : List Oper} {o : Oper} {a : Act} {w : World} {Q : Exit → Act → World → Prop}
/-- An operation whose guard, if it has one, is met. -/
theorem wpList_wanted (hw : Region.wanted o (yielded ops a.tmps) = true) (h : ∀ K : Act → World → Prop, (∀ a w, wpList P ops Q rest a w → K a w) → o.wp P a w K Q) : wpList P ops Q (o :: rest) a w :=
  wpList_step fun K hK => by rw [if_pos hw]; exact h K hK
theorem wpList_row_at (hw : Region.wanted o (yielded ops a.tmps) = true) (ty : TypeId) (x : Operand) (ho : o.op = .load ty x)
    (g : Nat) (hx : a.eval x = .pointer (some ⟨g, 0, none⟩)) (t : TypeId) (cs : Array Value) (fr : Nat × Nat) (d : TypeDesc) (hg : w.heap[g]? = some (.cells cs t fr))
    (hu : P.underlying ty = some d) (hd : (match d with | .struct _ | .array _ _ => true | _ => false) = true) (hi : (P.info? ty).map (·.size) = some cs.size)
    (h : wpList P ops Q rest (a.put o.dst (.agg cs)) w) : wpList P ops Q (o :: rest) a w :=
  wpList_wanted hw fun _ hK => wp_load_row ty x ho g hx t cs fr d hg hu hd hi (hK _ _ h)
theorem wpList_cells_at (hw : Region.wanted o (yielded ops a.tmps) = true) (ty : TypeId) (x : Operand) (ho : o.op = .load ty x)
    (ad : Addr) (hx : a.eval x = .pointer (some ad)) (cs : List Value) (d : TypeDesc) (hc : ∀ j v, cs[j]? = some v → w.cell? (ad.add j) = some v)
    (hu : P.underlying ty = some d) (hd : (match d with | .struct _ | .array _ _ => true | _ => false) = true) (hi : (P.info? ty).map (·.size) = some cs.length)
    (h : wpList P ops Q rest (a.put o.dst (.agg cs.toArray)) w) : wpList P ops Q (o :: rest) a w := by
  refine wpList_wanted hw fun _ hK => ?_
  unfold Oper.wp execOp
  simp only [ho, hx, Instr.loadAt, Instr.sureAddr, Sem.run_bind, Sem.run_pure, Result.andThen_ok, run_loadVar_cells w ad ty cs d hc hu hd hi]
  exact hK _ _ h
theorem setRow_new (w : World) (old cs : Array Value) (t : TypeId) : (w.alloc (.cells old t)).setRow w.heap.size cs = w.alloc (.cells cs t) := by
  unfold World.setRow World.alloc
  congr 1
  apply Array.ext_getElem?
  intro i
  simp only [Array.getElem?_modify, Array.getElem?_push]
  by_cases hi : w.heap.size = i
  · subst hi; simp
  · have : ¬ i = w.heap.size := fun e => hi e.symm
    simp [hi, this]
/-- A store of a whole struct into the block that was laid last. -/
theorem wpList_store_new (hw : Region.wanted o (yielded ops a.tmps) = true) (ty : TypeId) (x y : Operand) (ho : o.op = .store ty x y) (w0 : World) (cells : Array Value) (hx : a.eval x = .pointer (some ⟨w0.heap.size, 0, none⟩)) (hy : a.eval y = .agg cells)
    (t : TypeId) (old : Array Value) (hi : (P.info? ty).map (·.size) = some cells.size) (hold : old.size = cells.size) (h1 : cells.all (·.oneCell') = true)
    (h : wpList P ops Q rest (a.put o.dst undef) (w0.alloc (.cells cells t))) : wpList P ops Q (o :: rest) a (w0.alloc (.cells old t)) := by
  refine wpList_wanted hw fun _ hK => ?_
  refine wp_store_row ty x y ho w0.heap.size cells hx hy t old (heap_alloc_new w0 _) hi hold h1 ?_
  rw [setRow_new]
  exact hK _ _ h
end
/-- The world at hand gets a name. -/
theorem name_world {P : Program} {c : Code} {Q : Exit → Act → World → Prop} {a : Act} {w : World} (h : ∀ w', w' = w → c.wp P Q a w') : c.wp P Q a w := h w rfl
end Go.Proofs.Ythhjdielananeaa
