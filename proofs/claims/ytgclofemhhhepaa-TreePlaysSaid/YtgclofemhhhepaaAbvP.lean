/-
  What hangs at a number, gathered by a list of what is still to be done; a tree pruned. No program in this text.
-/
import Derived.Test.YtgclofemhhhepaaTre
set_option linter.unusedSimpArgs false
set_option linter.unusedVariables false
namespace Go.Proofs.Ytgclofemhhhepaa

/-- In the tree k hangs right at x. -/
def Kid (L : List Ent) (x k : Int) : Prop := ∃ e ∈ L, e.n = k ∧ e.p = x ∧ e.isin = true
/-- k hangs at n, not being n. -/
def Under (r : Int) (L : List Ent) (n k : Int) : Prop := ∃ l1 l2, PathIs r L n l1 ∧ PathIs r L k (l1 ++ l2) ∧ l2 ≠ []
section
variable {r : Int} {L : List Ent} {n : Int}
theorem path_inv {k : Int} {l : List Int} (h : PathIs r L k l) : (k = r ∧ l = []) ∨ ∃ e l', e ∈ L ∧ e.n = k ∧ PathIs r L e.p l' ∧ l = l' ++ [k] := by
  cases h with
  | root => exact .inl ⟨rfl, rfl⟩
  | up e l he hp => exact .inr ⟨e, l, he, rfl, hp, rfl⟩
/-- A path has one end. -/
theorem path_end {a b : Int} {l : List Int} (h : PathIs r L a l) (g : PathIs r L b l) : a = b := by
  rcases path_inv h with ⟨h1, h2⟩ | ⟨e, l1, _, _, _, h2⟩
  · rcases path_inv g with ⟨g1, _⟩ | ⟨f, m1, _, _, _, g2⟩
    · rw [h1, g1]
    · rw [h2] at g2; simp at g2
  · rcases path_inv g with ⟨_, g2⟩ | ⟨f, m1, _, _, _, g2⟩
    · rw [h2] at g2; simp at g2
    · rw [h2] at g2
      have := congrArg List.getLast? g2
      simpa using this
theorem under_ne (h1 : OneN r L) {k : Int} (h : Under r L n k) : k ≠ n := by
  rintro rfl
  obtain ⟨l1, l2, p1, p2, hne⟩ := h
  have := congrArg List.length (path_one h1 p1 p2)
  rw [List.length_append] at this
  have : l2.length = 0 := by omega
  exact hne (List.length_eq_zero_iff.1 this)
theorem under_up {x k : Int} (h : Under r L n x) (hk : Kid L x k) : Under r L n k := by
  obtain ⟨l1, l2, p1, p2, _⟩ := h
  obtain ⟨e, he, rfl, rfl, _⟩ := hk
  exact ⟨l1, l2 ++ [e.n], p1, by rw [← List.append_assoc]; exact .up e _ he p2, by simp⟩
theorem under_kid (hn : Hang r L n) {k : Int} (hk : Kid L n k) : Under r L n k := by
  obtain ⟨l1, p1⟩ := hang_path hn
  obtain ⟨e, he, rfl, rfl, _⟩ := hk
  exact ⟨l1, [e.n], p1, .up e _ he p1, by simp⟩
theorem kid_one (h1 : OneN r L) {x y k : Int} (h : Kid L x k) (g : Kid L y k) : x = y := by
  obtain ⟨e, he, h2, h3, _⟩ := h
  obtain ⟨f, hf, g2, g3, _⟩ := g
  rw [← h3, ← g3, one_eq h1.1 he hf (h2.trans g2.symm)]
theorem kid_self (h1 : OneN r L) (h : InOk r L) {k : Int} (g : Kid L k k) : False := by
  obtain ⟨e, he, h2, h3, h4⟩ := g
  obtain ⟨l, hl⟩ := hang_path ((h e he).1 h4)
  rcases path_inv hl with ⟨a, _⟩ | ⟨f, l', hf, a, hp, hl'⟩
  · exact h1.2 e he a
  · have hfe : f = e := one_eq h1.1 hf he a
    subst hfe
    have hp2 : PathIs r L f.n l' := by rw [h2, ← h3]; exact hp
    have := congrArg List.length (path_one h1 hl hp2)
    rw [hl', List.length_append] at this
    simp at this
/-- What is gathered (K), what is still to be done (T). -/
structure Abv (r : Int) (L : List Ent) (n : Int) (T K : List Int) : Prop where
  nd : (T ++ K).Nodup
  un : ∀ t ∈ T ++ K, Under r L n t
  kid : ∀ t ∈ T ++ K, ∃ x, Kid L x t ∧ (x = n ∨ x ∈ K)
  all : ∀ x, (x = n ∨ x ∈ K) → ∀ k, Kid L x k → k ∈ T ++ K
theorem abv_start (hn : Hang r L n) {T : List Int} (hT : T.Nodup) (hm : ∀ k, k ∈ T ↔ Kid L n k) : Abv r L n T [] := by
  refine ⟨by simpa using hT, fun t ht => under_kid hn ((hm t).1 (by simpa using ht)), fun t ht => ⟨n, (hm t).1 (by simpa using ht), .inl rfl⟩, fun x hx k hk => ?_⟩
  rcases hx with rfl | hx
  · simpa using (hm k).2 hk
  · cases hx
theorem abv_step (h1 : OneN r L) (h0 : InOk r L) {T K F : List Int} {k : Int} (h : Abv r L n (T ++ [k]) K) (hF : F.Nodup) (hm : ∀ c, c ∈ F ↔ Kid L k c) : Abv r L n (T ++ F) (K ++ [k]) := by
  have hkn : k ≠ n := under_ne h1 (h.un k (by simp))
  have hkK : k ∉ K := fun hk => by
    have := (List.nodup_append.1 h.nd).2.2 k (by simp) k hk
    exact this rfl
  have hkT : k ∉ T := fun hk => by
    have := (List.nodup_append.1 (List.nodup_append.1 h.nd).1).2.2 k hk k (by simp)
    exact this rfl
  have old : ∀ t, t ∈ T ∨ t ∈ K ∨ t = k → t ∉ F := fun t ht hf => by
    have hk := (hm t).1 hf
    obtain ⟨x, hx, hxk⟩ := h.kid t (by rcases ht with h | h | h <;> simp [h])
    have hxe : x = k := kid_one h1 hx hk
    subst hxe
    rcases hxk with h | h
    · exact hkn h
    · exact hkK h
  have hTn : T.Nodup := (List.nodup_append.1 (List.nodup_append.1 h.nd).1).1
  have hKn : K.Nodup := (List.nodup_append.1 h.nd).2.1
  have hTK : ∀ a ∈ T, ∀ b ∈ K, a ≠ b := fun a ha b hb => (List.nodup_append.1 h.nd).2.2 a (by simp [ha]) b hb
  refine ⟨?_, fun t ht => ?_, fun t ht => ?_, fun x hx c hc => ?_⟩
  · rw [List.nodup_append, List.nodup_append, List.nodup_append]
    refine ⟨⟨hTn, hF, fun a ha b hb e => old a (.inl ha) (e ▸ hb)⟩, ⟨hKn, by simp, fun a ha b hb e => ?_⟩, fun a ha b hb e => ?_⟩
    · obtain rfl : b = k := by simpa using hb
      exact hkK (e ▸ ha)
    · subst e
      rcases List.mem_append.1 ha with ha | ha
      · rcases List.mem_append.1 hb with hb | hb
        · exact hTK a ha a hb rfl
        · obtain rfl : a = k := by simpa using hb
          exact hkT ha
      · rcases List.mem_append.1 hb with hb | hb
        · exact old a (.inr (.inl hb)) ha
        · exact old a (.inr (.inr (by simpa using hb))) ha
  · simp only [List.mem_append, List.mem_singleton] at ht
    rcases ht with (ht | ht) | ht | ht
    · exact h.un t (by simp [ht])
    · exact under_up (h.un k (by simp)) ((hm t).1 ht)
    · exact h.un t (by simp [ht])
    · exact h.un t (by simp [ht])
  · simp only [List.mem_append, List.mem_singleton] at ht
    rcases ht with (ht | ht) | ht | ht
    · obtain ⟨x, hx, hxk⟩ := h.kid t (by simp [ht])
      exact ⟨x, hx, hxk.imp id (fun h => by simp [h])⟩
    · exact ⟨k, (hm t).1 ht, .inr (by simp)⟩
    · obtain ⟨x, hx, hxk⟩ := h.kid t (by simp [ht])
      exact ⟨x, hx, hxk.imp id (fun h => by simp [h])⟩
    · obtain ⟨x, hx, hxk⟩ := h.kid t (by simp [ht])
      exact ⟨x, hx, hxk.imp id (fun h => by simp [h])⟩
  · have hc2 : x = k ∨ (x = n ∨ x ∈ K) := by
      rcases hx with h | h
      · exact .inr (.inl h)
      · rcases List.mem_append.1 h with h | h
        · exact .inr (.inr h)
        · exact .inl (by simpa using h)
    rcases hc2 with rfl | h2
    · have := (hm c).2 hc
      simp [this]
    · have := h.all x h2 c hc
      simp only [List.mem_append, List.mem_singleton] at this ⊢
      rcases this with (a | a) | a
      · exact .inl (.inl a)
      · exact .inr (.inr a)
      · exact .inr (.inl a)
theorem abv_end (h1 : OneN r L) (h0 : InOk r L) {K : List Int} (h : Abv r L n [] K) (k : Int) : k ∈ K ↔ Under r L n k := by
  refine ⟨fun hk => h.un k (by simpa using hk), fun ⟨l1, l2, p1, p2, hne⟩ => ?_⟩
  have key : ∀ (m : Nat) (k : Int) (l2 : List Int), l2.length = m → PathIs r L k (l1 ++ l2) → l2 ≠ [] → k ∈ K := by
    intro m
    induction m with
    | zero => intro k l2 hl _ hne; exact absurd (List.length_eq_zero_iff.1 hl) hne
    | succ m ih =>
      intro k l2 hl p2 hne
      rcases path_inv p2 with ⟨_, a⟩ | ⟨e, l', he, a, hp, hl'⟩
      · exact absurd (List.append_eq_nil_iff.1 a).2 hne
      · obtain ⟨l3, c, rfl⟩ : ∃ l3 c, l2 = l3 ++ [c] := ⟨l2.dropLast, l2.getLast hne, (List.dropLast_concat_getLast hne).symm⟩
        rw [← List.append_assoc] at hl'
        obtain ⟨e1, e2⟩ := List.append_inj' hl' rfl
        rw [← e1] at hp
        have hki : e.isin = true := (h0 e he).2 (by rw [a]; exact path_hang p2)
        have hkid : Kid L e.p k := ⟨e, he, a, rfl, hki⟩
        have hpar : e.p = n ∨ e.p ∈ K := by
          by_cases hz : l3 = []
          · subst hz
            rw [List.append_nil] at hp
            exact .inl (path_end hp p1)
          · exact .inr (ih e.p l3 (by rw [List.length_append] at hl; simp at hl; omega) hp hz)
        simpa using h.all e.p hpar k hkid
  exact key _ k l2 rfl p2 hne
end
/-- A tree pruned: what hangs at n, and the orphans of later rounds. -/
def cutL (L : List Ent) (K : List Int) (rd : Int) : List Ent := L.filter fun e => if e.isin then K.contains e.n else decide (rd < e.rd)
theorem cutL_mem {L : List Ent} {K : List Int} {rd : Int} {e : Ent} : e ∈ cutL L K rd ↔ e ∈ L ∧ ((e.isin = true ∧ e.n ∈ K) ∨ (e.isin = false ∧ rd < e.rd)) := by
  unfold cutL
  rw [List.mem_filter]
  cases hi : e.isin <;> simp
theorem cut_hang {r n : Int} {L : List Ent} {K : List Int} {rd : Int} (hn : Hang r L n) {x : Int} (h : Hang n (cutL L K rd) x) : Hang r L x := by
  induction h with
  | root => exact hn
  | up e he _ ih => exact .up e (cutL_mem.1 he).1 ih
/-- Behind a pruning paths begin behind it. -/
theorem cut_path {r n : Int} {L : List Ent} {K : List Int} {rd : Int} (h1 : OneN r L) (h0 : InOk r L) (hK : ∀ k, k ∈ K ↔ Under r L n k) {l1 : List Int} (p1 : PathIs r L n l1) :
    ∀ (m : Nat) (k : Int) (l2 : List Int), l2.length = m → PathIs r L k (l1 ++ l2) → PathIs n (cutL L K rd) k l2 := by
  intro m
  induction m with
  | zero =>
    intro k l2 hl p2
    obtain rfl := List.length_eq_zero_iff.1 hl
    rw [List.append_nil] at p2
    rw [path_end p2 p1]
    exact .root
  | succ m ih =>
    intro k l2 hl p2
    have hne : l2 ≠ [] := fun e => by rw [e] at hl; cases hl
    rcases path_inv p2 with ⟨_, a⟩ | ⟨e, l', he, a, hp, hl'⟩
    · exact absurd (List.append_eq_nil_iff.1 a).2 hne
    · obtain ⟨l3, c, rfl⟩ : ∃ l3 c, l2 = l3 ++ [c] := ⟨l2.dropLast, l2.getLast hne, (List.dropLast_concat_getLast hne).symm⟩
      rw [← List.append_assoc] at hl'
      obtain ⟨e1, e2⟩ := List.append_inj' hl' rfl
      rw [← e1] at hp
      obtain rfl : c = k := by simpa using e2
      have hki : e.isin = true := (h0 e he).2 (by rw [a]; exact path_hang p2)
      have hmem : e ∈ cutL L K rd := cutL_mem.2 ⟨he, .inl ⟨hki, by rw [a]; exact (hK c).2 ⟨l1, l3 ++ [c], p1, p2, hne⟩⟩⟩
      have := ih e.p l3 (by rw [List.length_append] at hl; simp at hl; omega) hp
      rw [← a]
      exact .up e l3 hmem this
theorem cut_one {r n : Int} {L : List Ent} {K : List Int} {rd : Int} (h1 : OneN r L) (hK : ∀ k, k ∈ K ↔ Under r L n k) {e0 : Ent} (he0 : e0 ∈ L) (hn0 : e0.n = n) (hi0 : e0.isin = true) : OneN n (cutL L K rd) := by
  refine ⟨List.Nodup.sublist (List.Sublist.map _ List.filter_sublist) h1.1, fun e he hn => ?_⟩
  obtain ⟨he1, h | h⟩ := cutL_mem.1 he
  · exact under_ne h1 ((hK e.n).1 h.2) hn
  · have : e = e0 := one_eq h1.1 he1 he0 (hn.trans hn0.symm)
    rw [this, hi0] at h
    cases h.1
theorem cut_ok {r n : Int} {L : List Ent} {K : List Int} {rd : Int} (h1 : OneN r L) (h0 : InOk r L) (hn : Hang r L n) (hK : ∀ k, k ∈ K ↔ Under r L n k) : InOk n (cutL L K rd) := by
  intro e he
  obtain ⟨he1, h | h⟩ := cutL_mem.1 he
  · refine ⟨fun _ => ?_, fun _ => h.1⟩
    obtain ⟨l1, l2, p1, p2, _⟩ := (hK e.n).1 h.2
    exact path_hang (cut_path h1 h0 hK p1 _ _ _ rfl p2)
  · refine ⟨fun c => (by rw [h.1] at c; cases c), fun c => ?_⟩
    have := (h0 e he1).2 (cut_hang hn c)
    rw [h.1] at this
    cases this
end Go.Proofs.Ytgclofemhhhepaa
