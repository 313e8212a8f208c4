/-
  What accounts begin with, plainly; what stays true whatever is done; a state's text by taking the least away.
-/
import Derived.Test.YthkgadjiiapfgaaGreatDoorDo
set_option linter.unusedSimpArgs false
set_option linter.unusedVariables false
namespace Go.Proofs.YthkgadjiiapfgaaGreatDoor
open Go.RowKit Go.Lib
open L2 (chk vlu)

/-- A name with an amount. -/
structure Am where
  nm : List UInt8
  am : Int
deriving DecidableEq, Inhabited
def acc0 (p : Am) : Acc := ⟨p.nm, p.am, 0⟩
def totM (P : List Am) : Int := (P.map Am.am).sum
theorem totM_snoc (P : List Am) (p : Am) : totM (P ++ [p]) = totM P + p.am := by unfold totM; simp
theorem totM_acc (P : List Am) : totA (P.map acc0) = totM P := by unfold totA totM; rw [List.map_map]; rfl
/-- Was it there? -/
def inM (P : List Am) (n : List UInt8) : Bool := P.any fun x => decide (x.nm = n)
theorem inM_iff (P : List Am) (n : List UInt8) : inM P n = true ↔ ∃ x ∈ P, x.nm = n := by unfold inM; simp
theorem inM_not (P : List Am) (n : List UInt8) : inM P n = false ↔ ∀ x ∈ P, x.nm ≠ n := by unfold inM; simp
/-- The error of one account behind others. -/
def oneE (P : List Am) (p : Am) : Int :=
  if chk p.nm = false ∨ p.am < 0 then 1 else if inM P p.nm = true then 100 else if 4611686018427387904 < totM P + p.am then 10 else 0
/-- The error of accounts behind others. -/
def newE : List Am → List Am → Int
  | _, [] => 0
  | P, p :: l => if oneE P p ≠ 0 then oneE P p else newE (P ++ [p]) l
/-- Accounts to begin with. -/
structure Good (P : List Am) : Prop where
  named : ∀ p ∈ P, chk p.nm = true
  full : ∀ p ∈ P, 0 ≤ p.am
  apart : Apart Am.nm P
  low : totM P ≤ 4611686018427387904
theorem good_nil : Good [] := ⟨by simp, by simp, List.Pairwise.nil, by simp [totM]⟩
theorem oneE_ok {P : List Am} {p : Am} (h : oneE P p = 0) : chk p.nm = true ∧ 0 ≤ p.am ∧ (∀ x ∈ P, x.nm ≠ p.nm) ∧ totM P + p.am ≤ 4611686018427387904 := by
  unfold oneE at h
  split at h
  · omega
  split at h
  · omega
  split at h
  · omega
  next h1 h2 h3 =>
  refine ⟨?_, ?_, (inM_not ..).1 (by simpa using h2), by omega⟩
  · cases hc : chk p.nm
    · exact absurd (.inl hc) h1
    · rfl
  · exact Classical.byContradiction fun hn => h1 (.inr (by omega))
theorem Good.snoc {P : List Am} (h : Good P) {p : Am} (he : oneE P p = 0) : Good (P ++ [p]) := by
  obtain ⟨h1, h2, h3, h4⟩ := oneE_ok he
  refine ⟨fun x hx => ?_, fun x hx => ?_, apart_snoc h.apart h3, by rw [totM_snoc]; exact h4⟩
  · rcases List.mem_append.1 hx with e | e
    · exact h.named x e
    · rw [List.mem_singleton.1 e]; exact h1
  · rcases List.mem_append.1 hx with e | e
    · exact h.full x e
    · rw [List.mem_singleton.1 e]; exact h2
theorem newE_good : ∀ {l P : List Am}, Good P → newE P l = 0 → Good (P ++ l)
  | [], P, h, _ => by rw [List.append_nil]; exact h
  | p :: l, P, h, he => by
    unfold newE at he
    split at he
    · omega
    · next h0 =>
      have := newE_good (h.snoc (Classical.byContradiction h0)) he
      rwa [List.append_assoc] at this
/-- The sum with an error, as the document's num has it. -/
theorem over_iff {a b : Int} (h : 0 ≤ a) (h1 : a ≤ 4611686018427387904) (h2 : 0 ≤ b) :
    (4611686018427387904 < a + b) ↔ ¬ (b ≤ 4611686018427387904) ∨ (0 < b ∧ 4611686018427387904 - b < a) := by omega
theorem Good.tot {P : List Am} (h : Good P) : 0 ≤ totM P := by
  have : Full (P.map acc0) := fun a ha => by
    obtain ⟨p, hp, rfl⟩ := List.mem_map.1 ha
    exact ⟨h.full p hp, Int.le_refl _⟩
  have := this.tot
  rwa [totM_acc] at this
/-- A new account is put behind the others. -/
theorem put_fresh {A : List Acc} {a : Acc} (h : ∀ x ∈ A, x.nm ≠ a.nm) : putA A a = A ++ [a] := by unfold putA; rw [filter_none h]
theorem Good.put {P : List Am} {p : Am} (h : ∀ x ∈ P, x.nm ≠ p.nm) : putA (P.map acc0) (acc0 p) = (P ++ [p]).map acc0 := by
  rw [put_fresh (fun x hx => by obtain ⟨y, hy, rfl⟩ := List.mem_map.1 hx; exact h y hy), List.map_append]; rfl

/-! What is true whatever is done -/
/-- A state as it may be. -/
structure Sane (s : Stt) : Prop where
  ok : s.ok
  full : Full s.A
  low : totA s.A ≤ 4611686018427387904
  nonce : ∀ a ∈ s.A, a.no ≤ 4611686018427387904
  named : ∀ a ∈ s.A, chk a.nm = true
  keyed : ∀ v ∈ s.V, chk v.who = true ∧ chk v.key = true ∧ vlu v.val = true
theorem Good.sane {P : List Am} (h : Good P) : Sane ⟨P.map acc0, []⟩ := by
  refine ⟨⟨?_, List.Pairwise.nil⟩, fun a ha => ?_, by rw [totM_acc]; exact h.low, fun a ha => ?_, fun a ha => ?_, by simp⟩
  · exact List.pairwise_map.2 h.apart
  all_goals
    obtain ⟨p, hp, rfl⟩ := List.mem_map.1 ha
    unfold acc0
    dsimp only
  · exact ⟨h.full p hp, Int.le_refl _⟩
  · omega
  · exact h.named p hp
theorem mem_put {A : List Acc} {a x : Acc} (h : x ∈ putA A a) : x ∈ A ∨ x = a := by
  unfold putA at h
  rcases List.mem_append.1 h with e | e
  · exact .inl (List.mem_filter.1 e).1
  · exact .inr (List.mem_singleton.1 e)
theorem mem_putV {V : List Vl} {v x : Vl} (h : x ∈ putV V v) : x ∈ V ∨ x = v := by
  unfold putV at h
  rcases List.mem_append.1 h with e | e
  · exact .inl (List.mem_filter.1 e).1
  · exact .inr (List.mem_singleton.1 e)
theorem nonce_of {A : List Acc} (h : ∀ a ∈ A, a.no ≤ 4611686018427387904) (who : List UInt8) : (ofA A who).no ≤ 4611686018427387904 := by
  by_cases hd : ofA A who = ⟨who, 0, 0⟩
  · rw [hd]; dsimp only; omega
  · exact h _ (ofA_there hd)
theorem Sane.does {s : Stt} (h : Sane s) (t : Txx) : Sane (doS s t) := by
  refine ⟨doS_keeps h.ok t, do_full h.full t, by rw [do_total h.ok]; exact h.low, ?_, ?_, ?_⟩
  all_goals
    by_cases he : doE s t = 0
    rotate_left
    · rw [doS_no he]
      first | exact h.nonce | exact h.named | exact h.keyed
    obtain ⟨hr, hn, hf⟩ := doE_ok he
    unfold doS
    rw [if_neg (by omega)]
    split
    all_goals rename_i hk
    all_goals dsimp only
  · have hm := right_move hr hk
    have hp := posN_in hm.1
    have h1 : ∀ a ∈ payA s.A t, a.no ≤ 4611686018427387904 := fun a ha => by
      rcases mem_put ha with e | e
      · exact h.nonce a e
      · rw [e]; dsimp only; omega
    intro a ha
    rcases mem_put ha with e | e
    · exact h1 a e
    · rw [e]; exact nonce_of h1 _
  · have hm := right_put hr hk
    have hp := posN_in hm.1
    intro a ha
    rcases mem_put ha with e | e
    · exact h.nonce a e
    · rw [e]; dsimp only; omega
  · have hm := right_move hr hk
    intro a ha
    rcases mem_put ha with e | e
    · rcases mem_put e with e | e
      · exact h.named a e
      · rw [e]; exact hm.2.1
    · rw [e]; exact hm.2.2.1
  · have hm := right_put hr hk
    intro a ha
    rcases mem_put ha with e | e
    · exact h.named a e
    · rw [e]; exact hm.2.1
  · exact h.keyed
  · have hm := right_put hr hk
    intro v hv
    rcases mem_putV hv with e | e
    · exact h.keyed v e
    · rw [e]; exact ⟨hm.2.1, hm.2.2.1, hm.2.2.2.1⟩
/-- How many there are. -/
theorem put_len (A : List Acc) (a : Acc) : (putA A a).length ≤ A.length + 1 := by
  unfold putA
  rw [List.length_append]
  have := List.length_filter_le (fun x : Acc => decide (x.nm ≠ a.nm)) A
  simp only [List.length_cons, List.length_nil]
  omega
theorem putV_len (V : List Vl) (v : Vl) : (putV V v).length ≤ V.length + 1 := by
  unfold putV
  rw [List.length_append]
  have := List.length_filter_le (fun x : Vl => decide (x.who ≠ v.who ∨ x.key ≠ v.key)) V
  simp only [List.length_cons, List.length_nil]
  omega
theorem do_len (s : Stt) (t : Txx) : (doS s t).A.length ≤ s.A.length + 2 ∧ (doS s t).V.length ≤ s.V.length + 1 := by
  unfold doS
  split
  · omega
  split
  · have h1 := put_len s.A ⟨t.frm, (ofA s.A t.frm).am - t.amount, (ofA s.A t.frm).no + 1⟩
    have h2 := put_len (payA s.A t) ⟨t.to, (ofA (payA s.A t) t.to).am + t.amount, (ofA (payA s.A t) t.to).no⟩
    unfold payA at h2
    unfold moveA payA
    dsimp only
    omega
  · have h1 := put_len s.A ⟨t.frm, (ofA s.A t.frm).am, (ofA s.A t.frm).no + 1⟩
    have h2 := putV_len s.V ⟨t.frm, t.key, t.val⟩
    dsimp only
    omega

/-! A state's text -/
/-- The text by taking the least away. -/
def digR (lt : List UInt8 → List UInt8 → Bool) (s : Stt) : List UInt8 :=
  ((sel lt Acc.nm s.A.length s.A).filter someA).flatMap lineA ++ ((sel (lt2 lt) keyV s.V.length s.V).filter someV).flatMap lineV
theorem digR_is {lt : List UInt8 → List UInt8 → Bool} (ho : Ordered lt) {s : Stt} (h : s.ok) : digR lt s = digT lt s := by
  unfold digR digT
  rw [sel_isort ho h.1, sel_isort (ordered2 ho) h.2, isort_filter ho h.1, isort_filter (ordered2 ho) h.2]
end Go.Proofs.YthkgadjiiapfgaaGreatDoor
