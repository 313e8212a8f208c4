/-
  What accounts begin with, what a transaction does to them, plainly: totals stay, nobody has less than nothing, nothing is done twice, states that answer the same do the same, and who has nothing in common counts for nothing.
-/
import Derived.Test.YthkgadjiiapfgaaGreatDoorAcc
set_option linter.unusedSimpArgs false
set_option linter.unusedVariables false
namespace Go.Proofs.YthkgadjiiapfgaaGreatDoor
open Go.RowKit Go.Lib
open L2 (chk)

/-! All there is -/
def totA (A : List Acc) : Int := (A.map Acc.am).sum
theorem totA_cons (a : Acc) (A : List Acc) : totA (a :: A) = a.am + totA A := by unfold totA; simp
theorem totA_app (A B : List Acc) : totA (A ++ B) = totA A + totA B := by unfold totA; simp
theorem ofA_none {A : List Acc} {who : List UInt8} (h : ∀ x ∈ A, x.nm ≠ who) : ofA A who = ⟨who, 0, 0⟩ := by
  have := ofA_app A [] who h
  rw [List.append_nil] at this
  rw [this]; rfl
theorem filter_none {A : List Acc} {who : List UInt8} (h : ∀ x ∈ A, x.nm ≠ who) : A.filter (fun x => decide (x.nm ≠ who)) = A :=
  List.filter_eq_self.2 fun x hx => by simpa using h x hx
theorem tot_without : ∀ {A : List Acc}, Apart Acc.nm A → ∀ who : List UInt8, totA (A.filter (fun x => decide (x.nm ≠ who))) = totA A - (ofA A who).am
  | [], _, who => by simp [totA, ofA]
  | a :: A, h, who => by
    have hc := List.pairwise_cons.1 h
    by_cases he : a.nm = who
    · subst he
      have hn : ∀ x ∈ A, x.nm ≠ a.nm := fun x hx e => hc.1 x hx e.symm
      rw [List.filter_cons_of_neg (by simp), filter_none hn, ofA, if_pos rfl, totA_cons]
      omega
    · rw [List.filter_cons_of_pos (by simpa using he), totA_cons, tot_without hc.2 who, totA_cons, ofA, if_neg he]
      omega
theorem tot_put {A : List Acc} (h : Apart Acc.nm A) (a : Acc) : totA (putA A a) = totA A - (ofA A a.nm).am + a.am := by
  unfold putA
  rw [totA_app, tot_without h, totA_cons]
  simp [totA]
/-- Nobody has less than nothing. -/
def Full (A : List Acc) : Prop := ∀ a ∈ A, 0 ≤ a.am ∧ 0 ≤ a.no
theorem Full.put {A : List Acc} (h : Full A) {a : Acc} (h1 : 0 ≤ a.am) (h2 : 0 ≤ a.no) : Full (putA A a) := by
  intro x hx
  unfold putA at hx
  rcases List.mem_append.1 hx with e | e
  · exact h x (List.mem_filter.1 e).1
  · rw [List.mem_singleton] at e; subst e; exact ⟨h1, h2⟩
theorem Full.of {A : List Acc} (h : Full A) (who : List UInt8) : 0 ≤ (ofA A who).am ∧ 0 ≤ (ofA A who).no := by
  by_cases hd : ofA A who = ⟨who, 0, 0⟩
  · rw [hd]; exact ⟨Int.le_refl _, Int.le_refl _⟩
  · exact h _ (ofA_there hd)
theorem Full.tot {A : List Acc} (h : Full A) : 0 ≤ totA A := by
  induction A with
  | nil => simp [totA]
  | cons a A ih =>
    rw [totA_cons]
    have h1 := h a (List.mem_cons_self ..)
    have h2 := ih fun x hx => h x (List.mem_cons_of_mem _ hx)
    omega
theorem Full.mem_le {A : List Acc} (h : Full A) {a : Acc} (ha : a ∈ A) : a.am ≤ totA A := by
  induction A with
  | nil => cases ha
  | cons x A ih =>
    rw [totA_cons]
    have hf : Full A := fun y hy => h y (List.mem_cons_of_mem _ hy)
    have h1 := h x (List.mem_cons_self ..)
    have h2 := hf.tot
    rcases List.mem_cons.1 ha with e | e
    · rw [e]; omega
    · have := ih hf e; omega
theorem Full.of_le {A : List Acc} (h : Full A) (who : List UInt8) : (ofA A who).am ≤ totA A := by
  by_cases hd : ofA A who = ⟨who, 0, 0⟩
  · rw [hd]; exact h.tot
  · exact h.mem_le (ofA_there hd)
/-- Two together. -/
theorem Full.two {A : List Acc} (h : Full A) (ha : Apart Acc.nm A) {a b : List UInt8} (hne : a ≠ b) : (ofA A a).am + (ofA A b).am ≤ totA A := by
  have h1 : Full (A.filter (fun x => decide (x.nm ≠ a))) := fun x hx => h x (List.mem_filter.1 hx).1
  have h2 := h1.of_le b
  have h3 : ofA (A.filter (fun x => decide (x.nm ≠ a))) b = ofA A b := by
    clear h1 h2 ha h
    induction A with
    | nil => rfl
    | cons x A ih =>
      by_cases hx : x.nm = a
      · rw [List.filter_cons_of_neg (by simpa using hx), ih, ofA, if_neg (fun e => hne (hx.symm.trans e))]
      · rw [List.filter_cons_of_pos (by simpa using hx), ofA, ofA]
        split
        · rfl
        · exact ih
  rw [h3, tot_without ha] at h2
  omega

/-! What a transaction does -/
/-- The error. -/
def doE (s : Stt) (t : Txx) : Int :=
  if right t = false then 80 else if t.nonce ≠ (ofA s.A t.frm).no + 1 then 90 else if t.kind = 1 ∧ (ofA s.A t.frm).am < t.amount then 91 else 0
/-- From's account behind it. -/
def payA (A : List Acc) (t : Txx) : List Acc := putA A ⟨t.frm, (ofA A t.frm).am - t.amount, (ofA A t.frm).no + 1⟩
def moveA (A : List Acc) (t : Txx) : List Acc := putA (payA A t) ⟨t.to, (ofA (payA A t) t.to).am + t.amount, (ofA (payA A t) t.to).no⟩
/-- The state behind it. -/
def doS (s : Stt) (t : Txx) : Stt :=
  if doE s t ≠ 0 then s else
  if t.kind = 1 then ⟨moveA s.A t, s.V⟩ else ⟨putA s.A ⟨t.frm, (ofA s.A t.frm).am, (ofA s.A t.frm).no + 1⟩, putV s.V ⟨t.frm, t.key, t.val⟩⟩
theorem doS_no {s : Stt} {t : Txx} (h : doE s t ≠ 0) : doS s t = s := by unfold doS; rw [if_pos h]
theorem doE_ok {s : Stt} {t : Txx} (h : doE s t = 0) : right t = true ∧ t.nonce = (ofA s.A t.frm).no + 1 ∧ (t.kind = 1 → t.amount ≤ (ofA s.A t.frm).am) := by
  unfold doE at h
  split at h
  · omega
  split at h
  · omega
  split at h
  · omega
  next h1 h2 h3 =>
  refine ⟨by simpa using h1, Classical.byContradiction h2, fun hk => Classical.byContradiction fun hn => h3 ⟨hk, by omega⟩⟩
theorem doS_keeps {s : Stt} (h : s.ok) (t : Txx) : (doS s t).ok := by
  unfold doS
  split
  · exact h
  split
  · exact ⟨putA_apart (putA_apart h.1 _) _, h.2⟩
  · exact ⟨putA_apart h.1 _, putV_apart h.2 _⟩
theorem tot_move {A : List Acc} (h : Apart Acc.nm A) (t : Txx) : totA (moveA A t) = totA A := by
  have hp : Apart Acc.nm (payA A t) := putA_apart h _
  have ht : totA (payA A t) = totA A - t.amount := by
    unfold payA
    rw [tot_put h]
    dsimp only
    omega
  unfold moveA
  rw [tot_put hp, ht]
  dsimp only
  omega
/-- All there is stays. -/
theorem do_total {s : Stt} (h : s.ok) (t : Txx) : totA (doS s t).A = totA s.A := by
  unfold doS
  split
  · rfl
  split
  · exact tot_move h.1 t
  · dsimp only; rw [tot_put h.1]; dsimp only; omega
theorem do_full {s : Stt} (h : Full s.A) (t : Txx) : Full (doS s t).A := by
  by_cases he : doE s t = 0
  · obtain ⟨hr, hn, hf⟩ := doE_ok he
    have hp := h.of t.frm
    unfold doS
    rw [if_neg (by omega)]
    split
    · next hk =>
      have hm := right_move hr hk
      have ha := posN_in hm.2.2.2.1
      have h1 : Full (payA s.A t) := h.put (by dsimp only; have := hf hk; omega) (by dsimp only; omega)
      have h2 := h1.of t.to
      exact h1.put (by dsimp only; omega) h2.2
    · exact h.put hp.1 (by dsimp only; omega)
  · rw [doS_no he]; exact h
/-- Somebody's account behind it. -/
theorem ofA_move (A : List Acc) (t : Txx) (who : List UInt8) : ofA (moveA A t) who =
    ⟨who, (ofA A who).am - (if who = t.frm then t.amount else 0) + (if who = t.to then t.amount else 0), (ofA A who).no + (if who = t.frm then 1 else 0)⟩ := by
  have hp : ∀ who, ofA (payA A t) who = ⟨who, (ofA A who).am - (if who = t.frm then t.amount else 0), (ofA A who).no + (if who = t.frm then 1 else 0)⟩ := fun who => by
    unfold payA
    rw [ofA_put]
    dsimp only
    by_cases h : who = t.frm
    · subst h; simp
    · simp only [if_neg h]
      have := ofA_nm A who
      cases hx : ofA A who
      rw [hx] at this
      simp only at this ⊢
      simp [this]
  unfold moveA
  rw [ofA_put]
  dsimp only
  by_cases h : who = t.to
  · subst h; simp only [if_pos, hp]
  · simp only [if_neg h, hp, Int.add_zero]
theorem ofA_bump (A : List Acc) (n who : List UInt8) : ofA (putA A ⟨n, (ofA A n).am, (ofA A n).no + 1⟩) who = ⟨who, (ofA A who).am, (ofA A who).no + (if who = n then 1 else 0)⟩ := by
  rw [ofA_put]
  dsimp only
  by_cases h : who = n
  · subst h; simp
  · simp only [if_neg h, Int.add_zero]
    have := ofA_nm A who
    cases hx : ofA A who
    rw [hx] at this
    simp only at this ⊢
    rw [this]
/-- What it does to anybody's account. -/
theorem do_of {s : Stt} {t : Txx} (h : doE s t = 0) (who : List UInt8) : ofA (doS s t).A who =
    ⟨who, (ofA s.A who).am - (if t.kind = 1 ∧ who = t.frm then t.amount else 0) + (if t.kind = 1 ∧ who = t.to then t.amount else 0), (ofA s.A who).no + (if who = t.frm then 1 else 0)⟩ := by
  unfold doS
  rw [if_neg (by omega)]
  split
  · next hk => dsimp only; rw [ofA_move]; simp [hk]
  · next hk => dsimp only; rw [ofA_bump]; simp [hk]
theorem do_get {s : Stt} {t : Txx} (h : doE s t = 0) (who key : List UInt8) : getV (doS s t).V who key = if t.kind ≠ 1 ∧ who = t.frm ∧ key = t.key then t.val else getV s.V who key := by
  unfold doS
  rw [if_neg (by omega)]
  split
  · next hk => simp [hk]
  · next hk => dsimp only; rw [getV_put]; simp [hk]
/-- From's nonce behind it. -/
theorem do_nonce {s : Stt} {t : Txx} (h : doE s t = 0) : (ofA (doS s t).A t.frm).no = (ofA s.A t.frm).no + 1 := by rw [do_of h]; simp
/-- What was done isn't done again. -/
theorem do_once {s : Stt} {t : Txx} (h : doE s t = 0) : doE (doS s t) t = 90 := by
  obtain ⟨hr, hn, _⟩ := doE_ok h
  unfold doE
  rw [if_neg (by simp [hr]), if_pos (by rw [do_nonce h]; omega)]
/-- States that answer the same do the same. -/
theorem same_doE {s z : Stt} (h : Same s z) (t : Txx) : doE s t = doE z t := by unfold doE; rw [h.1]
theorem same_do {s z : Stt} (h : Same s z) (t : Txx) : Same (doS s t) (doS z t) := by
  have he := same_doE h t
  by_cases h0 : doE s t = 0
  · have h1 : doE z t = 0 := he ▸ h0
    refine ⟨fun who => ?_, fun who key => ?_⟩
    · rw [do_of h0, do_of h1, h.1]
    · rw [do_get h0, do_get h1, h.2]
  · have h1 : doE z t ≠ 0 := he ▸ h0
    rw [doS_no h0, doS_no h1]; exact h

/-! Who has nothing in common -/
/-- What it does to a's account leaves b's. -/
theorem doE_other {s : Stt} {a b : Txx} (h1 : a.frm ≠ b.frm) (h2 : a.to ≠ b.frm) : doE (doS s a) b = doE s b := by
  by_cases h0 : doE s a = 0
  · have : ofA (doS s a).A b.frm = ofA s.A b.frm := by
      rw [do_of h0, if_neg (fun e => h1 e.2.symm), if_neg (fun e => h2 e.2.symm), if_neg (fun e => h1 e.symm)]
      have := ofA_nm s.A b.frm
      cases hx : ofA s.A b.frm
      rw [hx] at this
      simp only at this ⊢
      simp [this]
    unfold doE
    rw [this]
  · rw [doS_no h0]
theorem do_apart {s : Stt} {a b : Txx} (h1 : a.frm ≠ b.frm) (h2 : a.to ≠ b.frm) (h3 : a.frm ≠ b.to) : Same (doS (doS s a) b) (doS (doS s b) a) := by
  have eb := doE_other (s := s) h1 h2
  have ea := doE_other (s := s) (a := b) (b := a) h1.symm h3.symm
  by_cases ha : doE s a = 0
  · by_cases hb : doE s b = 0
    · have hb' := eb.trans hb
      have ha' := ea.trans ha
      refine ⟨fun who => ?_, fun who key => ?_⟩
      · rw [do_of hb', do_of ha, do_of ha', do_of hb]
        simp only [Acc.mk.injEq, true_and]
        omega
      · rw [do_get hb', do_get ha, do_get ha', do_get hb]
        by_cases x : a.kind ≠ 1 ∧ who = a.frm ∧ key = a.key
        · have y : ¬ (b.kind ≠ 1 ∧ who = b.frm ∧ key = b.key) := fun y => h1 (x.2.1.symm.trans y.2.1)
          simp only [if_pos x, if_neg y]
        · simp only [if_neg x]
    · have hb' : doE (doS s a) b ≠ 0 := by rw [eb]; exact hb
      rw [doS_no hb', doS_no hb]; exact Same.refl _
  · have ha' : doE (doS s b) a ≠ 0 := by rw [ea]; exact ha
    rw [doS_no ha, doS_no ha']; exact Same.refl _
end Go.Proofs.YthkgadjiiapfgaaGreatDoor
