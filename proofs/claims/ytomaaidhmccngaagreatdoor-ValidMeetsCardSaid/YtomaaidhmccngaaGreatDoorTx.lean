/-
  Transactions, plainly: which are right, their bytes, their words; what is read of bytes and of words; both ways.
-/
import Derived.Test.YtomaaidhmccngaaGreatDoorL1
import Derived.Test.YtomaaidhmccngaaGreatDoorL2
import Derived.Test.YtomaaidhmccngaaGreatDoorL3
set_option linter.unusedSimpArgs false
set_option linter.unusedVariables false
namespace Go.Proofs.YtomaaidhmccngaaGreatDoor
open Go.RowKit Go.Lib
open L2 (chk vlu nums dec runes ltr led)
open L3 (encN rdN numS textS textV mostV mostS failS)

/-- A transaction. -/
structure Txx where
  kind : Int
  frm : List UInt8
  to : List UInt8
  key : List UInt8
  val : List UInt8
  amount : Int
  nonce : Int
deriving DecidableEq, Inhabited
def zeroX : Txx := ⟨0, [], [], [], [], 0, 0⟩
/-- From 1 to 2^62? -/
def posN (n : Int) : Bool := decide (1 ≤ n ∧ n ≤ 4611686018427387904)
theorem posN_in {n : Int} (h : posN n = true) : 1 ≤ n ∧ n ≤ 4611686018427387904 := of_decide_eq_true h
/-- Is it right? -/
def right (t : Txx) : Bool :=
  posN t.nonce && chk t.frm && ((decide (t.kind = 1) && (chk t.to && posN t.amount && t.key.isEmpty && t.val.isEmpty)) || (decide (t.kind = 2) && (chk t.key && vlu t.val && t.to.isEmpty && decide (t.amount = 0))))
theorem right_move {t : Txx} (h : right t = true) (hk : t.kind = 1) : posN t.nonce = true ∧ chk t.frm = true ∧ chk t.to = true ∧ posN t.amount = true ∧ t.key = [] ∧ t.val = [] := by
  unfold right at h
  rw [hk] at h
  simp only [Bool.and_eq_true, Bool.or_eq_true, decide_eq_true_eq, List.isEmpty_iff] at h
  obtain ⟨⟨h1, h2⟩, h3 | h3⟩ := h
  · exact ⟨h1, h2, h3.2.1.1.1, h3.2.1.1.2, h3.2.1.2, h3.2.2⟩
  · omega
theorem right_put {t : Txx} (h : right t = true) (hk : t.kind ≠ 1) : posN t.nonce = true ∧ chk t.frm = true ∧ chk t.key = true ∧ vlu t.val = true ∧ t.to = [] ∧ t.amount = 0 ∧ t.kind = 2 := by
  unfold right at h
  simp only [Bool.and_eq_true, Bool.or_eq_true, decide_eq_true_eq, List.isEmpty_iff] at h
  obtain ⟨⟨h1, h2⟩, h3 | h3⟩ := h
  · exact absurd h3.1 hk
  · exact ⟨h1, h2, h3.2.1.1.1, h3.2.1.1.2, h3.2.1.2, h3.2.2, h3.1⟩

/-! Names have no blanks, and are short. -/
/-- A byte below 128 is a rune of its own. -/
theorem dec_small (l : List UInt8) (j : Nat) (hj : j < (dec l).2) (hs : (l.getD j 0).toNat < 128) : j = 0 ∧ (dec l).2 = 1 ∧ (dec l).1 = (l.getD j 0).toNat := by
  have hb := L2.byte_lt l
  generalize h0 : (l.getD 0 0).toNat = b0 at *
  generalize h1 : (l.getD 1 0).toNat = b1 at *
  generalize h2 : (l.getD 2 0).toNat = b2 at *
  generalize h3 : (l.getD 3 0).toNat = b3 at *
  have hd : dec l = decodeN l.length b0 b1 b2 b3 := by unfold L2.dec; rw [h0, h1, h2, h3]
  rw [hd] at hj ⊢
  by_cases c1 : b0 < 128
  · rw [L2.dN1 _ _ _ _ _ c1] at hj ⊢
    have : j = 0 := by simpa using hj
    subst this
    exact ⟨rfl, rfl, h0.symm⟩
  have h255 : b0 < 256 := by rw [← h0]; exact hb 0
  have one : decodeN l.length b0 b1 b2 b3 = (65533, 1) → False := fun e => by
    rw [e] at hj
    have : j = 0 := by simpa using hj
    subst this
    omega
  have at_ : ∀ k, j = k → (l.getD k 0).toNat < 128 := fun k e => by rw [← e]; exact hs
  have a0 := fun e => at_ 0 e
  have a1 := fun e => at_ 1 e
  have a2 := fun e => at_ 2 e
  have a3 := fun e => at_ 3 e
  rw [h0] at a0
  rw [h1] at a1
  rw [h2] at a2
  rw [h3] at a3
  by_cases c2 : b0 / 32 = 6
  · by_cases g : L2.good2 l.length b0 b1
    · rw [(L2.dN2 _ _ _ b2 b3 c2).1 g] at hj
      obtain ⟨⟨_, g1⟩, _⟩ := g
      rcases (show j = 0 ∨ j = 1 by simp at hj; omega) with e | e
      · have := a0 e; omega
      · have := a1 e; omega
    · exact (one ((L2.dN2 _ _ _ b2 b3 c2).2 g)).elim
  by_cases c3 : b0 / 16 = 14
  · by_cases g : L2.good3 l.length b0 b1 b2
    · rw [(L2.dN3 _ _ _ _ b3 c3).1 g] at hj
      obtain ⟨⟨⟨_, g1⟩, ⟨_, g2⟩⟩, _⟩ := g
      rcases (show j = 0 ∨ j = 1 ∨ j = 2 by simp at hj; omega) with e | e | e
      · have := a0 e; omega
      · have := a1 e; omega
      · have := a2 e; omega
    · exact (one ((L2.dN3 _ _ _ _ b3 c3).2 g)).elim
  by_cases c4 : b0 / 8 = 30
  · by_cases g : L2.good4 l.length b0 b1 b2 b3
    · rw [(L2.dN4 _ _ _ _ _ c4).1 g] at hj
      obtain ⟨⟨⟨_, g1⟩, ⟨_, g2⟩, ⟨_, g3⟩⟩, _⟩ := g
      rcases (show j = 0 ∨ j = 1 ∨ j = 2 ∨ j = 3 by simp at hj; omega) with e | e | e | e
      · have := a0 e; omega
      · have := a1 e; omega
      · have := a2 e; omega
      · have := a3 e; omega
    · exact (one ((L2.dN4 _ _ _ _ _ c4).2 g)).elim
  exact (one (L2.dN0 _ _ _ _ _ c1 c2 c3 c4)).elim
theorem nums_small (l : List UInt8) : ∀ c ∈ l, c.toNat < 128 → (c.toNat : Int) ∈ nums l := by
  induction l using L2.runes_ind with
  | h0 => intro c hc; cases hc
  | h1 l hl ih =>
    intro c hc h128
    rw [L2.nums_cons hl]
    obtain ⟨j, hj, rfl⟩ := List.getElem_of_mem hc
    have hg : l.getD j 0 = l[j] := by rw [List.getD_eq_getElem?_getD, List.getElem?_eq_getElem hj]; rfl
    by_cases hw : j < (dec l).2
    · obtain ⟨_, _, h1⟩ := dec_small l j hw (by rw [hg]; exact h128)
      rw [h1, hg]
      exact List.mem_cons_self ..
    · refine List.mem_cons_of_mem _ (ih _ ?_ h128)
      rw [List.mem_iff_getElem]
      exact ⟨j - (dec l).2, by rw [List.length_drop]; omega, by rw [List.getElem_drop]; congr 1; omega⟩
theorem chk_ltr {l : List UInt8} (h : chk l = true) : ∀ c ∈ nums l, ltr c = true := by
  have := (L2.chk_iff l).1 h
  exact List.all_eq_true.1 this.2.2.2
theorem name_blank {l : List UInt8} (h : chk l = true) : (32 : UInt8) ∉ l := fun hm => by
  have h1 := chk_ltr h _ (nums_small l 32 hm (by decide))
  revert h1
  decide
theorem runes_size (l : List UInt8) : l.length ≤ 4 * (runes l).length := by
  induction l using L2.runes_ind with
  | h0 => simp [L2.runes_nil]
  | h1 l hl ih =>
    have hd := L2.dec_facts l hl
    rw [L2.runes_cons hl, List.length_cons]
    rw [List.length_drop] at ih
    omega
theorem name_size {l : List UInt8} (h : chk l = true) : l.length ≤ 128 := by
  have h1 := runes_size l
  have h2 := ((L2.chk_iff l).1 h).2.1
  rw [L2.nums_len] at h2
  omega
theorem value_size {l : List UInt8} (h : vlu l = true) : l.length ≤ 128 := by
  rw [L2.vlu_eq] at h
  simp only [Bool.and_eq_true, decide_eq_true_eq] at h
  have h1 := runes_size l
  have h2 := h.1.1
  rw [L2.nums_len] at h2
  omega

/-! Bytes, there and back. -/
/-- A text's bytes. -/
def txtB (l : List UInt8) : List UInt8 := encN l.length ++ l
/-- A transaction's bytes. -/
def bytesT (t : Txx) : List UInt8 := encN t.kind.toNat ++ (encN t.nonce.toNat ++ (txtB t.frm ++ (if t.kind = 1 then txtB t.to ++ encN t.amount.toNat else txtB t.key ++ txtB t.val)))
def numV (p : List UInt8 × Int) : Int := (rdN 0 0 p.1).1
/-- What Take tells and leaves, when all was read. -/
def endT (t : Txx) (p : List UInt8 × Int) : Txx × (List UInt8 × Int) := if p.2 ≠ 0 ∨ right t = false then (zeroX, failS 80 p) else (t, p)
/-- What Take tells and leaves. -/
def takeT (p : List UInt8 × Int) : Txx × (List UInt8 × Int) :=
  if numV p ≠ 1 ∧ numV p ≠ 2 then (zeroX, failS 80 (numS p))
  else if numV p = 1 then endT ⟨1, textV (numS (numS p)), textV (textS (numS (numS p))), [], [], numV (textS (textS (numS (numS p)))), numV (numS p)⟩ (numS (textS (textS (numS (numS p)))))
  else endT ⟨2, textV (numS (numS p)), [], textV (textS (numS (numS p))), textV (textS (textS (numS (numS p)))), 0, numV (numS p)⟩ (textS (textS (textS (numS (numS p)))))
theorem num_back (n : Nat) (rest : List UInt8) (h : n ≤ 4611686018427387904) : numV (encN n ++ rest, 0) = n ∧ numS (encN n ++ rest, 0) = (rest, 0) := by
  have hr := L3.rd_enc0 n rest h
  unfold numV L3.numS
  simp only [hr]
  exact ⟨trivial, by rw [if_pos trivial, List.drop_left]⟩
theorem text_back (s rest : List UInt8) (h : s.length ≤ 65536) : textV (txtB s ++ rest, 0) = s ∧ textS (txtB s ++ rest, 0) = (rest, 0) := by
  have hr := L3.rd_enc0 s.length (s ++ rest) (by omega)
  have hn := (num_back s.length (s ++ rest) (by omega)).2
  have e : txtB s ++ rest = encN s.length ++ (s ++ rest) := List.append_assoc ..
  have hv : mostV 65536 (encN s.length ++ (s ++ rest), 0) = s.length := by unfold L3.mostV; simp only [hr]; rw [if_neg (by omega)]
  have hm : mostS 65536 (encN s.length ++ (s ++ rest), 0) = (s ++ rest, 0) := by unfold L3.mostS; simp only [hr]; rw [if_neg (by omega), hn]
  unfold L3.textV L3.textS
  rw [e, hv, hm]
  have hle : ¬ (((s ++ rest).length : Nat) : Int) < (s.length : Int) := by rw [List.length_append]; omega
  exact ⟨by rw [if_neg hle]; simp, by rw [if_neg hle]; simp⟩
/-- What was written is taken. -/
theorem take_bytes (t : Txx) (rest : List UInt8) (h : right t = true) : takeT (bytesT t ++ rest, 0) = (t, (rest, 0)) := by
  have hend : ∀ p : List UInt8 × Int, p.2 = 0 → endT t p = (t, p) := fun p hp => by unfold endT; rw [if_neg (by rw [hp, h]; simp)]
  by_cases hk : t.kind = 1
  · obtain ⟨h1, h2, h3, h4, h5, h6⟩ := right_move h hk
    obtain ⟨kd, fr, to, ky, vl, am, no⟩ := t
    dsimp only at hk h1 h2 h3 h4 h5 h6
    subst hk h5 h6
    have hn := posN_in h1
    have ha := posN_in h4
    have e : bytesT ⟨1, fr, to, [], [], am, no⟩ ++ rest = encN 1 ++ (encN no.toNat ++ (txtB fr ++ (txtB to ++ (encN am.toNat ++ rest)))) := by
      unfold bytesT; rw [if_pos rfl]; simp
    obtain ⟨k1, k2⟩ := num_back 1 (encN no.toNat ++ (txtB fr ++ (txtB to ++ (encN am.toNat ++ rest)))) (by omega)
    obtain ⟨n1, n2⟩ := num_back no.toNat (txtB fr ++ (txtB to ++ (encN am.toNat ++ rest))) (by omega)
    obtain ⟨f1, f2⟩ := text_back fr (txtB to ++ (encN am.toNat ++ rest)) (by have := name_size h2; omega)
    obtain ⟨t1, t2⟩ := text_back to (encN am.toNat ++ rest) (by have := name_size h3; omega)
    obtain ⟨a1, a2⟩ := num_back am.toNat rest (by omega)
    have en : ((no.toNat : Nat) : Int) = no := Int.toNat_of_nonneg (by omega)
    have ea : ((am.toNat : Nat) : Int) = am := Int.toNat_of_nonneg (by omega)
    rw [en] at n1
    rw [ea] at a1
    rw [e]
    unfold takeT
    simp only [k1, k2, n1, n2, f1, f2, t1, t2, a1, a2]
    rw [if_neg (by simp), if_pos (by rfl)]
    exact hend _ rfl
  · obtain ⟨h1, h2, h3, h4, h5, h6, h7⟩ := right_put h hk
    obtain ⟨kd, fr, to, ky, vl, am, no⟩ := t
    dsimp only at hk h1 h2 h3 h4 h5 h6 h7
    subst h7 h5 h6
    have hn := posN_in h1
    have e : bytesT ⟨2, fr, [], ky, vl, 0, no⟩ ++ rest = encN 2 ++ (encN no.toNat ++ (txtB fr ++ (txtB ky ++ (txtB vl ++ rest)))) := by
      unfold bytesT; rw [if_neg (show ¬ (2 : Int) = 1 by decide)]; simp
    obtain ⟨k1, k2⟩ := num_back 2 (encN no.toNat ++ (txtB fr ++ (txtB ky ++ (txtB vl ++ rest)))) (by omega)
    obtain ⟨n1, n2⟩ := num_back no.toNat (txtB fr ++ (txtB ky ++ (txtB vl ++ rest))) (by omega)
    obtain ⟨f1, f2⟩ := text_back fr (txtB ky ++ (txtB vl ++ rest)) (by have := name_size h2; omega)
    obtain ⟨t1, t2⟩ := text_back ky (txtB vl ++ rest) (by have := name_size h3; omega)
    obtain ⟨a1, a2⟩ := text_back vl rest (by have := value_size h4; omega)
    have en : ((no.toNat : Nat) : Int) = no := Int.toNat_of_nonneg (by omega)
    rw [en] at n1
    rw [e]
    unfold takeT
    simp only [k1, k2, n1, n2, f1, f2, t1, t2, a1, a2]
    rw [if_neg (by simp), if_neg (by decide)]
    exact hend _ rfl

/-! Words, there and back. -/
def wMove : List UInt8 := [109, 111, 118, 101]
def wPut : List UInt8 := [112, 117, 116]
def wGives : List UInt8 := [103, 105, 118, 101, 115]
def wSets : List UInt8 := [115, 101, 116, 115]
def wTo : List UInt8 := [116, 111]
/-- A number's digits. -/
def dgs (n : Int) : List UInt8 := decDigits n.toNat
/-- A transaction's words. -/
def wordsT (t : Txx) : List UInt8 :=
  (if t.kind = 1 then wMove else wPut) ++ 32 :: ((dgs t.nonce ++ [58]) ++ 32 :: (t.frm ++ 32 :: ((if t.kind = 1 then wGives else wSets) ++ 32 :: ((if t.kind = 1 then dgs t.amount else t.key) ++ 32 :: (wTo ++ 32 :: (if t.kind = 1 then t.to else t.val))))))
/-- Up to the first blank, and what stands behind that. -/
def cutW : List UInt8 → Option (List UInt8 × List UInt8)
  | [] => none
  | c :: r => if c = 32 then some ([], r) else (cutW r).map fun p => (c :: p.1, p.2)
/-- So many words. -/
def cuts : Nat → List UInt8 → Option (List (List UInt8) × List UInt8)
  | 0, l => some ([], l)
  | n + 1, l => match cutW l with
    | none => none
    | some p => (cuts n p.2).map fun q => (p.1 :: q.1, q.2)
def top62 : Int := 4611686018427387904
def rightO (t : Txx) : Option Txx := if right t = true then some t else none
/-- The transaction of six words and a rest. -/
def formT (a : List (List UInt8)) (z : List UInt8) : Option Txx :=
  if (a.getD 1 []).length < 2 ∨ (a.getD 1 []).getLast? ≠ some 58 ∨ a.getD 5 [] ≠ wTo then none
  else if L1.readE (a.getD 1 []).dropLast 1 top62 ≠ 0 then none
  else if a.getD 0 [] = wMove ∧ a.getD 3 [] = wGives then
    (if L1.readE (a.getD 4 []) 1 top62 ≠ 0 then none else rightO ⟨1, a.getD 2 [], z, [], [], L1.readV (a.getD 4 []) 1 top62, L1.readV (a.getD 1 []).dropLast 1 top62⟩)
  else if a.getD 0 [] = wPut ∧ a.getD 3 [] = wSets then rightO ⟨2, a.getD 2 [], [], a.getD 4 [], z, 0, L1.readV (a.getD 1 []).dropLast 1 top62⟩
  else none
def parseT (l : List UInt8) : Option Txx := (cuts 6 l).bind fun p => formT p.1 p.2
theorem cutW_app : ∀ (a r : List UInt8), (32 : UInt8) ∉ a → cutW (a ++ 32 :: r) = some (a, r)
  | [], r, _ => by simp [cutW]
  | c :: a, r, h => by
    have hc : c ≠ 32 := fun e => h (by rw [e]; exact List.mem_cons_self ..)
    have ih := cutW_app a r fun hm => h (List.mem_cons_of_mem _ hm)
    simp only [List.cons_append, cutW, if_neg hc, ih, Option.map_some]
theorem cuts_app (n : Nat) (a r : List UInt8) (h : (32 : UInt8) ∉ a) : cuts (n + 1) (a ++ 32 :: r) = (cuts n r).map fun q => (a :: q.1, q.2) := by
  simp only [cuts, cutW_app a r h]
theorem dgs_blank (n : Int) : (32 : UInt8) ∉ dgs n := fun hm => by
  have := List.all_eq_true.1 (L1.dd_all n.toNat) _ hm
  revert this
  decide
theorem dgs_read {n : Int} (h : posN n = true) : L1.readE (dgs n) 1 top62 = 0 ∧ L1.readV (dgs n) 1 top62 = n := by
  obtain ⟨h0, h1⟩ := posN_in h
  obtain ⟨u, rfl⟩ : ∃ u : Nat, n = u := ⟨n.toNat, by omega⟩
  unfold dgs top62
  rw [Int.toNat_natCast]
  have hb : L1.body (decDigits u) = decDigits u := by unfold L1.body trimPrefix; rw [show hasPrefix (decDigits u) [45] = false from L1.dd_not45 u]; rfl
  have hf : L1.form (decDigits u) = true := by unfold L1.form; rw [hb, L1.dd_plain, L1.dd_not45]; rfl
  have hv : L1.valB (L1.body (decDigits u)) (L1.neg (decDigits u)) = u := by rw [hb, L1.dd_not45]; simp [L1.valB, L1.dd_dv]
  have hfit : L1.fits (L1.body (decDigits u)) (L1.neg (decDigits u)) = true := by rw [hb, L1.dd_not45]; unfold L1.fits; rw [L1.dd_dv]; simp; omega
  have ho : L1.okR (decDigits u) 1 4611686018427387904 = true := by
    unfold L1.okR; rw [hv, hfit]; simp only [Bool.true_and, Bool.and_eq_true, decide_eq_true_eq]; omega
  unfold L1.readV L1.readE
  rw [hf, ho, hv]
  exact ⟨rfl, rfl⟩
theorem dgs_pos (n : Int) : 1 ≤ (dgs n).length := List.length_pos_iff.2 (L1.dd_ne n.toNat)
/-- What was printed is parsed. -/
theorem parse_words (t : Txx) (h : right t = true) : parseT (wordsT t) = some t := by
  have b1 : (32 : UInt8) ∉ dgs t.nonce ++ [58] := fun hm => by
    rw [List.mem_append] at hm
    rcases hm with hm | hm
    · exact dgs_blank _ hm
    · revert hm; decide
  have l1 : ¬ (dgs t.nonce ++ [58]).length < 2 := by have := dgs_pos t.nonce; simp; omega
  have l2 : (dgs t.nonce ++ [58]).getLast? = some 58 := by simp
  have l3 : (dgs t.nonce ++ [58]).dropLast = dgs t.nonce := by simp
  by_cases hk : t.kind = 1
  · obtain ⟨h1, h2, h3, h4, h5, h6⟩ := right_move h hk
    obtain ⟨n1, n2⟩ := dgs_read h1
    obtain ⟨a1, a2⟩ := dgs_read h4
    have hc : cuts 6 (wordsT t) = some ([wMove, dgs t.nonce ++ [58], t.frm, wGives, dgs t.amount, wTo], t.to) := by
      unfold wordsT
      simp only [if_pos hk]
      rw [cuts_app 5 _ _ (by decide), cuts_app 4 _ _ b1, cuts_app 3 _ _ (name_blank h2), cuts_app 2 _ _ (by decide), cuts_app 1 _ _ (dgs_blank _), cuts_app 0 _ _ (by decide)]
      rfl
    unfold parseT
    rw [hc]
    show formT [wMove, dgs t.nonce ++ [58], t.frm, wGives, dgs t.amount, wTo] t.to = some t
    unfold formT
    simp only [List.getD_cons_zero, List.getD_cons_succ]
    rw [if_neg (by simp only [l2, not_or]; exact ⟨l1, by simp, by simp⟩), l3, if_neg (by rw [n1]; simp), if_pos (by first | exact ⟨rfl, rfl⟩ | exact ⟨trivial, trivial⟩ | simp), if_neg (by rw [a1]; simp), n2, a2]
    have e : (⟨1, t.frm, t.to, [], [], t.amount, t.nonce⟩ : Txx) = t := by
      obtain ⟨kd, fr, to, ky, vl, am, no⟩ := t
      dsimp only at hk h5 h6
      subst hk h5 h6
      rfl
    rw [e]
    unfold rightO
    rw [if_pos h]
  · obtain ⟨h1, h2, h3, h4, h5, h6, h7⟩ := right_put h hk
    obtain ⟨n1, n2⟩ := dgs_read h1
    have hc : cuts 6 (wordsT t) = some ([wPut, dgs t.nonce ++ [58], t.frm, wSets, t.key, wTo], t.val) := by
      unfold wordsT
      simp only [if_neg hk]
      rw [cuts_app 5 _ _ (by decide), cuts_app 4 _ _ b1, cuts_app 3 _ _ (name_blank h2), cuts_app 2 _ _ (by decide), cuts_app 1 _ _ (name_blank h3), cuts_app 0 _ _ (by decide)]
      rfl
    unfold parseT
    rw [hc]
    show formT [wPut, dgs t.nonce ++ [58], t.frm, wSets, t.key, wTo] t.val = some t
    unfold formT
    simp only [List.getD_cons_zero, List.getD_cons_succ]
    rw [if_neg (by simp only [l2, not_or]; exact ⟨l1, by simp, by simp⟩), l3, if_neg (by rw [n1]; simp), if_neg (fun h => by have := h.1; revert this; decide), if_pos (by first | exact ⟨rfl, rfl⟩ | exact ⟨trivial, trivial⟩ | simp), n2]
    have e : (⟨2, t.frm, [], t.key, t.val, 0, t.nonce⟩ : Txx) = t := by
      obtain ⟨kd, fr, to, ky, vl, am, no⟩ := t
      dsimp only at h5 h6 h7
      subst h5 h6 h7
      rfl
    rw [e]
    unfold rightO
    rw [if_pos h]

/-! Blanks of a range over a text are the text's blank bytes. -/
theorem dec_32 (l : List UInt8) (h : (dec l).1 = 32) : (dec l).2 = 1 ∧ l.getD 0 0 = 32 := by
  generalize h0 : (l.getD 0 0).toNat = b0
  generalize h1 : (l.getD 1 0).toNat = b1
  generalize h2 : (l.getD 2 0).toNat = b2
  generalize h3 : (l.getD 3 0).toNat = b3
  have hd : dec l = decodeN l.length b0 b1 b2 b3 := by unfold L2.dec; rw [h0, h1, h2, h3]
  rw [hd] at h ⊢
  by_cases c1 : b0 < 128
  · rw [L2.dN1 _ _ _ _ _ c1] at h ⊢
    refine ⟨rfl, ?_⟩
    have h32 : b0 = 32 := h
    have : (l.getD 0 0).toNat = (32 : UInt8).toNat := by rw [h0, h32]; rfl
    exact UInt8.toNat_inj.1 this
  exfalso
  have one : decodeN l.length b0 b1 b2 b3 = (65533, 1) → False := fun e => by rw [e] at h; simp at h
  by_cases c2 : b0 / 32 = 6
  · by_cases g : L2.good2 l.length b0 b1
    · rw [(L2.dN2 _ _ _ b2 b3 c2).1 g] at h
      have := g.2
      simp at h
      omega
    · exact one ((L2.dN2 _ _ _ b2 b3 c2).2 g)
  by_cases c3 : b0 / 16 = 14
  · by_cases g : L2.good3 l.length b0 b1 b2
    · rw [(L2.dN3 _ _ _ _ b3 c3).1 g] at h
      have := g.2.1
      simp at h
      omega
    · exact one ((L2.dN3 _ _ _ _ b3 c3).2 g)
  by_cases c4 : b0 / 8 = 30
  · by_cases g : L2.good4 l.length b0 b1 b2 b3
    · rw [(L2.dN4 _ _ _ _ _ c4).1 g] at h
      have := g.2.1
      simp at h
      omega
    · exact one ((L2.dN4 _ _ _ _ _ c4).2 g)
  exact one (L2.dN0 _ _ _ _ _ c1 c2 c3 c4)
theorem cutW_skip : ∀ (a r : List UInt8), (32 : UInt8) ∉ a → cutW (a ++ r) = (cutW r).map fun p => (a ++ p.1, p.2)
  | [], r, _ => by cases h : cutW r <;> simp [h]
  | c :: a, r, h => by
    have hc : c ≠ 32 := fun e => h (by rw [e]; exact List.mem_cons_self ..)
    have ih := cutW_skip a r fun hm => h (List.mem_cons_of_mem _ hm)
    simp only [List.cons_append, cutW, if_neg hc, ih, Option.map_map]
    rfl
/-- The first word, rune by rune. -/
theorem cutW_dec (l : List UInt8) (hl : l ≠ []) : cutW l = if (dec l).1 = 32 then some ([], l.drop 1) else (cutW (l.drop (dec l).2)).map fun p => (l.take (dec l).2 ++ p.1, p.2) := by
  by_cases h : (dec l).1 = 32
  · rw [if_pos h]
    obtain ⟨_, h0⟩ := dec_32 l h
    cases l with
    | nil => exact absurd rfl hl
    | cons c r =>
      have hc : c = 32 := h0
      subst hc
      simp [cutW]
  · rw [if_neg h]
    have hn : (32 : UInt8) ∉ l.take (dec l).2 := fun hm => by
      obtain ⟨j, hj, he⟩ := List.getElem_of_mem hm
      rw [List.length_take] at hj
      have hg : l.getD j 0 = 32 := by
        rw [List.getD_eq_getElem?_getD, List.getElem?_eq_getElem (by omega)]
        rw [List.getElem_take] at he
        exact he
      obtain ⟨_, _, h1⟩ := dec_small l j (by omega) (by rw [hg]; decide)
      rw [hg] at h1
      exact h h1
    have := cutW_skip (l.take (dec l).2) (l.drop (dec l).2) hn
    rw [List.take_append_drop] at this
    exact this
end Go.Proofs.YtomaaidhmccngaaGreatDoor
