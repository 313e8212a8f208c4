/-
  Texts of one layer in one: Tx, Val, Call, Rd.
-/
import Derived.Test.YtgmejaiifibfoaaGreatDoorL1
import Derived.Test.YtgmejaiifibfoaaGreatDoorL2
import Derived.Test.YtgmejaiifibfoaaGreatDoorL3
import Derived.Test.YtgmejaiifibfoaaGreatDoorParts
import Derived.Maps.OwnSet
import Derived.Maps.AppendAt
import Derived.DeepKeys5
import Derived.Laws.StructEq
import Derived.Laws.Tables
import Derived.Test.YtgmejaiifibfoaaGreatDoorL6Foot

/-
  Transactions, plainly: which are right, their bytes, their words; what is read of bytes and of words; both ways.
-/
set_option linter.unusedSimpArgs false
set_option linter.unusedVariables false
namespace Go.Proofs.YtgmejaiifibfoaaGreatDoor
open Go.RowKit Go.Lib
open L2 (chk vlu nums dec runes ltr led)
open L3 (encN rdN numS textS textV mostV mostS failS)

/-- A transaction. -/
structure Txx where
  kind : Int
  frm : List UInt8
  to : List UInt8
  key : List UInt8
  val : List UInt8
  amount : Int
  nonce : Int
deriving DecidableEq, Inhabited
def zeroX : Txx := ⟨0, [], [], [], [], 0, 0⟩
/-- From 1 to 2^62? -/
def posN (n : Int) : Bool := decide (1 ≤ n ∧ n ≤ 4611686018427387904)
theorem posN_in {n : Int} (h : posN n = true) : 1 ≤ n ∧ n ≤ 4611686018427387904 := of_decide_eq_true h
/-- Is it right? -/
def right (t : Txx) : Bool :=
  posN t.nonce && chk t.frm && ((decide (t.kind = 1) && (chk t.to && posN t.amount && t.key.isEmpty && t.val.isEmpty)) || (decide (t.kind = 2) && (chk t.key && vlu t.val && t.to.isEmpty && decide (t.amount = 0))))
theorem right_move {t : Txx} (h : right t = true) (hk : t.kind = 1) : posN t.nonce = true ∧ chk t.frm = true ∧ chk t.to = true ∧ posN t.amount = true ∧ t.key = [] ∧ t.val = [] := by
  unfold right at h
  rw [hk] at h
  simp only [Bool.and_eq_true, Bool.or_eq_true, decide_eq_true_eq, List.isEmpty_iff] at h
  obtain ⟨⟨h1, h2⟩, h3 | h3⟩ := h
  · exact ⟨h1, h2, h3.2.1.1.1, h3.2.1.1.2, h3.2.1.2, h3.2.2⟩
  · omega
theorem right_put {t : Txx} (h : right t = true) (hk : t.kind ≠ 1) : posN t.nonce = true ∧ chk t.frm = true ∧ chk t.key = true ∧ vlu t.val = true ∧ t.to = [] ∧ t.amount = 0 ∧ t.kind = 2 := by
  unfold right at h
  simp only [Bool.and_eq_true, Bool.or_eq_true, decide_eq_true_eq, List.isEmpty_iff] at h
  obtain ⟨⟨h1, h2⟩, h3 | h3⟩ := h
  · exact absurd h3.1 hk
  · exact ⟨h1, h2, h3.2.1.1.1, h3.2.1.1.2, h3.2.1.2, h3.2.2, h3.1⟩

/-! Names have no blanks, and are short. -/
/-- A byte below 128 is a rune of its own. -/
theorem dec_small (l : List UInt8) (j : Nat) (hj : j < (dec l).2) (hs : (l.getD j 0).toNat < 128) : j = 0 ∧ (dec l).2 = 1 ∧ (dec l).1 = (l.getD j 0).toNat := by
  have hb := L2.byte_lt l
  generalize h0 : (l.getD 0 0).toNat = b0 at *
  generalize h1 : (l.getD 1 0).toNat = b1 at *
  generalize h2 : (l.getD 2 0).toNat = b2 at *
  generalize h3 : (l.getD 3 0).toNat = b3 at *
  have hd : dec l = decodeN l.length b0 b1 b2 b3 := by unfold L2.dec; rw [h0, h1, h2, h3]
  rw [hd] at hj ⊢
  by_cases c1 : b0 < 128
  · rw [L2.dN1 _ _ _ _ _ c1] at hj ⊢
    have : j = 0 := by simpa using hj
    subst this
    exact ⟨rfl, rfl, h0.symm⟩
  have h255 : b0 < 256 := by rw [← h0]; exact hb 0
  have one : decodeN l.length b0 b1 b2 b3 = (65533, 1) → False := fun e => by
    rw [e] at hj
    have : j = 0 := by simpa using hj
    subst this
    omega
  have at_ : ∀ k, j = k → (l.getD k 0).toNat < 128 := fun k e => by rw [← e]; exact hs
  have a0 := fun e => at_ 0 e
  have a1 := fun e => at_ 1 e
  have a2 := fun e => at_ 2 e
  have a3 := fun e => at_ 3 e
  rw [h0] at a0
  rw [h1] at a1
  rw [h2] at a2
  rw [h3] at a3
  by_cases c2 : b0 / 32 = 6
  · by_cases g : L2.good2 l.length b0 b1
    · rw [(L2.dN2 _ _ _ b2 b3 c2).1 g] at hj
      obtain ⟨⟨_, g1⟩, _⟩ := g
      rcases (show j = 0 ∨ j = 1 by simp at hj; omega) with e | e
      · have := a0 e; omega
      · have := a1 e; omega
    · exact (one ((L2.dN2 _ _ _ b2 b3 c2).2 g)).elim
  by_cases c3 : b0 / 16 = 14
  · by_cases g : L2.good3 l.length b0 b1 b2
    · rw [(L2.dN3 _ _ _ _ b3 c3).1 g] at hj
      obtain ⟨⟨⟨_, g1⟩, ⟨_, g2⟩⟩, _⟩ := g
      rcases (show j = 0 ∨ j = 1 ∨ j = 2 by simp at hj; omega) with e | e | e
      · have := a0 e; omega
      · have := a1 e; omega
      · have := a2 e; omega
    · exact (one ((L2.dN3 _ _ _ _ b3 c3).2 g)).elim
  by_cases c4 : b0 / 8 = 30
  · by_cases g : L2.good4 l.length b0 b1 b2 b3
    · rw [(L2.dN4 _ _ _ _ _ c4).1 g] at hj
      obtain ⟨⟨⟨_, g1⟩, ⟨_, g2⟩, ⟨_, g3⟩⟩, _⟩ := g
      rcases (show j = 0 ∨ j = 1 ∨ j = 2 ∨ j = 3 by simp at hj; omega) with e | e | e | e
      · have := a0 e; omega
      · have := a1 e; omega
      · have := a2 e; omega
      · have := a3 e; omega
    · exact (one ((L2.dN4 _ _ _ _ _ c4).2 g)).elim
  exact (one (L2.dN0 _ _ _ _ _ c1 c2 c3 c4)).elim
theorem nums_small (l : List UInt8) : ∀ c ∈ l, c.toNat < 128 → (c.toNat : Int) ∈ nums l := by
  induction l using L2.runes_ind with
  | h0 => intro c hc; cases hc
  | h1 l hl ih =>
    intro c hc h128
    rw [L2.nums_cons hl]
    obtain ⟨j, hj, rfl⟩ := List.getElem_of_mem hc
    have hg : l.getD j 0 = l[j] := by rw [List.getD_eq_getElem?_getD, List.getElem?_eq_getElem hj]; rfl
    by_cases hw : j < (dec l).2
    · obtain ⟨_, _, h1⟩ := dec_small l j hw (by rw [hg]; exact h128)
      rw [h1, hg]
      exact List.mem_cons_self ..
    · refine List.mem_cons_of_mem _ (ih _ ?_ h128)
      rw [List.mem_iff_getElem]
      exact ⟨j - (dec l).2, by rw [List.length_drop]; omega, by rw [List.getElem_drop]; congr 1; omega⟩
theorem chk_ltr {l : List UInt8} (h : chk l = true) : ∀ c ∈ nums l, ltr c = true := by
  have := (L2.chk_iff l).1 h
  exact List.all_eq_true.1 this.2.2.2
theorem name_blank {l : List UInt8} (h : chk l = true) : (32 : UInt8) ∉ l := fun hm => by
  have h1 := chk_ltr h _ (nums_small l 32 hm (by decide))
  revert h1
  decide
theorem runes_size (l : List UInt8) : l.length ≤ 4 * (runes l).length := by
  induction l using L2.runes_ind with
  | h0 => simp [L2.runes_nil]
  | h1 l hl ih =>
    have hd := L2.dec_facts l hl
    rw [L2.runes_cons hl, List.length_cons]
    rw [List.length_drop] at ih
    omega
theorem name_size {l : List UInt8} (h : chk l = true) : l.length ≤ 128 := by
  have h1 := runes_size l
  have h2 := ((L2.chk_iff l).1 h).2.1
  rw [L2.nums_len] at h2
  omega
theorem value_size {l : List UInt8} (h : vlu l = true) : l.length ≤ 128 := by
  rw [L2.vlu_eq] at h
  simp only [Bool.and_eq_true, decide_eq_true_eq] at h
  have h1 := runes_size l
  have h2 := h.1.1
  rw [L2.nums_len] at h2
  omega

/-! Bytes, there and back. -/
/-- A text's bytes. -/
def txtB (l : List UInt8) : List UInt8 := encN l.length ++ l
/-- A transaction's bytes. -/
def bytesT (t : Txx) : List UInt8 := encN t.kind.toNat ++ (encN t.nonce.toNat ++ (txtB t.frm ++ (if t.kind = 1 then txtB t.to ++ encN t.amount.toNat else txtB t.key ++ txtB t.val)))
def numV (p : List UInt8 × Int) : Int := (rdN 0 0 p.1).1
/-- What Take tells and leaves, when all was read. -/
def endT (t : Txx) (p : List UInt8 × Int) : Txx × (List UInt8 × Int) := if p.2 ≠ 0 ∨ right t = false then (zeroX, failS 80 p) else (t, p)
/-- What Take tells and leaves. -/
def takeT (p : List UInt8 × Int) : Txx × (List UInt8 × Int) :=
  if numV p ≠ 1 ∧ numV p ≠ 2 then (zeroX, failS 80 (numS p))
  else if numV p = 1 then endT ⟨1, textV (numS (numS p)), textV (textS (numS (numS p))), [], [], numV (textS (textS (numS (numS p)))), numV (numS p)⟩ (numS (textS (textS (numS (numS p)))))
  else endT ⟨2, textV (numS (numS p)), [], textV (textS (numS (numS p))), textV (textS (textS (numS (numS p)))), 0, numV (numS p)⟩ (textS (textS (textS (numS (numS p)))))
theorem num_back (n : Nat) (rest : List UInt8) (h : n ≤ 4611686018427387904) : numV (encN n ++ rest, 0) = n ∧ numS (encN n ++ rest, 0) = (rest, 0) := by
  have hr := L3.rd_enc0 n rest h
  unfold numV L3.numS
  simp only [hr]
  exact ⟨trivial, by rw [if_pos trivial, List.drop_left]⟩
theorem text_back (s rest : List UInt8) (h : s.length ≤ 65536) : textV (txtB s ++ rest, 0) = s ∧ textS (txtB s ++ rest, 0) = (rest, 0) := by
  have hr := L3.rd_enc0 s.length (s ++ rest) (by omega)
  have hn := (num_back s.length (s ++ rest) (by omega)).2
  have e : txtB s ++ rest = encN s.length ++ (s ++ rest) := List.append_assoc ..
  have hv : mostV 65536 (encN s.length ++ (s ++ rest), 0) = s.length := by unfold L3.mostV; simp only [hr]; rw [if_neg (by omega)]
  have hm : mostS 65536 (encN s.length ++ (s ++ rest), 0) = (s ++ rest, 0) := by unfold L3.mostS; simp only [hr]; rw [if_neg (by omega), hn]
  unfold L3.textV L3.textS
  rw [e, hv, hm]
  have hle : ¬ (((s ++ rest).length : Nat) : Int) < (s.length : Int) := by rw [List.length_append]; omega
  exact ⟨by rw [if_neg hle]; simp, by rw [if_neg hle]; simp⟩
/-- What was written is taken. -/
theorem take_bytes (t : Txx) (rest : List UInt8) (h : right t = true) : takeT (bytesT t ++ rest, 0) = (t, (rest, 0)) := by
  have hend : ∀ p : List UInt8 × Int, p.2 = 0 → endT t p = (t, p) := fun p hp => by unfold endT; rw [if_neg (by rw [hp, h]; simp)]
  by_cases hk : t.kind = 1
  · obtain ⟨h1, h2, h3, h4, h5, h6⟩ := right_move h hk
    obtain ⟨kd, fr, to, ky, vl, am, no⟩ := t
    dsimp only at hk h1 h2 h3 h4 h5 h6
    subst hk h5 h6
    have hn := posN_in h1
    have ha := posN_in h4
    have e : bytesT ⟨1, fr, to, [], [], am, no⟩ ++ rest = encN 1 ++ (encN no.toNat ++ (txtB fr ++ (txtB to ++ (encN am.toNat ++ rest)))) := by
      unfold bytesT; rw [if_pos rfl]; simp
    obtain ⟨k1, k2⟩ := num_back 1 (encN no.toNat ++ (txtB fr ++ (txtB to ++ (encN am.toNat ++ rest)))) (by omega)
    obtain ⟨n1, n2⟩ := num_back no.toNat (txtB fr ++ (txtB to ++ (encN am.toNat ++ rest))) (by omega)
    obtain ⟨f1, f2⟩ := text_back fr (txtB to ++ (encN am.toNat ++ rest)) (by have := name_size h2; omega)
    obtain ⟨t1, t2⟩ := text_back to (encN am.toNat ++ rest) (by have := name_size h3; omega)
    obtain ⟨a1, a2⟩ := num_back am.toNat rest (by omega)
    have en : ((no.toNat : Nat) : Int) = no := Int.toNat_of_nonneg (by omega)
    have ea : ((am.toNat : Nat) : Int) = am := Int.toNat_of_nonneg (by omega)
    rw [en] at n1
    rw [ea] at a1
    rw [e]
    unfold takeT
    simp only [k1, k2, n1, n2, f1, f2, t1, t2, a1, a2]
    rw [if_neg (by simp), if_pos (by rfl)]
    exact hend _ rfl
  · obtain ⟨h1, h2, h3, h4, h5, h6, h7⟩ := right_put h hk
    obtain ⟨kd, fr, to, ky, vl, am, no⟩ := t
    dsimp only at hk h1 h2 h3 h4 h5 h6 h7
    subst h7 h5 h6
    have hn := posN_in h1
    have e : bytesT ⟨2, fr, [], ky, vl, 0, no⟩ ++ rest = encN 2 ++ (encN no.toNat ++ (txtB fr ++ (txtB ky ++ (txtB vl ++ rest)))) := by
      unfold bytesT; rw [if_neg (show ¬ (2 : Int) = 1 by decide)]; simp
    obtain ⟨k1, k2⟩ := num_back 2 (encN no.toNat ++ (txtB fr ++ (txtB ky ++ (txtB vl ++ rest)))) (by omega)
    obtain ⟨n1, n2⟩ := num_back no.toNat (txtB fr ++ (txtB ky ++ (txtB vl ++ rest))) (by omega)
    obtain ⟨f1, f2⟩ := text_back fr (txtB ky ++ (txtB vl ++ rest)) (by have := name_size h2; omega)
    obtain ⟨t1, t2⟩ := text_back ky (txtB vl ++ rest) (by have := name_size h3; omega)
    obtain ⟨a1, a2⟩ := text_back vl rest (by have := value_size h4; omega)
    have en : ((no.toNat : Nat) : Int) = no := Int.toNat_of_nonneg (by omega)
    rw [en] at n1
    rw [e]
    unfold takeT
    simp only [k1, k2, n1, n2, f1, f2, t1, t2, a1, a2]
    rw [if_neg (by simp), if_neg (by decide)]
    exact hend _ rfl

/-! Words, there and back. -/
def wMove : List UInt8 := [109, 111, 118, 101]
def wPut : List UInt8 := [112, 117, 116]
def wGives : List UInt8 := [103, 105, 118, 101, 115]
def wSets : List UInt8 := [115, 101, 116, 115]
def wTo : List UInt8 := [116, 111]
/-- A number's digits. -/
def dgs (n : Int) : List UInt8 := decDigits n.toNat
/-- A transaction's words. -/
def wordsT (t : Txx) : List UInt8 :=
  (if t.kind = 1 then wMove else wPut) ++ 32 :: ((dgs t.nonce ++ [58]) ++ 32 :: (t.frm ++ 32 :: ((if t.kind = 1 then wGives else wSets) ++ 32 :: ((if t.kind = 1 then dgs t.amount else t.key) ++ 32 :: (wTo ++ 32 :: (if t.kind = 1 then t.to else t.val))))))
/-- Up to the first blank, and what stands behind that. -/
def cutW : List UInt8 → Option (List UInt8 × List UInt8)
  | [] => none
  | c :: r => if c = 32 then some ([], r) else (cutW r).map fun p => (c :: p.1, p.2)
/-- So many words. -/
def cuts : Nat → List UInt8 → Option (List (List UInt8) × List UInt8)
  | 0, l => some ([], l)
  | n + 1, l => match cutW l with
    | none => none
    | some p => (cuts n p.2).map fun q => (p.1 :: q.1, q.2)
def top62 : Int := 4611686018427387904
def rightO (t : Txx) : Option Txx := if right t = true then some t else none
/-- The transaction of six words and a rest. -/
def formT (a : List (List UInt8)) (z : List UInt8) : Option Txx :=
  if (a.getD 1 []).length < 2 ∨ (a.getD 1 []).getLast? ≠ some 58 ∨ a.getD 5 [] ≠ wTo then none
  else if L1.readE (a.getD 1 []).dropLast 1 top62 ≠ 0 then none
  else if a.getD 0 [] = wMove ∧ a.getD 3 [] = wGives then
    (if L1.readE (a.getD 4 []) 1 top62 ≠ 0 then none else rightO ⟨1, a.getD 2 [], z, [], [], L1.readV (a.getD 4 []) 1 top62, L1.readV (a.getD 1 []).dropLast 1 top62⟩)
  else if a.getD 0 [] = wPut ∧ a.getD 3 [] = wSets then rightO ⟨2, a.getD 2 [], [], a.getD 4 [], z, 0, L1.readV (a.getD 1 []).dropLast 1 top62⟩
  else none
def parseT (l : List UInt8) : Option Txx := (cuts 6 l).bind fun p => formT p.1 p.2
theorem cutW_app : ∀ (a r : List UInt8), (32 : UInt8) ∉ a → cutW (a ++ 32 :: r) = some (a, r)
  | [], r, _ => by simp [cutW]
  | c :: a, r, h => by
    have hc : c ≠ 32 := fun e => h (by rw [e]; exact List.mem_cons_self ..)
    have ih := cutW_app a r fun hm => h (List.mem_cons_of_mem _ hm)
    simp only [List.cons_append, cutW, if_neg hc, ih, Option.map_some]
theorem cuts_app (n : Nat) (a r : List UInt8) (h : (32 : UInt8) ∉ a) : cuts (n + 1) (a ++ 32 :: r) = (cuts n r).map fun q => (a :: q.1, q.2) := by
  simp only [cuts, cutW_app a r h]
theorem dgs_blank (n : Int) : (32 : UInt8) ∉ dgs n := fun hm => by
  have := List.all_eq_true.1 (L1.dd_all n.toNat) _ hm
  revert this
  decide
theorem dgs_read {n : Int} (h : posN n = true) : L1.readE (dgs n) 1 top62 = 0 ∧ L1.readV (dgs n) 1 top62 = n := by
  obtain ⟨h0, h1⟩ := posN_in h
  obtain ⟨u, rfl⟩ : ∃ u : Nat, n = u := ⟨n.toNat, by omega⟩
  unfold dgs top62
  rw [Int.toNat_natCast]
  have hb : L1.body (decDigits u) = decDigits u := by unfold L1.body trimPrefix; rw [show hasPrefix (decDigits u) [45] = false from L1.dd_not45 u]; rfl
  have hf : L1.form (decDigits u) = true := by unfold L1.form; rw [hb, L1.dd_plain, L1.dd_not45]; rfl
  have hv : L1.valB (L1.body (decDigits u)) (L1.neg (decDigits u)) = u := by rw [hb, L1.dd_not45]; simp [L1.valB, L1.dd_dv]
  have hfit : L1.fits (L1.body (decDigits u)) (L1.neg (decDigits u)) = true := by rw [hb, L1.dd_not45]; unfold L1.fits; rw [L1.dd_dv]; simp; omega
  have ho : L1.okR (decDigits u) 1 4611686018427387904 = true := by
    unfold L1.okR; rw [hv, hfit]; simp only [Bool.true_and, Bool.and_eq_true, decide_eq_true_eq]; omega
  unfold L1.readV L1.readE
  rw [hf, ho, hv]
  exact ⟨rfl, rfl⟩
theorem dgs_pos (n : Int) : 1 ≤ (dgs n).length := List.length_pos_iff.2 (L1.dd_ne n.toNat)
/-- What was printed is parsed. -/
theorem parse_words (t : Txx) (h : right t = true) : parseT (wordsT t) = some t := by
  have b1 : (32 : UInt8) ∉ dgs t.nonce ++ [58] := fun hm => by
    rw [List.mem_append] at hm
    rcases hm with hm | hm
    · exact dgs_blank _ hm
    · revert hm; decide
  have l1 : ¬ (dgs t.nonce ++ [58]).length < 2 := by have := dgs_pos t.nonce; simp; omega
  have l2 : (dgs t.nonce ++ [58]).getLast? = some 58 := by simp
  have l3 : (dgs t.nonce ++ [58]).dropLast = dgs t.nonce := by simp
  by_cases hk : t.kind = 1
  · obtain ⟨h1, h2, h3, h4, h5, h6⟩ := right_move h hk
    obtain ⟨n1, n2⟩ := dgs_read h1
    obtain ⟨a1, a2⟩ := dgs_read h4
    have hc : cuts 6 (wordsT t) = some ([wMove, dgs t.nonce ++ [58], t.frm, wGives, dgs t.amount, wTo], t.to) := by
      unfold wordsT
      simp only [if_pos hk]
      rw [cuts_app 5 _ _ (by decide), cuts_app 4 _ _ b1, cuts_app 3 _ _ (name_blank h2), cuts_app 2 _ _ (by decide), cuts_app 1 _ _ (dgs_blank _), cuts_app 0 _ _ (by decide)]
      rfl
    unfold parseT
    rw [hc]
    show formT [wMove, dgs t.nonce ++ [58], t.frm, wGives, dgs t.amount, wTo] t.to = some t
    unfold formT
    simp only [List.getD_cons_zero, List.getD_cons_succ]
    rw [if_neg (by simp only [l2, not_or]; exact ⟨l1, by simp, by simp⟩), l3, if_neg (by rw [n1]; simp), if_pos (by first | exact ⟨rfl, rfl⟩ | exact ⟨trivial, trivial⟩ | simp), if_neg (by rw [a1]; simp), n2, a2]
    have e : (⟨1, t.frm, t.to, [], [], t.amount, t.nonce⟩ : Txx) = t := by
      obtain ⟨kd, fr, to, ky, vl, am, no⟩ := t
      dsimp only at hk h5 h6
      subst hk h5 h6
      rfl
    rw [e]
    unfold rightO
    rw [if_pos h]
  · obtain ⟨h1, h2, h3, h4, h5, h6, h7⟩ := right_put h hk
    obtain ⟨n1, n2⟩ := dgs_read h1
    have hc : cuts 6 (wordsT t) = some ([wPut, dgs t.nonce ++ [58], t.frm, wSets, t.key, wTo], t.val) := by
      unfold wordsT
      simp only [if_neg hk]
      rw [cuts_app 5 _ _ (by decide), cuts_app 4 _ _ b1, cuts_app 3 _ _ (name_blank h2), cuts_app 2 _ _ (by decide), cuts_app 1 _ _ (name_blank h3), cuts_app 0 _ _ (by decide)]
      rfl
    unfold parseT
    rw [hc]
    show formT [wPut, dgs t.nonce ++ [58], t.frm, wSets, t.key, wTo] t.val = some t
    unfold formT
    simp only [List.getD_cons_zero, List.getD_cons_succ]
    rw [if_neg (by simp only [l2, not_or]; exact ⟨l1, by simp, by simp⟩), l3, if_neg (by rw [n1]; simp), if_neg (fun h => by have := h.1; revert this; decide), if_pos (by first | exact ⟨rfl, rfl⟩ | exact ⟨trivial, trivial⟩ | simp), n2]
    have e : (⟨2, t.frm, [], t.key, t.val, 0, t.nonce⟩ : Txx) = t := by
      obtain ⟨kd, fr, to, ky, vl, am, no⟩ := t
      dsimp only at h5 h6 h7
      subst h5 h6 h7
      rfl
    rw [e]
    unfold rightO
    rw [if_pos h]

/-! Blanks of a range over a text are the text's blank bytes. -/
theorem dec_32 (l : List UInt8) (h : (dec l).1 = 32) : (dec l).2 = 1 ∧ l.getD 0 0 = 32 := by
  generalize h0 : (l.getD 0 0).toNat = b0
  generalize h1 : (l.getD 1 0).toNat = b1
  generalize h2 : (l.getD 2 0).toNat = b2
  generalize h3 : (l.getD 3 0).toNat = b3
  have hd : dec l = decodeN l.length b0 b1 b2 b3 := by unfold L2.dec; rw [h0, h1, h2, h3]
  rw [hd] at h ⊢
  by_cases c1 : b0 < 128
  · rw [L2.dN1 _ _ _ _ _ c1] at h ⊢
    refine ⟨rfl, ?_⟩
    have h32 : b0 = 32 := h
    have : (l.getD 0 0).toNat = (32 : UInt8).toNat := by rw [h0, h32]; rfl
    exact UInt8.toNat_inj.1 this
  exfalso
  have one : decodeN l.length b0 b1 b2 b3 = (65533, 1) → False := fun e => by rw [e] at h; simp at h
  by_cases c2 : b0 / 32 = 6
  · by_cases g : L2.good2 l.length b0 b1
    · rw [(L2.dN2 _ _ _ b2 b3 c2).1 g] at h
      have := g.2
      simp at h
      omega
    · exact one ((L2.dN2 _ _ _ b2 b3 c2).2 g)
  by_cases c3 : b0 / 16 = 14
  · by_cases g : L2.good3 l.length b0 b1 b2
    · rw [(L2.dN3 _ _ _ _ b3 c3).1 g] at h
      have := g.2.1
      simp at h
      omega
    · exact one ((L2.dN3 _ _ _ _ b3 c3).2 g)
  by_cases c4 : b0 / 8 = 30
  · by_cases g : L2.good4 l.length b0 b1 b2 b3
    · rw [(L2.dN4 _ _ _ _ _ c4).1 g] at h
      have := g.2.1
      simp at h
      omega
    · exact one ((L2.dN4 _ _ _ _ _ c4).2 g)
  exact one (L2.dN0 _ _ _ _ _ c1 c2 c3 c4)
theorem cutW_skip : ∀ (a r : List UInt8), (32 : UInt8) ∉ a → cutW (a ++ r) = (cutW r).map fun p => (a ++ p.1, p.2)
  | [], r, _ => by cases h : cutW r <;> simp [h]
  | c :: a, r, h => by
    have hc : c ≠ 32 := fun e => h (by rw [e]; exact List.mem_cons_self ..)
    have ih := cutW_skip a r fun hm => h (List.mem_cons_of_mem _ hm)
    simp only [List.cons_append, cutW, if_neg hc, ih, Option.map_map]
    rfl
/-- The first word, rune by rune. -/
theorem cutW_dec (l : List UInt8) (hl : l ≠ []) : cutW l = if (dec l).1 = 32 then some ([], l.drop 1) else (cutW (l.drop (dec l).2)).map fun p => (l.take (dec l).2 ++ p.1, p.2) := by
  by_cases h : (dec l).1 = 32
  · rw [if_pos h]
    obtain ⟨_, h0⟩ := dec_32 l h
    cases l with
    | nil => exact absurd rfl hl
    | cons c r =>
      have hc : c = 32 := h0
      subst hc
      simp [cutW]
  · rw [if_neg h]
    have hn : (32 : UInt8) ∉ l.take (dec l).2 := fun hm => by
      obtain ⟨j, hj, he⟩ := List.getElem_of_mem hm
      rw [List.length_take] at hj
      have hg : l.getD j 0 = 32 := by
        rw [List.getD_eq_getElem?_getD, List.getElem?_eq_getElem (by omega)]
        rw [List.getElem_take] at he
        exact he
      obtain ⟨_, _, h1⟩ := dec_small l j (by omega) (by rw [hg]; decide)
      rw [hg] at h1
      exact h h1
    have := cutW_skip (l.take (dec l).2) (l.drop (dec l).2) hn
    rw [List.take_append_drop] at this
    exact this
end Go.Proofs.YtgmejaiifibfoaaGreatDoor

/-
  Transactions as values: their cells, which are the same.
-/
set_option linter.unusedSimpArgs false
set_option linter.unusedVariables false
namespace Go.Proofs.YtgmejaiifibfoaaGreatDoor
open Go.RowKit Go.Maps Go.Lib

theorem laidOut : laidOutB Tryz.prog = true := by kernel_rfl
/-- A text as a value's bytes. -/
def str (l : List UInt8) : ByteArray := ⟨l.toArray⟩
theorem str_list (l : List UInt8) : (str l).data.toList = l := rfl
theorem str_of (s : ByteArray) : str s.data.toList = s := by cases s; rfl
theorem str_size (l : List UInt8) : (str l).size = l.length := by show (str l).data.size = _; simp [str]
theorem str_app (l m : List UInt8) : str l ++ str m = str (l ++ m) := L3.strOf_app l m
theorem str_inj {l m : List UInt8} (h : str l = str m) : l = m := congrArg (fun s : ByteArray => s.data.toList) h
def inI (n : Int) : Prop := -9223372036854775808 ≤ n ∧ n ≤ 9223372036854775807
theorem inI.lit {n : Int} (h : inI n) : (Lit.int .i64 n).wf = true := WalkArith.wf_i64 h
def txL (t : Txx) : List Value := [.int .i64 t.kind, .string (str t.frm), .string (str t.to), .string (str t.key), .string (str t.val), .int .i64 t.amount, .int .i64 t.nonce]
def txC (t : Txx) : Array Value := #[.int .i64 t.kind, .string (str t.frm), .string (str t.to), .string (str t.key), .string (str t.val), .int .i64 t.amount, .int .i64 t.nonce]
theorem txC_eq (t : Txx) : (txC t).toList = txL t := rfl
/-- Its numbers are int64, its texts no longer than n. -/
def Txx.wf (n : Nat) (t : Txx) : Prop := inI t.kind ∧ t.frm.length ≤ n ∧ t.to.length ≤ n ∧ t.key.length ≤ n ∧ t.val.length ≤ n ∧ inI t.amount ∧ inI t.nonce
theorem Txx.wf.le {n m : Nat} {t : Txx} (h : t.wf n) (hm : n ≤ m) : t.wf m := by
  obtain ⟨a, b, c, d, e, f⟩ := h
  exact ⟨a, by omega, by omega, by omega, by omega, f⟩
theorem zeroX_wf (n : Nat) : zeroX.wf n := by refine ⟨?_, ?_, ?_, ?_, ?_, ?_, ?_⟩ <;> simp [inI, zeroX]
theorem right_wf {t : Txx} (h : right t = true) : t.wf 128 := by
  by_cases hk : t.kind = 1
  · obtain ⟨h1, h2, h3, h4, h5, h6⟩ := right_move h hk
    have a := posN_in h1
    have b := posN_in h4
    exact ⟨by unfold inI; omega, name_size h2, name_size h3, by rw [h5]; simp, by rw [h6]; simp, by unfold inI; omega, by unfold inI; omega⟩
  · obtain ⟨h1, h2, h3, h4, h5, h6, h7⟩ := right_put h hk
    have a := posN_in h1
    exact ⟨by unfold inI; omega, name_size h2, by rw [h5]; simp, name_size h3, value_size h4, by unfold inI; omega, by unfold inI; omega⟩
theorem txC_inj {x y : Txx} (h : txC x = txC y) : x = y := by
  obtain ⟨a0, a1, a2, a3, a4, a5, a6⟩ := x
  obtain ⟨b0, b1, b2, b3, b4, b5, b6⟩ := y
  simp only [txC, Array.mk.injEq, List.cons.injEq, Value.int.injEq, Value.string.injEq, true_and, and_true] at h
  obtain ⟨rfl, h1, h2, h3, h4, rfl, rfl⟩ := h
  obtain rfl := str_inj h1
  obtain rfl := str_inj h2
  obtain rfl := str_inj h3
  obtain rfl := str_inj h4
  rfl
theorem kdX : Keyed Tryz.prog 32 := Keyed.of_law (deep_law_laid laidOut (m := 3) (by omega) (of_decide_eq_true (by kernel_rfl)) (by kernel_rfl) (by kernel_rfl))
theorem cX : Tryz.prog.cellsOf 32 = 7 := by kernel_rfl
theorem cI : Tryz.prog.cellsOf 3 = 1 := by kernel_rfl
theorem cI64 : Tryz.prog.cellsOf 2 = 1 := by kernel_rfl
theorem cS : Tryz.prog.cellsOf 9 = 1 := by kernel_rfl
theorem kl_int (d : Nat) {n : Int} (h : inI n) : Tryz.prog.keyLits (d + 1) 3 [.int .i64 n] = some [.int .i64 n] := by
  simp [Program.keyLits, Tryz.underlying3, h.lit]
theorem kl_i64 (d : Nat) {n : Int} (h : inI n) : Tryz.prog.keyLits (d + 1) 2 [.int .i64 n] = some [.int .i64 n] := by
  simp [Program.keyLits, Tryz.underlying2, h.lit]
theorem kl_str (d : Nat) {l : List UInt8} (h : l.length ≤ maxLen) : Tryz.prog.keyLits (d + 1) 9 [.string (str l)] = some [.string l] := by
  simp only [Program.keyLits, Tryz.underlying9]
  rw [if_pos (by rw [str_size]; exact h), str_list]
theorem kl_tx (d : Nat) {n : Nat} (t : Txx) (h : t.wf n) (hn : n ≤ maxLen) : ∃ l, Tryz.prog.keyLits (d + 2) 32 (txL t) = some l := by
  obtain ⟨h0, h1, h2, h3, h4, h5, h6⟩ := h
  unfold Program.keyLits
  simp only [Tryz.underlying32]
  rw [if_pos ⟨cX.symm ▸ rfl, by kernel_rfl⟩]
  simp only [cI, cI64, cS, txL, List.mapM_cons, List.mapM_nil, List.drop_zero, List.drop_succ_cons, List.take_succ_cons, List.take_zero, kl_int d h0, kl_i64 d h5, kl_i64 d h6, kl_str d (Nat.le_trans h1 hn), kl_str d (Nat.le_trans h2 hn), kl_str d (Nat.le_trans h3 hn), kl_str d (Nat.le_trans h4 hn)]
  exact ⟨_, rfl⟩
theorem key_atX {n : Nat} (x : Txx) (h : x.wf n) (hn : n ≤ maxLen) : ∃ l, keyOf Tryz.prog 32 (.agg (txC x)) = some l := by
  have hkt : Tryz.prog.keyType 32 = true := by kernel_rfl
  have hf : (Value.agg (txC x)).formed Tryz.prog 32 = true := by kernel_rfl
  have hsz : 1 ≤ Tryz.prog.types.size := of_decide_eq_true (by kernel_rfl)
  obtain ⟨l, hl⟩ := kl_tx (Tryz.prog.types.size - 1) x h hn
  rw [show Tryz.prog.types.size - 1 + 2 = Tryz.prog.types.size + 1 by omega] at hl
  unfold keyOf
  simp only [Tryz.underlying32, hkt, hf, Bool.and_self, if_true, Value.cells, txC_eq, hl, Option.map_some]
  exact ⟨_, rfl⟩
theorem equalX {n : Nat} {x y : Txx} (hx : x.wf n) (hy : y.wf n) (hn : n ≤ maxLen) (w : World) : (Op.equal 32 (.agg (txC x)) (.agg (txC y))).run Tryz.prog w = .ok (decide (x = y)) w := by
  obtain ⟨lx, h1⟩ := key_atX x hx hn
  obtain ⟨ly, h2⟩ := key_atX y hy hn
  obtain ⟨r, hr, hi⟩ := run_equal_deep (P := Tryz.prog) w (m := 3) (by omega) (by kernel_rfl) (by kernel_rfl) h1 h2
  have : r = decide (x = y) := by
    rw [Bool.eq_iff_iff, hi, decide_eq_true_eq]
    constructor
    · intro h
      rw [h] at h1
      exact txC_inj (Value.agg.inj (kdX.inj h1 h2))
    · intro h; subst h; rw [h1] at h2; injection h2
  rw [hr, this]
theorem eqlX {n : Nat} {x y : Txx} (hx : x.wf n) (hy : y.wf n) (hn : n ≤ maxLen) (w : World) : (binOp .eql 32 (.agg (txC x)) (.agg (txC y))).run Tryz.prog w = .ok (.bool (decide (x = y))) w := by
  simp only [binOp, Sem.run_bind, equalX hx hy hn, Result.andThen_ok, Sem.run_pure]
theorem build_zero (w : World) : (Instr.build 32 #[]).run Tryz.prog w = .ok (.agg (txC zeroX)) w := run_build w _ _ _ (by kernel_rfl)
theorem txInfo : (Tryz.prog.info? 32).map (·.size) = some 7 := by kernel_rfl
/-- In w block g holds these seven. -/
def Box (w : World) (g : Nat) (kd : Int) (fr to ky vl : List UInt8) (am no : Int) : Prop :=
  w.cell? ⟨g, 0, none⟩ = some (.int .i64 kd) ∧ w.cell? ⟨g, 1, none⟩ = some (.string (str fr)) ∧ w.cell? ⟨g, 2, none⟩ = some (.string (str to)) ∧ w.cell? ⟨g, 3, none⟩ = some (.string (str ky)) ∧ w.cell? ⟨g, 4, none⟩ = some (.string (str vl)) ∧ w.cell? ⟨g, 5, none⟩ = some (.int .i64 am) ∧ w.cell? ⟨g, 6, none⟩ = some (.int .i64 no)
theorem box_of {w : World} {g : Nat} {ty : TypeId} {t : Txx} (h : L3.Blk w g ty (txC t)) : Box w g t.kind t.frm t.to t.key t.val t.amount t.nonce := ⟨h.cell 0, h.cell 1, h.cell 2, h.cell 3, h.cell 4, h.cell 5, h.cell 6⟩
theorem box_new (w : World) (ty : TypeId) (t : Txx) : L3.Blk (w.alloc (.cells (txC t) ty)) w.heap.size ty (txC t) := L3.Blk.new _ _ _
/-- Behind a call the argument's block is as it was. -/
theorem box_at {w w1 : World} {ty : TypeId} {t : Txx} (hb : Below (w.alloc (.cells (txC t) ty)).heap.size (w.alloc (.cells (txC t) ty)) w1) : Box w1 w.heap.size t.kind t.frm t.to t.key t.val t.amount t.nonce := box_of ((box_new w ty t).below hb (by simp))
theorem below_box {w : World} (ty : TypeId) (t : Txx) : Below w.heap.size w (w.alloc (.cells (txC t) ty)) := (Below.refl _ _).alloc (Nat.le_refl _) _
/-- Behind a call that leaves what was there, a transaction's block is as it was. -/
theorem keep7 {W x y : World} {g : Nat} {kd am no : Int} {fr to ky vl : List UInt8}
    (h : Below W.heap.size W x ∧ x.cell? ⟨g, 0, none⟩ = some (.int .i64 kd) ∧ x.cell? ⟨g, 1, none⟩ = some (.string (str fr)) ∧ x.cell? ⟨g, 2, none⟩ = some (.string (str to)) ∧ x.cell? ⟨g, 3, none⟩ = some (.string (str ky)) ∧ x.cell? ⟨g, 4, none⟩ = some (.string (str vl)) ∧ x.cell? ⟨g, 5, none⟩ = some (.int .i64 am) ∧ x.cell? ⟨g, 6, none⟩ = some (.int .i64 no)) (hb : Below x.heap.size x y) :
    Below W.heap.size W y ∧ y.cell? ⟨g, 0, none⟩ = some (.int .i64 kd) ∧ y.cell? ⟨g, 1, none⟩ = some (.string (str fr)) ∧ y.cell? ⟨g, 2, none⟩ = some (.string (str to)) ∧ y.cell? ⟨g, 3, none⟩ = some (.string (str ky)) ∧ y.cell? ⟨g, 4, none⟩ = some (.string (str vl)) ∧ y.cell? ⟨g, 5, none⟩ = some (.int .i64 am) ∧ y.cell? ⟨g, 6, none⟩ = some (.int .i64 no) := by
  obtain ⟨h0, a0, a1, a2, a3, a4, a5, a6⟩ := h
  have k := fun (i : Nat) (v : Value) (h : x.cell? ⟨g, i, none⟩ = some v) => (hb.cell (p := ⟨g, i, none⟩) (L2.cell_in h)).trans h
  exact ⟨h0.trans (hb.mono h0.size), k _ _ a0, k _ _ a1, k _ _ a2, k _ _ a3, k _ _ a4, k _ _ a5, k _ _ a6⟩
theorem keep7_drew {W x : World} {g : Nat} {kd am no : Int} {fr to ky vl : List UInt8}
    (h : Below W.heap.size W x ∧ x.cell? ⟨g, 0, none⟩ = some (.int .i64 kd) ∧ x.cell? ⟨g, 1, none⟩ = some (.string (str fr)) ∧ x.cell? ⟨g, 2, none⟩ = some (.string (str to)) ∧ x.cell? ⟨g, 3, none⟩ = some (.string (str ky)) ∧ x.cell? ⟨g, 4, none⟩ = some (.string (str vl)) ∧ x.cell? ⟨g, 5, none⟩ = some (.int .i64 am) ∧ x.cell? ⟨g, 6, none⟩ = some (.int .i64 no)) :
    Below W.heap.size W x.drew ∧ x.drew.cell? ⟨g, 0, none⟩ = some (.int .i64 kd) ∧ x.drew.cell? ⟨g, 1, none⟩ = some (.string (str fr)) ∧ x.drew.cell? ⟨g, 2, none⟩ = some (.string (str to)) ∧ x.drew.cell? ⟨g, 3, none⟩ = some (.string (str ky)) ∧ x.drew.cell? ⟨g, 4, none⟩ = some (.string (str vl)) ∧ x.drew.cell? ⟨g, 5, none⟩ = some (.int .i64 am) ∧ x.drew.cell? ⟨g, 6, none⟩ = some (.int .i64 no) :=
  ⟨h.1.drew, h.2⟩
theorem keep7_below {W x : World} {g : Nat} {kd am no : Int} {fr to ky vl : List UInt8}
    (h : Below W.heap.size W x ∧ x.cell? ⟨g, 0, none⟩ = some (.int .i64 kd) ∧ x.cell? ⟨g, 1, none⟩ = some (.string (str fr)) ∧ x.cell? ⟨g, 2, none⟩ = some (.string (str to)) ∧ x.cell? ⟨g, 3, none⟩ = some (.string (str ky)) ∧ x.cell? ⟨g, 4, none⟩ = some (.string (str vl)) ∧ x.cell? ⟨g, 5, none⟩ = some (.int .i64 am) ∧ x.cell? ⟨g, 6, none⟩ = some (.int .i64 no)) : Below W.heap.size W x := h.1
end Go.Proofs.YtgmejaiifibfoaaGreatDoor

/-
  What is called of the layers below, over texts as lists of bytes.
-/
set_option linter.unusedSimpArgs false
set_option linter.unusedVariables false
namespace Go.Proofs.YtgmejaiifibfoaaGreatDoor
open Go.RowKit Go.Lib

/-- The listed tables. -/
def Tabs (w : World) : Prop := L2.Tab w
theorem Tabs.kept {w w' : World} (h : Tabs w) (hb : Below w.heap.size w w') : Tabs w' := L2.Tab.kept h hb
theorem nxt {w w1 w2 : World} (h1 : Below w.heap.size w w1) (h2 : Below w1.heap.size w1 w2) : Below w.heap.size w w2 := h1.trans (h2.mono h1.size)
theorem nxtB {B : Nat} {w w1 w2 : World} (h1 : Below B w w1) (h2 : Below w1.heap.size w1 w2) (hB : B ≤ w1.heap.size) : Below B w w2 := h1.trans (h2.mono hB)
/-- A call that hands back v and leaves all that was there. -/
def gives (v : Value) (w : World) (e : Ending) (w' : World) : Prop := e = .returned v ∧ Below w.heap.size w w'
/-- An error, or none. -/
def errI (b : Bool) (k : Int) : Int := if b = true then 0 else k
theorem c_name (l : List UInt8) (w : World) (h : l.length ≤ 9223372036854775807) : Calls Tryz.prog 83 #[.string (str l)] w (gives (.int .i64 (errI (L2.chk l) 20)) w) :=
  (L2.check_any (str l) w (by rw [str_size]; exact h)).mono fun _ _ h => h
theorem c_value (l : List UInt8) (w : World) (h : l.length ≤ 1000000) (hT : Tabs w) : Calls Tryz.prog 114 #[.string (str l)] w (gives (.int .i64 (errI (L2.vlu l) 20)) w) :=
  (L2.value_any (str l) w (by rw [str_size]; exact h) hT).mono fun _ _ h => h
theorem c_refname (l : List UInt8) (w : World) (h : l.length ≤ 1000000) : Calls Tryz.prog 60 #[.string (str l)] w (gives (.bool (L2.chk l)) w) :=
  (L2.refcheck_any (str l) w (by rw [str_size]; exact h)).mono fun _ _ h => h
theorem c_refvalue (l : List UInt8) (w : World) (h : l.length ≤ 1000000) : Calls Tryz.prog 61 #[.string (str l)] w (gives (.bool (L2.vlu l)) w) :=
  (L2.refvalue_any (str l) w (by rw [str_size]; exact h)).mono fun _ _ h => h
theorem c_name_ok (l : List UInt8) (w : World) (h : l.length ≤ 1000000) (hc : L2.chk l = true) : Calls Tryz.prog 83 #[.string (str l)] w (gives (.int .i64 0) w) := by have := c_name l w (by omega); rw [hc] at this; exact this
theorem c_name_no (l : List UInt8) (w : World) (h : l.length ≤ 1000000) (hc : L2.chk l = false) : Calls Tryz.prog 83 #[.string (str l)] w (gives (.int .i64 20) w) := by have := c_name l w (by omega); rw [hc] at this; exact this
theorem c_value_ok (l : List UInt8) (w : World) (h : l.length ≤ 1000000) (hT : Tabs w) (hc : L2.vlu l = true) : Calls Tryz.prog 114 #[.string (str l)] w (gives (.int .i64 0) w) := by have := c_value l w h hT; rw [hc] at this; exact this
theorem c_value_no (l : List UInt8) (w : World) (h : l.length ≤ 1000000) (hT : Tabs w) (hc : L2.vlu l = false) : Calls Tryz.prog 114 #[.string (str l)] w (gives (.int .i64 20) w) := by have := c_value l w h hT; rw [hc] at this; exact this
theorem c_refname_is (l : List UInt8) (w : World) (b : Bool) (h : l.length ≤ 1000000) (hc : L2.chk l = b) : Calls Tryz.prog 60 #[.string (str l)] w (gives (.bool b) w) := by have := c_refname l w h; rw [hc] at this; exact this
theorem c_refvalue_is (l : List UInt8) (w : World) (b : Bool) (h : l.length ≤ 1000000) (hc : L2.vlu l = b) : Calls Tryz.prog 61 #[.string (str l)] w (gives (.bool b) w) := by have := c_refvalue l w h; rw [hc] at this; exact this
theorem posN_eq (n : Int) : (decide (1 ≤ n) && decide (n ≤ 4611686018427387904)) = posN n := by
  unfold posN; rw [Bool.eq_iff_iff]; simp
theorem c_counted (n : Int) (w : World) : Calls Tryz.prog 84 #[.int .i64 n] w fun e w' => e = .returned (.bool (posN n)) ∧ w = w' := by
  have h1 := L1.within_any n 1 4611686018427387904
  rw [posN_eq] at h1
  obtain ⟨b, hb⟩ : ∃ b, b = posN n := ⟨_, rfl⟩
  rw [← hb] at h1 ⊢
  clear hb
  go_enter Tryz.func84, Tryz.ntmps84
  go_wp2_with (go_at_call 113; refine (h1 _).mono ?_; rintro e w1 ⟨rfl, rfl⟩)
  go_ret
  exact ⟨rfl, rfl⟩
theorem c_counted_is (n : Int) (w : World) (b : Bool) (h : posN n = b) : Calls Tryz.prog 84 #[.int .i64 n] w fun e w' => e = .returned (.bool b) ∧ w = w' := by have := c_counted n w; rw [h] at this; exact this
theorem itoa_pos {n : Int} (h : posN n = true) : itoa n = dgs n := by
  obtain ⟨h0, h1⟩ := posN_in h
  obtain ⟨u, rfl⟩ := Int.eq_ofNat_of_zero_le (show 0 ≤ n by omega)
  unfold dgs
  rw [itoa_nonneg, Int.toNat_natCast]
/-- What number tells of a word. -/
def numW (l : List UInt8) : Int := L1.readV l 1 top62
/-- Two texts are one, or not: as the walk asks it. -/
theorem str_eq {l m : List UInt8} (h : l = m) : ((str l).toList == (str m).toList) = true := by rw [h]; simp
theorem str_ne {l m : List UInt8} (h : l ≠ m) : ((str l).toList == (str m).toList) = false := by
  rw [toList_data, toList_data, str_list, str_list]; simpa using h
theorem str_toList (l : List UInt8) : (str l).toList = l := by rw [toList_data, str_list]
end Go.Proofs.YtgmejaiifibfoaaGreatDoor

/-
  Slices of transactions: as they came in, and as lists that stay as they are; a struct that is handed back.
-/
set_option linter.unusedSimpArgs false
set_option linter.unusedVariables false
set_option maxRecDepth 10000
namespace Go.Proofs.YtgmejaiifibfoaaGreatDoor
open Go.RowKit Go.Maps Go.Lib
open L3 (Blk Reads block_of_add add_of_add)
open L6 (Turn moreB fresh From In)

theorem flat_get {α β : Type} {f : α → List β} {k : Nat} (hk : ∀ x, (f x).length = k) : ∀ {L : List α} {i c : Nat} (hi : i < L.length), c < k → (L.flatMap f)[i * k + c]? = (f L[i])[c]?
  | [], i, c, hi, _ => by simp at hi
  | a :: L, 0, c, _, hc => by
    rw [List.flatMap_cons, Nat.zero_mul, Nat.zero_add, List.getElem?_append_left (by rw [hk]; exact hc)]; rfl
  | a :: L, i + 1, c, hi, hc => by
    have hi' : i < L.length := by simpa using hi
    rw [List.flatMap_cons, List.getElem?_append_right (by rw [hk, Nat.add_mul]; omega), hk]
    have e : (i + 1) * k + c - k = i * k + c := by rw [Nat.add_mul]; omega
    rw [e, flat_get hk hi' hc]; rfl
theorem flat_len {α β : Type} {f : α → List β} {k : Nat} (hk : ∀ x, (f x).length = k) (L : List α) : (L.flatMap f).length = L.length * k := by
  induction L with
  | nil => simp
  | cons a L ih => rw [List.flatMap_cons, List.length_append, hk, ih, List.length_cons, Nat.add_mul]; omega
theorem blk_cells (w : World) (g : Nat) (T : TypeId) (cs : List Value) {fr : Nat × Nat} (h : w.heap[g]? = some (.cells cs.toArray T fr)) : ∀ j u, cs[j]? = some u → w.cell? ((⟨g, 0, none⟩ : Addr).add j) = some u := by
  intro j u hj
  unfold Addr.add
  split
  · next h0 => subst h0; simpa [World.cell?, h] using hj
  · simpa [World.cell?, h] using hj
theorem filter_snoc {α : Type} {L : List α} {k : Nat} (h : k < L.length) (p : α → Bool) : (L.take (k + 1)).filter p = (L.take k).filter p ++ if p L[k] = true then [L[k]] else [] := by
  rw [List.take_succ_eq_append_getElem h, List.filter_append]
  congr 1
  by_cases hp : p L[k] = true
  · rw [if_pos hp]; simp [hp]
  · rw [if_neg hp]; simp [hp]
theorem reads_one {w : World} {g : Nat} {T : TypeId} {cs : List Value} {k : Nat} (hk : cs.length = 1 * k) (h : Blk w g T cs.toArray) : Reads w (g + 1) k (some ⟨g, 0, none⟩) 1 cs :=
  ⟨hk, fun _ => ⟨⟨g, 0, none⟩, rfl, Nat.lt_succ_self g, blk_cells w g T cs h⟩⟩
theorem turn_row (w : World) (g : Nat) (cs : Array Value) : Turn (fun k => k = g) w (w.setRow g cs) := by
  refine ⟨rfl, rfl, rfl, by simp [World.setRow], fun i hi hn => ?_⟩
  have : ¬ g = i := fun e => hn e.symm
  simp [World.setRow, Array.getElem?_modify, this]
theorem txC_ones (t : Txx) : (txC t).all (·.oneCell') = true := by kernel_rfl
/-- In w a slice of these at A, each by its k cells f. -/
def Rd {α : Type} (f : α → List Value) (k : Nat) (w : World) (A : Option Addr) (L : List α) : Prop :=
  ∀ i (h : i < L.length), ∃ ad, A = some ad ∧ ad.block < w.heap.size ∧ ∀ j u, (f L[i])[j]? = some u → w.cell? ((ad.add (i * k)).add j) = some u
/-- Its block isn't one of S. -/
def Off (S : Nat → Prop) (A : Option Addr) : Prop := ∀ ad, A = some ad → ¬ S ad.block
section
variable {α : Type} {f : α → List Value} {k : Nat} {w w' : World} {A : Option Addr} {L : List α}
theorem Rd.nil : Rd f k w A [] := fun i h => absurd h (by simp)
theorem Rd.kept {S : Nat → Prop} (h : Rd f k w A L) (ht : Turn S w w') (ho : Off S A) : Rd f k w' A L := fun i hi => by
  obtain ⟨ad, hA, hl, hc⟩ := h i hi
  exact ⟨ad, hA, Nat.lt_of_lt_of_le hl ht.size, fun j u hj => ht.cell (hc j u hj) (by rw [block_of_add, block_of_add]; exact ho ad hA)⟩
theorem Rd.kept2 {S : Nat → Prop} (h : Rd f k w A L) (ht : Turn S w w') (ho : L.length ≠ 0 → Off S A) : Rd f k w' A L := fun i hi => h.kept ht (ho (by omega)) i hi
theorem Rd.below (h : Rd f k w A L) (hb : Below w.heap.size w w') : Rd f k w' A L := h.kept (S := fun _ => False) (L6.Turn.of_keep hb) (fun _ _ h => h)
theorem Rd.of_reads (hf : ∀ x, (f x).length = k) {B : Nat} (h : Reads w B k A L.length (L.flatMap f)) (hB : B ≤ w.heap.size) : Rd f k w A L := fun i hi => by
  obtain ⟨ad, hA, hb, hc⟩ := h.2 (by omega)
  refine ⟨ad, hA, by omega, fun j u hj => ?_⟩
  have hj2 : j < k := by
    rcases Nat.lt_or_ge j k with h | h
    · exact h
    · rw [List.getElem?_eq_none (by rw [hf]; exact h)] at hj; cases hj
  rw [add_of_add]
  exact hc _ u (by rw [flat_get hf hi hj2]; exact hj)
theorem Rd.reads (hf : ∀ x, (f x).length = k) (h : Rd f k w A L) : Reads w w.heap.size k A L.length (L.flatMap f) := by
  refine ⟨flat_len hf L, fun h0 => ?_⟩
  obtain ⟨ad, hA, hb, _⟩ := h 0 h0
  refine ⟨ad, hA, hb, fun j u hj => ?_⟩
  have hjl : j < L.length * k := by
    rcases Nat.lt_or_ge j (L.length * k) with h | h
    · exact h
    · rw [List.getElem?_eq_none (by rw [flat_len hf]; exact h)] at hj; cases hj
  have k0 : 0 < k := Nat.pos_of_ne_zero (fun h => by subst h; simp at hjl)
  have hq : j / k < L.length := Nat.div_lt_of_lt_mul (by rw [Nat.mul_comm]; exact hjl)
  have hm := Nat.mod_lt j k0
  have e : j = j / k * k + j % k := by have := Nat.div_add_mod j k; rw [Nat.mul_comm] at this; exact this.symm
  obtain ⟨ad2, hA2, _, hc⟩ := h (j / k) hq
  rw [hA] at hA2
  injection hA2 with hA2
  subst hA2
  have := hc (j % k) u (by rw [← flat_get hf hq hm, ← e]; exact hj)
  rw [add_of_add, ← e] at this
  exact this
/-- A row of the call's own, read. -/
theorem Rd.of_row (hf : ∀ x, (f x).length = k) {base : Nat} {e : TypeId} {v : Value} (hr : w.ownsRow base e k v L.length (L.flatMap f)) :
    ∃ A c, v = .slice A L.length c ∧ Rd f k w A L ∧ ∀ ad, A = some ad → base ≤ ad.block ∧ ad.block < w.heap.size := by
  obtain ⟨A, c, rfl, _, hrd⟩ := L6.row_reads hr
  refine ⟨A, c, rfl, Rd.of_reads hf hrd (Nat.le_refl _), fun ad hA => ?_⟩
  subst hA
  exact hr.lt ad.block rfl
end
theorem Off.of_ge {S : Nat → Prop} {A : Option Addr} {B : Nat} (h : ∀ ad, A = some ad → B ≤ ad.block) (hS : ∀ k, S k → k < B) : Off S A := fun ad hA hs => by have := h ad hA; have := hS _ hs; omega
theorem Off.mono {S S' : Nat → Prop} {A : Option Addr} (h : Off S A) (hs : ∀ k, S' k → S k) : Off S' A := fun ad hA h' => h ad hA (hs _ h')

/-! A struct that is handed back -/
theorem results_row {P : Program} {fn : Func} {d : Tmp} {ty : TypeId} (h : fn.results = #[.cell d ty]) (tmps : Array Value) (w : World) (g : Nat) (hx : tmps.getD d undef = .pointer (some ⟨g, 0, none⟩)) (t : TypeId) (cs : Array Value) (fr : Nat × Nat) (ds : TypeDesc)
    (hb : w.heap[g]? = some (.cells cs t fr)) (hu : P.underlying ty = some ds) (hd : (match ds with | .struct _ | .array _ _ => true | _ => false) = true) (hi : (P.info? ty).map (·.size) = some cs.size) : (results fn tmps).run P w = .ok (.agg cs) w := by
  have hx' : tmps[d]?.getD undef = .pointer (some ⟨g, 0, none⟩) := by simpa using hx
  simp [results, h, hx', asAddr, run_loadVar_row w g t ty cs fr ds hb hu hd hi]
theorem results_row2 {P : Program} {fn : Func} {d k : Tmp} {ty : TypeId} (h : fn.results = #[.cell d ty, .tmp k]) (tmps : Array Value) (w : World) (g : Nat) (hx : tmps.getD d undef = .pointer (some ⟨g, 0, none⟩)) (v : Value) (hv : tmps.getD k undef = v) (t : TypeId) (cs : Array Value) (fr : Nat × Nat) (ds : TypeDesc)
    (hb : w.heap[g]? = some (.cells cs t fr)) (hu : P.underlying ty = some ds) (hd : (match ds with | .struct _ | .array _ _ => true | _ => false) = true) (hi : (P.info? ty).map (·.size) = some cs.size) : (results fn tmps).run P w = .ok (.tuple #[.agg cs, v]) w := by
  have hx' : tmps[d]?.getD undef = .pointer (some ⟨g, 0, none⟩) := by simpa using hx
  have hv' : tmps[k]?.getD undef = v := by simpa using hv
  simp [results, h, hx', hv', asAddr, run_loadVar_row w g t ty cs fr ds hb hu hd hi]
theorem wpList_store_row {P : Program} {ops : Array Oper} {rest : List Oper} {o : Oper} {a : Act} {w : World} {Q : Exit → Act → World → Prop} (hw : Region.wanted o (yielded ops a.tmps) = true) (ty : TypeId) (x y : Operand) (ho : o.op = .store ty x y) (g : Nat) (cells : Array Value) (hx : a.eval x = .pointer (some ⟨g, 0, none⟩)) (hy : a.eval y = .agg cells)
    (t : TypeId) (old : Array Value) (hb : Blk w g t old) (hi : (P.info? ty).map (·.size) = some cells.size) (hold : old.size = cells.size) (h1 : cells.all (·.oneCell') = true)
    (h : wpList P ops Q rest (a.put o.dst undef) (w.setRow g cells)) : wpList P ops Q (o :: rest) a w :=
  wpList_wanted hw fun _ hK => wp_store_row ty x y ho g cells hx hy t old hb hi hold h1 (hK _ _ h)
/-- A store of a whole struct into the block that was laid last, its number named. -/
theorem wpList_store_last {P : Program} {ops : Array Oper} {rest : List Oper} {o : Oper} {a : Act} {Q : Exit → Act → World → Prop} (hw : Region.wanted o (yielded ops a.tmps) = true) (ty : TypeId) (x y : Operand) (ho : o.op = .store ty x y) (w0 : World) (g : Nat) (hg : g = w0.heap.size) (cells : Array Value) (hx : a.eval x = .pointer (some ⟨g, 0, none⟩)) (hy : a.eval y = .agg cells)
    (t : TypeId) (old : Array Value) (hi : (P.info? ty).map (·.size) = some cells.size) (hold : old.size = cells.size) (h1 : cells.all (·.oneCell') = true)
    (h : wpList P ops Q rest (a.put o.dst undef) (w0.alloc (.cells cells t))) : wpList P ops Q (o :: rest) a (w0.alloc (.cells old t)) := by
  subst hg
  exact wpList_store_new hw ty x y ho w0 cells hx hy t old hi hold h1 h
theorem blk_setRow {w : World} {g : Nat} {t : TypeId} {old cs : Array Value} (h : Blk w g t old) : Blk (w.setRow g cs) g t cs := by
  unfold Blk World.setRow at *
  simp [Array.getElem?_modify, h]
theorem below_setRow {B : Nat} {w W : World} {g : Nat} {cs : Array Value} (h : Below B w W) (hg : B ≤ g) : Below B w (W.setRow g cs) := by
  refine h.trans ⟨rfl, rfl, rfl, by simp [World.setRow], fun i hi => ?_⟩
  have : ¬ g = i := by omega
  simp [World.setRow, Array.getElem?_modify, this]
end Go.Proofs.YtgmejaiifibfoaaGreatDoor
