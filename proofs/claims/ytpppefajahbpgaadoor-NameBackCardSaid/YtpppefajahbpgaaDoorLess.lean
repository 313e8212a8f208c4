/-
  Which of two texts stands ahead, by the code and by the document's answer: the same.
-/
import Derived.Test.YtpppefajahbpgaaDoorTables
import Derived.Test.YtpppefajahbpgaaDoorCheck
import Derived.Test.YtpppefajahbpgaaDoorCut
import Derived.Lib.OthersKept
import Derived.Deep.QuietTactic
import Derived.BigQuiet
set_option linter.unusedSimpArgs false
set_option linter.unusedVariables false
namespace Go.Proofs.YtpppefajahbpgaaDoor
open Go.RowKit Go.Lib

/-- Number by number; a beginning of the other one ahead of it; none of both: they are alike. -/
def lexF : List Int → List Int → Option Bool
  | [], [] => none
  | [], _ :: _ => some true
  | _ :: _, [] => some false
  | x :: a, y :: b => if x = y then lexF a b else some (decide (x < y))
/-- Does it stand ahead? -/
def less (a b : List UInt8) : Bool := (lexF (nums a) (nums b)).getD (Op.bytesLess a b)
theorem lex_none (a b : List UInt8) (h : lexF (nums a) (nums b) = none) : less a b = Op.bytesLess a b := by unfold less; rw [h]; rfl
theorem lex_some (a b : List UInt8) {x : Bool} (h : lexF (nums a) (nums b) = some x) : less a b = x := by unfold less; rw [h]; rfl

theorem empty_facts {x : ByteArray} (h : ¬ 0 < x.size) : x.toList = [] := by rw [toList_data]; exact is_nil h
theorem full_facts {x : ByteArray} (h : 0 < x.size) : x.toList.isEmpty = false ∧ (!x.toList.isEmpty) = true := by
  have e : x.toList.isEmpty = false := by
    rw [toList_data]
    cases e : x.data.toList with
    | nil => exact absurd e (ne_nil h)
    | cons a l => rfl
  rw [e]; exact ⟨rfl, rfl⟩

def lessRel (a b : ByteArray) (w : World) (r : Value) (wr : World) : Prop :=
  ∃ (pos : Nat) (x : ByteArray), pos ≤ a.size ∧ x.size ≤ b.size ∧ r = .string x ∧ wr.heap[w.heap.size]? = some (.stringIter a pos) ∧ Below w.heap.size w wr ∧ lexF (nums (a.data.toList.drop pos)) (nums x.data.toList) = lexF (nums a.data.toList) (nums b.data.toList)
set_option maxHeartbeats 2000000 in
set_option maxRecDepth 100000 in
theorem less_any (a b : ByteArray) (w : World) (ha : a.size ≤ 1000000) (hb : b.size ≤ 1000000) (hT : Tab w) :
    Calls Tryd.prog 13 #[.string a, .string b] w fun e w' => e = .returned (.bool (less a.data.toList b.data.toList)) ∧ Below w.heap.size w w' := by
  have HT := Lib.hid hT
  clear hT
  go_enter Tryd.func13, Tryd.ntmps13
  go_wp2
  go_loopw [5] (fun r wr => lessRel a b w r wr) (fun _ wr => a.size - wr.iterPos w.heap.size)
  case atStart => exact ⟨0, b, Nat.zero_le _, Nat.le_refl _, rfl, World.iter_heap w a 0, (Below.refl _ w).alloc (Nat.le_refl _) _, rfl⟩
  case round =>
    obtain ⟨pos, x, hp, hxb, rfl, hit, hbw, hk⟩ := hrel
    have hsz : w.heap.size < wr.heap.size := (Array.getElem?_eq_some_iff.1 hit).1
    by_cases hlt : pos < a.size
    · have hne := drop_ne hlt
      have hf := dec_facts _ hne
      have hda := dec_at a pos
      rw [List.length_drop, ← size_len] at hf
      obtain ⟨f1, f2, f3, _⟩ := hf
      have hnx : ∀ ty, (Instr.next (.pointer (some ⟨w.heap.size, 0, none⟩)) true ty).run Tryd.prog wr = _ := fun ty => (Lib.run_next_any_at wr w.heap.size a pos ty hit hlt).trans (by rw [hda])
      have hit2 := Lib.iterAt_heap wr w.heap.size a pos (pos + (dec (a.data.toList.drop pos)).2) hit
      have hbw2 := Lib.below_iterAt hbw (k := w.heap.size) (Nat.le_refl _) a (pos + (dec (a.data.toList.drop pos)).2)
      have hT2 := HT.out.kept hbw2
      have hsz2 : w.heap.size < (wr.iterAt w.heap.size a (pos + (dec (a.data.toList.drop pos)).2)).heap.size := by rw [Lib.iterAt_size]; exact hsz
      have HP : Hid (wr.iterPos w.heap.size = pos) := Lib.hid (by simp [World.iterPos, hit])
      have hcons := nums_cons hne
      rw [List.drop_drop] at hcons
      rw [hcons] at hk
      have HI2 := Lib.hid hit2
      have HB2 := Lib.hid hbw2
      have HT2 := Lib.hid hT2
      clear hda hcons hne hit hbw hit2 hbw2 hT2
      by_cases hx : 0 < x.size
      · have hfull := full_facts hx
        obtain ⟨e1, e2⟩ := hfull
        have hg := dec_facts x.data.toList (ne_nil hx)
        rw [← size_len] at hg
        obtain ⟨g1, g2, g3, _⟩ := hg
        have hxe := extract_to_end x (dec x.data.toList).2
        have hxs := tail_size x (dec x.data.toList).2
        rw [nums_cons (ne_nil hx), lexF] at hk
        by_cases heq : (dec (a.data.toList.drop pos)).1 = (dec x.data.toList).1
        · rw [if_pos (by rw [heq]), ← hxe] at hk
          have hq : (((dec (a.data.toList.drop pos)).1 : Int) != ((dec x.data.toList).1 : Int)) = false := by rw [heq]; simp
          have HK := Lib.hid hk
          have HXS := Lib.hid hxs
          clear hk hxe hxs heq
          go_wp2_with (go_at_call 27; refine (decode_any _ _ HT2.out hx).mono ?_; rintro e w3 ⟨rfl, hb3⟩)
          have hi3 : w3.heap[w.heap.size]? = some (.stringIter a (pos + (dec (a.data.toList.drop pos)).2)) := (hb3.block _ hsz2).trans HI2.out
          go_roundw
          case rel => exact ⟨_, _, by omega, by rw [HXS.out]; omega, rfl, hi3, nxt HB2.out hb3 HB2.out.size, HK.out⟩
          case measure =>
            have e3 : w3.iterPos w.heap.size = pos + (dec (a.data.toList.drop pos)).2 := by simp [World.iterPos, hi3]
            show a.size - w3.iterPos w.heap.size < a.size - wr.iterPos w.heap.size
            rw [e3, HP.out]; omega
        · rw [if_neg (by omega)] at hk
          have hl := lex_some _ _ hk.symm
          have HL := Lib.hid hl
          have hq : (((dec (a.data.toList.drop pos)).1 : Int) != ((dec x.data.toList).1 : Int)) = true := by rw [bne_iff_ne]; omega
          clear hk hxe hxs heq hl
          go_wp2_with (go_at_call 27; refine (decode_any _ _ HT2.out hx).mono ?_; rintro e w3 ⟨rfl, hb3⟩)
          go_ret
          exact ⟨by rw [HL.out]; exact ret_bool (decide_eq_decide.2 (by omega)), nxt HB2.out hb3 HB2.out.size⟩
      · have e0 := empty_facts hx
        rw [is_nil hx, nums_nil, lexF] at hk
        have hl := lex_some _ _ hk.symm
        have HL := Lib.hid hl
        clear hk hl
        go_wp2
        go_ret
        exact ⟨by rw [HL.out]; rfl, HB2.out⟩
    · have hnx : ∀ ty, (Instr.next (.pointer (some ⟨w.heap.size, 0, none⟩)) true ty).run Tryd.prog wr = _ := fun ty => Lib.run_next_end_at wr w.heap.size a pos ty hit hlt
      rw [drop_nil hlt, nums_nil] at hk
      by_cases hx : 0 < x.size
      · have hfull := full_facts hx
        obtain ⟨e1, e2⟩ := hfull
        rw [nums_cons (ne_nil hx), lexF] at hk
        have hl := lex_some _ _ hk.symm
        have HL := Lib.hid hl
        clear hk hl
        go_wp2
        go_ret
        exact ⟨by rw [HL.out]; rfl, hbw⟩
      · have e0 := empty_facts hx
        rw [is_nil hx, nums_nil, lexF] at hk
        have hl := lex_none _ _ hk.symm
        have HL := Lib.hid hl
        clear hk hl
        go_wp2
        go_ret
        exact ⟨by rw [HL.out, ← toList_data, ← toList_data]; rfl, hbw⟩

/-- From the i-th number on. -/
theorem lexF_step (x y : List Int) (i : Nat) (hx : i < x.length) (hy : i < y.length) (he : x.getD i 0 = y.getD i 0) : lexF (x.drop i) (y.drop i) = lexF (x.drop (i + 1)) (y.drop (i + 1)) := by
  rw [List.drop_eq_getElem_cons hx, List.drop_eq_getElem_cons hy, lexF]
  have e : x[i] = y[i] := by
    rw [List.getD_eq_getElem?_getD, List.getD_eq_getElem?_getD, List.getElem?_eq_getElem hx, List.getElem?_eq_getElem hy] at he
    exact he
  rw [if_pos e]
theorem lexF_at (x y : List Int) (i : Nat) (hx : i < x.length) (hy : i < y.length) (he : x.getD i 0 ≠ y.getD i 0) : lexF (x.drop i) (y.drop i) = some (decide (x.getD i 0 < y.getD i 0)) := by
  rw [List.getD_eq_getElem?_getD, List.getD_eq_getElem?_getD, List.getElem?_eq_getElem hx, List.getElem?_eq_getElem hy] at he ⊢
  simp only [Option.getD_some] at he ⊢
  rw [List.drop_eq_getElem_cons hx, List.drop_eq_getElem_cons hy, lexF, if_neg he]
theorem lexF_end (x y : List Int) (i : Nat) (h : x.length ≤ i ∨ y.length ≤ i) (hx : i ≤ x.length) (hy : i ≤ y.length) :
    lexF (x.drop i) (y.drop i) = if x.length = y.length then none else some (decide (x.length < y.length)) := by
  by_cases e1 : x.length = i
  · rw [List.drop_eq_nil_of_le (by omega : x.length ≤ i)]
    by_cases e2 : y.length = i
    · rw [List.drop_eq_nil_of_le (by omega : y.length ≤ i), lexF, if_pos (by omega)]
    · rw [List.drop_eq_getElem_cons (by omega : i < y.length), lexF, if_neg (by omega), decide_eq_true (by omega)]
  · rw [List.drop_eq_getElem_cons (by omega : i < x.length), List.drop_eq_nil_of_le (by omega : y.length ≤ i), lexF, if_neg (by omega), decide_eq_false (by omega)]

set_option maxHeartbeats 2000000 in
set_option maxRecDepth 100000 in
theorem refless_any (a b : ByteArray) (w : World) (ha : a.size ≤ 1000000) (hb : b.size ≤ 1000000) :
    Calls Tryd.prog 14 #[.string a, .string b] w fun e w' => e = .returned (.bool (less a.data.toList b.data.toList)) ∧ Below w.heap.size w w' := by
  have hla := runes_len a.data.toList
  have hlb := runes_len b.data.toList
  rw [← nums_len, ← size_len] at hla hlb
  obtain ⟨x, hx⟩ : ∃ x : List Int, nums a.data.toList = x := ⟨_, rfl⟩
  obtain ⟨y, hy⟩ : ∃ y : List Int, nums b.data.toList = y := ⟨_, rfl⟩
  obtain ⟨n, hn⟩ : ∃ n : Nat, x.length = n := ⟨_, rfl⟩
  obtain ⟨m, hm⟩ : ∃ m : Nat, y.length = m := ⟨_, rfl⟩
  rw [hx, hn] at hla
  rw [hy, hm] at hlb
  have hsome : ∀ r, lexF x y = some r → less a.data.toList b.data.toList = r := fun r h => lex_some _ _ (by rw [hx, hy]; exact h)
  have hnone : lexF x y = none → less a.data.toList b.data.toList = Op.bytesLess a.data.toList b.data.toList := fun h => lex_none _ _ (by rw [hx, hy]; exact h)
  have HX := Lib.hid hx
  have HY := Lib.hid hy
  have HN := Lib.hid hn
  have HM := Lib.hid hm
  have HSOME := Lib.hid hsome
  have HNONE := Lib.hid hnone
  clear hx hy hn hm hsome hnone
  go_enter Tryd.func14, Tryd.ntmps14
  go_wp2_with fail
  refine (runes_at a _ ha).mono ?_
  unfold runesAt
  rw [HX.out, HN.out]
  rintro e w2 ⟨A, cap, rfl, hr2, hb2⟩
  have HR2 := Lib.hid hr2
  clear hr2
  go_wp2_with fail
  refine (runes_at b _ hb).mono ?_
  unfold runesAt
  rw [HY.out, HM.out]
  rintro e w3 ⟨B, cap', rfl, hr3, hb3⟩
  have hr2 := HR2.out.kept hb3
  have HRX := Lib.hid hr2
  have HRY := Lib.hid hr3
  have hb4 := nxt hb2 hb3 hb2.size
  clear hr2 hr3 HR2
  go_wp2
  go_loopw [9] (fun i wr => ∃ k q : Nat, k ≤ n ∧ k ≤ m ∧ i = .int .i64 k ∧ wr = w3.drewN q ∧ Hid (lexF (x.drop k) (y.drop k) = lexF x y)) (fun i _ => n - (RowKit.intOf i).toNat)
  case atStart => exact ⟨0, 0, Nat.zero_le _, Nat.zero_le _, rfl, rfl, Lib.hid rfl⟩
  case round =>
    obtain ⟨k, q, hk1, hk2, rfl, rfl, hk⟩ := hrel
    by_cases hkk : k < n ∧ k < m
    · obtain ⟨h1, h2⟩ := hkk
      have hkx : k < x.length := by rw [HN.out]; exact h1
      have hky : k < y.length := by rw [HM.out]; exact h2
      obtain ⟨g, hA, hcx⟩ : ∃ g, A = some ⟨g, 0, none⟩ ∧ w3.cell? ⟨g, k, none⟩ = some (.int .i64 (x.getD k 0)) := by
        rcases HRX.out with h | ⟨g, h1, h2, h3, h4⟩
        · rw [h] at hkx; exact absurd hkx (by simp)
        · exact ⟨g, h1, h4 k hkx⟩
      obtain ⟨g', hB, hcy⟩ : ∃ g, B = some ⟨g, 0, none⟩ ∧ w3.cell? ⟨g, k, none⟩ = some (.int .i64 (y.getD k 0)) := by
        rcases HRY.out with h | ⟨g, h1, h2, h3, h4⟩
        · rw [h] at hky; exact absurd hky (by simp)
        · exact ⟨g, h1, h4 k hky⟩
      subst hA hB
      have hstep := lexF_step x y k hkx hky
      have hat := lexF_at x y k hkx hky
      obtain ⟨cx, hcx'⟩ : ∃ c : Int, x.getD k 0 = c := ⟨_, rfl⟩
      obtain ⟨cy, hcy'⟩ : ∃ c : Int, y.getD k 0 = c := ⟨_, rfl⟩
      rw [hcx'] at hcx hstep hat
      rw [hcy'] at hcy hstep hat
      clear hcx' hcy' hkx hky
      by_cases he : cx = cy
      · have hs := hstep he
        rw [hk.out] at hs
        have HS := Lib.hid hs.symm
        clear hs hstep hat
        subst he
        go_wp2
        go_quiet (fail)
        go_wp2
        go_roundw
        case rel => exact ⟨k + 1, _, by omega, by omega, by go_num, rfl, HS⟩
        case measure => simp [RowKit.intOf]; omega
      · have hs := hat he
        rw [hk.out] at hs
        have hl := HSOME.out _ hs
        have HL := Lib.hid hl
        have hne : (cx != cy) = true := by simpa using he
        clear hs hstep hat hl he
        go_wp2
        go_quiet (fail)
        go_wp2
        go_quiet (fail)
        go_wp2
        go_ret
        exact ⟨by rw [HL.out]; rfl, bdrewN (bdrewN (bdrewN hb4 _) _) _⟩
    · have hend := lexF_end x y k (by rw [HN.out, HM.out]; omega) (by rw [HN.out]; exact hk1) (by rw [HM.out]; exact hk2)
      rw [hk.out, HN.out, HM.out] at hend
      by_cases hnm : n = m
      · rw [if_pos hnm] at hend
        have hl := HNONE.out hend
        have HL := Lib.hid hl
        have hq : ((n : Int) != (m : Int)) = false := by rw [hnm]; simp
        have hkn : ¬ k < n := by omega
        clear hend hl hnm
        go_wp2
        go_ret
        exact ⟨by rw [HL.out, ← toList_data, ← toList_data]; rfl, bdrewN hb4 _⟩
      · rw [if_neg hnm] at hend
        have hl := HSOME.out _ hend
        have HL := Lib.hid hl
        have hq : ((n : Int) != (m : Int)) = true := by rw [bne_iff_ne]; omega
        clear hend hl
        by_cases hkn : k < n
        all_goals
          go_wp2
          go_ret
          exact ⟨by rw [HL.out]; exact ret_bool (decide_eq_decide.2 (by omega)), bdrewN hb4 _⟩
end Go.Proofs.YtpppefajahbpgaaDoor
