/-
  Names with small letters, by the document's answer: the same as by the code.
-/
import Derived.Test.YtpppefajahbpgaaDoorRefCheck
import Derived.Test.YtpppefajahbpgaaDoorPut
import Derived.Test.YtpppefajahbpgaaDoorFold
set_option linter.unusedSimpArgs false
set_option linter.unusedVariables false
namespace Go.Proofs.YtpppefajahbpgaaDoor
open Go.RowKit Go.Lib

theorem strOf_app (l : List UInt8) (m : List UInt8) : strOf l ++ strOf m = strOf (l ++ m) := by
  apply ByteArray.ext
  rw [ByteArray.data_append]
  simp [strOf]
theorem sml_bad : sml 65533 = 65533 := by decide
theorem fold_bad {l : List UInt8} (h : allOk l = false) : foldB l = false := by
  unfold foldB
  refine chk_no (Or.inr (Or.inr (Or.inr (Or.inr ?_))))
  rw [nums_fold]
  unfold allOk at h
  rw [List.all_eq_false] at h ⊢
  obtain ⟨x, hx, hb⟩ := h
  refine ⟨sml (x.1 : Int), List.mem_map.2 ⟨(x.1 : Int), List.mem_map.2 ⟨x, hx, rfl⟩, rfl⟩, ?_⟩
  rw [ok_num (by simpa using hb)]
  decide
/-- The first k letters. -/
def foldK (l : List UInt8) (k : Nat) : List UInt8 := encAll (((nums l).map sml).take k)
theorem foldK_succ (l : List UInt8) (k : Nat) (h : k < (nums l).length) : foldK l (k + 1) = foldK l k ++ enc (sml ((nums l).getD k 0)) := by
  unfold foldK
  rw [List.take_succ_eq_append_getElem (by rw [List.length_map]; exact h), encAll_snoc, List.getElem_map, List.getD_eq_getElem?_getD, List.getElem?_eq_getElem h]; rfl
theorem foldK_all (l : List UInt8) (k : Nat) (h : (nums l).length ≤ k) : foldK l k = foldT l := by
  unfold foldK foldT; rw [List.take_of_length_le (by rw [List.length_map]; exact h)]
theorem foldK_len (l : List UInt8) (k : Nat) : (foldK l k).length ≤ 4 * k := by
  unfold foldK
  have := encAll_len (((nums l).map sml).take k)
  have h2 := List.length_take_le k ((nums l).map sml)
  omega
/-- What the document's Fold tells. -/
def refFoldPost (l : List UInt8) (w : World) (e : Ending) (w' : World) : Prop :=
  e = .returned (.tuple #[.string (strOf (foldS l)), .bool (foldB l)]) ∧ Below w.heap.size w w'
def refFoldRel (s : ByteArray) (n : Nat) (w : World) (out i : Value) (wr : World) : Prop :=
  ∃ k : Nat, k ≤ n ∧ out = .string (strOf (foldK s.data.toList k)) ∧ i = .int .i64 k ∧ Below w.heap.size w wr
theorem refcheck_at (l : List UInt8) (w : World) (hl : l.length ≤ 1000000) {b : Bool} (h : chk l = b) :
    Calls Tryd.prog 8 #[.string (strOf l)] w fun e w' => e = .returned (.bool b) ∧ Below w.heap.size w w' :=
  (refcheck_any (strOf l) w (by rw [strOf_size]; exact hl)).mono fun e w' ⟨he, hb⟩ => ⟨by rw [he, strOf_list, h], hb⟩

set_option maxHeartbeats 1000000 in
set_option maxRecDepth 100000 in
theorem reffold_any (s : ByteArray) (w : World) (hs : s.size ≤ 2000) : Calls Tryd.prog 12 #[.string s] w (refFoldPost s.data.toList w) := by
  have hlen := runes_len s.data.toList
  rw [← nums_len, ← size_len] at hlen
  obtain ⟨n, hn⟩ : ∃ n : Nat, (nums s.data.toList).length = n := ⟨_, rfl⟩
  rw [hn] at hlen
  have hfl := encAll_len ((nums s.data.toList).map sml)
  rw [List.length_map, hn] at hfl
  have HN := Lib.hid hn
  clear hn
  have hcases : (allOk s.data.toList = false ∧ foldB s.data.toList = false) ∨ (allOk s.data.toList = true ∧ foldB s.data.toList = false) ∨ (allOk s.data.toList = true ∧ foldB s.data.toList = true) := by
    cases hok : allOk s.data.toList
    · exact Or.inl ⟨rfl, fold_bad hok⟩
    · cases hfb : foldB s.data.toList
      · exact Or.inr (Or.inl ⟨rfl, rfl⟩)
      · exact Or.inr (Or.inr ⟨rfl, rfl⟩)
  rcases hcases with ⟨hok, hfb⟩ | ⟨hok, hfb⟩ | ⟨hok, hfb⟩
  all_goals
    have HO := Lib.hid hok
    have HF := Lib.hid hfb
    clear hok hfb
    go_enter Tryd.func12, Tryd.ntmps12
    go_wp2_with fail
    refine (runes_at _ _ (by omega)).mono ?_
    unfold runesAt
    rw [HN.out, HO.out]
    rintro e w2 ⟨A, cap, rfl, hr, hb2⟩
    have HR := Lib.hid hr
    clear hr
    go_wp2
    go_loopw [6, 7] (fun out i wr => refFoldRel s n w2 out i wr) (fun _ i _ => n - (RowKit.intOf i).toNat)
    case atStart => exact ⟨0, Nat.zero_le _, rfl, rfl, Below.refl _ _⟩
    case round =>
      obtain ⟨k, hk, rfl, rfl, hbw⟩ := hrel
      by_cases hkn : k < n
      · have hkl : k < (nums s.data.toList).length := by rw [HN.out]; exact hkn
        obtain ⟨g, hA, hcell⟩ : ∃ g, A = some ⟨g, 0, none⟩ ∧ wr.cell? ⟨g, k, none⟩ = some (.int .i64 ((nums s.data.toList).getD k 0)) := by
          rcases HR.out with h | ⟨g, h1, h2, h3, h4⟩
          · rw [h] at hkl; exact absurd hkl (by simp)
          · exact ⟨g, h1, (hbw.cell (p := ⟨g, k, none⟩) h3).trans (h4 k hkl)⟩
        subst hA
        have hts := foldK_succ s.data.toList k hkl
        have hokc := nums_ok s.data.toList ((nums s.data.toList).getD k 0) (by
          rw [List.getD_eq_getElem?_getD, List.getElem?_eq_getElem hkl]; exact List.getElem_mem hkl)
        have hel := foldK_len s.data.toList k
        obtain ⟨c, hc⟩ : ∃ c : Int, (nums s.data.toList).getD k 0 = c := ⟨_, rfl⟩
        rw [hc] at hcell hts hokc
        clear hc hkl
        have hsok := sml_ok hokc
        have hel2 := enc_len (sml c)
        have hsz1 : (strOf (foldK s.data.toList k)).size ≤ 8000 := by rw [strOf_size]; omega
        have hsz2 : (strOf (enc (sml c))).size ≤ 4 := by rw [strOf_size]; exact hel2
        have happ := strOf_app (foldK s.data.toList k) (enc (sml c))
        rw [← hts] at happ
        have hb9 : 0 ≤ c ∧ c ≤ 1114111 := by unfold okNum at hokc; omega
        obtain ⟨c0, c1⟩ := hb9
        have HAPP := Lib.hid happ
        have HSOK := Lib.hid hsok
        clear happ hts hokc hsok hel hel2
        cases hg : grt c
        all_goals
          have hsm : sml c = if grt c then c + 32 else c := rfl
          rw [hg] at hsm
          simp only [if_true, Bool.false_eq_true, if_false] at hsm
          rw [hsm] at hsz2
          have HS := HSOK
          have HP := HAPP
          rw [hsm] at HS HP
          have HG := Lib.hid hg
          clear hg hsm
          go_wp2_with (first
            | (go_at_call 25; refine (refgreat_any _ _).mono ?_; rw [HG.out]; rintro e w' ⟨rfl, rfl⟩)
            | (go_at_call 26; refine (put_any _ _ HS.out).mono ?_; rintro e w3 ⟨rfl, hb3⟩))
          go_roundw
          case rel => exact ⟨k + 1, by omega, by rw [← HP.out], by go_num, hbw.trans (hb3.mono hbw.size)⟩
          case measure => simp [RowKit.intOf]; omega
      · have hke : k = n := by omega
        subst hke
        have hfull : foldK s.data.toList k = foldT s.data.toList := foldK_all _ _ (by rw [HN.out]; exact Nat.le_refl _)
        rw [hfull]
        have hcl : (foldT s.data.toList).length ≤ 1000000 := by unfold foldT; omega
        clear hfull
        go_wp2_with (go_at_call 8; refine (refcheck_at _ _ hcl HF.out).mono ?_; rintro e w4 ⟨rfl, hb4⟩)
        go_ret2
        have h := HF.out
        first
          | exact ⟨by unfold foldS; rw [h]; rfl, nxt hb2 (nxt hbw hb4 hbw.size) hb2.size⟩
          | exact ⟨by unfold foldS; rw [h]; rfl, nxt hb2 hbw hb2.size⟩
end Go.Proofs.YtpppefajahbpgaaDoor
