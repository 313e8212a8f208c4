/-
  Names, by the document's answer: the same as by the code.
-/
import Derived.Test.YtfoabgjcndgflaaDoorL2Check
set_option linter.unusedSimpArgs false
set_option linter.unusedVariables false
namespace Go.Proofs.YtfoabgjcndgflaaDoor.L2
open Go.RowKit Go.Lib

theorem chkF_later : ∀ (r : List Int) (k : Nat), 1 ≤ k → k ≤ 32 → chkF k r = (decide (k + r.length ≤ 32) && r.all ltr)
  | [], k, h1, h => by rw [chkF, decide_eq_true (show k ≠ 0 by omega), List.length_nil, decide_eq_true (show k + 0 ≤ 32 by omega)]; rfl
  | c :: r, k, h1, h => by
    rw [chkF]
    by_cases e : k = 32
    · subst e; rw [List.length_cons, decide_eq_false (show ¬ 32 + (r.length + 1) ≤ 32 by omega)]; simp
    · rw [chkF_later r (k + 1) (by omega) (by omega)]
      have e0 : decide (k = 32) = false := by simp [e]
      have e1 : decide (k = 0) = false := by simp; omega
      rw [e0, e1, List.all_cons, List.length_cons, show k + 1 + r.length = k + (r.length + 1) by omega]
      cases ltr c <;> simp
/-- When a text is a name. -/
theorem chk_iff (l : List UInt8) : chk l = true ↔ 1 ≤ (nums l).length ∧ (nums l).length ≤ 32 ∧ led ((nums l).getD 0 0) = true ∧ (nums l).all ltr = true := by
  unfold chk
  cases h : nums l with
  | nil => simp [chkF]
  | cons c r =>
    rw [chkF, chkF_later r 1 (by omega) (by omega)]
    simp only [List.length_cons, List.getD_cons_zero, List.all_cons]
    cases ltr c <;> cases led c <;> simp <;> omega
theorem ok_num {x : Nat × Nat} (h : okR x = false) : x.1 = 65533 := by
  unfold okR at h; simp at h; exact h.1
theorem bad_all {l : List UInt8} (h : allOk l = false) : (nums l).all ltr = false := by
  unfold allOk at h
  rw [List.all_eq_false] at h ⊢
  obtain ⟨x, hx, hb⟩ := h
  refine ⟨(x.1 : Int), List.mem_map.2 ⟨x, hx, rfl⟩, ?_⟩
  rw [ok_num (by simpa using hb)]
  decide
theorem chk_no {l : List UInt8} (h : allOk l = false ∨ (nums l).length < 1 ∨ 32 < (nums l).length ∨ led ((nums l).getD 0 0) = false ∨ (nums l).all ltr = false) : chk l = false := by
  rw [← Bool.not_eq_true, chk_iff]
  rintro ⟨a, b, c, d⟩
  rcases h with h | h | h | h | h
  · rw [bad_all h] at d; cases d
  · omega
  · omega
  · rw [h] at c; cases c
  · rw [h] at d; cases d
theorem take_all_succ (f : Int → Bool) (l : List Int) (k : Nat) (h : k < l.length) : (l.take (k + 1)).all f = ((l.take k).all f && f (l.getD k 0)) := by
  rw [List.take_succ_eq_append_getElem h, List.all_append, List.all_cons, List.all_nil, Bool.and_true, List.getD_eq_getElem?_getD, List.getElem?_eq_getElem h]; rfl
theorem all_no (f : Int → Bool) (l : List Int) (k : Nat) (h : k < l.length) (hk : f (l.getD k 0) = false) : l.all f = false := by
  rw [List.all_eq_false]
  refine ⟨l.getD k 0, ?_, by rw [hk]; simp⟩
  rw [List.getD_eq_getElem?_getD, List.getElem?_eq_getElem h]
  exact List.getElem_mem h

set_option maxHeartbeats 1000000 in
set_option maxRecDepth 100000 in
theorem refcheck_any (s : ByteArray) (w : World) (hs : s.size ≤ 1000000) :
    Calls Tryd.prog 26 #[.string s] w fun e w' => e = .returned (.bool (chk s.data.toList)) ∧ Below w.heap.size w w' := by
  have hlen := runes_len s.data.toList
  rw [← nums_len, ← size_len] at hlen
  obtain ⟨n, hn⟩ : ∃ n : Nat, (nums s.data.toList).length = n := ⟨_, rfl⟩
  rw [hn] at hlen
  have HN := Lib.hid hn
  clear hn
  cases hok : allOk s.data.toList
  · have hc := chk_no (l := s.data.toList) (Or.inl hok)
    have HC := Lib.hid hc
    have HO := Lib.hid hok
    clear hc hok
    go_enter Tryd.func26, Tryd.ntmps26
    go_wp2_with (go_at_call 48; refine (runes_at _ _ hs).mono ?_; unfold runesAt; rw [HN.out, HO.out]; rintro e w2 ⟨A, cap, rfl, hr, hb2⟩; clear hr)
    go_ret
    exact ⟨by rw [HC.out]; rfl, hb2⟩
  have HO := Lib.hid hok
  clear hok
  go_enter Tryd.func26, Tryd.ntmps26
  go_wp2_with fail
  refine (runes_at _ _ hs).mono ?_
  unfold runesAt
  rw [HN.out, HO.out]
  rintro e w2 ⟨A, cap, rfl, hr, hb2⟩
  rcases hr with hr | ⟨g, rfl, hB, hlt, hcell⟩
  · have h0 : n = 0 := by have := HN.out; rw [hr] at this; exact this.symm
    subst h0
    have hc := chk_no (l := s.data.toList) (Or.inr (Or.inl (by rw [HN.out]; omega)))
    have HC := Lib.hid hc
    clear hc hr
    go_wp2
    go_ret
    exact ⟨by rw [HC.out]; rfl, hb2⟩
  rw [HN.out] at hcell
  have HCELL := Lib.hid hcell
  clear hcell
  by_cases h1 : n < 1
  · have hc := chk_no (l := s.data.toList) (Or.inr (Or.inl (by rw [HN.out]; omega)))
    have h0 : n = 0 := by omega
    subst h0
    have HC := Lib.hid hc
    clear hc
    go_wp2
    go_ret
    exact ⟨by rw [HC.out]; rfl, hb2⟩
  by_cases h32 : 32 < n
  · have hc := chk_no (l := s.data.toList) (Or.inr (Or.inr (Or.inl (by rw [HN.out]; omega))))
    have HC := Lib.hid hc
    clear hc
    go_wp2
    go_ret
    exact ⟨by rw [HC.out]; rfl, hb2⟩
  obtain ⟨c0, hc0⟩ : ∃ c0 : Int, (nums s.data.toList).getD 0 0 = c0 := ⟨_, rfl⟩
  have hcell0 := HCELL.out 0 (by omega)
  rw [hc0] at hcell0
  have HC0 := Lib.hid hc0
  clear hc0
  by_cases hled : led c0 = true
  · have hl : c0 ≠ 45 ∧ ¬ (48 ≤ c0 ∧ c0 ≤ 57) := by unfold led at hled; simp only [decide_eq_true_eq] at hled; exact hled
    have hl1 : (c0 == 45) = false := by simpa using hl.1
    have HLED := Lib.hid hled
    rcases (show c0 < 48 ∨ (48 ≤ c0 ∧ 57 < c0) by omega) with hx | ⟨hx, hy⟩
    all_goals
      clear hl hled
      go_wp2
      go_loop [5] (fun i => ∃ k : Nat, k ≤ n ∧ i = .int .i64 k ∧ Hid (((nums s.data.toList).take k).all ltr = true)) (fun i => n - (RowKit.intOf i).toNat)
      case atStart => exact ⟨0, Nat.zero_le _, rfl, Lib.hid rfl⟩
      case round =>
        obtain ⟨k, hk, rfl, ha⟩ := hrel
        by_cases hkn : k < n
        · have hck := HCELL.out k hkn
          have hts := take_all_succ ltr (nums s.data.toList) k (by rw [HN.out]; exact hkn)
          rw [ha.out] at hts
          have hno := all_no ltr (nums s.data.toList) k (by rw [HN.out]; exact hkn)
          obtain ⟨ck, hckk⟩ : ∃ ck : Int, (nums s.data.toList).getD k 0 = ck := ⟨_, rfl⟩
          rw [hckk] at hck hts hno
          clear hckk
          cases hlt2 : ltr ck
          · have hc := chk_no (l := s.data.toList) (Or.inr (Or.inr (Or.inr (Or.inr (hno hlt2)))))
            have HC := Lib.hid hc
            have HL := Lib.hid hlt2
            clear hc hlt2 hts hno
            go_wp2_with (go_at_call 49; refine (refletter_any _ _).mono ?_; rw [HL.out]; rintro e w' ⟨rfl, rfl⟩)
            go_ret
            exact ⟨by rw [HC.out]; rfl, hb2⟩
          · have HL := Lib.hid hlt2
            rw [hlt2] at hts
            have HTS := Lib.hid hts
            clear hlt2 hts hno
            go_wp2_with (go_at_call 49; refine (refletter_any _ _).mono ?_; rw [HL.out]; rintro e w' ⟨rfl, rfl⟩)
            go_round
            case rel => exact ⟨k + 1, by omega, by go_num, HTS⟩
            case measure => simp [RowKit.intOf]; omega
        · have hfin := ha.out
          rw [List.take_of_length_le (by rw [HN.out]; omega)] at hfin
          have hc : chk s.data.toList = true := (chk_iff _).2 ⟨by rw [HN.out]; omega, by rw [HN.out]; omega, by rw [HC0.out]; exact HLED.out, hfin⟩
          have HC := Lib.hid hc
          clear hc hfin
          go_wp2
          go_ret
          exact ⟨by rw [HC.out]; rfl, hb2⟩
  · have hf : led c0 = false := by simpa using hled
    have hc := chk_no (l := s.data.toList) (Or.inr (Or.inr (Or.inr (Or.inl (by rw [HC0.out]; exact hf)))))
    have HC := Lib.hid hc
    have hl : c0 = 45 ∨ (48 ≤ c0 ∧ c0 ≤ 57) := by unfold led at hf; simp only [decide_eq_false_iff_not] at hf; omega
    clear hc hf hled
    rcases hl with rfl | ⟨hx, hy⟩
    · go_wp2
      go_ret
      exact ⟨by rw [HC.out]; rfl, hb2⟩
    · have hl1 : (c0 == 45) = false := by simp; omega
      go_wp2
      go_ret
      exact ⟨by rw [HC.out]; rfl, hb2⟩
end Go.Proofs.YtfoabgjcndgflaaDoor.L2
