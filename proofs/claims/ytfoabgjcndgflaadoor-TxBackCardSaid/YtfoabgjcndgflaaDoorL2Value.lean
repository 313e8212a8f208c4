/-
  Values, by the code and by the document's answer: the same.
-/
import Derived.Test.YtfoabgjcndgflaaDoorL2RefCheck
import Derived.Test.YtfoabgjcndgflaaDoorL2Tables
import Derived.Test.YtfoabgjcndgflaaDoorL2Cut
import Derived.Lib.OthersKept
set_option linter.unusedSimpArgs false
set_option linter.unusedVariables false
namespace Go.Proofs.YtfoabgjcndgflaaDoor.L2
open Go.RowKit Go.Lib

/-- A character that a value may have. -/
def vch (c : Int) : Bool := decide (32 ≤ c ∧ c ≠ 127)
/-- Is a value what is left, behind k characters? -/
def valF : Nat → List (Nat × Nat) → Bool
  | _, [] => true
  | k, x :: r => !(decide (k = 32) || !vch (x.1 : Int) || !okR x) && valF (k + 1) r
def vlu (l : List UInt8) : Bool := valF 0 (runes l)
theorem valF_bad {k : Nat} {x : Nat × Nat} {r : List (Nat × Nat)} (h : (decide (k = 32) || !vch (x.1 : Int) || !okR x) = true) : valF k (x :: r) = false := by rw [valF, h]; rfl
theorem valF_good {k : Nat} {x : Nat × Nat} {r : List (Nat × Nat)} (h : (decide (k = 32) || !vch (x.1 : Int) || !okR x) = false) : valF k (x :: r) = valF (k + 1) r := by rw [valF, h]; rfl
theorem valF_eq : ∀ (r : List (Nat × Nat)) (k : Nat), k ≤ 32 → valF k r = (decide (k + r.length ≤ 32) && r.all okR && (r.map fun x => (x.1 : Int)).all vch)
  | [], k, h => by rw [valF, List.length_nil, decide_eq_true (show k + 0 ≤ 32 by omega)]; rfl
  | x :: r, k, h => by
    rw [valF]
    by_cases e : k = 32
    · subst e; rw [List.length_cons, decide_eq_false (show ¬ 32 + (r.length + 1) ≤ 32 by omega)]; simp
    · rw [valF_eq r (k + 1) (by omega), decide_eq_false e, List.length_cons, List.map_cons, List.all_cons, List.all_cons, show k + 1 + r.length = k + (r.length + 1) by omega]
      cases vch (x.1 : Int) <;> cases okR x <;> simp
theorem vlu_eq (l : List UInt8) : vlu l = (decide ((nums l).length ≤ 32) && allOk l && (nums l).all vch) := by
  unfold vlu
  rw [valF_eq _ 0 (by omega), Nat.zero_add, nums_len]; rfl

/-- What holds of the world while characters are looked at. -/
def valRel (s : ByteArray) (w : World) (n : Value) (wr : World) : Prop :=
  ∃ pos k : Nat, pos ≤ s.size ∧ k ≤ 32 ∧ n = .int .i64 k ∧ wr.heap[w.heap.size]? = some (.stringIter s pos) ∧ Below w.heap.size w wr ∧ valF k (runes (s.data.toList.drop pos)) = vlu s.data.toList
set_option maxHeartbeats 2000000 in
set_option maxRecDepth 100000 in
theorem value_any (s : ByteArray) (w : World) (hs : s.size ≤ 1000000) (hT : Tab w) :
    Calls Tryd.prog 47 #[.string s] w fun e w' => e = .returned (.int .i64 (errOf (vlu s.data.toList))) ∧ Below w.heap.size w w' := by
  have HT := Lib.hid hT
  clear hT
  go_enter Tryd.func47, Tryd.ntmps47
  go_wp2
  go_loopw [3] (fun n wr => valRel s w n wr) (fun _ wr => s.size - wr.iterPos w.heap.size)
  case atStart => exact ⟨0, 0, Nat.zero_le _, by omega, rfl, World.iter_heap w s 0, (Below.refl _ w).alloc (Nat.le_refl _) _, rfl⟩
  case round =>
    obtain ⟨pos, k, hp, hk32, rfl, hit, hbw, hk⟩ := hrel
    have hsz : w.heap.size < wr.heap.size := (Array.getElem?_eq_some_iff.1 hit).1
    by_cases hlt : pos < s.size
    · have hne := drop_ne hlt
      have hf := dec_facts _ hne
      have hda := dec_at s pos
      rw [List.length_drop, ← size_len] at hf
      obtain ⟨f1, f2, f3, _⟩ := hf
      have hnx : ∀ ty, (Instr.next (.pointer (some ⟨w.heap.size, 0, none⟩)) true ty).run Tryd.prog wr = _ := fun ty => (Lib.run_next_any_at wr w.heap.size s pos ty hit hlt).trans (by rw [hda])
      have hit2 := Lib.iterAt_heap wr w.heap.size s pos (pos + (dec (s.data.toList.drop pos)).2) hit
      have hbw2 := Lib.below_iterAt hbw (k := w.heap.size) (Nat.le_refl _) s (pos + (dec (s.data.toList.drop pos)).2)
      have hT2 := HT.out.kept hbw2
      have hsz2 : w.heap.size < (wr.iterAt w.heap.size s (pos + (dec (s.data.toList.drop pos)).2)).heap.size := by rw [Lib.iterAt_size]; exact hsz
      have hcons := runes_cons hne
      rw [List.drop_drop] at hcons
      rw [hcons] at hk
      have HP : Hid (wr.iterPos w.heap.size = pos) := Lib.hid (by simp [World.iterPos, hit])
      have hxs : 0 < (s.extract pos s.size).size := by rw [tail_size]; omega
      have hxe := extract_to_end s pos
      obtain ⟨x, hx⟩ : ∃ x : Nat × Nat, dec (s.data.toList.drop pos) = x := ⟨_, rfl⟩
      rw [hx] at hk f1 f2 f3 hnx hit2 hbw2 hT2 hsz2
      have HX := Lib.hid hx
      have HI2 := Lib.hid hit2
      have HB2 := Lib.hid hbw2
      have HT2 := Lib.hid hT2
      have HXE := Lib.hid hxe
      clear hda hcons hne hit hbw hx hit2 hbw2 hT2 hxe
      obtain ⟨c, wd⟩ := x
      simp only at f1 f2 f3 hnx
      by_cases k1 : k = 32
      · subst k1
        rw [valF_bad (by simp)] at hk
        have HK := Lib.hid hk
        clear hk
        go_wp2
        go_ret
        exact ⟨by rw [← HK.out]; rfl, HB2.out⟩
      have k1' : ((k : Int) == 32) = false := by simp; omega
      by_cases hv : vch (c : Int) = true
      · have hv' : 32 ≤ (c : Int) ∧ (c : Int) ≠ 127 := by unfold vch at hv; simp only [decide_eq_true_eq] at hv; exact hv
        obtain ⟨v1, v2⟩ := hv'
        have v3 : ((c : Int) == 127) = false := by simpa using v2
        cases hok : okR (c, wd)
        · rw [valF_bad (by rw [hok]; simp)] at hk
          have HK := Lib.hid hk
          have HO := Lib.hid hok
          clear hk hok hv v2
          go_wp2_with (go_at_call 59; refine (broken_any _ _ HT2.out hxs).mono ?_; rw [HXE.out, HX.out, HO.out]; rintro e w3 ⟨rfl, hb3⟩)
          go_ret
          exact ⟨by rw [← HK.out]; rfl, nxt HB2.out hb3 HB2.out.size⟩
        · rw [valF_good (by rw [hok, hv, decide_eq_false k1]; rfl)] at hk
          have HK := Lib.hid hk
          have HO := Lib.hid hok
          clear hk hok hv v2
          go_wp2_with (go_at_call 59; refine (broken_any _ _ HT2.out hxs).mono ?_; rw [HXE.out, HX.out, HO.out]; rintro e w3 ⟨rfl, hb3⟩)
          have hi3 : w3.heap[w.heap.size]? = some (.stringIter s (pos + wd)) := (hb3.block _ hsz2).trans HI2.out
          go_roundw
          case rel => exact ⟨pos + wd, k + 1, by omega, by omega, by go_num, hi3, nxt HB2.out hb3 HB2.out.size, HK.out⟩
          case measure =>
            have e3 : w3.iterPos w.heap.size = pos + wd := by simp [World.iterPos, hi3]
            show s.size - w3.iterPos w.heap.size < s.size - wr.iterPos w.heap.size
            rw [e3, HP.out]; omega
      · have hv' : (c : Int) < 32 ∨ (32 ≤ (c : Int) ∧ (c : Int) = 127) := by
          unfold vch at hv; simp only [decide_eq_true_eq] at hv; omega
        rw [valF_bad (by simp [hv])] at hk
        have HK := Lib.hid hk
        clear hk hv
        rcases hv' with v1 | ⟨v1, v2⟩
        · go_wp2
          go_ret
          exact ⟨by rw [← HK.out]; rfl, HB2.out⟩
        · have v3 : ((c : Int) == 127) = true := by simpa using v2
          clear v2
          go_wp2
          go_ret
          exact ⟨by rw [← HK.out]; rfl, HB2.out⟩
    · have hnx : ∀ ty, (Instr.next (.pointer (some ⟨w.heap.size, 0, none⟩)) true ty).run Tryd.prog wr = _ := fun ty => Lib.run_next_end_at wr w.heap.size s pos ty hit hlt
      rw [drop_nil hlt, runes_nil, valF] at hk
      have HK := Lib.hid hk
      clear hk
      go_wp2
      go_ret
      exact ⟨by rw [← HK.out]; rfl, hbw⟩

theorem vlu_no {l : List UInt8} (h : allOk l = false ∨ 32 < (nums l).length ∨ (nums l).all vch = false) : vlu l = false := by
  rw [vlu_eq]
  rcases h with h | h | h
  · rw [h]; simp
  · rw [decide_eq_false (by omega)]; simp
  · rw [h]; simp
set_option maxHeartbeats 1000000 in
set_option maxRecDepth 100000 in
theorem refvalue_any (s : ByteArray) (w : World) (hs : s.size ≤ 1000000) :
    Calls Tryd.prog 27 #[.string s] w fun e w' => e = .returned (.bool (vlu s.data.toList)) ∧ Below w.heap.size w w' := by
  have hlen := runes_len s.data.toList
  rw [← nums_len, ← size_len] at hlen
  obtain ⟨n, hn⟩ : ∃ n : Nat, (nums s.data.toList).length = n := ⟨_, rfl⟩
  rw [hn] at hlen
  have HN := Lib.hid hn
  clear hn
  cases hok : allOk s.data.toList
  · have hc := vlu_no (l := s.data.toList) (Or.inl hok)
    have HC := Lib.hid hc
    have HO := Lib.hid hok
    clear hc hok
    go_enter Tryd.func27, Tryd.ntmps27
    go_wp2_with (go_at_call 48; refine (runes_at _ _ hs).mono ?_; unfold runesAt; rw [HN.out, HO.out]; rintro e w2 ⟨A, cap, rfl, hr, hb2⟩; clear hr)
    go_ret
    exact ⟨by rw [HC.out]; rfl, hb2⟩
  have HO := Lib.hid hok
  clear hok
  go_enter Tryd.func27, Tryd.ntmps27
  go_wp2_with fail
  refine (runes_at _ _ hs).mono ?_
  unfold runesAt
  rw [HN.out, HO.out]
  rintro e w2 ⟨A, cap, rfl, hr, hb2⟩
  have HR := Lib.hid hr
  clear hr
  by_cases h32 : 32 < n
  · have hc := vlu_no (l := s.data.toList) (Or.inr (Or.inl (by rw [HN.out]; omega)))
    have HC := Lib.hid hc
    clear hc
    go_wp2
    go_ret
    exact ⟨by rw [HC.out]; rfl, hb2⟩
  go_wp2
  go_loop [5] (fun i => ∃ k : Nat, k ≤ n ∧ i = .int .i64 k ∧ Hid (((nums s.data.toList).take k).all vch = true)) (fun i => n - (RowKit.intOf i).toNat)
  case atStart => exact ⟨0, Nat.zero_le _, rfl, Lib.hid rfl⟩
  case round =>
    obtain ⟨k, hk, rfl, ha⟩ := hrel
    by_cases hkn : k < n
    · have hkl : k < (nums s.data.toList).length := by rw [HN.out]; exact hkn
      obtain ⟨g, hA, hck⟩ : ∃ g, A = some ⟨g, 0, none⟩ ∧ w2.cell? ⟨g, k, none⟩ = some (.int .i64 ((nums s.data.toList).getD k 0)) := by
        rcases HR.out with h | ⟨g, h1, h2, h3, h4⟩
        · rw [h] at hkl; exact absurd hkl (by simp)
        · exact ⟨g, h1, h4 k hkl⟩
      subst hA
      have hts := take_all_succ vch (nums s.data.toList) k hkl
      rw [ha.out] at hts
      have hno := all_no vch (nums s.data.toList) k hkl
      obtain ⟨ck, hckk⟩ : ∃ ck : Int, (nums s.data.toList).getD k 0 = ck := ⟨_, rfl⟩
      rw [hckk] at hck hts hno
      clear hckk hkl
      by_cases hv : vch ck = true
      · have hv' : 32 ≤ ck ∧ ck ≠ 127 := by unfold vch at hv; simp only [decide_eq_true_eq] at hv; exact hv
        obtain ⟨v1, v2⟩ := hv'
        have v3 : (ck == 127) = false := by simpa using v2
        rw [hv] at hts
        have HTS := Lib.hid hts
        clear hts hno hv v2
        go_wp2
        go_round
        case rel => exact ⟨k + 1, by omega, by go_num, HTS⟩
        case measure => simp [RowKit.intOf]; omega
      · have hvf : vch ck = false := by simpa using hv
        have hc := vlu_no (l := s.data.toList) (Or.inr (Or.inr (hno hvf)))
        have HC := Lib.hid hc
        have hv' : ck < 32 ∨ (32 ≤ ck ∧ ck = 127) := by
          unfold vch at hvf; simp only [decide_eq_false_iff_not] at hvf; omega
        clear hc hts hno hv hvf
        rcases hv' with v1 | ⟨v1, rfl⟩
        all_goals
          go_wp2
          go_ret
          exact ⟨by rw [HC.out]; rfl, hb2⟩
    · have hfin := ha.out
      rw [List.take_of_length_le (by rw [HN.out]; omega)] at hfin
      have hc : vlu s.data.toList = true := by rw [vlu_eq, HO.out, hfin, decide_eq_true (by rw [HN.out]; omega)]; rfl
      have HC := Lib.hid hc
      clear hc hfin
      go_wp2
      go_ret
      exact ⟨by rw [HC.out]; rfl, hb2⟩
end Go.Proofs.YtfoabgjcndgflaaDoor.L2
