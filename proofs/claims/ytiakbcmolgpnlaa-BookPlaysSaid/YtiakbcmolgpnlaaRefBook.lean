/-
  The document's answer: contents as a list; what each of its calls tells and leaves.
-/
import Derived.Test.YtiakbcmolgpnlaaBook
import Derived.Lib.Strings
set_option linter.unusedSimpArgs false
set_option linter.unusedVariables false
namespace Go.Proofs.Ytiakbcmolgpnlaa
open Go.RowKit

theorem list_ne {s t : ByteArray} (h : s ≠ t) : ¬ s.toList = t.toList ∧ (s.toList == t.toList) = false := by
  have : ¬ s.toList = t.toList := fun e => h (bytes_inj (by rw [← Lib.toList_data, ← Lib.toList_data]; exact e))
  exact ⟨this, by simpa using this⟩
/-- In w the struct in block g is the answer's book of the contents L; all its blocks lie in S. -/
def Rf (w : World) (S : Nat → Prop) (g : Nat) (L : List ByteArray) : Prop :=
  ∃ v, Blk w g 29 #[v] ∧ w.ownsRow 0 9 1 v L.length (txt L) ∧ S g ∧ (∀ k, v.ownBlock = some k → S k)
theorem Rf.lt {w : World} {S : Nat → Prop} {g : Nat} {L : List ByteArray} (h : Rf w S g L) : g < w.heap.size := by obtain ⟨_, hb, _⟩ := h; exact hb.lt
theorem Rf.mono {w : World} {S S' : Nat → Prop} {g : Nat} {L : List ByteArray} (h : Rf w S g L) (hs : ∀ k, k < w.heap.size → S k → S' k) : Rf w S' g L := by
  obtain ⟨v, hb, hr, h1, h3⟩ := h
  exact ⟨v, hb, hr, hs _ hb.lt h1, fun k hk => hs _ (hr.lt k hk).2 (h3 k hk)⟩
theorem Rf.kept {w w' : World} {S T : Nat → Prop} {g : Nat} {L : List ByteArray} (h : Rf w S g L) (ht : Turn T w w') (hd : ∀ k, k < w.heap.size → S k → ¬ T k) : Rf w' S g L := by
  obtain ⟨v, hb, hr, h1, h3⟩ := h
  exact ⟨v, ht.blk hb (hd _ hb.lt h1), ht.row hr (fun k hk => hd _ (hr.lt k hk).2 (h3 k hk)), h1, h3⟩
theorem Rf.same {w : World} {S : Nat → Prop} {g : Nat} {L : List ByteArray} (h : Rf w S g L) : Rf w (moreB S w w) g L := h.mono fun _ _ => .inl

set_option maxHeartbeats 1000000 in
set_option maxRecDepth 100000 in
theorem reflook_any (S : Nat → Prop) (g : Nat) (L : List ByteArray) (s : ByteArray) (w : World) (h : Rf w S g L) (hl : L.length ≤ 1000000000) :
    Calls Try.prog 11 #[.pointer (some ⟨g, 0, none⟩), .string s] w fun e w' => e = .returned (.int .i64 (idx L s : Nat)) ∧ w' = w := by
  obtain ⟨v, hb, hr, h1, h3⟩ := h
  obtain ⟨A, c, rfl, hc, hrd⟩ := row_reads hr
  have c0 := hb.cell 0
  clear hr h3
  go_enter Try.func11, Try.ntmps11
  go_wp2
  go_loop [5] (fun i => ∃ k : Nat, k ≤ L.length ∧ i = .int .i64 k ∧ idxFrom k (L.drop k) s = idx L s) (fun i => L.length - (RowKit.intOf i).toNat)
  case atStart => exact ⟨0, Nat.zero_le _, rfl, rfl⟩
  case round =>
    obtain ⟨k, hk, rfl, hi⟩ := hrel
    by_cases hlt : k < L.length
    · rw [idxFrom_drop hlt] at hi
      obtain ⟨ad, u, rfl, _, hx, hcl⟩ := hrd.at_ hlt
      have hu : u = .string L[k] := by
        simp only [txt, List.getElem?_map, List.getElem?_eq_getElem hlt, Option.map_some, Option.some.injEq] at hx
        exact hx.symm
      subst hu
      obtain ⟨t, ht⟩ : ∃ t, t = L[k] := ⟨_, rfl⟩
      rw [← ht] at hcl hi
      by_cases he : t = s
      · subst he
        rw [if_pos rfl] at hi
        have HI := Lib.hid hi
        clear hi hx ht
        go_wp2_with fail
        go_ret
        exact ⟨by rw [← HI.out]; rfl, rfl⟩
      · rw [if_neg he] at hi
        have HI := Lib.hid hi
        have he2 := list_ne he
        have he3 := he2.1
        have he4 := he2.2
        clear hi hx ht he2 he
        go_wp2_with fail
        go_round
        case rel => exact ⟨k + 1, by omega, by go_num, HI.out⟩
        case measure => simp [RowKit.intOf]; omega
    · have hkl : L.drop k = [] := List.drop_eq_nil_of_le (by omega)
      rw [hkl] at hi
      have hz : idx L s = 0 := hi.symm
      have HZ := Lib.hid hz
      clear hi hz hkl
      go_wp2_with fail
      go_ret
      exact ⟨by rw [HZ.out]; rfl, rfl⟩

set_option maxHeartbeats 1000000 in
set_option maxRecDepth 100000 in
theorem refcontent_any (S : Nat → Prop) (g : Nat) (L : List ByteArray) (n : Int) (w : World) (h : Rf w S g L) (hl : L.length ≤ 1000000000) :
    Calls Try.prog 13 #[.pointer (some ⟨g, 0, none⟩), .int .i64 n] w fun e w' => e = .returned (.tuple #[.string (contS L n), .bool (decide (contE L n = 0))]) ∧ w' = w := by
  obtain ⟨v, hb, hr, h1, h3⟩ := h
  obtain ⟨A, c, rfl, hc, hrd⟩ := row_reads hr
  have c0 := hb.cell 0
  clear hr h3
  go_enter Try.func13, Try.ntmps13
  go_wp2
  go_loop [6] (fun i => ∃ k : Nat, k ≤ L.length ∧ i = .int .i64 k ∧ (n < 1 ∨ (k : Int) < n)) (fun i => L.length - (RowKit.intOf i).toNat)
  case atStart => exact ⟨0, Nat.zero_le _, rfl, by omega⟩
  case round =>
    obtain ⟨k, hk, rfl, hi⟩ := hrel
    by_cases hlt : k < L.length
    · by_cases he : n = (k : Int) + 1
      · subst he
        obtain ⟨ad, u, rfl, _, hx, hcl⟩ := hrd.at_ hlt
        have hu : u = .string L[k] := by
          simp only [txt, List.getElem?_map, List.getElem?_eq_getElem hlt, Option.map_some, Option.some.injEq] at hx
          exact hx.symm
        subst hu
        have e1 : contS L ((k : Int) + 1) = L[k] := by
          unfold contS
          rw [if_neg (by omega)]
          have : ((k : Int) + 1).toNat - 1 = k := by omega
          rw [this, List.getD_eq_getElem?_getD, List.getElem?_eq_getElem hlt]; rfl
        have e2 : contE L ((k : Int) + 1) = 0 := by unfold contE; rw [if_neg (by omega)]
        have E1 := Lib.hid e1
        have E2 := Lib.hid e2
        clear hi hx e1 e2
        go_wp2_with fail
        go_ret2
        exact ⟨by rw [E1.out, E2.out]; rfl, rfl⟩
      · have he2 : ((k : Int) + 1 == n) = false := by simp; omega
        have HI : Hid (n < 1 ∨ ((k + 1 : Nat) : Int) < n) := by show _ ∨ _; omega
        clear hi he
        go_wp2_with fail
        go_round
        case rel => exact ⟨k + 1, by omega, by go_num, HI.out⟩
        case measure => simp [RowKit.intOf]; omega
    · have e1 : contS L n = ⟨#[]⟩ := by unfold contS; rw [if_pos (by omega)]
      have e2 : contE L n = 50 := by unfold contE; rw [if_pos (by omega)]
      have E1 := Lib.hid e1
      have E2 := Lib.hid e2
      clear hi e1 e2
      go_wp2_with fail
      go_ret2
      exact ⟨by rw [E1.out, E2.out]; rfl, rfl⟩

set_option maxHeartbeats 1000000 in
set_option maxRecDepth 100000 in
theorem refenter_any (S : Nat → Prop) (g : Nat) (L : List ByteArray) (s : ByteArray) (w : World) (h : Rf w S g L) (hl : L.length ≤ 1000000000) :
    Calls Try.prog 9 #[.pointer (some ⟨g, 0, none⟩), .string s] w fun e w' => e = .returned (.tuple #[.int .i64 (enterN L s : Nat), .int .i64 (enterE s : Nat)]) ∧ Rf w' (moreB S w w') g (enterL L s) ∧ Turn S w w' := by
  have HB := Lib.hid h
  obtain ⟨v, hb, hr, h1, h3⟩ := h
  obtain ⟨i0, hi, hz0, hz1, hz2⟩ := info_parts strInfo
  obtain ⟨A, c, rfl, hc, hrd⟩ := row_reads hr
  have c0 := hb.cell 0
  have f0 := hb.frozen 0
  have HC := Lib.hid hc
  clear hc
  by_cases hs : 65536 < s.size
  · have e1 : enterN L s = 0 := by simp [enterN, hs]
    have e2 : enterE s = 2 := by simp [enterE, hs]
    have e3 : enterL L s = L := by simp [enterL, hs]
    rw [e1, e2, e3]
    go_enter Try.func9, Try.ntmps9
    go_wp2_with fail
    go_ret2
    exact ⟨rfl, HB.out.same, Turn.refl _ _⟩
  · by_cases h0 : idx L s = 0
    · have e1 : enterN L s = L.length + 1 := by simp [enterN, hs, h0]
      have e2 : enterE s = 0 := by simp [enterE, hs]
      have e3 : enterL L s = L ++ [s] := by simp [enterL, hs, h0]
      rw [e1, e2, e3]
      have hk := reflook_any S g L s w HB.out hl
      rw [h0] at hk
      have HK := Lib.hid hk
      clear e1 e2 e3 h0 hk
      go_enter Try.func9, Try.ntmps9
      obtain ⟨m, hm1⟩ : ∃ m, m = L.length + 1 := ⟨_, rfl⟩
      have hm2 : m ≤ 1000000001 := by omega
      have HM := Lib.hid hm1
      rw [← hm1]
      have hcA : (w.alloc (.cells #[] 9)).cell? ⟨g, 0, none⟩ = some (.slice A L.length c) := (hb.alloc _).cell 0
      have hglt := hb.lt
      clear hm1
      go_wp2_with (first
        | (go_at_call 11; refine HK.out.mono ?_; rintro e w1 ⟨rfl, rfl⟩)
        | (at_builtin
           refine wpList_append_any _ rfl (.tmp 16) (.tmp 20) 27 rfl 0 9 i0 _ 1 16 Try.underlying27 hi hz0 hz1 hz2 rfl (by decide) (.slice (some ⟨w1.heap.size, 0, none⟩) 0 0) 0 [] rfl
             (World.ownsRow_made _ _ 0 (Nat.zero_le _) (by decide) rfl) w1.heap.size A L.length c (txt L) rfl (hrd.alloc (Nat.le_refl _) _) (txt_one L) (by unfold maxLen; omega) (by omega) (Nat.zero_le _) ?_
           intro v2 w2 ho2 hg2 hat2)
        | (at_builtin
           refine wpList_append_any _ rfl (.tmp 21) (.tmp 23) 27 rfl 0 9 i0 _ 1 16 Try.underlying27 hi hz0 hz1 hz2 rfl (by decide) v2 (0 + L.length) ([] ++ txt L) rfl
             ((Turn.of_keep (S := fun _ => False) ((Below.refl _ _).alloc (Nat.le_refl _) (.cells #[.string s] 9))).row ho2 (by simp)) (w2.heap.size + 1) (some ⟨w2.heap.size, 0, none⟩) 1 1 [.string s] rfl (reads_one _ _ _) (by simp [Value.oneCell']) (by unfold maxLen; omega) (by omega) (Nat.zero_le _) ?_
           intro v3 w3 ho3 hg3 hat3
           rw [show 0 + L.length + 1 = m by have := HM.out; omega] at ho3
           have hB2 := (hb.alloc (.cells #[] 9)).grown hg2 (by simp [Value.ownBlock]; omega)
           have hB3 := (hB2.alloc (.cells #[.string s] 9)).grown hg3 (fun e => own_blk_ne ho2 hB2 (by decide) e.symm)
           obtain ⟨A3, cp3, rfl, hc3, hrd3⟩ := row_reads ho3
           have c3 := hB3.cell 0
           have f3 := hB3.frozen 0
           clear hc3 hrd3)
        | go_in)
      go_ret2
      have hl1 : L.length + 1 = (L ++ [s]).length := by simp
      have hat3' : ∀ i, v2.ownBlock = some i → w1.heap.size ≤ i := by
        intro i hi
        rcases hat2 with e | e
        · rw [e] at hi; simp [Value.ownBlock] at hi; omega
        · rw [e] at hi; simp at hi; omega
      have hs2 : w1.heap.size ≤ w2.heap.size := by have := hg2.size; simp at this; omega
      have ht2 : Turn S w1 w2 := ((Turn.refl S w1).alloc _).grown hg2 (fun i e => by simp [Value.ownBlock] at e; right; omega)
      have ht3 : Turn S w1 w3 := (ht2.alloc (.cells #[.string s] 9)).grown hg3 (fun i e => .inr (hat3' i e))
      have hv3 : ∀ k, (Value.slice A3 m cp3).ownBlock = some k → S k ∨ w1.heap.size ≤ k := by
        intro k hk
        rcases hat3 with e | e
        · rw [e] at hk; exact .inr (hat3' k hk)
        · rw [e] at hk; simp at hk; right; omega
      have hR3 := ((Turn.refl (fun k => k = g) w3).setCell (p := ⟨g, 0, none⟩) (.inl rfl) (.slice A3 m cp3)).row ho3 (fun k hk e => own_blk_ne ho3 hB3 (by decide) (by rw [hk, e]))
      refine ⟨by first | rfl | (rw [HM.out]; rfl), ⟨.slice A3 m cp3, hB3.set_ 0 _, ?_, .inl h1, fun k hk => (hv3 k hk).imp id (fun h => ⟨h, (hR3.lt k hk).2⟩)⟩, ht3.setCell (.inl h1) _⟩
      rw [← hl1, txt_snoc, ← HM.out]
      simpa using hR3
    · have e1 : enterN L s = idx L s := by simp [enterN, hs, h0]
      have e2 : enterE s = 0 := by simp [enterE, hs]
      have e3 : enterL L s = L := by simp [enterL, hs, h0]
      rw [e1, e2, e3]
      have hz : (((idx L s : Nat) : Int) == 0) = false := by simp; exact h0
      clear e1 e2 e3 h0
      obtain ⟨k, hk⟩ : ∃ k, k = idx L s := ⟨_, rfl⟩
      have hq := reflook_any S g L s w HB.out hl
      rw [← hk] at hz hq ⊢
      have HQ := Lib.hid hq
      clear hq hk
      go_enter Try.func9, Try.ntmps9
      go_wp2_with (first
        | (go_at_call 11; refine HQ.out.mono ?_; rintro e w1 ⟨rfl, rfl⟩)
        | go_in)
      go_ret2
      exact ⟨rfl, HB.out.same, Turn.refl _ _⟩
end Go.Proofs.Ytiakbcmolgpnlaa
