/-
  The walk through the law of P5.2.
-/
import Derived.Test.YtiakbcmolgpnlaaAlive
import Derived.Lib.Strings
import Derived.BigQuiet
import Derived.Deep.QuietTactic
set_option linter.unusedSimpArgs false
set_option linter.unusedVariables false
namespace Go.Proofs.Ytiakbcmolgpnlaa.walkOnly
open Go.RowKit Go.Lib

theorem intInfo : (Try.prog.info? 3).map (fun i => (i.zero, i.size, i.bytes)) = some (some (.int .i64 0), 1, 8) := by kernel_rfl
theorem list_ne {s t : ByteArray} (h : s ≠ t) : ¬ s.toList = t.toList ∧ (s.toList == t.toList) = false := by
  have : ¬ s.toList = t.toList := fun e => h (bytes_inj (by rw [← Lib.toList_data, ← Lib.toList_data]; exact e))
  exact ⟨this, by simpa using this⟩
/-- The book that entered all of L. -/
def ent (L : List ByteArray) : List ByteArray := L.foldl enterL []
theorem ent_snoc (L : List ByteArray) (s : ByteArray) : ent (L ++ [s]) = enterL (ent L) s := by simp [ent]
theorem idx_enter {M : List ByteArray} {s t : ByteArray} (h : idx M s ≠ 0) : idx (enterL M t) s = idx M s := by
  unfold enterL
  split
  · rfl
  · split
    · rw [idx_snoc, if_neg h]
    · rfl
theorem enterN_eq {M : List ByteArray} {s : ByteArray} (h : s.size ≤ 65536) : enterN M s = idx (enterL M s) s ∧ enterN M s ≠ 0 := by
  have h' : ¬ 65536 < s.size := by omega
  simp only [enterN, enterL, if_neg h']
  by_cases h0 : idx M s = 0
  · rw [if_pos h0, if_pos h0, idx_snoc, if_pos h0, if_pos rfl]; exact ⟨rfl, by omega⟩
  · rw [if_neg h0, if_neg h0]; exact ⟨rfl, h0⟩
theorem ent_len : ∀ (L M : List ByteArray), (L.foldl enterL M).length ≤ M.length + L.length
  | [], M => by simp
  | s :: l, M => by
    have h1 := ent_len l (enterL M s)
    have h2 := (enterL_len M s).2
    simp only [List.foldl_cons, List.length_cons]; omega
theorem ent_mem {L : List ByteArray} (hs : ∀ s ∈ L, s.size ≤ 65536) : ∀ s ∈ L, idx (ent L) s ≠ 0 := by
  intro s h
  obtain ⟨a, b, rfl⟩ := List.append_of_mem h
  have h0 : idx (ent (a ++ [s])) s ≠ 0 := by
    have := enterN_eq (M := ent a) (s := s) (hs s (by simp))
    rw [ent_snoc, ← this.1]; exact this.2
  have : ∀ (b M : List ByteArray), idx M s ≠ 0 → idx (b.foldl enterL M) s ≠ 0 := by
    intro b
    induction b with
    | nil => intro M h; exact h
    | cons t b ih => intro M h; exact ih _ (by rw [idx_enter h]; exact h)
  have := this b _ h0
  have e : ent (a ++ s :: b) = b.foldl enterL (ent (a ++ [s])) := by simp [ent]
  rw [e]; exact this
theorem idx_inj {M : List ByteArray} {s t : ByteArray} (hs : idx M s ≠ 0) (h : idx M s = idx M t) : s = t := by
  have h1 := idx_at (L := M) (n := idx M s - 1) (s := s) (by omega)
  have h2 := idx_at (L := M) (n := idx M s - 1) (s := t) (by omega)
  rw [h1] at h2
  injection h2
theorem enterL_sub {M : List ByteArray} {s t : ByteArray} (h : t ∈ enterL M s) : t ∈ M ∨ t = s := by
  unfold enterL at h
  split at h
  · exact .inl h
  · split at h
    · simpa using h
    · exact .inl h
theorem ent_sub : ∀ (L M : List ByteArray) (t : ByteArray), t ∈ L.foldl enterL M → t ∈ M ∨ t ∈ L
  | [], M, t, h => .inl h
  | s :: l, M, t, h => by
    rcases ent_sub l (enterL M s) t h with h | h
    · rcases enterL_sub h with h | h
      · exact .inl h
      · subst h; exact .inr (by simp)
    · exact .inr (by simp [h])
theorem text_at {w : World} {A : Option Addr} {B : Nat} {L : List ByteArray} (h : Reads w B 1 A L.length (txt L)) {j : Nat} (hj : j < L.length) : ∃ ad, A = some ad ∧ w.cell? (ad.add j) = some (.string L[j]) := by
  obtain ⟨ad, u, rfl, _, hx, hc⟩ := h.at_ hj
  have hu : u = .string L[j] := by
    simp only [txt, List.getElem?_map, List.getElem?_eq_getElem hj, Option.map_some, Option.some.injEq] at hx
    exact hx.symm
  subst hu
  exact ⟨ad, rfl, hc⟩
/-- The numbers of all of L. -/
def nums (M L : List ByteArray) : List Value := L.map fun s => .int .i64 (idx M s : Nat)
theorem num_at {w : World} {A : Option Addr} {B : Nat} {M L : List ByteArray} (h : Reads w B 1 A L.length (nums M L)) {j : Nat} (hj : j < L.length) : ∃ ad, A = some ad ∧ w.cell? (ad.add j) = some (.int .i64 (idx M L[j] : Nat)) := by
  obtain ⟨ad, u, rfl, _, hx, hc⟩ := h.at_ hj
  have hu : u = .int .i64 (idx M L[j] : Nat) := by
    simp only [nums, List.getElem?_map, List.getElem?_eq_getElem hj, Option.map_some, Option.some.injEq] at hx
    exact hx.symm
  subst hu
  exact ⟨ad, rfl, hc⟩
theorem nums_snoc {L : List ByteArray} {s : ByteArray} (hs : ∀ s ∈ L, s.size ≤ 65536) (h : s.size ≤ 65536) : nums (ent (L ++ [s])) (L ++ [s]) = nums (ent L) L ++ [.int .i64 (enterN (ent L) s : Nat)] := by
  unfold nums
  rw [List.map_append, ent_snoc, (enterN_eq (M := ent L) h).1]
  congr 1
  refine List.map_congr_left fun t ht => ?_
  rw [idx_enter (ent_mem hs t ht)]

set_option maxRecDepth 100000 in
theorem content_at (S : Nat → Prop) (g m : Nat) (M : List ByteArray) (s : ByteArray) (w : World) (h : Bk w S g M) (hsz : ∀ s ∈ M, s.size ≤ 65536) (hl : M.length ≤ 1000000000) (hm : m = idx M s) (h0 : m ≠ 0) :
    Calls Try.prog 12 #[.pointer (some ⟨g, 0, none⟩), .int .i64 m] w fun e w' => e = .returned (.tuple #[.string s, .int .i64 0]) ∧ Below w.heap.size w w' := by
  have h1 := idx_le M s
  have h2 := idx_at (L := M) (n := m - 1) (s := s) (by omega)
  have e1 : contS M (m : Int) = s := by
    unfold contS
    rw [if_neg (by omega), List.getD_eq_getElem?_getD, show (m : Int).toNat - 1 = m - 1 by omega, h2]; rfl
  have e2 : contE M (m : Int) = 0 := by unfold contE; rw [if_neg (by omega)]
  have := content_any S g M m w h hsz hl
  rw [e1, e2] at this
  exact this
theorem long_any (A : Option Addr) (n c : Nat) (w : World) (h : 100 < n) : Calls Try.prog 4 #[.slice A n c] w fun e w' => e = .returned (.bool true) ∧ Below w.heap.size w w' := by
  go_enter Try.func4, Try.ntmps4
  go_wp2_with (go_at_call 6; refine (alive_any _).mono ?_; unfold alivePost; rintro e w1 ⟨rfl, hb1⟩)
  go_ret
  exact ⟨rfl, hb1⟩

set_option maxHeartbeats 4000000 in
set_option maxRecDepth 100000 in
theorem short_any (A : Option Addr) (c : Nat) (L : List ByteArray) (w : World) (hl : L.length ≤ 100) (h0 : Reads w w.heap.size 1 A L.length (txt L)) :
    Calls Try.prog 4 #[.slice A L.length c] w fun e w' => e = .returned (.bool true) ∧ Below w.heap.size w w' := by
  obtain ⟨i0, hi, hz0, hz1, hz2⟩ := info_parts intInfo
  go_enter Try.func4, Try.ntmps4
  go_wp2_with (first
    | (go_at_call 6; refine (alive_any _).mono ?_; unfold alivePost; rintro e w1 ⟨rfl, hb1⟩)
    | (go_at_call 7; refine (new_any _).mono ?_; rintro e w2 ⟨g, rfl, hB2, hb2⟩))
  have hbw2 := nxt hb1 hb2 hb1.size
  have fS := From.fresh w1 w2
  have iS := In.fresh w1 w2
  obtain ⟨S0, hS0⟩ : ∃ S0, S0 = fresh w1 w2 := ⟨_, rfl⟩
  rw [← hS0] at hB2 fS iS
  have fS' : From w.heap.size S0 := fun k hk => Nat.le_trans hb1.size (fS k hk)
  clear hS0 fS hb2 hb1
  go_loopw [4, 5] (fun a i wr => ∃ (k : Nat) (S : Nat → Prop), i = .int .i64 k ∧ k ≤ L.length ∧ (∀ s ∈ L.take k, s.size ≤ 65536) ∧ Bk wr S g (ent (L.take k)) ∧ From w.heap.size S ∧ In wr S ∧ wr.ownsRow w.heap.size 3 1 a k (nums (ent (L.take k)) (L.take k)) ∧ (∀ j, a.ownBlock = some j → ¬ S j) ∧ Below w.heap.size w wr) (fun _ i _ => L.length - (RowKit.intOf i).toNat)
  case atStart => exact ⟨0, S0, rfl, Nat.zero_le _, fun s hs => by simp at hs, hB2, fS', iS, World.ownsRow_nil _ _ _ _, (fun j hj => by cases hj), hbw2⟩
  case round =>
    obtain ⟨k, S, rfl, hk, hsz, hB, hF, hI, hr, hd, hb⟩ := hrel
    by_cases hlt : k < L.length
    · obtain ⟨ad, u, rfl, _, hx, hcl⟩ := (h0.below hb).at_ hlt
      have hu : u = .string L[k] := by
        simp only [txt, List.getElem?_map, List.getElem?_eq_getElem hlt, Option.map_some, Option.some.injEq] at hx
        exact hx.symm
      subst hu
      have htk : L.take (k + 1) = L.take k ++ [L[k]] := by rw [List.take_add_one, List.getElem?_eq_getElem hlt]; rfl
      obtain ⟨s, hs⟩ : ∃ s, s = L[k] := ⟨_, rfl⟩
      rw [← hs] at hcl htk
      have HT := Lib.hid htk
      clear hx hs htk
      by_cases hz : 2000 < s.size
      · go_wp2_with fail
        go_ret
        exact ⟨rfl, hb⟩
      · have hmlen : (ent (L.take k)).length ≤ k := by
          have := ent_len (L.take k) []
          simp only [List.length_nil, List.length_take] at this
          unfold ent; omega
        have hmlen2 := (enterL_len (ent (L.take k)) s).2
        have hN := enterN_eq (M := ent (L.take k)) (s := s) (by omega)
        have hle := idx_le (enterL (ent (L.take k)) s) s
        have hns := nums_snoc (L := L.take k) (s := s) hsz (by omega)
        rw [← HT.out] at hns
        have hes : ent (L.take (k + 1)) = enterL (ent (L.take k)) s := by rw [HT.out, ent_snoc]
        have hE0 : enterE s = 0 := by unfold enterE; rw [if_neg (by omega)]
        obtain ⟨m, hm⟩ : ∃ m, m = enterN (ent (L.take k)) s := ⟨_, rfl⟩
        rw [← hm] at hN hns
        have hm1 : 1 ≤ m := by omega
        have hm2 : m ≤ k + 1 := by omega
        obtain ⟨M, hM⟩ : ∃ M, M = ent (L.take k) := ⟨_, rfl⟩
        obtain ⟨M', hM'⟩ : ∃ M, M = ent (L.take (k + 1)) := ⟨_, rfl⟩
        obtain ⟨xs, hxs⟩ : ∃ xs, xs = nums (ent (L.take k)) (L.take k) := ⟨_, rfl⟩
        rw [← hM, ← hM'] at hes
        rw [← hM] at hm hB hmlen
        rw [← hxs] at hns hr
        have HN := Lib.hid hns
        have HM' := Lib.hid hM'
        have HE := Lib.hid hes
        have HS := Lib.hid hsz
        have HEN := Lib.hid hm
        have HE0 := Lib.hid hE0
        clear hns hM' hes hM hxs hN hmlen2 hle hsz hm hE0
        go_wp2_with (first
          | (go_at_call 8
             refine (enter_at S g m 0 M M' s _ hB (by omega) HE.out.symm HEN.out.symm HE0.out).mono ?_
             rintro e w3 ⟨rfl, hB3, ht3⟩)
          | (at_builtin
             refine wpList_append_any _ rfl (.tmp 53) (.tmp 55) 44 rfl w.heap.size 3 i0 _ 1 8 Try.underlying44 hi hz0 hz1 hz2 rfl (by decide) u4 k xs rfl
               ((Turn.of_keep (S := fun _ => False) ((Below.refl _ _).alloc (Nat.le_refl _) (.cells #[.int .i64 (m : Nat)] 3))).row (ht3.row hr hd) (by simp)) (w3.heap.size + 1) (some ⟨w3.heap.size, 0, none⟩) 1 1 [.int .i64 (m : Nat)] rfl (reads_one _ _ _) (by simp [Value.oneCell']) (by unfold maxLen; omega) (by omega) (by have := hb.size; have := ht3.size; simp; omega) ?_
             intro v4 w4 ho4 hg4 hat4))
        go_roundw
        case rel =>
          have ht4 : Turn (fun j => u4.ownBlock = some j) w3 w4 := ((Turn.refl (fun j => u4.ownBlock = some j) w3).alloc _).grown hg4 (fun i e => .inl e)
          have hb3 := nxtT hb ht3 hF
          refine ⟨k + 1, moreB S wr w3, by go_num, by omega, ?_, ?_, hF.more hb.size, (hI.more ht3.size).le ht4.size, ?_, ?_, ?_⟩
          · intro x hx
            rw [HT.out, List.mem_append] at hx
            rcases hx with hx | hx
            · exact HS.out x hx
            · simp at hx; subst hx; omega
          · rw [← HM'.out]
            refine hB3.kept ht4 (fun j _ hj e => ?_)
            rcases hj with hj | hj
            · exact hd j e hj
            · have := (hr.lt j e).2; have := hj.1; omega
          · rw [HN.out]; exact ho4
          · intro j hj hS
            have hS' : j < w3.heap.size := (hI.more ht3.size) j hS
            rcases hat4 with e | e
            · rw [e] at hj
              rcases hS with h | h
              · exact hd j hj h
              · have := (hr.lt j hj).2; have := h.1; omega
            · rw [e] at hj; simp at hj; omega
          · exact (hb3.alloc hb3.size _).grown hg4 (by have := hb3.size; simp; omega) (fun j e => (hr.lt j e).1)
        case measure => simp [RowKit.intOf]; omega
    · have hkn : L.take k = L := List.take_of_length_le (by omega)
      have hk2 : k = L.length := by omega
      subst hk2
      rw [hkn] at hsz hB hr
      have hmlen : (ent L).length ≤ 100 := by
        have := ent_len L []
        simp only [List.length_nil] at this
        unfold ent; omega
      have hMsz : ∀ s ∈ ent L, s.size ≤ 65536 := fun s hs => by
        rcases ent_sub L [] s hs with h | h
        · cases h
        · exact hsz s h
      have hmem := ent_mem hsz
      obtain ⟨M, hM⟩ : ∃ M, M = ent L := ⟨_, rfl⟩
      rw [← hM] at hB hr hmlen hMsz hmem
      obtain ⟨An, cn, rfl, hcn, hrn⟩ := row_reads hr
      have HMEM := Lib.hid hmem
      have HLSZ := Lib.hid hsz
      have HSZ := Lib.hid hMsz
      have H0 := Lib.hid (h0.below hb)
      clear hmem hMsz hM hsz hkn hcn hr hd hI hF h0
      go_wp2_with fail
      go_loopw [8] (fun i wx => ∃ j : Nat, i = .int .i64 j ∧ j ≤ L.length ∧ Below wr.heap.size wr wx) (fun i _ => L.length - (RowKit.intOf i).toNat)
      case atStart => exact ⟨0, rfl, Nat.zero_le _, Below.refl _ _⟩
      case round =>
        obtain ⟨j, rfl, hj, hbx⟩ := hrel
        by_cases hjl : j < L.length
        · have hHx := (H0.out.below (hbx.mono hb.size))
          have hNx := hrn.below hbx
          have hBx := hB.kept (Turn.of_keep (S := fun _ => False) hbx) (fun _ _ _ h => h)
          obtain ⟨ad, rfl, hcl⟩ := text_at hHx hjl
          obtain ⟨an, rfl, hcn⟩ := num_at hNx hjl
          have hm0 := HMEM.out _ (List.getElem_mem hjl)
          obtain ⟨s, hs⟩ : ∃ s, s = L[j] := ⟨_, rfl⟩
          rw [← hs] at hcl hcn hm0
          obtain ⟨m, hm⟩ : ∃ m, m = idx M s := ⟨_, rfl⟩
          rw [← hm] at hcn hm0
          have HM := Lib.hid hm
          have HS := Lib.hid hs
          have HX := Lib.hid hHx
          have HN := Lib.hid hNx
          have HB := Lib.hid hBx
          have hE0 : lookE M s = 0 := by unfold lookE; rw [if_neg (by omega)]
          have HE0 := Lib.hid hE0
          have HZ : Hid (s.size ≤ 140737488351232) := by have := HLSZ.out _ (List.getElem_mem hjl); rw [← hs] at this; show _ ≤ _; omega
          clear hm hs hHx hNx hBx hE0
          go_wp2_with (first
            | (go_at_call 10; refine (look_at S g m 0 M s _ HB.out HZ.out HM.out.symm HE0.out).mono ?_; rintro e w5 ⟨rfl, rfl⟩)
            | (go_at_call 12; refine (content_at S g m M s _ HB.out HSZ.out (by omega) HM.out hm0).mono ?_; rintro e w6 ⟨rfl, hb6⟩; have hcl6 := (hb6.cell (p := ad.add j) (World.block_lt_of_cell? _ _ hcl)).trans hcl; have hcn6 := (hb6.cell (p := an.add j) (World.block_lt_of_cell? _ _ hcn)).trans hcn))
          have H6 := Lib.hid (HX.out.below (hb6.mono (Nat.le_trans hb.size hbx.size)))
          have N6 := Lib.hid (HN.out.below (hb6.mono hbx.size))
          have hb6' := Lib.hid (nxt hbx hb6 hbx.size)
          go_loopw [13] (fun i wy => ∃ q : Nat, i = .int .i64 q ∧ q ≤ j ∧ Below w6.heap.size w6 wy) (fun i _ => j - (RowKit.intOf i).toNat)
          case atStart => exact ⟨0, rfl, Nat.zero_le _, Below.refl _ _⟩
          case round =>
            obtain ⟨q, rfl, hq, hby⟩ := hrel
            by_cases hqj : q < j
            · obtain ⟨_, hA, hcq⟩ := text_at (H6.out.below (hby.mono (Nat.le_trans (Nat.le_trans hb.size hbx.size) hb6.size))) (show q < L.length by omega)
              cases hA
              obtain ⟨_, hA, hnq⟩ := num_at (N6.out.below (hby.mono (Nat.le_trans hbx.size hb6.size))) (show q < L.length by omega)
              cases hA
              have hcj := (hby.cell (p := ad.add j) (World.block_lt_of_cell? _ _ hcl6)).trans hcl6
              have hnj := (hby.cell (p := an.add j) (World.block_lt_of_cell? _ _ hcn6)).trans hcn6
              have hmq := HMEM.out _ (List.getElem_mem (show q < L.length by omega))
              obtain ⟨t, ht⟩ : ∃ t, t = L[q] := ⟨_, rfl⟩
              rw [← ht] at hcq hnq hmq
              obtain ⟨mq, hmq2⟩ : ∃ m, m = idx M t := ⟨_, rfl⟩
              rw [← hmq2] at hnq hmq
              by_cases hts : t = s
              · have hmm : mq = m := by rw [hmq2, hts]; exact HM.out.symm
                subst hmm hts
                clear hmq2 ht hmq
                go_wp2_with fail
                go_quiet (fail)
                go_wp2_with fail
                go_roundw
                case rel => exact ⟨q + 1, by go_num, by omega, below_drewN hby _⟩
                case measure => simp [RowKit.intOf]; omega
              · have hne : ((mq : Int) == m) = false := by
                  simp only [beq_eq_false_iff_ne, ne_eq, Int.ofNat_inj]
                  exact fun e => hts (idx_inj (by rw [← hmq2]; exact hmq) (by rw [← hmq2, e]; exact HM.out))
                obtain ⟨hn1, hn2⟩ := list_ne hts
                clear hmq2 ht hmq hts
                go_wp2_with fail
                go_quiet (fail)
                go_wp2_with fail
                go_roundw
                case rel => exact ⟨q + 1, by go_num, by omega, below_drewN hby _⟩
                case measure => simp [RowKit.intOf]; omega
            · go_wp2_with fail
              go_roundw
              case rel => exact ⟨j + 1, by go_num, by omega, nxt hb6'.out hby (hb6'.out).size⟩
              case measure => simp [RowKit.intOf]; omega
        · have hbw := nxt hb hbx hb.size
          go_wp2_with fail
          go_ret
          exact ⟨rfl, hbw⟩
theorem walk (A : Option Addr) (c : Nat) (L : List ByteArray) (w : World) (h0 : Reads w w.heap.size 1 A L.length (txt L)) :
    Calls Try.prog 4 #[.slice A L.length c] w fun e w' => e = .returned (.bool true) ∧ Below w.heap.size w w' := by
  by_cases h : L.length ≤ 100
  · exact short_any A c L w h h0
  · exact long_any A L.length c w (by omega)
end Go.Proofs.Ytiakbcmolgpnlaa.walkOnly
