/-
  The shares of a set; so many of them; the list of the shares; what a register was made with; none.
-/
import Derived.Test.YtjkfogjhakcnfaaDoorCounts
import Derived.Lib.LazyBuf
set_option linter.unusedSimpArgs false
set_option linter.unusedVariables false
namespace Go.Proofs.YtjkfogjhakcnfaaDoor
open Go.RowKit Go.Maps Go.Lib

/-- The first error of these. -/
def firstE (f : Int) (bad : Nat) (L : List Shr) (s : Stm) : List Nat → Int
  | [] => 0
  | k :: ks => if cntE f bad L ⟨k, s⟩ = 0 then firstE f bad L s ks else cntE f bad L ⟨k, s⟩
theorem firstE_cons (f : Int) (bad : Nat) (L : List Shr) (s : Stm) (k : Nat) (ks : List Nat) : firstE f bad L s (k :: ks) = if cntE f bad L ⟨k, s⟩ = 0 then firstE f bad L s ks else cntE f bad L ⟨k, s⟩ := rfl
/-- What All tells. -/
def allE (f : Int) (bad : Nat) (L : List Shr) (s : Stm) (n : Nat) : Int := if checkV f n = 0 then firstE f bad L s (bts 0 n) else checkV f n
/-- What Enough tells. -/
def enoughE (f : Int) (bad : Nat) (L : List Shr) (s : Stm) (n : Nat) (least : Int) : Int := if allE f bad L s n = 0 then (if (cnt n : Int) < least then 61 else 0) else allE f bad L s n
theorem cntE_in (f : Int) (bad : Nat) (L : List Shr) (x : Shr) : 0 ≤ cntE f bad L x ∧ cntE f bad L x ≤ 60 := by unfold cntE; split <;> (try split) <;> (try split) <;> omega
theorem checkV_in (f : Int) (n : Nat) : 0 ≤ checkV f n ∧ checkV f n ≤ 40 := by unfold checkV; split <;> (try split) <;> omega
theorem firstE_in (f : Int) (bad : Nat) (L : List Shr) (s : Stm) : ∀ l, 0 ≤ firstE f bad L s l ∧ firstE f bad L s l ≤ 60
  | [] => by simp [firstE]
  | k :: ks => by
    have h1 := cntE_in f bad L ⟨k, s⟩
    have h2 := firstE_in f bad L s ks
    unfold firstE
    split <;> omega
theorem allE_in (f : Int) (bad : Nat) (L : List Shr) (s : Stm) (n : Nat) : 0 ≤ allE f bad L s n ∧ allE f bad L s n ≤ 60 := by
  have h1 := checkV_in f n
  have h2 := firstE_in f bad L s (bts 0 n)
  unfold allE
  split <;> omega
theorem nat_wf {k : Nat} (h : k < 32) : inI (k : Int) := ⟨by omega, by omega⟩

set_option maxHeartbeats 1000000 in
set_option maxRecDepth 100000 in
theorem all_sets (S : Nat → Prop) (g : Nat) (f : Int) (bad : Nat) (L : List Shr) (s : Stm) (n : Nat) (w : World) (h : Sg w S g f bad L) (hs : s.wf) (hbad : bad < 4294967296) (hn : n < 4294967296) (hT : Tab w) (hc : checkV f n = 0) :
    Calls Tryd.prog 45 #[.pointer (some ⟨g, 0, none⟩), .agg (stmC s), .int .u32 n] w fun e w' => e = .returned (.int .i64 (firstE f bad L s (bts 0 n))) ∧ Below w.heap.size w w' := by
  have HB := Lib.hid h
  have HT := Lib.hid hT
  have hlt32 : ∀ j ∈ bts 0 n, j < 32 := fun j hj => bts_lt (k := 32) hn hj
  have hl := bts_len hn
  have hlist := list_any n
  have hcheck := fun w => check_any f n w hn
  rw [hc] at hcheck
  obtain ⟨M, hM⟩ : ∃ M, M = bts 0 n := ⟨_, rfl⟩
  rw [← hM] at hl hlt32 ⊢
  simp only [← hM] at hlist
  have HL := Lib.hid (And.intro hlist (And.intro hcheck hlt32))
  obtain ⟨b, v, D, hb, hm, hf, hr, h1, h2, h3⟩ := h
  have c0 := (hb.alloc (.cells (stmC s) 50)).cell 0
  clear hT hm hf hr h1 h2 h3 hM hlist hcheck hlt32 hc hb
  go_enter Tryd.func45, Tryd.ntmps45
  go_wp2_with (first
    | (go_at_call 22; refine (HL.out.2.1 _).mono ?_; rintro e w1 ⟨rfl, rfl⟩)
    | (go_at_call 47; refine (HL.out.1 _ hn (HT.out.kept ((Below.refl _ _).alloc (Nat.le_refl _) _))).mono ?_; rintro e w2 ⟨v2, rfl, ho2⟩; obtain ⟨A2, c2, rfl, hr2, hc2⟩ := ho2.form))
  have hb2 : Below w.heap.size w w2 := ((Below.refl w.heap.size w).alloc (Nat.le_refl _) (.cells (stmC s) 50)).trans (ho2.below.mono (by simp))
  have hx2 : Blk w2 w.heap.size 50 (stmC s) := (Blk.new _ _ _).below ho2.below (by simp)
  clear ho2
  go_loopw [25] (fun i wr => ∃ k : Nat, i = .int .i64 k ∧ k ≤ M.length ∧ Below w2.heap.size w2 wr ∧ firstE f bad L s (M.drop k) = firstE f bad L s M) (fun i _ => M.length - (intOf i).toNat)
  case atStart => exact ⟨0, rfl, Nat.zero_le _, Below.refl _ _, rfl⟩
  case round =>
    obtain ⟨k, rfl, hk, hbr, hi⟩ := hrel
    have hbw := nxt hb2 hbr hb2.size
    by_cases hlt : k < M.length
    · obtain ⟨ad, u, rfl, _, hx, hcl⟩ := (hr2.below hbr).at_ hlt
      obtain rfl := natCell_at hlt hx
      have hxr := hx2.below hbr hx2.lt
      obtain ⟨q, hq⟩ : ∃ q, q = M[k] := ⟨_, rfl⟩
      have hq32 : q < 32 := by rw [hq]; exact HL.out.2.2 _ (List.getElem_mem hlt)
      have hdr : M.drop k = q :: M.drop (k + 1) := by rw [hq]; exact (List.drop_eq_getElem_cons hlt)
      rw [hdr] at hi
      rw [← hq] at hcl
      have hcnt := counts_any S g f bad L ⟨q, s⟩ wr (HB.out.below hbw) ⟨nat_wf hq32, hs⟩ hbad
      have hin := cntE_in f bad L ⟨q, s⟩
      obtain ⟨e, he⟩ : ∃ e, e = cntE f bad L ⟨q, s⟩ := ⟨_, rfl⟩
      rw [← he] at hcnt hin
      rw [firstE_cons, ← he] at hi
      have HC := Lib.hid hcnt
      clear hx hq hdr he hcnt
      by_cases h0 : e = 0
      · subst h0
        rw [if_pos rfl] at hi
        have HI := Lib.hid hi
        clear hi
        go_wp2_with (first
          | (refine wpList_load_row rfl _ _ rfl _ rfl _ _ _ _ hxr Tryd.underlying50 rfl (by kernel_rfl) ?_)
          | (refine wpList_build rfl _ _ rfl #[(0, .int .i64 (q : Int)), (1, .agg (stmC s))] rfl (build_shr _ s _) ?_)
          | (go_at_call 48; refine HC.out.mono ?_; rintro e w3 ⟨rfl, hb3⟩))
        go_roundw
        case rel => exact ⟨k + 1, by go_num, by omega, hbr.trans (hb3.mono hbr.size), HI.out⟩
        case measure => simp [intOf]; omega
      · rw [if_neg h0] at hi
        have h0' : (e == 0) = false := by simpa using h0
        have HI := Lib.hid hi
        clear hi h0
        go_wp2_with (first
          | (refine wpList_load_row rfl _ _ rfl _ rfl _ _ _ _ hxr Tryd.underlying50 rfl (by kernel_rfl) ?_)
          | (refine wpList_build rfl _ _ rfl #[(0, .int .i64 (q : Int)), (1, .agg (stmC s))] rfl (build_shr _ s _) ?_)
          | (go_at_call 48; refine HC.out.mono ?_; rintro e w3 ⟨rfl, hb3⟩))
        go_ret
        exact ⟨by rw [← HI.out]; rfl, nxt hbw hb3 hbw.size⟩
    · have hkl : M.drop k = [] := List.drop_eq_nil_of_le (by omega)
      rw [hkl] at hi
      have HI := Lib.hid hi
      clear hi hkl
      go_wp2_with fail
      go_ret
      exact ⟨by rw [← HI.out]; rfl, hbw⟩
set_option maxHeartbeats 1000000 in
set_option maxRecDepth 100000 in
theorem all_not (S : Nat → Prop) (g : Nat) (f : Int) (bad : Nat) (L : List Shr) (s : Stm) (n : Nat) (w : World) (h : Sg w S g f bad L) (hn : n < 4294967296) (hc : checkV f n ≠ 0) :
    Calls Tryd.prog 45 #[.pointer (some ⟨g, 0, none⟩), .agg (stmC s), .int .u32 n] w fun e w' => e = .returned (.int .i64 (checkV f n)) ∧ Below w.heap.size w w' := by
  have hcheck := fun w => check_any f n w hn
  obtain ⟨e, he⟩ : ∃ e, e = checkV f n := ⟨_, rfl⟩
  rw [← he] at hcheck hc ⊢
  have h0' : (e == 0) = false := by simpa using hc
  have HC := Lib.hid hcheck
  obtain ⟨b, v, D, hb, hm, hf, hr, h1, h2, h3⟩ := h
  have c0 := (hb.alloc (.cells (stmC s) 50)).cell 0
  clear hm hf hr h1 h2 h3 hcheck hb he hc
  go_enter Tryd.func45, Tryd.ntmps45
  go_wp2_with (go_at_call 22; refine (HC.out _).mono ?_; rintro e w1 ⟨rfl, rfl⟩)
  go_ret
  exact ⟨rfl, (Below.refl _ _).alloc (Nat.le_refl _) _⟩
theorem sall_any (S : Nat → Prop) (g : Nat) (f : Int) (bad : Nat) (L : List Shr) (s : Stm) (n : Nat) (w : World) (h : Sg w S g f bad L) (hs : s.wf) (hbad : bad < 4294967296) (hn : n < 4294967296) (hT : Tab w) :
    Calls Tryd.prog 45 #[.pointer (some ⟨g, 0, none⟩), .agg (stmC s), .int .u32 n] w fun e w' => e = .returned (.int .i64 (allE f bad L s n)) ∧ Below w.heap.size w w' := by
  unfold allE
  by_cases hc : checkV f n = 0
  · rw [if_pos hc]; exact all_sets S g f bad L s n w h hs hbad hn hT hc
  · rw [if_neg hc]; exact all_not S g f bad L s n w h hn hc

set_option maxHeartbeats 1000000 in
set_option maxRecDepth 100000 in
theorem enough_any (S : Nat → Prop) (g : Nat) (f : Int) (bad : Nat) (L : List Shr) (s : Stm) (n : Nat) (least : Int) (w : World) (h : Sg w S g f bad L) (hs : s.wf) (hbad : bad < 4294967296) (hn : n < 4294967296) (hT : Tab w) :
    Calls Tryd.prog 41 #[.pointer (some ⟨g, 0, none⟩), .agg (stmC s), .int .u32 n, .int .i64 least] w fun e w' => e = .returned (.int .i64 (enoughE f bad L s n least)) ∧ Below w.heap.size w w' := by
  have hb0 : Below w.heap.size w (w.alloc (.cells (stmC s) 50)) := (Below.refl _ _).alloc (Nat.le_refl _) _
  have hall := sall_any S g f bad L s n _ (h.below hb0) hs hbad hn (hT.kept hb0)
  have hcount := fun w => count_any n w hn
  unfold enoughE
  obtain ⟨e, he⟩ : ∃ e, e = allE f bad L s n := ⟨_, rfl⟩
  obtain ⟨m, hm⟩ : ∃ m, m = cnt n := ⟨_, rfl⟩
  simp only [← he, ← hm] at hall hcount ⊢
  have HA := Lib.hid (And.intro hall hcount)
  clear hall hcount he hm
  by_cases h0 : e = 0
  · subst h0
    rw [if_pos rfl]
    by_cases hl : (m : Int) < least
    all_goals
      first | rw [if_pos hl] | rw [if_neg hl]
      go_enter Tryd.func41, Tryd.ntmps41
      go_wp2_with (first
        | (refine wpList_load_row rfl _ _ rfl _ rfl _ _ _ _ (Blk.new _ _ (stmC s)) Tryd.underlying50 rfl (by kernel_rfl) ?_)
        | (go_at_call 45; refine HA.out.1.mono ?_; rintro e w1 ⟨rfl, hb1⟩)
        | (go_at_call 20; refine (HA.out.2 _).mono ?_; rintro e w2 ⟨rfl, rfl⟩))
      go_ret
      exact ⟨rfl, hb0.trans (hb1.mono hb0.size)⟩
  · rw [if_neg h0]
    have h0' : (e == 0) = false := by simpa using h0
    clear h0
    go_enter Tryd.func41, Tryd.ntmps41
    go_wp2_with (first
      | (refine wpList_load_row rfl _ _ rfl _ rfl _ _ _ _ (Blk.new _ _ (stmC s)) Tryd.underlying50 rfl (by kernel_rfl) ?_)
      | (go_at_call 45; refine HA.out.1.mono ?_; rintro e w1 ⟨rfl, hb1⟩))
    go_ret
    exact ⟨rfl, hb0.trans (hb1.mono hb0.size)⟩

theorem f_any (S : Nat → Prop) (g : Nat) (f : Int) (bad : Nat) (L : List Shr) (w : World) (h : Sg w S g f bad L) : Calls Tryd.prog 40 #[.pointer (some ⟨g, 0, none⟩)] w fun e w' => e = .returned (.int .i64 f) ∧ w = w' := by
  obtain ⟨b, v, D, hb, hm, hf, hr, h1, h2, h3⟩ := h
  have c0 := hb.cell 0
  clear hm hf hr h1 h2 h3 hb
  go_enter Tryd.func40, Tryd.ntmps40
  go_wp2
  go_ret
  exact ⟨rfl, rfl⟩
/-- What New tells. -/
def newE (f : Int) (bad : Nat) : Int := if checkV f bad = 0 then (if f < (cnt bad : Int) then 1 else 0) else checkV f bad
set_option maxHeartbeats 1000000 in
set_option maxRecDepth 100000 in
theorem new_ok (f : Int) (bad : Nat) (w : World) (hbad : bad < 4294967296) (he : newE f bad = 0) :
    Calls Tryd.prog 7 #[.int .i64 f, .int .u32 bad] w fun e w' => ∃ g, e = .returned (.tuple #[.pointer (some ⟨g, 0, none⟩), .int .i64 0]) ∧ Sg w' (fresh w w') g f bad [] ∧ Below w.heap.size w w' := by
  have hcheck := fun w => check_any f bad w hbad
  have hcount := fun w => count_any bad w hbad
  have hc : checkV f bad = 0 := by unfold newE at he; split at he <;> assumption
  have hle : ¬ f < (cnt bad : Int) := by
    unfold newE at he; rw [if_pos hc] at he
    intro h; rw [if_pos h] at he; cases he
  rw [hc] at hcheck
  obtain ⟨m, hm⟩ : ∃ m, m = cnt bad := ⟨_, rfl⟩
  rw [← hm] at hcount hle
  have HH := Lib.hid (And.intro hcheck hcount)
  have hmm := @run_makeMap Tryd.prog
  clear hcheck hcount hc he hm
  go_enter Tryd.func7, Tryd.ntmps7
  go_wp2_with (first
    | (go_at_call 22; refine (HH.out.1 _).mono ?_; rintro e w1 ⟨rfl, rfl⟩)
    | (go_at_call 20; refine (HH.out.2 _).mono ?_; rintro e w2 ⟨rfl, rfl⟩))
  go_ret2
  have hs : (w.alloc (.map #[] 0)).heap.size = w.heap.size + 1 := by simp
  refine ⟨w.heap.size + 1, rfl, ⟨w.heap.size, .slice none 0 0, .map [], by rw [← hs]; exact Blk.new _ _ _, (World.ownsMap_made w _ _ _).alloc _, FitsS.nil, World.ownsRow_nil _ _ _ _, by simp [fresh] <;> omega, by simp [fresh] <;> omega, by simp [Value.ownBlock]⟩, ((Below.refl _ _).alloc (Nat.le_refl _) _).alloc (by simp) _⟩
set_option maxHeartbeats 1000000 in
set_option maxRecDepth 100000 in
theorem new_not (f : Int) (bad : Nat) (w : World) (hbad : bad < 4294967296) (he : newE f bad ≠ 0) :
    Calls Tryd.prog 7 #[.int .i64 f, .int .u32 bad] w fun e w' => e = .returned (.tuple #[.pointer none, .int .i64 (newE f bad)]) ∧ w = w' := by
  have hcheck := fun w => check_any f bad w hbad
  have hcount := fun w => count_any bad w hbad
  unfold newE at he ⊢
  by_cases hc : checkV f bad = 0
  · rw [if_pos hc] at he ⊢
    rw [hc] at hcheck
    have hle : f < (cnt bad : Int) := by
      rcases Int.lt_or_le f (cnt bad : Int) with h | h
      · exact h
      · rw [if_neg (by omega)] at he; exact absurd rfl he
    rw [if_pos hle]
    obtain ⟨m, hm⟩ : ∃ m, m = cnt bad := ⟨_, rfl⟩
    rw [← hm] at hcount hle
    have HH := Lib.hid (And.intro hcheck hcount)
    clear hcheck hcount hc he hm
    go_enter Tryd.func7, Tryd.ntmps7
    go_wp2_with (first
      | (go_at_call 22; refine (HH.out.1 _).mono ?_; rintro e w1 ⟨rfl, rfl⟩)
      | (go_at_call 20; refine (HH.out.2 _).mono ?_; rintro e w2 ⟨rfl, rfl⟩))
    go_ret2
    exact ⟨rfl, rfl⟩
  · rw [if_neg hc] at he ⊢
    obtain ⟨e, hq⟩ : ∃ e, e = checkV f bad := ⟨_, rfl⟩
    rw [← hq] at hcheck he ⊢
    have h0' : (e == 0) = false := by simpa using he
    have HH := Lib.hid (And.intro hcheck hcount)
    clear hcheck hcount hc he hq
    go_enter Tryd.func7, Tryd.ntmps7
    go_wp2_with (go_at_call 22; refine (HH.out.1 _).mono ?_; rintro e w1 ⟨rfl, rfl⟩)
    go_ret2
    exact ⟨rfl, rfl⟩
end Go.Proofs.YtjkfogjhakcnfaaDoor
