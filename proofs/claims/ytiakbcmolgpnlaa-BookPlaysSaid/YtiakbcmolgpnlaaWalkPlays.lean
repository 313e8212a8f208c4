/-
  The walk through the law of P5.1.
-/
import Derived.Test.YtiakbcmolgpnlaaRowKit
import Derived.Test.YtiakbcmolgpnlaaRefBook
import Derived.BigQuiet
import Derived.Deep.QuietTactic
set_option linter.unusedSimpArgs false
set_option linter.unusedVariables false
namespace Go.Proofs.Ytiakbcmolgpnlaa.walkPlays
open Go.RowKit Go.Lib

/-- A field's place as a walk writes it. -/
theorem add_field (a : Addr) (i f : Nat) (hf : 0 < f) : a.add (i + f) = ⟨(a.add i).block, (a.add i).off + f, none⟩ := by
  unfold Addr.add
  rw [if_neg (by omega)]
  split
  · rename_i h; subst h; simp
  · simp; omega
/-- Both books hold M, each in its own blocks, and nothing else has turned since w. -/
def Both (w : World) (g r k : Nat) (wr : World) : Prop :=
  ∃ (S T : Nat → Prop) (M : List ByteArray), Bk wr S g M ∧ Rf wr T r M ∧ Apart S T ∧ From w.heap.size S ∧ From w.heap.size T ∧ In wr S ∧ In wr T ∧ M.length ≤ k ∧ (∀ s ∈ M, s.size ≤ 65536) ∧ Below w.heap.size w wr

theorem enterL_sizes {M : List ByteArray} {s : ByteArray} (h : ∀ x ∈ M, x.size ≤ 65536) : ∀ x ∈ enterL M s, x.size ≤ 65536 := by
  intro x hx
  unfold enterL at hx
  split at hx
  · exact h x hx
  · split at hx
    · rw [List.mem_append] at hx
      rcases hx with hx | hx
      · exact h x hx
      · simp at hx; subst hx; omega
    · exact h x hx
theorem Both.more {w wr : World} {g r k k' : Nat} (h : Both w g r k wr) (hk : k ≤ k') : Both w g r k' wr := by
  obtain ⟨S, T, M, h1, h2, h3, h4, h5, h6, h7, h8, h9⟩ := h
  exact ⟨S, T, M, h1, h2, h3, h4, h5, h6, h7, by omega, h9⟩
theorem Both.drewN {w wr : World} {g r k : Nat} (h : Both w g r k wr) (q : Nat) : Both w g r k (wr.drewN q) := by
  obtain ⟨S, T, M, h1, h2, h3, h4, h5, h6, h7, h8, h9, h10⟩ := h
  exact ⟨S, T, M, h1, h2, h3, h4, h5, h6, h7, h8, h9, below_drewN h10 q⟩
/-- Whatever keeps what is there keeps both. -/
theorem Both.keep {w wr wx : World} {g r k : Nat} (h : Both w g r k wr) (hb : Below wr.heap.size wr wx) : Both w g r k wx := by
  obtain ⟨S, T, M, h1, h2, h3, h4, h5, h6, h7, h8, h9, h10⟩ := h
  exact ⟨S, T, M, h1.kept (Turn.of_keep (S := fun _ => False) hb) (fun _ _ _ h => h), h2.kept (Turn.of_keep (S := fun _ => False) hb) (fun _ _ _ h => h), h3, h4, h5, h6.le hb.size, h7.le hb.size, h8, h9, nxt h10 hb h10.size⟩
theorem quiet_left {P : Program} {f : FuncId} {args : Array Value} {w : World} {n : Nat} {v : Value}
    (h : Calls P f args (w.drewN n) fun e w' => e = .returned v ∧ w' = w.drewN n) : Calls P f args (w.drewN n) fun e w'' => e = .returned v ∧ ∃ m, w'' = w.drewN m :=
  h.mono fun _ _ ⟨he, hm⟩ => ⟨he, n, hm⟩
/-- How many there are, of both. -/
theorem Both.len {w wr : World} {g r k : Nat} (h : Both w g r k wr) : ∃ (m : Nat) (A : Option Addr) (c : Nat), wr.cell? ⟨r, 0, none⟩ = some (.slice A m c) ∧
    ∀ q, Calls Try.prog 14 #[.pointer (some ⟨g, 0, none⟩)] (wr.drewN q) fun e w' => e = .returned (.int .i64 (m : Nat)) ∧ w' = wr.drewN q := by
  obtain ⟨S, T, M, h1, h2, _⟩ := h
  obtain ⟨v, hb, hr, _⟩ := h2
  obtain ⟨A, c, rfl, _, _⟩ := row_reads hr
  exact ⟨M.length, A, c, hb.cell 0, fun q => len_any S g M (wr.drewN q) h1⟩
theorem reflook_at (S : Nat → Prop) (g n : Nat) (L : List ByteArray) (s : ByteArray) (w : World) (h : Rf w S g L) (hl : L.length ≤ 1000000000) (h1 : idx L s = n) :
    Calls Try.prog 11 #[.pointer (some ⟨g, 0, none⟩), .string s] w fun e w' => e = .returned (.int .i64 (n : Nat)) ∧ w' = w := by
  subst h1
  exact reflook_any S g L s w h hl
theorem refenter_at (S : Nat → Prop) (g n k : Nat) (L L' : List ByteArray) (s : ByteArray) (w : World) (h : Rf w S g L) (hl : L.length ≤ 1000000000) (h1 : enterL L s = L') (h2 : enterN L s = n) (h3 : enterE s = k) :
    Calls Try.prog 9 #[.pointer (some ⟨g, 0, none⟩), .string s] w fun e w' => e = .returned (.tuple #[.int .i64 (n : Nat), .int .i64 (k : Nat)]) ∧ Rf w' (moreB S w w') g L' ∧ Turn S w w' := by
  subst h1 h2 h3
  exact refenter_any S g L s w h hl
theorem cont_at (S : Nat → Prop) (g k : Nat) (n : Int) (M : List ByteArray) (s : ByteArray) (w : World) (h : Bk w S g M) (hsz : ∀ s ∈ M, s.size ≤ 65536) (hl : M.length ≤ 1000000000) (h1 : contS M n = s) (h2 : contE M n = k) :
    Calls Try.prog 12 #[.pointer (some ⟨g, 0, none⟩), .int .i64 n] w fun e w' => e = .returned (.tuple #[.string s, .int .i64 (k : Nat)]) ∧ Below w.heap.size w w' := by
  subst h1 h2
  exact content_any S g M n w h hsz hl
theorem refcont_at (S : Nat → Prop) (g : Nat) (b : Bool) (n : Int) (M : List ByteArray) (s : ByteArray) (w : World) (h : Rf w S g M) (hl : M.length ≤ 1000000000) (h1 : contS M n = s) (h2 : decide (contE M n = 0) = b) :
    Calls Try.prog 13 #[.pointer (some ⟨g, 0, none⟩), .int .i64 n] w fun e w' => e = .returned (.tuple #[.string s, .bool b]) ∧ w' = w := by
  subst h1 h2
  exact refcontent_any S g M n w h hl

set_option maxHeartbeats 4000000 in
set_option maxRecDepth 100000 in
theorem walk (A : Option Addr) (n c : Nat) (D : Nat → Actx) (w : World) (h0 : Acts w A n D) :
    Calls Try.prog 3 #[.slice A n c] w fun e w' => e = .returned (.bool true) ∧ Below w.heap.size w w' := by
  go_enter Try.func3, Try.ntmps3
  go_wp2_with (first
    | (go_at_call 6; refine (alive_any _).mono ?_; unfold alivePost; rintro e w1 ⟨rfl, hb1⟩)
    | (go_at_call 7; refine (new_any _).mono ?_; rintro e w2 ⟨g, rfl, hB2, hb2⟩))
  have hbw2 := nxt hb1 hb2 hb1.size
  obtain ⟨r, hr⟩ : ∃ r, r = w2.heap.size := ⟨_, rfl⟩
  obtain ⟨w3, hw3⟩ : ∃ w3, w3 = w2.alloc (.cells #[.slice none 0 0] 29) := ⟨_, rfl⟩
  have hB3 : Both w g r 0 w3 := by
    rw [hw3, hr]
    refine ⟨fresh w1 w2, fresh w2 (w2.alloc (.cells #[.slice none 0 0] 29)), [], hB2.kept ((Turn.refl (fun _ => False) w2).alloc _) (fun _ _ _ h => h), ⟨_, Blk.new _ _ _, World.ownsRow_nil _ _ _ _, ⟨Nat.le_refl _, by simp⟩, fun j hj => by simp [Value.ownBlock] at hj⟩, fun j hj hk => ?_, fun j hj => Nat.le_trans hb1.size hj.1, fun j hj => Nat.le_trans hbw2.size hj.1, fun j hj => by have := hj.2; simp; omega, fun j hj => hj.2, Nat.le_refl _, (fun s hs => by cases hs), hbw2.alloc hbw2.size _⟩
    have := hj.2; have := hk.1; omega
  rw [← hr, ← hw3]
  clear hr hw3 hB2 hb2 hb1 hbw2
  go_loopw [5] (fun i wr => ∃ k : Nat, i = .int .i64 k ∧ k ≤ n ∧ k ≤ 100 ∧ Both w g r k wr) (fun i _ => n - (RowKit.intOf i).toNat)
  case atStart => exact ⟨0, rfl, Nat.zero_le _, by omega, hB3⟩
  case round =>
    obtain ⟨k, rfl, hk, hk1, hB⟩ := hrel
    have HB := Lib.hid hB
    obtain ⟨S, T, M, hS, hT, hap, hfS, hfT, hiS, hiT, hml, hMs, hbw⟩ := hB
    by_cases hlt : k < n ∧ k < 100
    · obtain ⟨hkn, hk100⟩ := hlt
      obtain ⟨ad, rfl, _, c0, c1, c2, hfit⟩ := (h0.below hbw) k hkn
      have hadw : ad.block < w.heap.size := by obtain ⟨_, hA, hl, _⟩ := h0 k hkn; cases hA; exact hl
      obtain ⟨⟨kind, m, s⟩, hx⟩ : ∃ x, x = D k := ⟨_, rfl⟩
      rw [← hx] at c0 c1 c2 hfit
      obtain ⟨⟨hk0, hk1'⟩, ⟨hm0, hm1⟩, hsz⟩ := hfit
      dsimp only at c0 c1 c2 hk0 hk1' hm0 hm1 hsz
      unfold maxLen at hsz
      rw [add_field _ _ _ (by decide)] at c1 c2
      clear hx h0
      by_cases hz : 70000 < s.size
      · go_wp2_with fail
        go_ret
        exact ⟨rfl, hbw⟩
      · by_cases hz0 : kind = 0
        · subst hz0
          obtain ⟨p, hp⟩ : ∃ p, p = enterN M s := ⟨_, rfl⟩
          obtain ⟨q1, hq1⟩ : ∃ p, p = enterE s := ⟨_, rfl⟩
          obtain ⟨M', hM'⟩ : ∃ M', M' = enterL M s := ⟨_, rfl⟩
          have hl' := (enterL_len M s).2
          have hs' := enterL_sizes (s := s) hMs
          rw [← hM'] at hl' hs'
          have HP := Lib.hid hp
          have HQ1 := Lib.hid hq1
          have HM := Lib.hid hM'
          have HMs := Lib.hid hs'
          clear hp hq1 hM' hs' hMs
          go_wp2_with (first
            | (go_at_call 8
               refine (enter_at S g p q1 M M' s _ hS (by omega) HM.out.symm HP.out.symm HQ1.out.symm).mono ?_
               rintro e w4 ⟨rfl, hS4, ht4⟩
               have hlow := (ht4.below hfS hbw.size)
               have c2' := (hlow.cell (p := ⟨(ad.add (k * 3)).block, (ad.add (k * 3)).off + 2, none⟩) (by rw [block_of_add]; exact hadw)).trans c2)
            | (go_at_call 9
               refine (refenter_at T r p q1 M M' s _ (hT.kept ht4 (fun j _ h => hap.symm j h)) (by omega) HM.out.symm HP.out.symm HQ1.out.symm).mono ?_
               rintro e w5 ⟨rfl, hT5, ht5⟩))
          have hbw4 := nxtT hbw ht4 hfS
          have ha1 := hap.more (w' := w4) hiT
          have hBx : Both w g r (k + 1) w5 := ⟨moreB S wr w4, moreB T w4 w5, M', hS4.kept ht5 (fun j _ h => ha1 j h), hT5, (ha1.symm.more (hiS.more ht4.size)).symm, hfS.more hbw.size, hfT.more hbw4.size, (hiS.more ht4.size).le ht5.size, (hiT.le ht4.size).more ht5.size, by omega, HMs.out, nxtT hbw4 ht5 hfT⟩
          clear ha1 hbw4 hT5 ht5 hS4 ht4 hlow c2'
          obtain ⟨q, Aq, cq, hcq, hlq⟩ := hBx.len
          have HQ := Lib.hid hlq
          have HBX := Lib.hid hBx
          clear hlq hBx
          go_quiet ((go_at_call 14; exact quiet_left (HQ.out _)))
          go_wp2_with fail
          go_roundw
          case rel => exact ⟨k + 1, by go_num, by omega, by omega, HBX.out.drewN _⟩
          case measure => simp [RowKit.intOf]; omega
        · have hz0' : (kind == 0) = false := by simpa using hz0
          by_cases hz1 : kind = 1
          · subst hz1
            clear hz0 hz0'
            by_cases hi0 : idx M s = 0
            · have hE : lookE M s = 50 := by unfold lookE; rw [if_pos hi0]
              have HI := Lib.hid hi0
              have HE := Lib.hid hE
              clear hi0 hE
              go_wp2_with (first
                | (go_at_call 10; refine (look_at S g 0 50 M s _ hS (by omega) HI.out HE.out).mono ?_; rintro e w4 ⟨rfl, rfl⟩)
                | (go_at_call 11; refine (reflook_at T r 0 M s _ hT (by omega) HI.out).mono ?_; rintro e w5 ⟨rfl, rfl⟩))
              have hBx := HB.out.more (Nat.le_succ k)
              obtain ⟨q, Aq, cq, hcq, hlq⟩ := hBx.len
              have HQ := Lib.hid hlq
              have HBX := Lib.hid hBx
              clear hlq hBx
              go_quiet ((go_at_call 14; exact quiet_left (HQ.out _)))
              go_wp2_with fail
              go_roundw
              case rel => exact ⟨k + 1, by go_num, by omega, by omega, HBX.out.drewN _⟩
              case measure => simp [RowKit.intOf]; omega
            · have hE : lookE M s = 0 := by unfold lookE; rw [if_neg hi0]
              have HE := Lib.hid hE
              obtain ⟨p, hp⟩ : ∃ p, p = idx M s := ⟨_, rfl⟩
              rw [← hp] at hi0
              have hp1 : ((p : Int) == 0) = false := by simpa using hi0
              have hp2 : decide (0 < p) = true := by simp; omega
              have HP := Lib.hid hp
              clear hi0 hE hp
              go_wp2_with (first
                | (go_at_call 10; refine (look_at S g p 0 M s _ hS (by omega) HP.out.symm HE.out).mono ?_; rintro e w4 ⟨rfl, rfl⟩)
                | (go_at_call 11; refine (reflook_at T r p M s _ hT (by omega) HP.out.symm).mono ?_; rintro e w5 ⟨rfl, rfl⟩))
              have hBx := HB.out.more (Nat.le_succ k)
              obtain ⟨q, Aq, cq, hcq, hlq⟩ := hBx.len
              have HQ := Lib.hid hlq
              have HBX := Lib.hid hBx
              clear hlq hBx
              go_quiet ((go_at_call 14; exact quiet_left (HQ.out _)))
              go_wp2_with fail
              go_roundw
              case rel => exact ⟨k + 1, by go_num, by omega, by omega, HBX.out.drewN _⟩
              case measure => simp [RowKit.intOf]; omega
          · have hz1' : (kind == 1) = false := by simpa using hz1
            by_cases hz2 : kind = 2
            · subst hz2
              clear hz0 hz0' hz1 hz1'
              by_cases hc : m < 1 ∨ (M.length : Int) < m
              · have e1 : contS M m = ⟨#[]⟩ := by unfold contS; rw [if_pos hc]
                have e2 : contE M m = 50 := by unfold contE; rw [if_pos hc]
                have e3 : decide (contE M m = 0) = false := by rw [e2]; rfl
                have E1 := Lib.hid e1
                have E2 := Lib.hid e2
                have E3 := Lib.hid e3
                have HMs := Lib.hid hMs
                clear e1 e2 e3 hc hMs
                go_wp2_with (first
                  | (go_at_call 12
                     refine (cont_at S g 50 m M ⟨#[]⟩ _ hS HMs.out (by omega) E1.out E2.out).mono ?_
                     rintro e w4 ⟨rfl, hb4⟩
                     have c1' := (hb4.cell (p := ⟨(ad.add (k * 3)).block, (ad.add (k * 3)).off + 1, none⟩) (by rw [block_of_add]; exact Nat.lt_of_lt_of_le hadw hbw.size)).trans c1)
                  | (go_at_call 13
                     refine (refcont_at T r false m M ⟨#[]⟩ _ (hT.kept (Turn.of_keep (S := fun _ => False) hb4) (fun _ _ _ h => h)) (by omega) E1.out E3.out).mono ?_
                     rintro e w5 ⟨rfl, rfl⟩))
                have hBx := (HB.out.keep hb4).more (Nat.le_succ k)
                obtain ⟨q, Aq, cq, hcq, hlq⟩ := hBx.len
                have HQ := Lib.hid hlq
                have HBX := Lib.hid hBx
                clear hlq hBx
                go_quiet ((go_at_call 14; exact quiet_left (HQ.out _)))
                go_wp2_with fail
                go_roundw
                case rel => exact ⟨k + 1, by go_num, by omega, by omega, HBX.out.drewN _⟩
                case measure => simp [RowKit.intOf]; omega
              · obtain ⟨t, ht⟩ : ∃ t, t = contS M m := ⟨_, rfl⟩
                have e2 : contE M m = 0 := by unfold contE; rw [if_neg hc]
                have e3 : decide (contE M m = 0) = true := by rw [e2]; rfl
                have E1 := Lib.hid ht
                have E2 := Lib.hid e2
                have E3 := Lib.hid e3
                have HMs := Lib.hid hMs
                clear ht e2 e3 hc hMs
                go_wp2_with (first
                  | (go_at_call 12
                     refine (cont_at S g 0 m M t _ hS HMs.out (by omega) E1.out.symm E2.out).mono ?_
                     rintro e w4 ⟨rfl, hb4⟩
                     have c1' := (hb4.cell (p := ⟨(ad.add (k * 3)).block, (ad.add (k * 3)).off + 1, none⟩) (by rw [block_of_add]; exact Nat.lt_of_lt_of_le hadw hbw.size)).trans c1)
                  | (go_at_call 13
                     refine (refcont_at T r true m M t _ (hT.kept (Turn.of_keep (S := fun _ => False) hb4) (fun _ _ _ h => h)) (by omega) E1.out.symm E3.out).mono ?_
                     rintro e w5 ⟨rfl, rfl⟩))
                have hBx := (HB.out.keep hb4).more (Nat.le_succ k)
                obtain ⟨q, Aq, cq, hcq, hlq⟩ := hBx.len
                have HQ := Lib.hid hlq
                have HBX := Lib.hid hBx
                clear hlq hBx
                go_quiet ((go_at_call 14; exact quiet_left (HQ.out _)))
                go_wp2_with fail
                go_roundw
                case rel => exact ⟨k + 1, by go_num, by omega, by omega, HBX.out.drewN _⟩
                case measure => simp [RowKit.intOf]; omega
            · have hz2' : (kind == 2) = false := by simpa using hz2
              clear hz0 hz1 hz2
              go_wp2_with fail
              have hBx := HB.out.more (Nat.le_succ k)
              obtain ⟨q, Aq, cq, hcq, hlq⟩ := hBx.len
              have HQ := Lib.hid hlq
              have HBX := Lib.hid hBx
              clear hlq hBx
              go_quiet ((go_at_call 14; exact quiet_left (HQ.out _)))
              go_wp2_with fail
              go_roundw
              case rel => exact ⟨k + 1, by go_num, by omega, by omega, HBX.out.drewN _⟩
              case measure => simp [RowKit.intOf]; omega
    · clear h0
      by_cases hkn : k < n
      · have hk100 : k = 100 := by omega
        subst hk100
        go_wp2_with fail
        go_ret
        exact ⟨rfl, hbw⟩
      · go_wp2_with fail
        go_ret
        exact ⟨rfl, hbw⟩
end Go.Proofs.Ytiakbcmolgpnlaa.walkPlays
