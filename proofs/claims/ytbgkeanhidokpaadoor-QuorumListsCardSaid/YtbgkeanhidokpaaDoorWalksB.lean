/-
  The walk of the law on sets and their lists.
-/
import Derived.Test.YtbgkeanhidokpaaDoorAlive
import Derived.BigQuiet
set_option linter.unusedSimpArgs false
set_option linter.unusedVariables false
namespace Go.Proofs.YtbgkeanhidokpaaDoor
open Go.RowKit Go.Lib

theorem bts_rise (n i x y : Nat) (h1 : (bts 0 n)[i]? = some x) (h2 : (bts 0 n)[i + 1]? = some y) : x < y := by
  obtain ⟨l1, rfl⟩ := List.getElem?_eq_some_iff.1 h1
  obtain ⟨l2, rfl⟩ := List.getElem?_eq_some_iff.1 h2
  exact (List.pairwise_iff_getElem.1 (bts_sorted n 0)) i (i + 1) l1 l2 (by omega)
theorem hasV_mem {n j : Nat} (hn : n < 4294967296) (hj : j ∈ bts 0 n) : hasV n (j : Int) = true := (has_iff hn).2 ⟨j, hj, rfl⟩
theorem hasV_put {n k : Nat} (hk : k < 32) : hasV (n ||| 2 ^ k) (k : Int) = true := by
  unfold hasV
  rw [fits_mk (by omega) (by omega), Int.toNat_natCast, Nat.testBit_or, Nat.testBit_two_pow]
  simp
/-- A contract that leaves the world, met in a region that only reads. -/
theorem quiet_left {P : Program} {f : FuncId} {args : Array Value} {w : World} {n : Nat} {v : Value} (h : Calls P f args (w.drewN n) fun e w' => e = .returned v ∧ w.drewN n = w') :
    Calls P f args (w.drewN n) fun e w'' => e = .returned v ∧ ∃ m, w'' = w.drewN m := h.mono fun _ _ ⟨he, hw⟩ => ⟨he, n, hw.symm⟩
set_option maxHeartbeats 1000000 in
set_option maxRecDepth 100000 in
theorem lists_walk (n : Nat) (k : Int) (w : World) (hn : n < 4294967296) (hT : Tab w) :
    Calls Tryd.prog 6 #[.int .u32 n, .int .i64 k] w (alivePost w) := by
  have HT := Lib.hid hT
  have hl := bts_len hn
  have hlist := list_any n
  have HR := Lib.hid (bts_rise n)
  have HM := Lib.hid (fun j => @hasV_mem n j hn)
  have hlt32 : ∀ j ∈ bts 0 n, j < 32 := fun j hj => bts_lt (k := 32) hn hj
  have hmk := mk_bts n
  have hcnt := bts_length n 0
  have htk : ∀ i, mk ((bts 0 n).take i) < 4294967296 := fun i => mk_take_lt (k := 32) hn i
  obtain ⟨L, hL⟩ : ∃ L, L = bts 0 n := ⟨_, rfl⟩
  simp only [← hL] at hl hlist HR HM hlt32 hmk hcnt htk
  have HP := Lib.hid (And.intro hlt32 (And.intro hmk (And.intro hcnt htk)))
  clear hT hL hlt32 hmk hcnt htk
  go_enter Tryd.func6, Tryd.ntmps6
  go_wp2_with (first
    | (go_at_call 7; refine (alive_any _ HT.out).mono ?_; rintro e w1 ⟨rfl, hb1⟩)
    | (go_at_call 17; refine (hlist _ hn (HT.out.kept hb1)).mono ?_; rintro e w2 ⟨v2, rfl, ho2⟩; obtain ⟨A2, c2, rfl, hr2, hc2⟩ := ho2.form))
  have hb2 : Below w.heap.size w w2 := hb1.trans (ho2.below.mono hb1.size)
  clear ho2
  go_loopw [6, 7] (fun a b wr => ∃ i : Nat, a = .int .u32 (mk (L.take i)) ∧ b = .int .i64 i ∧ i ≤ L.length ∧ Below w2.heap.size w2 wr) (fun _ b _ => L.length - (intOf b).toNat)
  case atStart => exact ⟨0, rfl, rfl, Nat.zero_le _, Below.refl _ _⟩
  case round =>
    obtain ⟨i, rfl, rfl, hi, hbr⟩ := hrel
    have hfin := hb2.trans (hbr.mono hb2.size)
    by_cases hlt : i < L.length
    · obtain ⟨ad, u, rfl, _, hx, hc⟩ := (hr2.below hbr).at_ hlt
      obtain rfl := natCell_at hlt hx
      obtain ⟨x, hz⟩ : ∃ x, x = L[i] := ⟨_, rfl⟩
      have hxi : L[i]? = some x := by rw [hz]; exact List.getElem?_eq_getElem hlt
      have htk : mk (L.take (i + 1)) = mk (L.take i) ||| 2 ^ x := by rw [List.take_succ_eq_append_getElem hlt, mk_snoc, hz]
      have hmem : x ∈ L := by rw [hz]; exact List.getElem_mem hlt
      rw [← hz] at hc
      have hx32 := HP.out.1 x hmem
      have hs32 := HP.out.2.2.2 i
      obtain ⟨s, hs⟩ : ∃ s, s = mk (L.take i) := ⟨_, rfl⟩
      rw [← hs] at htk hs32
      have hh : ∀ w, Calls Tryd.prog 21 #[.int .u32 n, .int .i64 x] w fun e w' => e = .returned (.bool true) ∧ w = w' := fun w => by
        have := has_any n x w hn
        rwa [HM.out x hmem] at this
      have hput := fun w => put_any s x w hs32 hx32
      have HH := Lib.hid (And.intro hh hput)
      have HT2 := Lib.hid htk
      clear hx hz htk hmem hh hput
      rw [← hs]
      have HS := Lib.hid hs
      clear hs
      by_cases h0 : i = 0
      · have hi0 : decide (0 < i) = false := by simp; omega
        clear h0
        go_wp2_with fail
        go_quiet ((go_at_call 21; exact quiet_left (HH.out.1 _)))
        clear hi0
        go_wp2_with (go_at_call 23; refine (HH.out.2 _).mono ?_; rintro e w3 ⟨rfl, rfl⟩)
        go_round
        case rel => exact ⟨i + 1, by rw [HT2.out], by go_num, by omega, (below_drewN hbr _)⟩
        case measure => simp [intOf]; omega
      · obtain ⟨j, rfl⟩ : ∃ j, i = j + 1 := ⟨i - 1, by omega⟩
        have hi0 : decide (0 < j + 1) = true := by simp
        obtain ⟨_, u1, h1, _, hx1, hc1⟩ := (hr2.below hbr).at_ (k := j) (by omega)
        cases h1
        obtain rfl := natCell_at (by omega) hx1
        obtain ⟨y, hy⟩ : ∃ y, y = L[j] := ⟨_, rfl⟩
        have hxj : L[j]? = some y := by rw [hy]; exact List.getElem?_eq_getElem (by omega)
        rw [← hy] at hc1
        have hlt2 := HR.out j y x hxj hxi
        clear hx1 hy h0
        have hle : decide (x ≤ y) = false := by simp; omega
        have hwj : IntKind.i64.wrap (j : Int) = (j : Int) := IntWalk.i64_in _ (by omega)
        have hjl : j < L.length := by omega
        have hc3 := hc
        simp [Addr.add] at hc3
        have hj0 : (0 : Int) ≤ (j : Int) + 1 := by omega
        have hjl2 : (j : Int) + 1 < (L.length : Int) := by omega
        have hjt : ((j : Int) + 1).toNat = j + 1 := by omega
        go_wp2_with fail
        go_quiet ((go_at_call 21; exact quiet_left (HH.out.1 _)))
        clear hi0 hwj hle hj0 hjl2 hjt
        go_wp2_with (go_at_call 23; refine (HH.out.2 _).mono ?_; rintro e w3 ⟨rfl, rfl⟩)
        go_round
        case rel => exact ⟨j + 1 + 1, by rw [HT2.out], by go_num, by omega, (below_drewN hbr _)⟩
        case measure => simp [intOf]; omega
    · have hfull : mk (L.take i) = n := by rw [List.take_of_length_le (by omega)]; exact HP.out.2.1
      have hlen := HP.out.2.2.1
      have hc32 := cnt_le 32 n hn
      rw [hfull]
      rw [← hlen] at hc32
      have HL := Lib.hid hlen
      clear hfull hlen
      rcases Bool.eq_false_or_eq_true (fitsV k) with hf | hf
      · obtain ⟨q, rfl⟩ := Int.eq_ofNat_of_zero_le (show 0 ≤ k from (of_decide_eq_true hf).1)
        have hq : q < 32 := by have := (show (0 : Int) ≤ q ∧ (q : Int) < 32 from of_decide_eq_true hf); omega
        have hput := fun w => put_any n q w hn hq
        have hhas := fun w => has_any n q w hn
        have hp32 := or_lt hn hq
        have hhas2 := fun w => has_any (n ||| 2 ^ q) q w hp32
        have hcnt := fun w => count_any (n ||| 2 ^ q) w hp32
        have hv := hasV_put (n := n) hq
        have hcp := cnt_put n q
        rw [← HL.out] at hcp
        have hv1 : hasV n (q : Int) = n.testBit q := by unfold hasV; rw [hf, Bool.true_and, Int.toNat_natCast]
        rw [hv1] at hhas
        obtain ⟨p, hp⟩ : ∃ p, p = n ||| 2 ^ q := ⟨_, rfl⟩
        simp only [← hp] at hput hp32 hhas2 hcnt hv hcp
        rw [hv] at hhas2
        rcases Bool.eq_false_or_eq_true (n.testBit q) with hb | hb
        · rw [hb] at hhas
          rw [if_pos hb, Nat.add_zero] at hcp
          rw [hcp] at hcnt
          have HH := Lib.hid (And.intro hput (And.intro hhas (And.intro hhas2 hcnt)))
          clear hput hhas hhas2 hcnt hv hcp hv1 hp hb
          go_wp2_with (first
            | (go_at_call 23; refine (HH.out.1 _).mono ?_; rintro e w3 ⟨rfl, rfl⟩)
            | (go_at_call 21; (first | ((with_reducible refine (HH.out.2.1 _).mono ?_); rintro e w3 ⟨rfl, rfl⟩) | ((with_reducible refine (HH.out.2.2.1 _).mono ?_); rintro e w3 ⟨rfl, rfl⟩)))
            | (go_at_call 13; refine (HH.out.2.2.2 _).mono ?_; rintro e w3 ⟨rfl, rfl⟩))
          go_ret
          exact ⟨rfl, hfin⟩
        · rw [hb] at hhas
          rw [if_neg (by rw [hb]; decide)] at hcp
          rw [hcp] at hcnt
          have HH := Lib.hid (And.intro hput (And.intro hhas (And.intro hhas2 hcnt)))
          clear hput hhas hhas2 hcnt hv hcp hv1 hp hb
          go_wp2_with (first
            | (go_at_call 23; refine (HH.out.1 _).mono ?_; rintro e w3 ⟨rfl, rfl⟩)
            | (go_at_call 21; (first | ((with_reducible refine (HH.out.2.1 _).mono ?_); rintro e w3 ⟨rfl, rfl⟩) | ((with_reducible refine (HH.out.2.2.1 _).mono ?_); rintro e w3 ⟨rfl, rfl⟩)))
            | (go_at_call 13; refine (HH.out.2.2.2 _).mono ?_; rintro e w3 ⟨rfl, rfl⟩))
          go_ret
          exact ⟨rfl, hfin⟩
      · have hput := fun w => put_not n k w hf
        have hhas := fun w => has_any n k w hn
        rw [show hasV n k = false by unfold hasV; rw [hf]; rfl] at hhas
        have HH := Lib.hid (And.intro hput hhas)
        clear hput hhas
        go_wp2_with (first
          | (go_at_call 23; refine (HH.out.1 _).mono ?_; rintro e w3 ⟨rfl, rfl⟩)
          | (go_at_call 21; refine (HH.out.2 _).mono ?_; rintro e w3 ⟨rfl, rfl⟩))
        go_ret
        exact ⟨rfl, hfin⟩
end Go.Proofs.YtbgkeanhidokpaaDoor
