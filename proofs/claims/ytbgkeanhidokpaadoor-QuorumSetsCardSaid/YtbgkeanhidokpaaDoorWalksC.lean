/-
  The walk of the law on sets of any bits.
-/
import Derived.Test.YtbgkeanhidokpaaDoorAlive
import Derived.BigQuiet
import Derived.Deep.RegionHeld3
set_option linter.unusedSimpArgs false
set_option linter.unusedVariables false
namespace Go.Proofs.YtbgkeanhidokpaaDoor
open Go.RowKit Go.Lib

theorem nxt {a b c : World} (h : Below a.heap.size a b) {n : Nat} (k : Below n b c) (hn : a.heap.size ≤ n) : Below a.heap.size a c := h.trans (k.mono hn)
theorem mk_same (L : List Nat) (k : Nat) : mk (L ++ [k]) = mk L ||| 2 ^ k := mk_snoc L k
theorem checkV_in (f : Int) (n : Nat) : 0 ≤ checkV f n ∧ checkV f n ≤ 40 := by unfold checkV; split <;> (try split) <;> omega
set_option maxHeartbeats 1000000 in
set_option maxRecDepth 100000 in
theorem sets_walk (f : Int) (n : Nat) (k : Int) (w : World) (h0 : -9223372036854775808 ≤ f) (h1 : f ≤ 9223372036854775807) (hn : n < 4294967296) (hT : Tab w) :
    Calls Tryd.prog 4 #[.int .i64 f, .int .u32 n, .int .i64 k] w (alivePost w) := by
  have HT := Lib.hid hT
  have hl := bts_len hn
  have hlist := list_any n
  have hrlist := reflist_any n
  have hcount := fun w => count_any n w hn
  have hlt32 : ∀ j ∈ bts 0 n, j < 32 := fun j hj => bts_lt (k := 32) hn hj
  have hmk := mk_bts n
  rw [← bts_length n 0] at hcount
  obtain ⟨L, hL⟩ : ∃ L, L = bts 0 n := ⟨_, rfl⟩
  simp only [← hL] at hl hlist hrlist hcount hlt32 hmk
  have hcheck := fun w => check_any f n w hn
  have hrcheck := fun w => refcheck_any f n w hn h0 h1
  have hcb := checkV_in f n
  obtain ⟨e0, he0⟩ : ∃ e, e = checkV f n := ⟨_, rfl⟩
  rw [← he0] at hcheck hrcheck hcb
  have hhas := fun w => has_any n k w hn
  have hrhas := fun w => refhas_any n k w hn
  obtain ⟨b0, hb0⟩ : ∃ b, b = hasV n k := ⟨_, rfl⟩
  rw [← hb0] at hhas hrhas
  have HH := Lib.hid (And.intro hcount (And.intro hcheck (And.intro hrcheck (And.intro hhas hrhas))))
  have HP := Lib.hid (And.intro hlt32 hmk)
  clear hT hL hlt32 hmk he0 hb0 hcount hcheck hrcheck hhas hrhas
  obtain ⟨i0, hi0, hz0, hz1, hz2⟩ := info_parts intInfo
  rcases Bool.eq_false_or_eq_true b0 with hb | hb
  all_goals
    subst hb
    go_enter Tryd.func4, Tryd.ntmps4
    go_wp2_with (first
      | (go_at_call 7; refine (alive_any _ HT.out).mono ?_; rintro e w1 ⟨rfl, hb1⟩)
      | (go_at_call 17; refine (hlist _ hn (HT.out.kept hb1)).mono ?_; rintro e w2 ⟨v2, rfl, ho2⟩; obtain ⟨A2, c2, rfl, hr2, hc2⟩ := ho2.form)
      | (go_at_call 18; refine (hrlist _ hn).mono ?_; rintro e w3 ⟨v3, rfl, ho3⟩; obtain ⟨A3, c3, rfl, hr3, hc3⟩ := ho3.form)
      | (go_at_call 13; refine (HH.out.1 _).mono ?_; rintro e w4 ⟨rfl, rfl⟩)
      | (go_at_call 19; refine (HH.out.2.1 _).mono ?_; rintro e w4 ⟨rfl, rfl⟩)
      | (go_at_call 20; refine (HH.out.2.2.1 _).mono ?_; rintro e w5 ⟨rfl, hb5⟩)
      | (go_at_call 21; refine (HH.out.2.2.2.1 _).mono ?_; rintro e w4 ⟨rfl, rfl⟩)
      | (go_at_call 22; refine (HH.out.2.2.2.2 _).mono ?_; rintro e w6 ⟨rfl, hb6⟩))
    have hb56 := nxt hb5 hb6 hb5.size
    have hr26 := (hr2.below (ho3.below)).below (hb56.mono ho3.below.size)
    have ho36 := ho3.keep hb56
    have hr36 := hr3.below hb56
    have hb12 : Below w.heap.size w w2 := nxt hb1 ho2.below hb1.size
    have hb16 : Below w.heap.size w w6 := nxt (nxt (nxt hb1 ho2.below hb1.size) ho3.below (nxt hb1 ho2.below hb1.size).size) hb56 (nxt (nxt hb1 ho2.below hb1.size) ho3.below (nxt hb1 ho2.below hb1.size).size).size
    have hs26 : w2.heap.size ≤ w6.heap.size := Nat.le_trans ho3.below.size hb56.size
    have hs36 : w3.heap.size ≤ w6.heap.size := hb56.size
    clear ho2 ho3 hr2 hr3 hb5 hb6 hb56 hb1
    go_loopw [9] (fun a wr => ∃ i : Nat, a = .int .i64 i ∧ i ≤ L.length ∧ Below w6.heap.size w6 wr) (fun a _ => L.length - (intOf a).toNat)
    case atStart => exact ⟨0, rfl, Nat.zero_le _, Below.refl _ _⟩
    case round =>
      obtain ⟨i, rfl, hi, hbr⟩ := hrel
      have hfin := nxt hb16 hbr hb16.size
      by_cases hlt : i < L.length
      · obtain ⟨ad, u, rfl, _, hx, hc⟩ := (hr26.below (hbr.mono (by omega))).at_ hlt
        obtain rfl := natCell_at hlt hx
        obtain ⟨ad3, u3, rfl, _, hx3, hc3⟩ := (hr36.below (hbr.mono (by omega))).at_ hlt
        obtain rfl := natCell_at hlt hx3
        obtain ⟨x, hz⟩ : ∃ x, x = L[i] := ⟨_, rfl⟩
        rw [← hz] at hc hc3
        clear hx hx3 hz
        go_wp2_with fail
        go_quiet (fail)
        go_wp2_with fail
        go_round
        case rel => exact ⟨i + 1, by go_num, by omega, (below_drewN hbr _)⟩
        case measure => simp [intOf]; omega
      · rcases Bool.eq_false_or_eq_true (fitsV k) with hf | hf
        · obtain ⟨q, rfl⟩ := Int.eq_ofNat_of_zero_le (show 0 ≤ k from (of_decide_eq_true hf).1)
          have hq : q < 32 := by have := (show (0 : Int) ≤ q ∧ (q : Int) < 32 from of_decide_eq_true hf); omega
          have hput := Lib.hid (fun w => put_any n q w hn hq)
          have ho := ho36.keep hbr
          go_wp2_with (first
            | (go_at_call 23; refine (hput.out _).mono ?_; rintro e w7 ⟨rfl, rfl⟩)
            | (at_builtin; refine wpList_append_one_met rfl _ _ 29 rfl w2.heap.size 3 i0 (.int .i64 0) 8 Tryd.underlying29 hi0 hz0 hz1 hz2 rfl (.slice A3 L.length c3) L.length (natCells L) rfl w2 wr _ rfl ho rfl (by omega) (by omega) ?_; intro v8 w8 ho8))
          have ho9 : Owns w2.heap.size v8 (L ++ [q]) w2 w8 := by unfold Owns; rw [natCells_snoc, List.length_append, List.length_singleton]; exact ho8
          obtain ⟨A9, c9, rfl, hr9, hc9⟩ := ho9.form
          have hof : Calls Tryd.prog 24 #[.slice A9 (L ++ [q]).length c9] w8 fun e w' => e = .returned (.int .u32 ((n ||| 2 ^ q : Nat) : Int)) ∧ w8 = w' := by
            have h := of_any w8.heap.size A9 c9 (L ++ [q]) w8 hr9 (by rw [List.length_append, List.length_singleton]; omega) (fun j hj => by
              rw [List.mem_append] at hj
              rcases hj with hj | hj
              · exact HP.out.1 j hj
              · simp at hj; omega)
            rwa [mk_same, HP.out.2] at h
          have hb8 := nxt hb12 ho9.below hb12.size
          go_wp2_with (go_at_call 24; refine hof.mono ?_; rintro e w9 ⟨rfl, rfl⟩)
          go_ret
          exact ⟨rfl, hb8⟩
        · have hput := Lib.hid (fun w => put_not n k w hf)
          have hk := of_decide_eq_false hf
          by_cases hk0 : k < 0
          · go_wp2_with (first
              | (go_at_call 23; refine (hput.out _).mono ?_; rintro e w7 ⟨rfl, rfl⟩))
            go_ret
            exact ⟨rfl, hfin⟩
          · have hk1 : 31 < k := by omega
            go_wp2_with (first
              | (go_at_call 23; refine (hput.out _).mono ?_; rintro e w7 ⟨rfl, rfl⟩))
            go_ret
            exact ⟨rfl, hfin⟩
end Go.Proofs.YtbgkeanhidokpaaDoor
