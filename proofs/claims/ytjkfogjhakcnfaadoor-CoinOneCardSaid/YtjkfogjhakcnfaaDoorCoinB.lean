/-
  A choice; what shares show; whom it elects: contracts of a coin's calls.
-/
import Derived.Test.YtjkfogjhakcnfaaDoorCoin
set_option linter.unusedSimpArgs false
set_option linter.unusedVariables false
namespace Go.Proofs.YtjkfogjhakcnfaaDoor
open Go.RowKit Go.Maps Go.Lib

theorem mayV_wf {u : Int} (h : mayV u = true) : inI u := by have := mayV_in h; exact ⟨by omega, by omega⟩
theorem build_toss (k : Int) (w : World) : (Instr.build 77 #[(0, .int .i64 k)]).run Tryd.prog w = .ok (.agg #[.int .i64 k, .bool false]) w := run_build w _ _ _ (by kernel_rfl)
theorem choose_nil (u k : Int) (w : World) : Calls Tryd.prog 11 #[.pointer none, .int .i64 u, .int .i64 k] w fun e w' => e = .returned (.int .i64 3) ∧ w = w' := by
  go_enter Tryd.func11, Tryd.ntmps11
  go_wp2_with (go_at_call 25; refine (has_nil _ _).mono ?_; rintro e w1 ⟨rfl, rfl⟩)
  go_ret
  exact ⟨rfl, rfl⟩
theorem choose_view (S : Nat → Prop) (c : Nat) (f : Int) (G : List (Int × Int)) (N : List Int) (n : Nat) (u k : Int) (w : World) (h : Cn w S c f G N n) (hu : mayV u = false) :
    Calls Tryd.prog 11 #[.pointer (some ⟨c, 0, none⟩), .int .i64 u, .int .i64 k] w fun e w' => e = .returned (.int .i64 70) ∧ Below w.heap.size w w' := by
  have hh := cHas_any c u
  rw [show hasE u = 70 by unfold hasE; rw [if_neg (by rw [hu]; decide)]] at hh
  clear h
  go_enter Tryd.func11, Tryd.ntmps11
  go_wp2_with (go_at_call 25; refine (hh _).mono ?_; rintro e w1 ⟨rfl, rfl⟩)
  go_ret
  exact ⟨rfl, Below.refl _ _⟩
theorem choose_out (S : Nat → Prop) (c : Nat) (f : Int) (G : List (Int × Int)) (N : List Int) (n : Nat) (u k : Int) (w : World) (h : Cn w S c f G N n) (hu : mayV u = true) (hk : inN f k = false) :
    Calls Tryd.prog 11 #[.pointer (some ⟨c, 0, none⟩), .int .i64 u, .int .i64 k] w fun e w' => e = .returned (.int .i64 40) ∧ Below w.heap.size w w' := by
  have hh := cHas_any c u
  rw [show hasE u = 0 by unfold hasE; rw [if_pos hu]] at hh
  obtain ⟨m, hm, hm10⟩ := more_is f
  have hf := full_any f
  have hq := fun w => has_any (2 ^ (more 3 f).toNat - 1) k w (by have := pow_lt32 (k := (more 3 f).toNat) (by omega); omega)
  rw [has_full, hk] at hq
  obtain ⟨y, hy⟩ : ∃ y, y = 2 ^ (more 3 f).toNat - 1 := ⟨_, rfl⟩
  rw [← hy] at hf hq
  have HH := Lib.hid (And.intro hh (And.intro hf hq))
  obtain ⟨b, D, hb, hmm, hft, h1, h2, h3, h4⟩ := h
  have c0 := hb.cell 0
  clear hf hq hy hm hh hft h3 h4 hmm hb hm10
  go_enter Tryd.func11, Tryd.ntmps11
  go_wp2_with (first
    | (go_at_call 25; refine (HH.out.1 _).mono ?_; rintro e w1 ⟨rfl, rfl⟩)
    | (go_at_call 27; refine (HH.out.2.1 _).mono ?_; rintro e w1 ⟨rfl, rfl⟩)
    | (go_at_call 26; refine (HH.out.2.2 _).mono ?_; rintro e w1 ⟨rfl, rfl⟩))
  go_ret
  exact ⟨rfl, Below.refl _ _⟩
set_option maxHeartbeats 1000000 in
set_option maxRecDepth 100000 in
theorem choose_there (S : Nat → Prop) (c : Nat) (f : Int) (G : List (Int × Int)) (N : List Int) (n : Nat) (u k : Int) (w : World) (h : Cn w S c f G N n) (hu : mayV u = true) (hk : inN f k = true) (ht : thereV G N u = true) :
    Calls Tryd.prog 11 #[.pointer (some ⟨c, 0, none⟩), .int .i64 u, .int .i64 k] w fun e w' => e = .returned (.int .i64 100) ∧ Below w.heap.size w w' := by
  have hh := cHas_any c u
  rw [show hasE u = 0 by unfold hasE; rw [if_pos hu]] at hh
  obtain ⟨m, hm, hm10⟩ := more_is f
  have hf := full_any f
  have hq := fun w => has_any (2 ^ (more 3 f).toNat - 1) k w (by have := pow_lt32 (k := (more 3 f).toNat) (by omega); omega)
  rw [has_full, hk] at hq
  obtain ⟨y, hy⟩ : ∃ y, y = 2 ^ (more 3 f).toNat - 1 := ⟨_, rfl⟩
  rw [← hy] at hf hq
  have HH := Lib.hid (And.intro hh (And.intro hf hq))
  have hui := mayV_wf hu
  obtain ⟨b, D, hb, hmm, hft, h1, h2, h3, h4⟩ := h
  have c0 := hb.cell 0
  have c1 := hb.cell 1
  have hat := hft.look hui
  have hhas := (hft u hui).1
  rw [ht] at hhas
  obtain ⟨k0, hk0⟩ : ∃ k0, k0 = if thereV G N u = true then whoV f G u else 0 := ⟨_, rfl⟩
  obtain ⟨s0, hs0⟩ : ∃ s0, s0 = decide (u ∈ N) := ⟨_, rfl⟩
  rw [← hk0, ← hs0] at hat
  clear hf hq hy hm hh hft h3 h4 hb hm10 hk0 hs0
  go_enter Tryd.func11, Tryd.ntmps11
  go_wp2_with (first
    | (go_at_call 25; refine (HH.out.1 _).mono ?_; rintro e w1 ⟨rfl, rfl⟩)
    | (go_at_call 27; refine (HH.out.2.1 _).mono ?_; rintro e w1 ⟨rfl, rfl⟩)
    | (go_at_call 26; refine (HH.out.2.2 _).mono ?_; rintro e w1 ⟨rfl, rfl⟩)
    | (at_lookup; refine wpList_look_toss_ok _ rfl _ _ rfl b n D rfl hmm u rfl hui k0 s0 true hat hhas ?_)
    | (refine wpList_store_new rfl _ _ _ rfl w #[.int .i64 k0, .bool s0] rfl rfl _ _ (by kernel_rfl) rfl (by kernel_rfl) ?_))
  go_ret
  exact ⟨rfl, (Below.refl _ _).alloc (Nat.le_refl _) _⟩
set_option maxHeartbeats 1000000 in
set_option maxRecDepth 100000 in
theorem choose_new (S : Nat → Prop) (c : Nat) (f : Int) (G : List (Int × Int)) (N : List Int) (n : Nat) (u k : Int) (w : World) (h : Cn w S c f G N n) (hn : n ≤ 1000000000) (hu : mayV u = true) (hk : inN f k = true) (ht : thereV G N u = false) :
    Calls Tryd.prog 11 #[.pointer (some ⟨c, 0, none⟩), .int .i64 u, .int .i64 k] w fun e w' => e = .returned (.int .i64 0) ∧ Cn w' S c f (G ++ [(u, k)]) N (n + 1) ∧ Turn S w w' := by
  have hh := cHas_any c u
  rw [show hasE u = 0 by unfold hasE; rw [if_pos hu]] at hh
  obtain ⟨m, hm, hm10⟩ := more_is f
  have hf := full_any f
  have hq := fun w => has_any (2 ^ (more 3 f).toNat - 1) k w (by have := pow_lt32 (k := (more 3 f).toNat) (by omega); omega)
  rw [has_full, hk] at hq
  obtain ⟨y, hy⟩ : ∃ y, y = 2 ^ (more 3 f).toNat - 1 := ⟨_, rfl⟩
  rw [← hy] at hf hq
  have HH := Lib.hid (And.intro hh (And.intro hf hq))
  have hui := mayV_wf hu
  obtain ⟨b, D, hb, hmm, hft, h1, h2, h3, h4⟩ := h
  have c0 := hb.cell 0
  have c1 := hb.cell 1
  have hat := hft.look hui
  have hhas := (hft u hui).1
  rw [ht] at hhas
  rw [if_neg (by rw [ht]; decide), decide_eq_false (there_not.1 ht).2] at hat
  have HF := Lib.hid hft
  have H4 := Lib.hid h4
  have HK := Lib.hid hk
  have HT := Lib.hid ht
  have hcb := blk_ne_map hb hmm
  have c1' := (hb.alloc (.cells #[.int .i64 0, .bool false] 77)).cell 1
  have hma := hmm.alloc (.cells #[.int .i64 0, .bool false] 77)
  clear hf hq hy hm hh hft h4 hm10 hk ht
  go_enter Tryd.func11, Tryd.ntmps11
  go_wp2_with (first
    | (go_at_call 25; refine (HH.out.1 _).mono ?_; rintro e w1 ⟨rfl, rfl⟩)
    | (go_at_call 27; refine (HH.out.2.1 _).mono ?_; rintro e w1 ⟨rfl, rfl⟩)
    | (go_at_call 26; refine (HH.out.2.2 _).mono ?_; rintro e w1 ⟨rfl, rfl⟩)
    | (at_lookup; refine wpList_look_toss_ok _ rfl _ _ rfl b n D rfl hmm u rfl hui 0 false false hat hhas ?_)
    | (refine wpList_store_new rfl _ _ _ rfl w #[.int .i64 0, .bool false] rfl rfl _ _ (by kernel_rfl) rfl (by kernel_rfl) ?_)
    | (refine wpList_build rfl _ _ rfl #[(0, .int .i64 k)] rfl (build_toss k _) ?_)
    | (at_mapUpdate
       refine wpList_mapUpdate_own _ rfl _ _ _ 70 rfl 3 77 kdI Tryd.underlying70 _ b n D rfl hma (by unfold maxLen; omega) _ _ (keyI u) rfl rfl (key_at_i hui) (tossD k false) [] (tossElem_mk k false) ?_
       intro w5 hm5 hg5))
  go_ret
  refine ⟨rfl, ⟨b, D.put (keyI u) (tossD k false), (hb.alloc _).grown hg5 (fun e => hcb (by simpa using e)), hm5, HF.out.choose hmm.isMap H4.out hui HK.out HT.out, h1, h2, h3, ?_⟩, ((Turn.refl S w).alloc _).grown hg5 (fun i e => by cases e; exact .inl h2)⟩
  intro p hp
  rw [List.mem_append, List.mem_singleton] at hp
  rcases hp with hp | hp
  · exact H4.out p hp
  · rw [hp]; exact HK.out
theorem choose_any (S : Nat → Prop) (c : Nat) (f : Int) (G : List (Int × Int)) (N : List Int) (n : Nat) (u k : Int) (w : World) (h : Cn w S c f G N n) (hn : n ≤ 1000000000) :
    Calls Tryd.prog 11 #[.pointer (some ⟨c, 0, none⟩), .int .i64 u, .int .i64 k] w fun e w' => e = .returned (.int .i64 (chooseE f G N u k)) ∧ Cn w' S c f (chooseG f G N u k) N (n + 1) ∧ Turn S w w' := by
  have low : ∀ w', Below w.heap.size w w' → Cn w' S c f G N (n + 1) ∧ Turn S w w' := fun w' hb => ⟨(h.below hb).le (by omega), Turn.of_keep hb⟩
  rcases Bool.eq_false_or_eq_true (mayV u) with hu | hu
  · rcases Bool.eq_false_or_eq_true (inN f k) with hk | hk
    · rcases Bool.eq_false_or_eq_true (thereV G N u) with ht | ht
      · have e1 : chooseE f G N u k = 100 := by unfold chooseE; rw [if_pos hu, if_pos hk, if_pos ht]
        have e2 : chooseG f G N u k = G := by unfold chooseG; rw [if_neg (by rw [e1]; decide)]
        rw [e1, e2]
        refine (choose_there S c f G N n u k w h hu hk ht).mono ?_
        rintro e w' ⟨rfl, hb⟩
        exact ⟨rfl, low w' hb⟩
      · have e1 : chooseE f G N u k = 0 := by unfold chooseE; rw [if_pos hu, if_pos hk, if_neg (by rw [ht]; decide)]
        have e2 : chooseG f G N u k = G ++ [(u, k)] := by unfold chooseG; rw [if_pos e1]
        rw [e1, e2]
        exact choose_new S c f G N n u k w h hn hu hk ht
    · have e1 : chooseE f G N u k = 40 := by unfold chooseE; rw [if_pos hu, if_neg (by rw [hk]; decide)]
      have e2 : chooseG f G N u k = G := by unfold chooseG; rw [if_neg (by rw [e1]; decide)]
      rw [e1, e2]
      refine (choose_out S c f G N n u k w h hu hk).mono ?_
      rintro e w' ⟨rfl, hb⟩
      exact ⟨rfl, low w' hb⟩
  · have e1 : chooseE f G N u k = 70 := by unfold chooseE; rw [if_neg (by rw [hu]; decide)]
    have e2 : chooseG f G N u k = G := by unfold chooseG; rw [if_neg (by rw [e1]; decide)]
    rw [e1, e2]
    refine (choose_view S c f G N n u k w h hu).mono ?_
    rintro e w' ⟨rfl, hb⟩
    exact ⟨rfl, low w' hb⟩
end Go.Proofs.YtjkfogjhakcnfaaDoor
