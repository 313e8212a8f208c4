/-
  What a coin holds, and what each of its calls tells and leaves.
-/
import Derived.Test.YtjkfogjhakcnfaaDoorToss
set_option linter.unusedSimpArgs false
set_option linter.unusedVariables false
namespace Go.Proofs.YtjkfogjhakcnfaaDoor
open Go.RowKit Go.Maps Go.Lib

/-- In w the struct in block c is a coin of F f; G: what was chosen, N: the views seen; at most n stand in its map; all its blocks lie in S. -/
def Cn (w : World) (S : Nat → Prop) (c : Nat) (f : Int) (G : List (Int × Int)) (N : List Int) (n : Nat) : Prop :=
  ∃ b D, Blk w c 72 #[.int .i64 f, .map (some b)] ∧ w.ownsMap Tryd.prog 3 (tossElem (H := Unit)) b n D ∧ FitsT D f G N ∧ S c ∧ S b ∧ isF f = true ∧ (∀ p ∈ G, inN f p.2 = true)
section
variable {w w' : World} {S S' T : Nat → Prop} {c n n' : Nat} {f : Int} {G : List (Int × Int)} {N : List Int}
theorem Cn.lt (h : Cn w S c f G N n) : c < w.heap.size := by obtain ⟨_, _, hb, _⟩ := h; exact hb.lt
theorem Cn.mono (h : Cn w S c f G N n) (hs : ∀ k, k < w.heap.size → S k → S' k) : Cn w S' c f G N n := by
  obtain ⟨b, D, hb, hm, hf, h1, h2, h3⟩ := h
  exact ⟨b, D, hb, hm, hf, hs _ hb.lt h1, hs _ hm.lt h2, h3⟩
theorem Cn.le (h : Cn w S c f G N n) (hn : n ≤ n') : Cn w S c f G N n' := by
  obtain ⟨b, D, hb, hm, hr⟩ := h
  exact ⟨b, D, hb, hm.mono hn, hr⟩
/-- What turns other blocks alone leaves a coin as it is. -/
theorem Cn.kept (h : Cn w S c f G N n) (ht : Turn T w w') (hd : ∀ k, k < w.heap.size → S k → ¬ T k) : Cn w' S c f G N n := by
  obtain ⟨b, D, hb, hm, hf, h1, h2, h3⟩ := h
  exact ⟨b, D, ht.blk hb (hd _ hb.lt h1), ht.map hm (hd _ hm.lt h2), hf, h1, h2, h3⟩
theorem Cn.below (h : Cn w S c f G N n) (hb : Below w.heap.size w w') : Cn w' S c f G N n := h.kept (Turn.of_keep (S := fun _ => False) hb) (fun _ _ _ h => h)
theorem Cn.same (h : Cn w S c f G N n) : Cn w (moreB S w w') c f G N n := h.mono fun _ _ => .inl
end

/-- A struct that is handed back out of its block. -/
theorem results_row {P : Program} {fn : Func} {d : Tmp} {ty : TypeId} (h : fn.results = #[.cell d ty]) (tmps : Array Value) (w : World) (g : Nat) (hx : tmps.getD d undef = .pointer (some ⟨g, 0, none⟩)) (t : TypeId) (cs : Array Value) (fr : Nat × Nat) (ds : TypeDesc)
    (hb : w.heap[g]? = some (.cells cs t fr)) (hu : P.underlying ty = some ds) (hd : (match ds with | .struct _ | .array _ _ => true | _ => false) = true) (hi : (P.info? ty).map (·.size) = some cs.size) : (results fn tmps).run P w = .ok (.agg cs) w := by
  have hx' : tmps[d]?.getD undef = .pointer (some ⟨g, 0, none⟩) := by simpa using hx
  simp [results, h, hx', asAddr, run_loadVar_row w g t ty cs fr ds hb hu hd hi]
theorem field_toss (k : Int) (s : Bool) (w : World) : (Instr.field 77 (.agg #[.int .i64 k, .bool s]) 1).run Tryd.prog w = .ok (.bool s) w := by kernel_rfl
theorem build_coin (u : Int) (w : World) : (Instr.build 50 #[(0, .int .i64 5), (2, .int .i64 u)]).run Tryd.prog w = .ok (.agg (stmC (coinS u))) w := run_build w _ _ _ (by kernel_rfl)
set_option maxHeartbeats 1000000 in
set_option maxRecDepth 100000 in
theorem stmt_any (u : Int) (w : World) : Calls Tryd.prog 15 #[.int .i64 u] w fun e w' => e = .returned (.agg (stmC (coinS u))) ∧ Below w.heap.size w w' := by
  have hb0 : Below w.heap.size w (w.alloc (.cells (stmC (coinS u)) 50)) := (Below.refl _ _).alloc (Nat.le_refl _) _
  go_enter Tryd.func15, Tryd.ntmps15
  go_wp2_with (first
    | (refine wpList_build rfl _ _ rfl #[(0, .int .i64 5), (2, .int .i64 u)] rfl (build_coin u _) ?_)
    | (refine wpList_store_new rfl _ _ _ rfl w (stmC (coinS u)) rfl rfl _ _ (by kernel_rfl) rfl (by kernel_rfl) ?_))
  (try simp only [Exit.inBlock, Exit.then])
  exact bodyPost_ret (v := .agg (stmC (coinS u))) (results_row rfl _ _ w.heap.size rfl _ _ _ _ (Blk.new w 50 (stmC (coinS u))) Tryd.underlying50 rfl (by kernel_rfl)) rfl ⟨rfl, hb0⟩
/-- Is there a coin of that view? -/
def hasE (u : Int) : Int := if mayV u = true then 0 else 70
theorem has_nil (u : Int) (w : World) : Calls Tryd.prog 25 #[.pointer none, .int .i64 u] w fun e w' => e = .returned (.int .i64 3) ∧ w = w' := by
  go_enter Tryd.func25, Tryd.ntmps25
  go_wp2
  go_ret
  exact ⟨rfl, rfl⟩
theorem cHas_any (c : Nat) (u : Int) (w : World) : Calls Tryd.prog 25 #[.pointer (some ⟨c, 0, none⟩), .int .i64 u] w fun e w' => e = .returned (.int .i64 (hasE u)) ∧ w = w' := by
  unfold hasE
  rcases Int.lt_or_le u 1 with h1 | h1
  · rw [if_neg (by simp [mayV]; omega)]
    go_enter Tryd.func25, Tryd.ntmps25
    go_wp2
    go_ret
    exact ⟨rfl, rfl⟩
  · have h1' : decide (u < 1) = false := by simp; omega
    rcases Int.lt_or_le 1048576 u with h2 | h2
    · rw [if_neg (by simp [mayV]; omega)]
      go_enter Tryd.func25, Tryd.ntmps25
      go_wp2
      go_ret
      exact ⟨rfl, rfl⟩
    · have h2' : decide (1048576 < u) = false := by simp; omega
      rw [if_pos (by simp [mayV]; omega)]
      go_enter Tryd.func25, Tryd.ntmps25
      go_wp2
      go_ret
      exact ⟨rfl, rfl⟩
/-- New. -/
def newCE (f : Int) : Int := checkV f 0
theorem newCE_is (f : Int) : newCE f = if isF f = true then 0 else 1 := by
  unfold newCE checkV
  split
  · rw [if_pos (Nat.two_pow_pos _)]
  · rfl
set_option maxHeartbeats 1000000 in
set_option maxRecDepth 100000 in
theorem newc_ok (f : Int) (w : World) (he : isF f = true) :
    Calls Tryd.prog 9 #[.int .i64 f] w fun e w' => ∃ c, e = .returned (.tuple #[.pointer (some ⟨c, 0, none⟩), .int .i64 0]) ∧ Cn w' (fresh w w') c f [] [] 0 ∧ Below w.heap.size w w' := by
  have hcheck := fun w => check_any f 0 w (by decide)
  have e0 : checkV f 0 = 0 := by have := newCE_is f; rw [if_pos he] at this; exact this
  rw [e0] at hcheck
  have hmm := @run_makeMap Tryd.prog
  go_enter Tryd.func9, Tryd.ntmps9
  go_wp2_with (go_at_call 22; refine (hcheck _).mono ?_; rintro e w1 ⟨rfl, rfl⟩)
  go_ret2
  have hs : (w.alloc (.map #[] 0)).heap.size = w.heap.size + 1 := by simp
  refine ⟨w.heap.size + 1, rfl, ⟨w.heap.size, .map [], by rw [← hs]; exact Blk.new _ _ _, (World.ownsMap_made w _ _ _).alloc _, FitsT.nil f, by simp [fresh] <;> omega, by simp [fresh] <;> omega, he, fun p hp => by cases hp⟩, ((Below.refl _ _).alloc (Nat.le_refl _) _).alloc (by simp) _⟩
set_option maxHeartbeats 1000000 in
set_option maxRecDepth 100000 in
theorem newc_not (f : Int) (w : World) (he : isF f = false) :
    Calls Tryd.prog 9 #[.int .i64 f] w fun e w' => e = .returned (.tuple #[.pointer none, .int .i64 1]) ∧ w = w' := by
  have hcheck := fun w => check_any f 0 w (by decide)
  have e0 : checkV f 0 = 1 := by have := newCE_is f; rw [if_neg (by rw [he]; decide)] at this; exact this
  rw [e0] at hcheck
  go_enter Tryd.func9, Tryd.ntmps9
  go_wp2_with (go_at_call 22; refine (hcheck _).mono ?_; rintro e w1 ⟨rfl, rfl⟩)
  go_ret2
  exact ⟨rfl, rfl⟩
/-- Seen. -/
theorem seen_nil (u : Int) (w : World) : Calls Tryd.prog 18 #[.pointer none, .int .i64 u] w fun e w' => e = .returned (.bool false) ∧ w = w' := by
  go_enter Tryd.func18, Tryd.ntmps18
  go_wp2
  go_ret
  exact ⟨rfl, rfl⟩
theorem seen_any (S : Nat → Prop) (c : Nat) (f : Int) (G : List (Int × Int)) (N : List Int) (n : Nat) (u : Int) (w : World) (h : Cn w S c f G N n) (hu : inI u) :
    Calls Tryd.prog 18 #[.pointer (some ⟨c, 0, none⟩), .int .i64 u] w fun e w' => e = .returned (.bool (decide (u ∈ N))) ∧ w = w' := by
  obtain ⟨b, D, hb, hm, hf, h1, h2, h3, h4⟩ := h
  have c1 := hb.cell 1
  have hat := hf.look hu
  obtain ⟨k, hk⟩ : ∃ k, k = if thereV G N u = true then whoV f G u else 0 := ⟨_, rfl⟩
  obtain ⟨s, hs⟩ : ∃ s, s = decide (u ∈ N) := ⟨_, rfl⟩
  rw [← hk, ← hs] at hat
  rw [← hs]
  have hfl := field_toss k s
  clear hf h3 h4 hk hs
  go_enter Tryd.func18, Tryd.ntmps18
  go_wp2_with (first
    | (at_lookup; refine wpList_look_toss _ rfl _ _ rfl b n D rfl hm u rfl hu k s hat ?_)
    | go_in)
  go_ret
  exact ⟨rfl, rfl⟩
end Go.Proofs.YtjkfogjhakcnfaaDoor
