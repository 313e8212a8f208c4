/-
  One of the document's calls over a tape, and over none.
-/
import Derived.Test.YtdojbnjaomlngaaDoV
set_option linter.unusedSimpArgs false
set_option linter.unusedVariables false
set_option maxRecDepth 10000
namespace Go.Proofs.Ytdojbnjaomlngaa
open Go.RowKit Go.Lib
open L3 (Blk Reads block_of_add add_of_add)
open L6 (Turn moreB fresh From In)

/-- An act: its Kind, the number, the text. -/
structure Actx where
  kind : Int
  n : Int
  s : List UInt8
deriving Inhabited
def acL (x : Actx) : List Value := [.int .i64 x.kind, .int .i64 x.n, .string (str x.s)]
def acC (x : Actx) : Array Value := #[.int .i64 x.kind, .int .i64 x.n, .string (str x.s)]
structure Actx.fit (x : Actx) : Prop where
  k : inI x.kind
  n : inI x.n
  s : x.s.length ≤ maxLen
/-- What it tells, and what it leaves. -/
def doE (t : Tp) (x : Actx) : Int := if x.kind = 0 then writeE t x.s else if x.kind = 1 then strokeE t else if x.kind = 2 then shedE t x.n else if x.kind = 3 then backE t x.n else if x.kind = 4 then fuseE x.n else if x.kind = 5 then 0 else if t.on = false then 170 else 0
def doT (t : Tp) (x : Actx) : Tp := if x.kind = 0 then writeT t x.s else if x.kind = 1 then holdT t else if x.kind = 2 then shedT t x.n else if x.kind = 3 then backT t x.n else if x.kind = 4 then fuseT t x.n else if x.kind = 5 then crashT t x.n else t
theorem acInfo : (Try.prog.info? 31).map (·.size) = some 3 := by kernel_rfl
theorem box_any (w : World) (x : Actx) : Below w.heap.size w (w.alloc (.cells (acC x) 31)) ∧ (w.alloc (.cells (acC x) 31)).cell? ⟨w.heap.size, 0, none⟩ = some (.int .i64 x.kind) ∧ (w.alloc (.cells (acC x) 31)).cell? ⟨w.heap.size, 1, none⟩ = some (.int .i64 x.n) ∧ (w.alloc (.cells (acC x) 31)).cell? ⟨w.heap.size, 2, none⟩ = some (.string (str x.s)) :=
  ⟨below_new _ _, (Blk.new _ _ _).cell 0, (Blk.new _ _ _).cell 1, (Blk.new _ _ _).cell 2⟩
theorem kinds (k : Int) : k = 0 ∨ k = 1 ∨ k = 2 ∨ k = 3 ∨ k = 4 ∨ k = 5 ∨ ((k == 0) = false ∧ (k == 1) = false ∧ (k == 2) = false ∧ (k == 3) = false ∧ (k == 4) = false ∧ (k == 5) = false) := by
  by_cases h0 : k = 0
  · exact .inl h0
  by_cases h1 : k = 1
  · exact .inr (.inl h1)
  by_cases h2 : k = 2
  · exact .inr (.inr (.inl h2))
  by_cases h3 : k = 3
  · exact .inr (.inr (.inr (.inl h3)))
  by_cases h4 : k = 4
  · exact .inr (.inr (.inr (.inr (.inl h4))))
  by_cases h5 : k = 5
  · exact .inr (.inr (.inr (.inr (.inr (.inl h5)))))
  exact .inr (.inr (.inr (.inr (.inr (.inr ⟨by simpa using h0, by simpa using h1, by simpa using h2, by simpa using h3, by simpa using h4, by simpa using h5⟩)))))
set_option maxHeartbeats 4000000 in
set_option maxRecDepth 100000 in
theorem do_nil (x : Actx) (w : World) : Calls Try.prog 9 #[.pointer none, .agg (acC x)] w (gives (.int .i64 3) w) := by
  obtain ⟨hb1, c0, c1, c2⟩ := box_any w x
  obtain ⟨k, n, s⟩ := x
  dsimp only at c0 c1 c2
  unfold acC at *
  dsimp only at *
  obtain ⟨w1, hw1⟩ : ∃ w1, w.alloc (.cells #[.int .i64 k, .int .i64 n, .string (str s)] 31) = w1 := ⟨_, rfl⟩
  rw [hw1] at hb1 c0 c1 c2
  obtain ⟨c, w2, hcv, _, hb2⟩ := str_bytes w1 s
  rcases kinds k with rfl | rfl | rfl | rfl | rfl | rfl | ⟨k0, k1, k2, k3, k4, k5⟩
  all_goals
    go_enter Try.func9, Try.ntmps9
    go_wp2_with (first
      | (go_at_call 15; refine (write_nil _ _).mono ?_; unfold gives; rintro e w3 ⟨rfl, hb3⟩; have hbz := nxt (nxt hb1 hb2) hb3)
      | (go_at_call 16; refine (hold_nil _).mono ?_; unfold gives; rintro e w3 ⟨rfl, hb3⟩; have hbz := nxt hb1 hb3)
      | (go_at_call 17; refine (shed_nil _ _).mono ?_; unfold gives; rintro e w3 ⟨rfl, hb3⟩; have hbz := nxt hb1 hb3)
      | (go_at_call 18; refine (back_nil _ _).mono ?_; unfold gives; rintro e w3 ⟨rfl, hb3⟩; have hbz := nxt hb1 hb3)
      | (go_at_call 14; refine (fuse_nil _ _).mono ?_; unfold gives; rintro e w3 ⟨rfl, hb3⟩; have hbz := nxt hb1 hb3)
      | (go_at_call 11; refine (crash_nil _ _).mono ?_; unfold gives; rintro e w3 ⟨rfl, hb3⟩; have hbz := nxt hb1 hb3)
      | (go_at_call 12; refine (read_nil _).mono ?_; unfold gives; rintro e w3 ⟨rfl, hb3⟩; have hbz := nxt hb1 hb3)
      | go_in)
    go_ret
    exact ⟨rfl, hbz⟩
end Go.Proofs.Ytdojbnjaomlngaa
