/-
  No book: what each call tells; the chapter's example holds.
-/
import Derived.Test.YtiakbcmolgpnlaaBook
set_option linter.unusedSimpArgs false
set_option linter.unusedVariables false
namespace Go.Proofs.Ytiakbcmolgpnlaa
open Go.RowKit

theorem enter_nil (s : ByteArray) (w : World) : Calls Try.prog 8 #[.pointer none, .string s] w fun e w' => e = .returned (.tuple #[.int .i64 0, .int .i64 3]) ∧ w' = w := by
  go_enter Try.func8, Try.ntmps8
  go_wp2
  go_ret2
  exact ⟨rfl, rfl⟩
theorem look_nil (s : ByteArray) (w : World) : Calls Try.prog 10 #[.pointer none, .string s] w fun e w' => e = .returned (.tuple #[.int .i64 0, .int .i64 3]) ∧ w' = w := by
  go_enter Try.func10, Try.ntmps10
  go_wp2
  go_ret2
  exact ⟨rfl, rfl⟩
theorem content_nil (n : Int) (w : World) : Calls Try.prog 12 #[.pointer none, .int .i64 n] w fun e w' => e = .returned (.tuple #[.string ⟨#[]⟩, .int .i64 3]) ∧ w' = w := by
  go_enter Try.func12, Try.ntmps12
  go_wp2
  go_ret2
  exact ⟨rfl, rfl⟩
theorem len_nil (w : World) : Calls Try.prog 14 #[.pointer none] w fun e w' => e = .returned (.int .i64 0) ∧ w' = w := by
  go_enter Try.func14, Try.ntmps14
  go_wp2
  go_ret
  exact ⟨rfl, rfl⟩

abbrev sx : ByteArray := ⟨#[120]⟩
abbrev sy : ByteArray := ⟨#[121]⟩
abbrev sz : ByteArray := ⟨#[122]⟩
def alivePost (w : World) (e : Ending) (w' : World) : Prop := e = .returned (.bool true) ∧ Below w.heap.size w w'
theorem enter_at (S : Nat → Prop) (g n k : Nat) (L L' : List ByteArray) (s : ByteArray) (w : World) (h : Bk w S g L) (hl : L.length ≤ 1000000000) (h1 : enterL L s = L') (h2 : enterN L s = n) (h3 : enterE s = k) :
    Calls Try.prog 8 #[.pointer (some ⟨g, 0, none⟩), .string s] w fun e w' => e = .returned (.tuple #[.int .i64 (n : Nat), .int .i64 (k : Nat)]) ∧ Bk w' (moreB S w w') g L' ∧ Turn S w w' := by
  subst h1 h2 h3
  exact enter_any S g L s w h hl
theorem look_at (S : Nat → Prop) (g n k : Nat) (L : List ByteArray) (s : ByteArray) (w : World) (h : Bk w S g L) (hs : s.size ≤ 140737488351232) (h1 : idx L s = n) (h2 : lookE L s = k) :
    Calls Try.prog 10 #[.pointer (some ⟨g, 0, none⟩), .string s] w fun e w' => e = .returned (.tuple #[.int .i64 (n : Nat), .int .i64 (k : Nat)]) ∧ w' = w := by
  subst h1 h2
  exact look_any S g L s w h hs

set_option maxHeartbeats 1000000 in
set_option maxRecDepth 100000 in
theorem alive_any (w : World) : Calls Try.prog 6 #[] w (alivePost w) := by
  go_enter Try.func6, Try.ntmps6
  go_wp2_with (first
    | (go_at_call 7; refine (new_any _).mono ?_; rintro e w1 ⟨g, rfl, hB1, hb1⟩)
    | (go_at_call 8; (with_reducible refine (enter_at _ g 1 0 [] [sx] sx _ hB1 (by decide) (by decide +kernel) (by decide +kernel) (by decide +kernel)).mono ?_); rintro e w2 ⟨rfl, hB2, ht2⟩)
    | (go_at_call 8; (with_reducible refine (enter_at _ g 2 0 [sx] [sx, sy] sy _ hB2 (by decide) (by decide +kernel) (by decide +kernel) (by decide +kernel)).mono ?_); rintro e w3 ⟨rfl, hB3, ht3⟩)
    | (go_at_call 8; (with_reducible refine (enter_at _ g 1 0 [sx, sy] [sx, sy] sx _ hB3 (by decide) (by decide +kernel) (by decide +kernel) (by decide +kernel)).mono ?_); rintro e w4 ⟨rfl, hB4, ht4⟩)
    | (go_at_call 10; (with_reducible refine (look_at _ g 0 50 [sx, sy] sz _ hB4 (by decide) (by decide +kernel) (by decide +kernel)).mono ?_); rintro e w5 ⟨rfl, rfl⟩))
  go_ret
  have f1 : From w.heap.size (fresh w w1) := From.fresh w w1
  have f2 := f1.more (w' := w2) hb1.size
  have hb2 := nxtT hb1 ht2 f1
  have f3 := f2.more (w' := w3) hb2.size
  have hb3 := nxtT hb2 ht3 f2
  exact ⟨rfl, nxtT hb3 ht4 f3⟩
end Go.Proofs.Ytiakbcmolgpnlaa
