/-
  A table with one number: what is wanted, and what a tick asks.
-/
import Derived.Test.YtglnocclhhdbbaaWants
set_option linter.unusedSimpArgs false
set_option linter.unusedVariables false
set_option maxRecDepth 10000
namespace Go.Proofs.Ytglnocclhhdbbaa
open Go.RowKit Go.Lib
open L3 (Blk Reads block_of_add add_of_add)
open L6 (Turn moreB fresh From In)

/-- A table with one number, asked for k times. -/
def oneS (f me most tries n k : Int) : FS := ⟨f, me, most, tries, [⟨n, k⟩]⟩
theorem one_want {f me most tries n : Int} (h1 : 1 ≤ n) (h2 : 1 ≤ most) : wantE ⟨f, me, most, tries, []⟩ n = 0 ∧ wantL ⟨f, me, most, tries, []⟩ n = [⟨n, 0⟩] := by
  have e : wantE ⟨f, me, most, tries, []⟩ n = 0 := by
    unfold wantE
    rw [if_neg (by omega), if_neg (by rintro ⟨x, hx, _⟩; cases hx), if_neg (by show ¬ most ≤ ((0 : Nat) : Int); omega)]
  exact ⟨e, by unfold wantL; rw [if_pos e]; rfl⟩
theorem one_tick {f me most tries n k : Int} (h : k < tries) : tickL tries (oneS f me most tries n k).L = [⟨n, k + 1⟩] ∧ tickA f me tries (oneS f me most tries n k).L = [⟨n, whomV f me k, k⟩] := by
  unfold tickL tickA oneS
  simp [h]
theorem one_last {f me most tries n k : Int} (h : tries ≤ k) : tickL tries (oneS f me most tries n k).L = [] ∧ tickA f me tries (oneS f me most tries n k).L = [] := by
  unfold tickL tickA oneS
  simp; omega
theorem own_ask {w : World} {base : Nat} {v : Value} {a : Askx} (h : w.ownsRow base 44 3 v 1 (akL a)) : ∃ b c, v = .slice (some ⟨b, 0, none⟩) 1 c ∧ base ≤ b ∧ w.cell? ⟨b, 0, none⟩ = some (.int .i64 a.n) ∧ w.cell? ⟨b, 1, none⟩ = some (.int .i64 a.to) ∧ w.cell? ⟨b, 2, none⟩ = some (.int .i64 a.t) := by
  rcases h.2 with ⟨rfl, h0⟩ | ⟨b, cap, cur, rfl, hb, _⟩
  · cases h0
  · have hc := h.cells (g := b) rfl
    refine ⟨b, cap, rfl, hb, ?_, ?_, ?_⟩
    · simpa [Addr.add] using hc 0 _ rfl
    · simpa [Addr.add] using hc 1 _ rfl
    · simpa [Addr.add] using hc 2 _ rfl
/-- What a tick tells of one number, and leaves. -/
def OneTick (S : Nat → Prop) (g : Nat) (f me most tries n k : Int) (w : World) (e : Ending) (w' : World) : Prop :=
  ∃ b c, e = .returned (.slice (some ⟨b, 0, none⟩) 1 c) ∧ w'.cell? ⟨b, 0, none⟩ = some (.int .i64 n) ∧ w'.cell? ⟨b, 1, none⟩ = some (.int .i64 (whomV f me k)) ∧ w'.cell? ⟨b, 2, none⟩ = some (.int .i64 k) ∧
    Ft w' (moreB S w w') g (oneS f me most tries n (k + 1)) ∧ Turn S w w' ∧ In w' (moreB S w w')
theorem oneTick_any {w : World} {S : Nat → Prop} {g : Nat} {f me most tries n k : Int} (h : Ft w S g (oneS f me most tries n k)) (hS : In w S) (hk : k < tries) :
    Calls Try.prog 13 #[.pointer (some ⟨g, 0, none⟩)] w (OneTick S g f me most tries n k w) := by
  refine (tick_any h hS).mono ?_
  rintro e w' ⟨v, he, hr, hF, hT⟩
  obtain ⟨e1, e2⟩ := one_tick (f := f) (me := me) (most := most) (n := n) hk
  have hr2 : w'.ownsRow w.heap.size 44 3 v 1 (akL ⟨n, whomV f me k, k⟩) := by
    have e3 : tickA (oneS f me most tries n k).f (oneS f me most tries n k).me (oneS f me most tries n k).tries (oneS f me most tries n k).L = [⟨n, whomV f me k, k⟩] := e2
    rw [e3] at hr
    simpa using hr
  obtain ⟨b, c, rfl, _, c0, c1, c2⟩ := own_ask hr2
  have e4 : ({ (oneS f me most tries n k) with L := tickL (oneS f me most tries n k).tries (oneS f me most tries n k).L } : FS) = oneS f me most tries n (k + 1) := by
    have : tickL (oneS f me most tries n k).tries (oneS f me most tries n k).L = [⟨n, k + 1⟩] := e1
    rw [this]
    rfl
  rw [e4] at hF
  exact ⟨b, c, he, c0, c1, c2, hF, hT, hS.more hT.size⟩
/-- .. and where it was asked for as often as may be, or there is none. -/
def NoTick (S : Nat → Prop) (g : Nat) (s : FS) (w : World) (e : Ending) (w' : World) : Prop :=
  ∃ A c, e = .returned (.slice A 0 c) ∧ Ft w' (moreB S w w') g { s with L := [] } ∧ Turn S w w'
theorem noTick_any {w : World} {S : Nat → Prop} {g : Nat} {s : FS} (h : Ft w S g s) (hS : In w S) (h1 : tickL s.tries s.L = []) (h2 : tickA s.f s.me s.tries s.L = []) :
    Calls Try.prog 13 #[.pointer (some ⟨g, 0, none⟩)] w (NoTick S g s w) := by
  refine (tick_any h hS).mono ?_
  rintro e w' ⟨v, he, hr, hF, hT⟩
  rw [h2] at hr
  rw [h1] at hF
  rcases hr.2 with ⟨rfl, _⟩ | ⟨b, cap, cur, rfl, hb, _⟩
  · exact ⟨_, _, he, hF, hT⟩
  · exact ⟨_, _, he, hF, hT⟩
end Go.Proofs.Ytglnocclhhdbbaa
