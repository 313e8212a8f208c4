/-
  Is a transaction one of some, by the library and by the document?
-/
import Derived.Test.YtohkjleppohinaaDoorOwn
set_option linter.unusedSimpArgs false
set_option linter.unusedVariables false
set_option maxRecDepth 10000
namespace Go.Proofs.YtohkjleppohinaaDoor
open Go.RowKit Go.Lib
open L3 (Blk Reads block_of_add add_of_add)
open L6 (Turn moreB fresh From In)

theorem cell_spot {w : World} {a : Addr} {v : Value} (h : w.cell? a = some v) : a.spot = none := by
  obtain ⟨_, _, _, _, h3⟩ := World.shape?_of_cell? h
  exact h3
/-- A list with something in it lies at a plain place. -/
theorem Rd.plain {w : World} {A : Option Addr} {L : List Txx} (h : Rd txL 7 w A L) (h0 : L ≠ []) : ∃ b o, A = some ⟨b, o, none⟩ ∧ b < w.heap.size := by
  have hl : 0 < L.length := List.length_pos_iff.2 h0
  obtain ⟨ad, hA, hb, hc⟩ := h 0 hl
  have h1 := hc 0 _ rfl
  rw [Nat.zero_mul, L3.add_of_add] at h1
  have hs := cell_spot h1
  obtain ⟨b, o, s⟩ := ad
  have h2 : (⟨b, o, s⟩ : Addr).add (0 + 0) = ⟨b, o, s⟩ := by simp [Addr.add]
  rw [h2] at hs
  cases hs
  exact ⟨b, o, hA, hb⟩
set_option maxHeartbeats 1000000 in
set_option maxRecDepth 100000 in
theorem index_none (A : Option Addr) (c : Nat) (x : Txx) (w : World) : Calls Tryd.prog 36 #[.slice A 0 c, .agg (txC x)] w (gives (.int .i64 (-1)) w) := by
  go_enter Tryd.func36, Tryd.ntmps36
  go_wp2
  go_loopw [8] (fun i wr => i = .int .i64 0 ∧ Below w.heap.size w wr) (fun _ _ => 0)
  case atStart => exact ⟨rfl, below_box _ x⟩
  case round =>
    obtain ⟨rfl, hbw⟩ := hrel
    go_wp2
    go_ret
    exact ⟨rfl, hbw⟩
set_option maxHeartbeats 1000000 in
set_option maxRecDepth 100000 in
theorem has_none (A : Option Addr) (c : Nat) (x : Txx) (w : World) : Calls Tryd.prog 25 #[.slice A 0 c, .agg (txC x)] w (gives (.bool false) w) := by
  have hb0 : Below w.heap.size w (w.alloc (.cells (txC x) 35)) := below_box _ x
  have hi := fun W => index_none A c x W
  go_enter Tryd.func25, Tryd.ntmps25
  go_wp2_with (first
    | (go_at_call 36; (with_reducible refine (hi _).mono ?_); unfold gives; rintro e w1 ⟨rfl, hb1⟩)
    | (refine wpList_row_at rfl _ _ rfl w.heap.size rfl _ _ _ _ (box_new w _ x) Tryd.underlying35 rfl (by kernel_rfl) ?_)
    | go_in)
  go_ret
  exact ⟨rfl, nxt hb0 hb1⟩
theorem hasL_any (A : Option Addr) (c : Nat) (L : List Txx) (x : Txx) (w : World) (hl : ∀ t ∈ L, t.wf 1000) (hx : x.wf 1000) (hr : Rd txL 7 w A L) (hn : L.length ≤ 1000000) :
    Calls Tryd.prog 25 #[.slice A L.length c, .agg (txC x)] w (gives (.bool (hasX L x)) w) := by
  by_cases h0 : L = []
  · subst h0
    exact has_none A c x w
  · obtain ⟨b, o, rfl, hb⟩ := hr.plain h0
    have := AnyQ.slices_Contains Tryd.hasL 7 Tryd.isAgg35 Tryd.sizeOf35 fitL (fun _ => rfl) _ eq_fit b o L.length c (fitX L hl) ⟨x, hx⟩ w (by rw [fitX_len]; exact Nat.le_refl _) (by omega) (Rd.lib hl hr)
    refine Calls.mono (show Calls Tryd.prog 25 #[.slice (some ⟨b, o, none⟩) L.length c, .agg (txC x)] w _ from this) ?_
    rintro e w' ⟨rfl, hb'⟩
    refine ⟨?_, hb'⟩
    have e : (fitX L hl).take L.length = fitX L hl := List.take_of_length_le (by rw [fitX_len]; exact Nat.le_refl _)
    rw [e]
    have := fitX_any L hl (fun y => decide (x = y))
    unfold hasX
    rw [← this]
end Go.Proofs.YtohkjleppohinaaDoor
