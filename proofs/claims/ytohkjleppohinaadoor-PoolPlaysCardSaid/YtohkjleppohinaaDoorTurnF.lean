/-
  Is one of the same From and Nonce among some? A closure that captures a transaction, and what searches by it.
-/
import Derived.Test.YtohkjleppohinaaDoorHas
set_option linter.unusedSimpArgs false
set_option linter.unusedVariables false
set_option maxRecDepth 10000
namespace Go.Proofs.YtohkjleppohinaaDoor
open Go.RowKit Go.Lib
open L3 (Blk Reads block_of_add add_of_add)
open L6 (Turn moreB fresh From In)

abbrev encF (x : Fit) : Value := .agg (fitL x).toArray
theorem enters_turn : ∀ args w, (callFunc 38 args).run Tryd.prog w = .ok (.enter 38 args) w := enters_of Tryd.func38 (by kernel_rfl) rfl
set_option maxHeartbeats 1000000 in
set_option maxRecDepth 100000 in
theorem inplace_any (t : Txx) (w : World) : Calls Tryd.prog 27 #[.agg (txC t)] w fun e w' =>
    e = .returned (.func (.func 38) #[] #[.pointer (some ⟨w.heap.size, 0, none⟩)]) ∧ Blk w' w.heap.size 35 (txC t) ∧ Below w.heap.size w w' := by
  go_enter Tryd.func27, Tryd.ntmps27
  go_wp2
  go_ret
  exact ⟨rfl, box_new w _ t, below_box _ t⟩
set_option maxHeartbeats 1000000 in
set_option maxRecDepth 100000 in
theorem turn_any (B : Nat) (t x : Txx) (w : World) (h : Blk w B 35 (txC t)) : Calls Tryd.prog 38 #[.agg (txC x), .pointer (some ⟨B, 0, none⟩)] w (gives (.bool (sameT x t)) w) := by
  have hb0 : Below w.heap.size w (w.alloc (.cells (txC x) 35)) := below_box _ x
  obtain ⟨c0, c1, c2, c3, c4, c5, c6⟩ := box_of (box_new w 35 x)
  obtain ⟨d0, d1, d2, d3, d4, d5, d6⟩ := box_of (h.alloc (.cells (txC x) 35))
  clear h
  by_cases h1 : x.frm = t.frm
  · have e1 := str_eq h1
    by_cases h2 : x.nonce = t.nonce
    · have HS := Lib.hid (show sameT x t = true by simp [sameT, h1, h2])
      have e2 : (x.nonce == t.nonce) = true := by simpa using h2
      clear h1 h2
      go_enter Tryd.func38, Tryd.ntmps38
      go_wp2
      go_ret
      exact ⟨by rw [HS.out]; rfl, hb0⟩
    · have HS := Lib.hid (show sameT x t = false by simp [sameT, h2])
      have e2 : (x.nonce == t.nonce) = false := by simpa using h2
      clear h1 h2
      go_enter Tryd.func38, Tryd.ntmps38
      go_wp2
      go_ret
      exact ⟨by rw [HS.out]; rfl, hb0⟩
  · have HS := Lib.hid (show sameT x t = false by simp [sameT, h1])
    have e1 := str_ne h1
    clear h1
    go_enter Tryd.func38, Tryd.ntmps38
    go_wp2
    go_ret
    exact ⟨by rw [HS.out]; rfl, hb0⟩
theorem pred_turn (B : Nat) (t : Txx) (w : World) (h : Blk w B 35 (txC t)) : PredBelow Tryd.prog 38 #[.pointer (some ⟨B, 0, none⟩)] encF (fun x => sameT x.1 t) w := fun W x hb => by
  refine (turn_any B t x.1 W (h.below hb h.lt)).mono ?_
  rintro e w' ⟨rfl, hb'⟩
  exact ⟨rfl, nxt hb hb'⟩
set_option maxHeartbeats 1000000 in
set_option maxRecDepth 100000 in
theorem indexf_none (A : Option Addr) (c : Nat) (f : Value) (w : World) : Calls Tryd.prog 37 #[.slice A 0 c, f] w (gives (.int .i64 (-1)) w) := by
  go_enter Tryd.func37, Tryd.ntmps37
  go_wp2
  go_loopw [8] (fun i wr => i = .int .i64 0 ∧ Below w.heap.size w wr) (fun _ _ => 0)
  case atStart => exact ⟨rfl, Below.refl _ _⟩
  case round =>
    obtain ⟨rfl, hbw⟩ := hrel
    go_wp2
    go_ret
    exact ⟨rfl, hbw⟩
set_option maxHeartbeats 1000000 in
set_option maxRecDepth 100000 in
theorem con_none (A : Option Addr) (c : Nat) (f : Value) (w : World) : Calls Tryd.prog 26 #[.slice A 0 c, f] w (gives (.bool false) w) := by
  have hi := fun W => indexf_none A c f W
  go_enter Tryd.func26, Tryd.ntmps26
  go_wp2_with (first
    | (go_at_call 37; (with_reducible refine (hi _).mono ?_); unfold gives; rintro e w1 ⟨rfl, hb1⟩)
    | go_in)
  go_ret
  exact ⟨rfl, hb1⟩
/-- Is one of the same turn as t among these? -/
theorem conL_any (A : Option Addr) (c B : Nat) (L : List Txx) (t : Txx) (w : World) (hl : ∀ t ∈ L, t.wf 1000) (hB : Blk w B 35 (txC t)) (hr : Rd txL 7 w A L) (hn : L.length ≤ 1000000) :
    Calls Tryd.prog 26 #[.slice A L.length c, .func (.func 38) #[] #[.pointer (some ⟨B, 0, none⟩)]] w (gives (.bool (L.any fun x => sameT x t)) w) := by
  by_cases h0 : L = []
  · subst h0
    exact con_none A c _ w
  · obtain ⟨b, o, rfl, hb⟩ := hr.plain h0
    have := AnyQ.slices_ContainsFunc Tryd.conL 7 Tryd.isAgg35 Tryd.sizeOf35 fitL (fun _ => rfl) (fun x => sameT x.1 t) 38 #[.pointer (some ⟨B, 0, none⟩)] enters_turn b o L.length c (fitX L hl) w (pred_turn B t w hB) (by rw [fitX_len]; exact Nat.le_refl _) (by omega) hb (Rd.lib hl hr)
    refine Calls.mono (show Calls Tryd.prog 26 #[.slice (some ⟨b, o, none⟩) L.length c, .func (.func 38) #[] #[.pointer (some ⟨B, 0, none⟩)]] w _ from this) ?_
    rintro e w' ⟨rfl, hb'⟩
    refine ⟨?_, hb'⟩
    have e : (fitX L hl).take L.length = fitX L hl := List.take_of_length_le (by rw [fitX_len]; exact Nat.le_refl _)
    rw [e]
    have := fitX_any L hl (fun x => sameT x t)
    rw [← this]
/-- Where is the first of some for which p holds? -/
theorem idxL_any (A : Option Addr) (c g : Nat) (lb : Array Value) (eg : ∀ args w, (callFunc g args).run Tryd.prog w = .ok (.enter g args) w) (p : Txx → Bool) (L : List Txx) (w : World) (hl : ∀ t ∈ L, t.wf 1000)
    (hp : PredBelow Tryd.prog g lb encF (fun x => p x.1) w) (hr : Rd txL 7 w A L) (hn : L.length ≤ 1000000) :
    Calls Tryd.prog 37 #[.slice A L.length c, .func (.func g) #[] lb] w (gives (.int .i64 (Lib.idxBy (fun _ y => p y.1) (fitX L hl) default)) w) := by
  by_cases h0 : L = []
  · subst h0
    exact indexf_none A c _ w
  · obtain ⟨b, o, rfl, hb⟩ := hr.plain h0
    have := AnyQ.slices_IndexFunc Tryd.idxL 7 Tryd.isAgg35 Tryd.sizeOf35 fitL (fun _ => rfl) (fun x => p x.1) g lb eg b o L.length c (fitX L hl) w hp (by rw [fitX_len]; exact Nat.le_refl _) (by omega) hb (Rd.lib hl hr)
    refine Calls.mono (show Calls Tryd.prog 37 #[.slice (some ⟨b, o, none⟩) L.length c, .func (.func g) #[] lb] w _ from this) ?_
    rintro e w' ⟨rfl, hb'⟩
    refine ⟨?_, hb'⟩
    have e : (fitX L hl).take L.length = fitX L hl := List.take_of_length_le (by rw [fitX_len]; exact Nat.le_refl _)
    rw [e]
end Go.Proofs.YtohkjleppohinaaDoor
