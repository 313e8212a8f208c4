/-
  Some wait no more, and what is past waits no more: the code.
-/
import Derived.Test.YtohkjleppohinaaDoorKeep
set_option linter.unusedSimpArgs false
set_option linter.unusedVariables false
set_option maxRecDepth 10000
namespace Go.Proofs.YtohkjleppohinaaDoor
open Go.RowKit Go.Lib
open L3 (Blk Reads block_of_add add_of_add)
open L6 (Turn moreB fresh From In)

set_option maxHeartbeats 1000000 in
set_option maxRecDepth 100000 in
theorem dropf_any (B : Nat) (A : Option Addr) (c : Nat) (Wl : List Txx) (x : Txx) (W : World) (hB : Blk W B 28 #[.slice A Wl.length c]) (hr : Rd txL 7 W A Wl) (hl : ∀ t ∈ Wl, t.wf 1000) (hn : Wl.length ≤ 1000000) (hx : x.wf 1000) :
    Calls Tryd.prog 29 #[.agg (txC x), .pointer (some ⟨B, 0, none⟩)] W (gives (.bool (!hasX Wl x)) W) := by
  have hb0 : Below W.heap.size W (W.alloc (.cells (txC x) 35)) := below_box _ x
  have hyb := box_new W 35 x
  have HC := Lib.hid (hasL_any A c Wl x _ hl hx (hr.below hb0) hn)
  have c0 := (hB.below hb0 hB.lt).cell 0
  obtain ⟨n, hn2⟩ : ∃ n, n = Wl.length := ⟨_, rfl⟩
  obtain ⟨b, hb⟩ : ∃ b, b = hasX Wl x := ⟨_, rfl⟩
  rw [← hn2] at c0 HC
  rw [← hb] at HC ⊢
  have c1 : (W.alloc (.cells (txC x) 35)).cell? ⟨B, 0, none⟩ = some (.slice A n c) := c0
  clear hB hr hl hn hn2 hb c0
  go_enter Tryd.func29, Tryd.ntmps29
  go_wp2_with (first
    | (refine wpList_row_at rfl _ _ rfl W.heap.size rfl _ _ _ _ hyb Tryd.underlying35 rfl (by kernel_rfl) ?_)
    | (go_at_call 25; refine HC.out.mono ?_; unfold gives; rintro e w1 ⟨rfl, hb1⟩)
    | go_in)
  go_ret
  exact ⟨rfl, nxt hb0 hb1⟩
set_option maxHeartbeats 1000000 in
set_option maxRecDepth 100000 in
theorem pastf_any (B D : Nat) (who : List UInt8) (k : Int) (x : Txx) (W : World) (hB : W.cell? ⟨B, 0, none⟩ = some (.string (str who))) (hD : W.cell? ⟨D, 0, none⟩ = some (.int .i64 k)) :
    Calls Tryd.prog 30 #[.agg (txC x), .pointer (some ⟨B, 0, none⟩), .pointer (some ⟨D, 0, none⟩)] W (gives (.bool (stays who k x)) W) := by
  have hb0 : Below W.heap.size W (W.alloc (.cells (txC x) 35)) := below_box _ x
  obtain ⟨c0, c1, c2, c3, c4, c5, c6⟩ := box_of (box_new W 35 x)
  have d0 := (hb0.cell (p := ⟨B, 0, none⟩) (L2.cell_in hB)).trans hB
  have d1 := (hb0.cell (p := ⟨D, 0, none⟩) (L2.cell_in hD)).trans hD
  clear hB hD
  by_cases h1 : x.frm = who
  · have e1 := str_eq h1
    by_cases h2 : k < x.nonce
    · have HS := Lib.hid (show stays who k x = true by simp [stays, h2])
      clear h1
      go_enter Tryd.func30, Tryd.ntmps30
      go_wp2
      go_ret
      exact ⟨by rw [HS.out]; rfl, hb0⟩
    · have HS := Lib.hid (show stays who k x = false by simp [stays, h1, h2])
      clear h1
      go_enter Tryd.func30, Tryd.ntmps30
      go_wp2
      go_ret
      exact ⟨by rw [HS.out]; rfl, hb0⟩
  · have e1 := str_ne h1
    have HS := Lib.hid (show stays who k x = true by simp [stays, h1])
    clear h1
    go_enter Tryd.func30, Tryd.ntmps30
    go_wp2
    go_ret
    exact ⟨by rw [HS.out]; rfl, hb0⟩
theorem moreB_le {S : Nat → Prop} {w w1 w2 : World} (h : w.heap.size ≤ w1.heap.size) : ∀ k, moreB S w1 w2 k → moreB S w w2 k := fun k hk => hk.imp id fun h1 => ⟨Nat.le_trans h h1.1, h1.2⟩
/-- What Drop and Past tell and leave. -/
def lessP (S : Nat → Prop) (g : Nat) (most : Int) (L M : List Txx) (w : World) (e : Ending) (w' : World) : Prop :=
  e = .returned (.int .i64 ((L.length : Int) - (M.length : Int))) ∧ Pl w' (moreB S w w') g most M ∧ Turn S w w'
theorem lessP.back {S : Nat → Prop} {g : Nat} {most : Int} {L M : List Txx} {w w1 w' : World} {e : Ending} (hb : Below w.heap.size w w1) (h : lessP S g most L M w1 e w') : lessP S g most L M w e w' :=
  ⟨h.1, h.2.1.mono (moreB_le hb.size), (L6.Turn.of_keep (S := S) hb).trans h.2.2 fun i e => .inl e⟩
set_option maxHeartbeats 1000000 in
set_option maxRecDepth 100000 in
theorem drop_any {w : World} {S : Nat → Prop} {g : Nat} {most : Int} {L : List Txx} (h : Pl w S g most L) (hS : In w S) (A : Option Addr) (c : Nat) (Wl : List Txx) (hr : Rd txL 7 w A Wl) (hl : ∀ t ∈ Wl, t.wf 1000) (hn : Wl.length ≤ 1000000) (ho : Wl.length ≠ 0 → Off S A) :
    Calls Tryd.prog 15 #[.pointer (some ⟨g, 0, none⟩), .slice A Wl.length c] w (lessP S g most L (dropL Wl L) w) := by
  obtain ⟨w1, hw1⟩ : ∃ w1, w1 = w.alloc (.cells #[.slice A Wl.length c] 28) := ⟨_, rfl⟩
  have hb1 : Below w.heap.size w w1 := by rw [hw1]; exact (Below.refl _ _).alloc (Nat.le_refl _) _
  have hB1 : Blk w1 w.heap.size 28 #[.slice A Wl.length c] := by rw [hw1]; exact Blk.new _ _ _
  have hask : Asks 29 #[.pointer (some ⟨w.heap.size, 0, none⟩)] (fun t => !hasX Wl t) S w1 := fun W x hx hW =>
    dropf_any w.heap.size A c Wl x W (hW.blk hB1 (fun e => by have := hS _ e; omega)) ((hr.below hb1).kept2 hW ho) hl hn hx
  have HK := Lib.hid (keep_any (h.below hb1) _ _ enters_drop _ hask)
  obtain ⟨n, hn2⟩ : ∃ n, n = Wl.length := ⟨_, rfl⟩
  rw [← hn2] at hw1 ⊢
  clear h hr hl hn ho hask hB1 hS hn2
  go_enter Tryd.func15, Tryd.ntmps15
  go_upto_region 1 with fail
  rw [← hw1]
  clear hw1
  go_wp2_with (first
    | (go_at_call 28; refine HK.out.mono ?_; rintro e w2 ⟨rfl, hp2, ht2⟩)
    | go_in)
  go_ret
  exact lessP.back hb1 ⟨rfl, hp2, ht2⟩
set_option maxHeartbeats 1000000 in
set_option maxRecDepth 100000 in
theorem past_any {w : World} {S : Nat → Prop} {g : Nat} {most : Int} {L : List Txx} (h : Pl w S g most L) (hS : In w S) (who : List UInt8) (k : Int) :
    Calls Tryd.prog 17 #[.pointer (some ⟨g, 0, none⟩), .string (str who), .int .i64 k] w (lessP S g most L (pastL who k L) w) := by
  obtain ⟨w1, hw1⟩ : ∃ w1, w1 = (w.alloc (.cells #[.string (str who)] 9)).alloc (.cells #[.int .i64 k] 2) := ⟨_, rfl⟩
  have hb1 : Below w.heap.size w w1 := by rw [hw1]; exact ((Below.refl _ _).alloc (Nat.le_refl _) _).alloc (by simp) _
  have hB1 : Blk w1 w.heap.size 9 #[.string (str who)] := by rw [hw1]; exact (Blk.new _ _ _).alloc _
  have hD1 : Blk w1 (w.heap.size + 1) 2 #[.int .i64 k] := by
    rw [hw1]
    have := Blk.new (w.alloc (.cells #[.string (str who)] 9)) 2 #[.int .i64 k]
    simpa using this
  have hask : Asks 30 #[.pointer (some ⟨w.heap.size, 0, none⟩), .pointer (some ⟨w.heap.size + 1, 0, none⟩)] (stays who k) S w1 := fun W x hx hW =>
    pastf_any w.heap.size (w.heap.size + 1) who k x W ((hW.blk hB1 (fun e => by have := hS _ e; omega)).cell 0) ((hW.blk hD1 (fun e => by have := hS _ e; omega)).cell 0)
  have HK := Lib.hid (keep_any (h.below hb1) _ _ enters_past _ hask)
  clear h hask hB1 hD1 hS
  go_enter Tryd.func17, Tryd.ntmps17
  go_upto_region 1 with fail
  rw [← hw1]
  clear hw1
  go_wp2_with (first
    | (go_at_call 28; refine HK.out.mono ?_; rintro e w2 ⟨rfl, hp2, ht2⟩)
    | go_in)
  go_ret
  exact lessP.back hb1 ⟨rfl, hp2, ht2⟩
end Go.Proofs.YtohkjleppohinaaDoor
