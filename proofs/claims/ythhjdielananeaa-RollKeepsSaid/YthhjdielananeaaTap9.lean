/-
  Bytes written at a tape's end.
-/
import Derived.Test.YthhjdielananeaaTap4
set_option linter.unusedSimpArgs false
set_option linter.unusedVariables false
set_option maxRecDepth 10000
namespace Go.Proofs.Ythhjdielananeaa
open Go.RowKit Go.Lib
open L3 (Blk Reads block_of_add add_of_add wpList_append_any)
open L6 (Turn moreB fresh From In)

theorem enters_write : ∀ args w, (callFunc 73 args).run Try.prog w = .ok (.enter 73 args) w := enters_of Try.func73 (by kernel_rfl) rfl
theorem row_u8 (b : UInt8) (w : World) : (Instr.buildSlice 53 1 #[(0, .int .u8 b.toNat)]).run Try.prog w = .ok (.slice (some ⟨w.heap.size, 0, none⟩) 1 1) (w.alloc (.cells #[.int .u8 b.toNat] 5)) := by kernel_rfl
/-- Its bytes are others, in a slice of their own. -/
theorem Tpe.put {w w1 : World} {S : Nat → Prop} {g : Nat} {t t' : Tp} {v v' : Value} (hS : S g) (hb : Blk w g 88 (tpC t v)) (hk : ∀ k, v.ownBlock = some k → S k) (hng : v.ownBlock ≠ some g)
    (ht1 : Turn (fun k => v.ownBlock = some k) w w1) (hr : Bts w1 v' t'.held) (hv' : ∀ k, v'.ownBlock = some k → v.ownBlock = some k ∨ w.heap.size ≤ k) (hok : t'.ok ∧ t'.fit)
    (he : ∀ u, (tpC t v).setIfInBounds 3 u = tpC t' u) : Tpe (w1.setCell ⟨g, 3, none⟩ v') (moreB S w (w1.setCell ⟨g, 3, none⟩ v')) g t' ∧ Turn S w (w1.setCell ⟨g, 3, none⟩ v') := by
  have hgl := hb.lt
  have hb1 : Blk w1 g 88 (tpC t v) := ht1.blk hb hng
  have hb2 := hb1.set_ 3 v'
  rw [he] at hb2
  have hn : v'.ownBlock ≠ some g := fun h => by
    rcases hv' g h with h | h
    · exact hng h
    · omega
  have ht2 : Turn (fun k => k = g) w1 (w1.setCell ⟨g, 3, none⟩ v') := (L6.Turn.refl (fun k => k = g) w1).setCell (p := ⟨g, 3, none⟩) (.inl rfl) v'
  have hr2 := hr.turn ht2 (fun k h e => hn (e ▸ h))
  have ht : Turn S w (w1.setCell ⟨g, 3, none⟩ v') := (ht1.mono fun k _ h => hk k h).trans ht2 (fun k e => .inl (e ▸ hS))
  obtain ⟨A, c, rfl, _⟩ := hr2.shape
  refine ⟨⟨A, c, hb2, hr2, hok, .inl hS, fun k h => ?_⟩, ht⟩
  rcases hv' k h with h1 | h1
  · exact .inl (hk k h1)
  · exact .inr ⟨h1, hr2.lt k h⟩
/-- What is held while a byte is appended. -/
structure WrH (B P g : Nat) (b : UInt8) (v : Value) (W : World) : Prop where
  hb : W.cell? ⟨B, 0, none⟩ = some (.pointer (some ⟨g, 0, none⟩))
  hp : W.cell? ⟨P, 0, none⟩ = some (.int .u8 b.toNat)
  hv : W.cell? ⟨g, 3, none⟩ = some v
theorem WrH.turn {B P g : Nat} {b : UInt8} {v : Value} {W W' : World} {T : Nat → Prop} (h : WrH B P g b v W) (ht : Turn T W W') (h1 : ¬ T B) (h2 : ¬ T P) (h3 : ¬ T g) : WrH B P g b v W' := ⟨ht.cell h.hb h1, ht.cell h.hp h2, ht.cell h.hv h3⟩
set_option maxHeartbeats 2000000 in
set_option maxRecDepth 100000 in
theorem write_do {w : World} {S : Nat → Prop} {g B P : Nat} {t : Tp} (h : Tpe w S g t) (b : UInt8) (hB : w.cell? ⟨B, 0, none⟩ = some (.pointer (some ⟨g, 0, none⟩))) (hP : w.cell? ⟨P, 0, none⟩ = some (.int .u8 b.toNat))
    (hnB : ¬ S B) (hnP : ¬ S P) (hl : t.held.length + 1 ≤ t.room) (hs : t.first + t.held.length + 1 ≤ 1000000000) :
    Calls Try.prog 73 #[.pointer (some ⟨B, 0, none⟩), .pointer (some ⟨P, 0, none⟩)] w (TpPost (.tuple #[]) S g { t with held := t.held ++ [b] } w) := by
  obtain ⟨A, c, hb, hr, hf, hg, hk⟩ := h
  have hng : (Value.slice A t.held.length c).ownBlock ≠ some g := hr.ne hb (by decide)
  have c3 : w.cell? ⟨g, 3, none⟩ = some (.slice A t.held.length c) := hb.cell 3
  have f3 := hb.frozen 3
  have hrb := row_u8 b
  go_enter Try.func73, Try.ntmps73
  go_upto_region 0 with fail
  have hS0 : WrH B P g b (.slice A t.held.length c) w.drew := ⟨hB, hP, c3⟩
  have hS1 : ∀ u, WrH B P g b (.slice A t.held.length c) ((w.drew).alloc u) := fun u => hS0.turn (T := fun _ => False) (L6.Turn.of_keep (below_new _ _)) (fun h => h) (fun h => h) (fun h => h)
  have hr1 : ∀ u, Bts ((w.drew).alloc u) (.slice A t.held.length c) t.held := fun u => hr.turn (S := fun _ => False) ((L6.Turn.of_keep (L6.below_drew (Below.refl _ _))).kept (below_new _ _)) (fun _ _ h => h)
  have hcx : (w.drew.alloc (.cells #[.int .u8 b.toNat] 5)).cell? ⟨w.drew.heap.size, 0, none⟩ = some (.int .u8 b.toNat) := World.cell?_alloc_new _ _ _ 0
  have hlen : t.held.length ≤ 1000000000 := by omega
  have hkB : (Value.slice A t.held.length c).ownBlock ≠ some B := fun e => hnB (hk _ e)
  have hkP : (Value.slice A t.held.length c).ownBlock ≠ some P := fun e => hnP (hk _ e)
  refine wp_region_K (WrH B P g b (.slice A t.held.length c)) [0, 1, 2, 3, 4, 5] (by kernel_rfl) ?_
  refine wpK_quiet (f := 5) (by kernel_rfl) (fun _ x _ _ _ h => by cases x <;> exact h) hS0 [0, 1, 2, 3, 4, 5] _ _ (by kernel_rfl) (by kernel_rfl) (by kernel_rfl) ?_
  have ne : Nonempty (WorldIn (WrH B P g b (.slice A t.held.length c))) := ⟨⟨_, hS0⟩⟩
  have g0 : ∀ y : WorldIn (WrH B P g b (.slice A t.held.length c)), y.w.cell? ⟨B, 0, none⟩ = some (.pointer (some ⟨g, 0, none⟩)) := fun y => y.h.hb
  have g1 : ∀ y : WorldIn (WrH B P g b (.slice A t.held.length c)), y.w.cell? ⟨P, 0, none⟩ = some (.int .u8 b.toNat) := fun y => y.h.hp
  have g2 : ∀ y : WorldIn (WrH B P g b (.slice A t.held.length c)), y.w.cell? ⟨g, 3, none⟩ = some (.slice A t.held.length c) := fun y => y.h.hv
  conv => arg 5; simp [pick]
  iterate 6 go_big_quiet_step (fail)
  refine wpQuiet_nil ?_
  clear ne g0 g1 g2
  refine wpK_step 6 (by kernel_rfl) rfl ?_
  refine wpList_buildSlice rfl _ _ _ rfl #[(0, .int .u8 b.toNat)] rfl (hrb _) ?_
  go_wp2
  refine stepQ.mk ⟨fun _ => hS1 _, ?_⟩
  refine wpK_step 7 (by kernel_rfl) rfl ?_
  refine wpList_append_bts rfl _ _ rfl (.slice A t.held.length c) t.held rfl (hr1 _) b ⟨w.drew.heap.size, 0, none⟩ 1 rfl hcx hlen ?_
  intro v' w' hr2 ht2 hv2
  have ht0 : Turn (fun k => (Value.slice A t.held.length c).ownBlock = some k) w (w.drew.alloc (.cells #[.int .u8 b.toNat] 5)) := (L6.Turn.of_keep (L6.below_drew (Below.refl _ _))).kept (below_new _ _)
  have hsz : w.heap.size ≤ (w.drew.alloc (.cells #[.int .u8 b.toNat] 5)).heap.size := ht0.size
  have ht3 := ht0.trans ht2 (fun i hi => .inl hi)
  have hv3 : ∀ k, v'.ownBlock = some k → (Value.slice A t.held.length c).ownBlock = some k ∨ w.heap.size ≤ k := fun k e => by
    rcases hv2 with h2 | h2
    · exact .inl (h2 ▸ e)
    · have : k = (w.drew.alloc (.cells #[.int .u8 b.toNat] 5)).heap.size := by rw [h2] at e; injection e with e; exact e.symm
      exact .inr (by omega)
  have hS2 := (hS1 (.cells #[.int .u8 b.toNat] 5)).turn ht2 hkB hkP hng
  obtain ⟨A', c', rfl, _⟩ := hr2.shape
  have HP := Lib.hid (Tpe.put (t' := { t with held := t.held ++ [b] }) hg hb hk hng ht3 hr2 hv3 ⟨⟨hf.1.f1, by show t.fast ≤ t.first + (t.held ++ [b]).length; have := hf.1.f2; simp; omega, by show (t.held ++ [b]).length ≤ t.room; simp; omega⟩, hf.2.room, by show t.first + (t.held ++ [b]).length ≤ 1000000000; simp; omega, hf.2.fuse⟩ (fun u => by unfold tpC leftV; simp))
  have elen : (t.held ++ [b]).length = t.held.length + 1 := by simp
  rw [elen] at HP
  clear elen
  have k3 : w'.cell? ⟨g, 3, none⟩ = some (.slice A t.held.length c) := hS2.hv
  have q3 : w'.frozen? ⟨g, 3, none⟩ = false := ((ht3.blk hb hng)).frozen 3
  clear hr2 ht2 hv2 ht3 hv3 hsz ht0 hr1 hS1 hcx hrb hb hr hf hk c3 f3 hB hP hS0
  go_wp2
  refine stepQ.mk ⟨fun _ => hS2, ?_⟩
  clear hS2
  refine wpK_seq [8, 9, 10] _ _ _ (by kernel_rfl) ?_
  conv => arg 4; simp [pick]
  go_wp2
  go_end0
  exact ⟨rfl, HP.out⟩
end Go.Proofs.Ythhjdielananeaa
