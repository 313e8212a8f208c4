/-
  A roll in memory; an entry more counts.
-/
import Derived.Test.YthhjdielananeaaLin
import Derived.Test.YthhjdielananeaaRd
import Derived.Test.YthhjdielananeaaParts
import Derived.BigRegion
import Derived.OwnWalk
set_option linter.unusedSimpArgs false
set_option linter.unusedVariables false
set_option maxRecDepth 10000
namespace Go.Proofs.Ythhjdielananeaa
open Go.RowKit Go.Lib
open L3 (Blk Reads block_of_add add_of_add)
open L6 (Turn moreB fresh From In)

theorem strInfo : (Try.prog.info? 9).map (fun i => (i.zero, i.size, i.bytes)) = some (some (.string ⟨#[]⟩), 1, 16) := by kernel_rfl
theorem str_info : ∃ i, Try.prog.info? 9 = some i ∧ i.zero = some (.string ⟨#[]⟩) ∧ i.size = 1 ∧ i.bytes = 16 := by
  obtain ⟨i, hi, hii⟩ := Option.map_eq_some_iff.1 strInfo
  simp only [Prod.mk.injEq] at hii
  exact ⟨i, hi, hii⟩
/-- Texts as a slice's cells. -/
def txs (L : List (List UInt8)) : List Value := L.map fun b => .string (str b)
theorem txs_len (L : List (List UInt8)) : (txs L).length = L.length := by simp [txs]
theorem txs_snoc (L : List (List UInt8)) (b : List UInt8) : txs (L ++ [b]) = txs L ++ [.string (str b)] := by simp [txs]
structure Rl.fit (r : Rl) : Prop where
  n : 1 ≤ r.next ∧ r.next ≤ 4611686018427387905
  s : r.sum.length ≤ 4194304
  l : r.recs.length ≤ 10000000
  e : ∀ b ∈ r.recs, b.length ≤ 4194304
def rlC (gt : Nat) (r : Rl) (v : Value) : Array Value := #[.pointer (some ⟨gt, 0, none⟩), .int .i64 r.next, .string (str r.sum), v, .bool r.broken]
/-- In w what a roll knows lies at g, its blocks among S; its tape lies at gt. -/
def Rll (w : World) (S : Nat → Prop) (g gt : Nat) (r : Rl) : Prop :=
  ∃ v, Blk w g 94 (rlC gt r v) ∧ w.ownsRow 0 9 1 v r.recs.length (txs r.recs) ∧ r.fit ∧ S g ∧ ∀ k, v.ownBlock = some k → S k
section
variable {w w' : World} {S T : Nat → Prop} {g gt : Nat} {r : Rl}
theorem Rll.fit (h : Rll w S g gt r) : r.fit := by obtain ⟨_, _, _, h, _⟩ := h; exact h
theorem Rll.kept (h : Rll w S g gt r) (ht : Turn T w w') (hd : ∀ k, S k → ¬ T k) : Rll w' S g gt r := by
  obtain ⟨v, hb, hr, hf, hg, hk⟩ := h
  exact ⟨v, ht.blk hb (hd _ hg), ht.row hr (fun k e => hd _ (hk k e)), hf, hg, hk⟩
theorem Rll.below (h : Rll w S g gt r) (hb : Below w.heap.size w w') : Rll w' S g gt r := h.kept (T := fun _ => False) (L6.Turn.of_keep hb) (fun _ _ h => h)
theorem Rll.mono {S' : Nat → Prop} (h : Rll w S g gt r) (hs : ∀ k, S k → S' k) : Rll w S' g gt r := by
  obtain ⟨v, hb, hr, hf, hg, hk⟩ := h
  exact ⟨v, hb, hr, hf, hs _ hg, fun k e => hs _ (hk k e)⟩
end
theorem row_ne {w : World} {base size n g : Nat} {e t : TypeId} {v : Value} {xs : List Value} {cs : Array Value} (h : w.ownsRow base e size v n xs) (hb : Blk w g t cs) (hne : e ≠ t) : v.ownBlock ≠ some g := L3.own_blk_ne h hb hne
/-- What counting leaves. -/
def CtPost (S : Nat → Prop) (g gt : Nat) (r : Rl) (w : World) (e : Ending) (w' : World) : Prop := e = .returned (.tuple #[]) ∧ Rll w' (moreB S w w') g gt r ∧ Turn S w w'
theorem cnt_fit {r : Rl} {x : Ent} (h : r.fit) (hx : mayE x = 0) (hl : r.recs.length + 1 ≤ 10000000) : (cntR r x).fit := by
  obtain ⟨h1, h2, h3, h4, h5⟩ := may_ok hx
  refine ⟨⟨by show 1 ≤ x.num + 1; omega, by show x.num + 1 ≤ _; omega⟩, ?_, ?_, ?_⟩
  · show (if x.kind = 2 then x.b else r.sum).length ≤ _
    split
    · exact h5
    · exact h.s
  · show (if x.kind = 2 then [] else r.recs ++ [x.b]).length ≤ _
    split
    · exact Nat.zero_le _
    · simp; omega
  · intro b hb
    have hb' : b ∈ (if x.kind = 2 then [] else r.recs ++ [x.b]) := hb
    split at hb'
    · cases hb'
    · rcases List.mem_append.1 hb' with h' | h'
      · exact h.e b h'
      · simp at h'; subst h'; exact h5
theorem str_row (s : ByteArray) (w : World) : (Instr.buildSlice 92 1 #[(0, .string s)]).run Try.prog w = .ok (.slice (some ⟨w.heap.size, 0, none⟩) 1 1) (w.alloc (.cells #[.string s] 9)) := by kernel_rfl
/-- What the drawn region's reads meet. -/
structure CtH (p g : Nat) (s : ByteArray) (v : Value) (W : World) : Prop where
  hp : W.cell? ⟨p, 2, none⟩ = some (.string s)
  hv : W.cell? ⟨g, 3, none⟩ = some v
/-- The whole behind it. -/
theorem count_put {w w1 w2 : World} {S : Nat → Prop} {g gt : Nat} {r r' : Rl} {v v' : Value} (hS : S g) (hb : Blk w g 94 (rlC gt r v)) (hk : ∀ k, v.ownBlock = some k → S k) (hng : v.ownBlock ≠ some g)
    (ht1 : Turn (fun k => v.ownBlock = some k) w w1) (hr : w1.ownsRow 0 9 1 v' r'.recs.length (txs r'.recs)) (hv' : ∀ k, v'.ownBlock = some k → v.ownBlock = some k ∨ w.heap.size ≤ k)
    (ht2 : Turn (fun k => k = g) w1 w2) (hb2 : Blk w2 g 94 (rlC gt r' v')) (hf : r'.fit) : Rll w2 (moreB S w w2) g gt r' ∧ Turn S w w2 := by
  have htt : Turn S w w2 := (ht1.mono (fun i _ e => hk i e)).trans ht2 (fun i e => .inl (e ▸ hS))
  have hr2 : w2.ownsRow 0 9 1 v' r'.recs.length (txs r'.recs) := ht2.row hr (fun k e e' => by
    subst e'
    rcases hv' k e with h | h
    · exact hng h
    · have := hb.lt; omega)
  refine ⟨⟨v', hb2, hr2, hf, .inl hS, fun k e => ?_⟩, htt⟩
  rcases hv' k e with h | h
  · exact .inl (hk k h)
  · exact .inr ⟨h, (hr2.lt k e).2⟩
set_option maxHeartbeats 4000000 in
set_option maxRecDepth 100000 in
theorem count_any {w : World} {S : Nat → Prop} {g gt : Nat} {r : Rl} (h : Rll w S g gt r) (x : Ent) (hx : mayE x = 0) (hl : r.recs.length + 1 ≤ 10000000) :
    Calls Try.prog 42 #[.pointer (some ⟨g, 0, none⟩), .agg (enC x)] w (CtPost S g gt (cntR r x) w) := by
  have hfit := cnt_fit h.fit hx hl
  obtain ⟨v, hb, hr, hf, hg, hk⟩ := h
  obtain ⟨h1, h2, h3, h4, h5⟩ := may_ok hx
  obtain ⟨z, q, b⟩ := x
  dsimp only at h1 h2 h3 h4 h5
  have hb1 := below_new w (.cells (enC ⟨z, q, b⟩) 31)
  have k0 := Blk.new w 31 (enC ⟨z, q, b⟩)
  obtain ⟨w1, hw1⟩ : ∃ w1, w.alloc (.cells (enC ⟨z, q, b⟩) 31) = w1 := ⟨_, rfl⟩
  obtain ⟨p, hp⟩ : ∃ p, p = w.heap.size := ⟨_, rfl⟩
  rw [hw1] at hb1 k0
  rw [← hp] at k0
  have HP := Lib.hid hp
  have hpg : p ≠ g := fun e => by have := hb.lt; omega
  have hvp : v.ownBlock ≠ some p := fun e => by have := (hr.lt p e).2; omega
  have B1 := hb.below hb1 hb.lt
  have hng := row_ne hr hb (by decide)
  have ht1 : Turn (fun k => v.ownBlock = some k) w w1 := L6.Turn.of_keep hb1
  have c0 : w1.cell? ⟨p, 0, none⟩ = some (.int .i64 z) := k0.cell 0
  have c1 : w1.cell? ⟨p, 1, none⟩ = some (.int .i64 q) := k0.cell 1
  have c2 : w1.cell? ⟨p, 2, none⟩ = some (.string (str b)) := k0.cell 2
  have d3 : w1.cell? ⟨g, 3, none⟩ = some v := B1.cell 3
  rcases (show q = 1 ∨ q = 2 by omega) with rfl | rfl
  · obtain ⟨s, hs⟩ : ∃ s, s = str b := ⟨_, rfl⟩
    have HS := Lib.hid hs
    rw [← hs] at c2
    obtain ⟨A, c, rfl, _, _⟩ := L6.row_reads hr
    have hr1 : ∀ u, (w1.drew.alloc u).ownsRow 0 9 1 (.slice A r.recs.length c) r.recs.length (txs r.recs) := fun u => (((L6.Turn.of_keep (S := fun _ => False) hb1).drew).alloc u).row hr (fun _ _ h => h)
    obtain ⟨i0, hi, hz0, hz1, hz2⟩ := str_info
    have hrow := str_row s
    have hlen : r.recs.length ≤ 10000000 := by omega
    have e1 : z + 1 ≤ 4611686018427387905 := by omega
    have e2 : 1 ≤ z := h1
    obtain ⟨n, hn⟩ : ∃ n, n = r.recs.length := ⟨_, rfl⟩
    have HN := Lib.hid hn
    rw [← hn] at hr1 hlen d3 hvp hng
    rw [← hn] at B1
    have HB1 := Lib.hid B1
    have hH : ∀ u, CtH p g s (.slice A n c) (w1.drew.alloc u) := fun u => ⟨by rw [World.cell?_alloc_lt]; exact c2; exact World.block_lt_of_cell? w1 _ c2, by rw [World.cell?_alloc_lt]; exact d3; exact World.block_lt_of_cell? w1 _ d3⟩
    have hH0 : CtH p g s (.slice A n c) w1.drew := ⟨c2, d3⟩
    have HFI := Lib.hid hfit
    have HKK := Lib.hid hk
    have HBB := Lib.hid hb
    have HWB := Lib.hid hb1
    clear hs hn hx hl hf hr hk k0 hp hb hfit h3 h4 h5 ht1
    go_enter Try.func42, Try.ntmps42
    go_upto_region 1 with fail
    rw [← HP.out]
    clear hw1
    go_upto_region 3 with fail
    refine wp_region_K (CtH p g s (.slice A n c)) [0, 1, 2, 3, 4, 5, 6] (by kernel_rfl) ?_
    refine wpK_quiet (f := 5) (by kernel_rfl) (fun _ x _ _ _ h => by cases x <;> exact h) hH0 [0, 1, 2, 3, 4, 5, 6] _ _ (by kernel_rfl) (by kernel_rfl) (by kernel_rfl) ?_
    have ne : Nonempty (WorldIn (CtH p g s (.slice A n c))) := ⟨⟨_, hH0⟩⟩
    have g1 : ∀ y : WorldIn (CtH p g s (.slice A n c)), y.w.cell? ⟨p, 2, none⟩ = some (.string s) := fun y => y.h.hp
    have g2 : ∀ y : WorldIn (CtH p g s (.slice A n c)), y.w.cell? ⟨g, 3, none⟩ = some (.slice A n c) := fun y => y.h.hv
    conv => arg 5; simp [pick]
    iterate 7 go_big_quiet_step (fail)
    refine wpQuiet_nil ?_
    clear ne g1 g2
    refine wpK_step 7 (by kernel_rfl) rfl ?_
    refine wpList_buildSlice rfl _ _ _ rfl #[(0, .string s)] rfl (hrow _) ?_
    go_wp2
    refine stepQ.mk ⟨fun _ => hH _, ?_⟩
    refine wpK_step 8 (by kernel_rfl) rfl ?_
    have hnew := row_read w1.drew #[.string s] 9 (Nat.zero_lt_succ 0)
    refine L3.wpList_append_any _ rfl _ _ 92 rfl 0 9 i0 _ 1 16 Try.underlying92 hi hz0 hz1 hz2 rfl (by decide) (.slice A n c) n (txs r.recs) rfl (hr1 _) _ (some ⟨w1.drew.heap.size, 0, none⟩) 1 1 [.string s] rfl hnew (by intro u hu; simp at hu; subst hu; rfl) (by unfold maxLen; omega) (by omega) (Nat.zero_le _) ?_
    intro v' w4 ho4 hg4 hat4
    have ht14 : Turn (fun k => (Value.slice A n c).ownBlock = some k) w1 w4 := (((L6.Turn.refl _ w1).drew).alloc _).grown hg4 (fun i e => .inl e)
    have ht4 : Turn (fun k => (Value.slice A n c).ownBlock = some k) w w4 := (L6.Turn.of_keep HWB.out).trans ht14 (fun i h => .inl h)
    have hv4 : ∀ k, v'.ownBlock = some k → (Value.slice A n c).ownBlock = some k ∨ w.heap.size ≤ k := fun k e => by
      rcases hat4 with h | h
      · exact .inl (h ▸ e)
      · rw [h] at e
        injection e with e
        have h1 := HWB.out.size
        have h2 := (below_new w1.drew (.cells #[.string s] 9)).size
        have h3 : w1.drew.heap.size = w1.heap.size := rfl
        exact .inr (by omega)
    have B4 := ht14.blk HB1.out hng
    have c04 := ht14.cell c0 hvp
    have c14 := ht14.cell c1 hvp
    have q3 : w4.frozen? ⟨g, 3, none⟩ = false := B4.frozen 3
    have q1 : w4.frozen? ⟨g, 1, none⟩ = false := B4.frozen 1
    have d3' : w4.cell? ⟨g, 3, none⟩ = some (.slice A n c) := B4.cell 3
    have d1' : w4.cell? ⟨g, 1, none⟩ = some (.int .i64 r.next) := B4.cell 1
    obtain ⟨A', c', rfl, _, _⟩ := L6.row_reads ho4
    have hH4 : CtH p g s (.slice A n c) w4 := ⟨ht14.cell c2 hvp, d3'⟩
    have HO := Lib.hid (And.intro ho4 (And.intro ht4 (And.intro hv4 (And.intro B4 hng))))
    clear hg4 hat4 ho4 ht4 hv4 B4 ht14 hnew hr1 hH hH0 d3 c0 c1 c2 hng hvp hb1 B1
    go_wp2
    refine stepQ.mk ⟨fun _ => hH4, ?_⟩
    clear hH4
    refine wpK_seq [9, 10, 11] _ _ _ (by kernel_rfl) ?_
    conv => arg 4; simp [pick]
    go_upto_region 6 with fail
    go_wp2
    go_end0
    obtain ⟨ho4, ht4, hv4, B4, hng⟩ := HO.out
    have hnn := HN.out
    refine ⟨rfl, count_put (v := .slice A n c) (v' := .slice A' (n + 1) c') hg (by have := HBB.out; rw [← hnn] at this; exact this) (by have := HKK.out; rw [← hnn] at this; exact this) hng ht4 ?_ hv4 (((L6.Turn.refl (fun k => k = g) w4).setCell (p := ⟨g, 3, none⟩) (.inl rfl) _).setCell (p := ⟨g, 1, none⟩) (.inl rfl) _) ?_ HFI.out⟩
    · have e : (cntR r ⟨z, 1, b⟩).recs = r.recs ++ [b] := rfl
      rw [e, txs_snoc, List.length_append, ← hnn, ← HS.out]
      exact ho4
    · have := (B4.set_ 3 (.slice A' (n + 1) c')).set_ 1 (.int .i64 (z + 1))
      exact this
  · have d2 : w1.cell? ⟨g, 2, none⟩ = some (.string (str r.sum)) := B1.cell 2
    have d1 : w1.cell? ⟨g, 1, none⟩ = some (.int .i64 r.next) := B1.cell 1
    have f2 := B1.frozen 2
    have f3 := B1.frozen 3
    have f1 := B1.frozen 1
    have HO := Lib.hid (show CtPost S g gt (cntR r ⟨z, 2, b⟩) w (.returned (.tuple #[])) (((w1.setCell ⟨g, 2, none⟩ (.string (str b))).setCell ⟨g, 3, none⟩ (.slice none 0 0)).setCell ⟨g, 1, none⟩ (.int .i64 (z + 1))) from by
      refine ⟨rfl, count_put (v' := .slice none 0 0) hg hb hk hng ht1 (World.ownsRow_nil _ _ _ _) (fun k e => by simp [Value.ownBlock] at e) ((((L6.Turn.refl (fun k => k = g) w1).setCell (p := ⟨g, 2, none⟩) (.inl rfl) _).setCell (p := ⟨g, 3, none⟩) (.inl rfl) _).setCell (p := ⟨g, 1, none⟩) (.inl rfl) _) ?_ hfit⟩
      exact ((B1.set_ 2 (.string (str b))).set_ 3 (.slice none 0 0)).set_ 1 (.int .i64 (z + 1)))
    obtain ⟨s, hs⟩ : ∃ s, s = str b := ⟨_, rfl⟩
    rw [← hs] at c2 HO
    have e1 : z + 1 ≤ 4611686018427387905 := by omega
    obtain ⟨A, c, rfl, _, _⟩ := L6.row_reads hr
    clear hs hl hf hr hk k0 hp hb hfit h3 h4 h5 ht1 hx hng hvp B1 hb1
    go_enter Try.func42, Try.ntmps42
    go_upto_region 1 with fail
    rw [← HP.out]
    clear hw1
    go_wp2
    go_end0
    exact HO.out
end Go.Proofs.Ythhjdielananeaa
