/-
  A tape in memory: made, asked for its power, its places, its end; a stroke of it.
-/
import Derived.Test.YthhjdielananeaaBts
import Derived.Test.YthhjdielananeaaParts
import Derived.Deep.RegionHeld3
import Derived.Shelf.Abstract
import Derived.Deep.QuietTactic
import Derived.BigQuiet
import Derived.LoopTactic
import Derived.WalkSpells
import Derived.Deep.RegionWith
import Derived.PlainAid
import Derived.Deep.CutBlock
import Derived.Deep.DeepCutAuto
import Derived.Outline
set_option linter.unusedSimpArgs false
set_option linter.unusedVariables false
set_option maxRecDepth 10000
namespace Go.Proofs.Ythhjdielananeaa
open Go.RowKit Go.Lib
open L3 (Blk Reads block_of_add add_of_add)
open L6 (Turn moreB fresh From In)

def gives (v : Value) (w : World) (e : Ending) (w' : World) : Prop := e = .returned v ∧ Below w.heap.size w w'
theorem nxt {a b c : World} (h : Below a.heap.size a b) (k : Below b.heap.size b c) : Below a.heap.size a c := h.trans (k.mono h.size)
theorem below_new (w : World) (o : Obj) : Below w.heap.size w (w.alloc o) := (Below.refl _ _).alloc (Nat.le_refl _) o
/-- A number of 64 bits. -/
def inI (n : Int) : Prop := -9223372036854775808 ≤ n ∧ n ≤ 9223372036854775807
/-- How many strokes are left, as the program has it. -/
def leftV (t : Tp) : Int := match t.fuse with
  | none => -1
  | some k => k
def tpC (t : Tp) (v : Value) : Array Value := #[.int .i64 t.room, .int .i64 t.first, .int .i64 t.fast, v, .bool t.on, .int .i64 (leftV t)]
/-- Its numbers are small. -/
structure Tp.fit (t : Tp) : Prop where
  room : t.room ≤ 16777216
  stop : t.first + t.held.length ≤ 1000000000
  fuse : ∀ k, t.fuse = some k → k ≤ 9223372036854775807
/-- In w a tape lies at g, its blocks among S. -/
def Tpe (w : World) (S : Nat → Prop) (g : Nat) (t : Tp) : Prop :=
  ∃ A c, Blk w g 88 (tpC t (.slice A t.held.length c)) ∧ Bts w (.slice A t.held.length c) t.held ∧ (t.ok ∧ t.fit) ∧ S g ∧ ∀ k, (Value.slice A t.held.length c).ownBlock = some k → S k
theorem Tpe.ok {w : World} {S : Nat → Prop} {g : Nat} {t : Tp} (h : Tpe w S g t) : t.ok ∧ t.fit := by obtain ⟨_, _, _, _, h, _⟩ := h; exact h
theorem Tpe.kept {w w' : World} {S T : Nat → Prop} {g : Nat} {t : Tp} (h : Tpe w S g t) (ht : Turn T w w') (hd : ∀ k, S k → ¬ T k) : Tpe w' S g t := by
  obtain ⟨A, c, hb, hr, hf, hg, hk⟩ := h
  exact ⟨A, c, ht.blk hb (hd _ hg), hr.turn ht (fun k e => hd _ (hk k e)), hf, hg, hk⟩
theorem Tpe.below {w w' : World} {S : Nat → Prop} {g : Nat} {t : Tp} (h : Tpe w S g t) (hb : Below w.heap.size w w') : Tpe w' S g t := h.kept (T := fun _ => False) (L6.Turn.of_keep hb) (fun _ _ h => h)
theorem Tpe.mono {w : World} {S S' : Nat → Prop} {g : Nat} {t : Tp} (h : Tpe w S g t) (hs : ∀ k, S k → S' k) : Tpe w S' g t := by
  obtain ⟨A, c, hb, hr, hf, hg, hk⟩ := h
  exact ⟨A, c, hb, hr, hf, hs _ hg, fun k e => hs _ (hk k e)⟩
/-- What a call of it tells and leaves. -/
def TpPost (v : Value) (S : Nat → Prop) (g : Nat) (t : Tp) (w : World) (e : Ending) (w' : World) : Prop := e = .returned v ∧ Tpe w' (moreB S w w') g t ∧ Turn S w w'
theorem TpPost.same {v : Value} {S : Nat → Prop} {g : Nat} {t : Tp} {w w' : World} {e : Ending} (h : Tpe w S g t) (he : e = .returned v) (hb : Below w.heap.size w w') : TpPost v S g t w e w' :=
  ⟨he, (h.below hb).mono (fun _ => .inl), L6.Turn.of_keep hb⟩
/-- Cells of it turned: the same bytes. -/
theorem Tpe.cells {w : World} {S : Nat → Prop} {g : Nat} {t t' : Tp} {A : Option Addr} {c : Nat} {w' : World} (hb' : Blk w' g 88 (tpC t' (.slice A t.held.length c))) (ht : Turn (fun k => k = g) w w') (hb : Blk w g 88 (tpC t (.slice A t.held.length c))) (hr : Bts w (.slice A t.held.length c) t.held) (hf : t'.ok ∧ t'.fit) (hg : S g) (hk : ∀ k, (Value.slice A t.held.length c).ownBlock = some k → S k) (he : t'.held = t.held) :
    Tpe w' (moreB S w w') g t' ∧ Turn S w w' := by
  have hn : (Value.slice A t.held.length c).ownBlock ≠ some g := hr.ne hb (by decide)
  have hr' := hr.turn ht (fun k e e' => hn (e' ▸ e))
  refine ⟨⟨A, c, ?_, ?_, hf, .inl hg, fun k e => .inl (hk k (by rw [he] at e; exact e))⟩, ht.mono (fun k _ e => e ▸ hg)⟩
  · rw [he]; exact hb'
  · rw [he]; exact hr'

/-! New -/
theorem build_tp (r : Int) (w : World) : (Instr.build 88 #[(0, .int .i64 r), (4, .bool true), (5, .int .i64 (-1))]).run Try.prog w = .ok (.agg #[.int .i64 r, .int .i64 0, .int .i64 0, .slice none 0 0, .bool true, .int .i64 (-1)]) w := run_build w _ _ _ (by kernel_rfl)
theorem fit_new {r : Nat} (h : r ≤ 16777216) : (newTp r).ok ∧ (newTp r).fit := ⟨new_ok_ r, h, Nat.zero_le _, fun k hk => by cases hk⟩
set_option maxHeartbeats 1000000 in
set_option maxRecDepth 100000 in
theorem new_any (r : Nat) (w : World) (h : r ≤ 16777216) : Calls Try.prog 18 #[.int .i64 r] w fun e w' =>
    e = .returned (.tuple #[.pointer (some ⟨w.heap.size, 0, none⟩), .int .i64 0]) ∧ Tpe w' (fresh w w') w.heap.size (newTp r) ∧ Below w.heap.size w w' := by
  have HF := Lib.hid (fit_new h)
  have g1 : ¬ (r : Int) < 0 := by omega
  have g2 : ¬ 16777216 < (r : Int) := by omega
  have hbd := build_tp r
  clear h
  go_enter Try.func18, Try.ntmps18
  go_wp2
  go_ret2
  refine ⟨rfl, ⟨none, 0, Blk.new _ _ _, Bts.nil _, HF.out, ⟨Nat.le_refl _, by simp⟩, fun k hk => ?_⟩, below_new _ _⟩
  simp [Value.ownBlock] at hk

/-! What stands against it; its end, its places -/
set_option maxHeartbeats 1000000 in
set_option maxRecDepth 100000 in
theorem ready_any {w : World} {S : Nat → Prop} {g : Nat} {t : Tp} (h : Tpe w S g t) : Calls Try.prog 48 #[.pointer (some ⟨g, 0, none⟩)] w (gives (.int .i64 (if t.on = false then 170 else 0)) w) := by
  obtain ⟨A, c, hb, _⟩ := h
  have c4 : w.cell? ⟨g, 4, none⟩ = some (.bool t.on) := hb.cell 4
  clear hb
  rcases Bool.eq_false_or_eq_true t.on with ho | ho
  · rw [ho] at c4
    rw [if_neg (by rw [ho]; decide)]
    clear ho
    go_enter Try.func48, Try.ntmps48
    go_wp2
    go_ret
    exact ⟨rfl, Below.refl _ _⟩
  · rw [ho] at c4
    rw [if_pos ho]
    clear ho
    go_enter Try.func48, Try.ntmps48
    go_wp2
    go_ret
    exact ⟨rfl, Below.refl _ _⟩
set_option maxHeartbeats 1000000 in
set_option maxRecDepth 100000 in
theorem end_any {w : World} {S : Nat → Prop} {g : Nat} {t : Tp} (h : Tpe w S g t) : Calls Try.prog 43 #[.pointer (some ⟨g, 0, none⟩)] w (gives (.int .i64 (t.stop : Nat)) w) := by
  obtain ⟨A, c, hb, _, hf, _⟩ := h
  have c1 : w.cell? ⟨g, 1, none⟩ = some (.int .i64 t.first) := hb.cell 1
  have c3 : w.cell? ⟨g, 3, none⟩ = some (.slice A t.held.length c) := hb.cell 3
  have hs := hf.2.stop
  have HE := Lib.hid (show ((t.stop : Nat) : Int) = (t.first : Int) + (t.held.length : Int) by unfold Tp.stop; push_cast; rfl)
  obtain ⟨f, hf'⟩ : ∃ f, f = t.first := ⟨_, rfl⟩
  obtain ⟨n, hn⟩ : ∃ n, n = t.held.length := ⟨_, rfl⟩
  obtain ⟨s, hs'⟩ : ∃ s, s = t.stop := ⟨_, rfl⟩
  rw [← hf'] at c1 hs HE
  rw [← hn] at c3 hs HE
  rw [← hs'] at HE ⊢
  clear hb hf hf' hn hs'
  go_enter Try.func43, Try.ntmps43
  go_upto_region 1 with fail
  go_quiet (fail)
  go_wp2
  go_ret
  exact ⟨by rw [HE.out]; rfl, L6.below_drewN (Below.refl _ _) _⟩
end Go.Proofs.Ythhjdielananeaa
