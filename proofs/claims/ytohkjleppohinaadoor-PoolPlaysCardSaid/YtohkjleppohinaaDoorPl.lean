/-
  A pool in memory: made, counted, asked why a transaction can't wait.
-/
import Derived.Test.YtohkjleppohinaaDoorCutF
import Derived.Test.YtohkjleppohinaaDoorCheckT
set_option linter.unusedSimpArgs false
set_option linter.unusedVariables false
set_option maxRecDepth 10000
namespace Go.Proofs.YtohkjleppohinaaDoor
open Go.RowKit Go.Lib
open L3 (Blk Reads block_of_add add_of_add)
open L6 (Turn moreB fresh From In)

/-- In w a pool of these lies at g, its blocks among S. -/
def Pl (w : World) (S : Nat → Prop) (g : Nat) (most : Int) (L : List Txx) : Prop :=
  ∃ v, Blk w g 52 #[.int .i64 most, v] ∧ w.ownsRow 0 35 7 v L.length (L.flatMap txL) ∧ Fine most L ∧ S g ∧ ∀ k, v.ownBlock = some k → S k
theorem Pl.fine {w : World} {S : Nat → Prop} {g : Nat} {most : Int} {L : List Txx} (h : Pl w S g most L) : Fine most L := by obtain ⟨v, _, _, hf, _⟩ := h; exact hf
theorem Pl.kept {w w' : World} {S T : Nat → Prop} {g : Nat} {most : Int} {L : List Txx} (h : Pl w S g most L) (ht : Turn T w w') (hd : ∀ k, S k → ¬ T k) : Pl w' S g most L := by
  obtain ⟨v, hb, hr, hf, hg, hk⟩ := h
  exact ⟨v, ht.blk hb (hd _ hg), ht.row hr (fun k e => hd _ (hk k e)), hf, hg, hk⟩
theorem Pl.below {w w' : World} {S : Nat → Prop} {g : Nat} {most : Int} {L : List Txx} (h : Pl w S g most L) (hb : Below w.heap.size w w') : Pl w' S g most L := h.kept (T := fun _ => False) (L6.Turn.of_keep hb) (fun _ _ h => h)
theorem Pl.mono {w : World} {S S' : Nat → Prop} {g : Nat} {most : Int} {L : List Txx} (h : Pl w S g most L) (hs : ∀ k, S k → S' k) : Pl w S' g most L := by
  obtain ⟨v, hb, hr, hf, hg, hk⟩ := h
  exact ⟨v, hb, hr, hf, hs _ hg, fun k e => hs _ (hk k e)⟩
theorem row_ne {w : World} {base size n g : Nat} {e t : TypeId} {v : Value} {xs : List Value} {cs : Array Value} (h : w.ownsRow base e size v n xs) (hb : Blk w g t cs) (hne : e ≠ t) : v.ownBlock ≠ some g := by
  rcases h.2 with ⟨rfl, _⟩ | ⟨g', cap, cur, rfl, _, hh, _⟩
  · simp [Value.ownBlock]
  · intro he
    have hg : g' = g := by simpa [Value.ownBlock] using he
    subst hg
    have hb' : w.heap[g']? = some (.cells cs t (0, 0)) := hb
    rw [hh] at hb'
    injection hb' with hb'
    injection hb' with _ h2 _
    exact hne h2
/-- A pool's list, as a slice that is read. -/
theorem Pl.open_ {w : World} {S : Nat → Prop} {g : Nat} {most : Int} {L : List Txx} (h : Pl w S g most L) : ∃ A c, Blk w g 52 #[.int .i64 most, .slice A L.length c] ∧ Rd txL 7 w A L ∧ w.ownsRow 0 35 7 (.slice A L.length c) L.length (L.flatMap txL) ∧ Fine most L ∧ S g ∧ (∀ k, (Value.slice A L.length c).ownBlock = some k → S k) := by
  obtain ⟨v, hb, hr, hf, hg, hk⟩ := h
  obtain ⟨A, c, rfl, hrd, _⟩ := Rd.of_row (f := txL) (k := 7) (fun _ => rfl) hr
  exact ⟨A, c, hb, hrd, hr, hf, hg, hk⟩
theorem build_pool (most : Int) (w : World) : (Instr.build 52 #[(0, .int .i64 most)]).run Tryd.prog w = .ok (.agg #[.int .i64 most, .slice none 0 0]) w := run_build w _ _ _ (by kernel_rfl)
set_option maxHeartbeats 1000000 in
set_option maxRecDepth 100000 in
theorem new_not (most : Int) (w : World) (h : most < 1 ∨ 64 < most) : Calls Tryd.prog 7 #[.int .i64 most] w (gives (.tuple #[.pointer none, .int .i64 1]) w) := by
  rcases (show most < 1 ∨ (¬ most < 1 ∧ 64 < most) by omega) with h1 | ⟨h1, h2⟩
  all_goals
    clear h
    go_enter Tryd.func7, Tryd.ntmps7
    go_wp2
    go_ret2
    exact ⟨rfl, Below.refl _ _⟩
set_option maxHeartbeats 1000000 in
set_option maxRecDepth 100000 in
theorem new_ok (most : Int) (w : World) (h1 : 1 ≤ most) (h2 : most ≤ 64) : Calls Tryd.prog 7 #[.int .i64 most] w fun e w' =>
    e = .returned (.tuple #[.pointer (some ⟨w.heap.size, 0, none⟩), .int .i64 0]) ∧ Pl w' (fresh w w') w.heap.size most [] ∧ Below w.heap.size w w' := by
  have hbd := build_pool most
  have g1 : ¬ most < 1 := by omega
  have g2 : ¬ 64 < most := by omega
  go_enter Tryd.func7, Tryd.ntmps7
  go_wp2
  go_ret2
  refine ⟨rfl, ⟨.slice none 0 0, Blk.new _ _ _, ⟨by simp, .inl ⟨rfl, rfl⟩⟩, Fine.nil h1 h2, ⟨Nat.le_refl _, by simp⟩, fun k hk => ?_⟩, (Below.refl _ _).alloc (Nat.le_refl _) _⟩
  simp [Value.ownBlock] at hk
set_option maxHeartbeats 1000000 in
set_option maxRecDepth 100000 in
theorem len_any {w : World} {S : Nat → Prop} {g : Nat} {most : Int} {L : List Txx} (h : Pl w S g most L) : Calls Tryd.prog 19 #[.pointer (some ⟨g, 0, none⟩)] w (gives (.int .i64 L.length) w) := by
  obtain ⟨A, c, hb, _⟩ := h.open_
  have c1 : w.cell? ⟨g, 1, none⟩ = some (.slice A L.length c) := hb.cell 1
  obtain ⟨n, hn⟩ : ∃ n, n = L.length := ⟨_, rfl⟩
  rw [← hn] at c1 ⊢
  clear hb hn h
  go_enter Tryd.func19, Tryd.ntmps19
  go_wp2
  go_ret
  exact ⟨rfl, Below.refl _ _⟩

/-! Of nil -/
set_option maxRecDepth 100000 in
theorem len_nil (w : World) : Calls Tryd.prog 19 #[.pointer none] w (gives (.int .i64 0) w) := by
  go_enter Tryd.func19, Tryd.ntmps19
  go_wp2
  go_ret
  exact ⟨rfl, Below.refl _ _⟩
set_option maxRecDepth 100000 in
theorem all_nil (w : World) : Calls Tryd.prog 18 #[.pointer none] w (gives (.slice none 0 0) w) := by
  go_enter Tryd.func18, Tryd.ntmps18
  go_wp2
  go_ret
  exact ⟨rfl, Below.refl _ _⟩
set_option maxRecDepth 100000 in
theorem batch_nil (n : Int) (A : Option Addr) (m c : Nat) (w : World) : Calls Tryd.prog 12 #[.pointer none, .int .i64 n, .slice A m c] w (gives (.slice none 0 0) w) := by
  go_enter Tryd.func12, Tryd.ntmps12
  go_wp2
  go_ret
  exact ⟨rfl, Below.refl _ _⟩
set_option maxRecDepth 100000 in
theorem keep_nil (f : FuncId) (lb : Array Value) (w : World) : Calls Tryd.prog 28 #[.pointer none, .func (.func f) #[] lb] w (gives (.int .i64 0) w) := by
  go_enter Tryd.func28, Tryd.ntmps28
  go_wp2
  go_ret
  exact ⟨rfl, (Below.refl _ _).alloc (Nat.le_refl _) _⟩
set_option maxRecDepth 100000 in
theorem drop_nil (A : Option Addr) (m c : Nat) (w : World) : Calls Tryd.prog 15 #[.pointer none, .slice A m c] w (gives (.int .i64 0) w) := by
  have hk := fun W lb => keep_nil 29 lb W
  go_enter Tryd.func15, Tryd.ntmps15
  go_wp2_with (first
    | (go_at_call 28; (with_reducible refine (hk _ _).mono ?_); unfold gives; rintro e w1 ⟨rfl, hb1⟩)
    | go_in)
  go_ret
  exact ⟨rfl, nxt ((Below.refl _ _).alloc (Nat.le_refl _) _) hb1⟩
set_option maxRecDepth 100000 in
theorem past_nil (l : List UInt8) (n : Int) (w : World) : Calls Tryd.prog 17 #[.pointer none, .string (str l), .int .i64 n] w (gives (.int .i64 0) w) := by
  have hk := fun W lb => keep_nil 30 lb W
  go_enter Tryd.func17, Tryd.ntmps17
  go_wp2_with (first
    | (go_at_call 28; (with_reducible refine (hk _ _).mono ?_); unfold gives; rintro e w1 ⟨rfl, hb1⟩)
    | go_in)
  go_ret
  exact ⟨rfl, nxt (((Below.refl _ _).alloc (Nat.le_refl _) _).alloc (by simp) _) hb1⟩
set_option maxRecDepth 100000 in
theorem refuses_nil (t : Txx) (w : World) : Calls Tryd.prog 23 #[.pointer none, .agg (txC t)] w (gives (.int .i64 3) w) := by
  go_enter Tryd.func23, Tryd.ntmps23
  go_wp2
  go_ret
  exact ⟨rfl, below_box _ t⟩
set_option maxRecDepth 100000 in
theorem add_nil (t : Txx) (w : World) : Calls Tryd.prog 10 #[.pointer none, .agg (txC t)] w (gives (.int .i64 3) w) := by
  have hk := fun W => refuses_nil t W
  have hyb := box_new w 35 t
  go_enter Tryd.func10, Tryd.ntmps10
  go_wp2_with (first
    | (refine wpList_row_at rfl _ _ rfl w.heap.size rfl _ _ _ _ hyb Tryd.underlying35 rfl (by kernel_rfl) ?_)
    | (go_at_call 23; (with_reducible refine (hk _).mono ?_); unfold gives; rintro e w1 ⟨rfl, hb1⟩)
    | go_in)
  go_ret
  exact ⟨rfl, nxt (below_box _ t) hb1⟩
end Go.Proofs.YtohkjleppohinaaDoor
