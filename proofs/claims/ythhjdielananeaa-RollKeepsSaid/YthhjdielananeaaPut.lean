/-
  A roll and its tape side by side; what it is told, a line kept.
-/
import Derived.Test.YthhjdielananeaaRol
import Derived.Test.YthhjdielananeaaDoV
set_option linter.unusedSimpArgs false
set_option linter.unusedVariables false
set_option maxRecDepth 10000
namespace Go.Proofs.Ythhjdielananeaa
open Go.RowKit Go.Lib
open L3 (Blk Reads block_of_add add_of_add)
open L6 (Turn moreB fresh From In Apart)

/-- In w a roll lies at g and its tape at gt, all blocks of both among U. -/
def Rol (w : World) (U : Nat → Prop) (g gt : Nat) (r : Rl) (t : Tp) : Prop :=
  ∃ R T, Rll w R g gt r ∧ Tpe w T gt t ∧ In w R ∧ In w T ∧ Apart R T ∧ (∀ k, R k → U k) ∧ ∀ k, T k → U k
def RolPost (v : Value) (U : Nat → Prop) (g gt : Nat) (r : Rl) (t : Tp) (w : World) (e : Ending) (w' : World) : Prop := e = .returned v ∧ Rol w' (moreB U w w') g gt r t ∧ Turn U w w'
section
variable {w w' w1 w2 : World} {U : Nat → Prop} {g gt : Nat} {r r' : Rl} {t t' : Tp} {v : Value} {e : Ending}
theorem Rol.below (h : Rol w U g gt r t) (hb : Below w.heap.size w w') : Rol w' U g gt r t := by
  obtain ⟨R, T, hR, hT, iR, iT, ha, hRU, hTU⟩ := h
  exact ⟨R, T, hR.below hb, hT.below hb, iR.le hb.size, iT.le hb.size, ha, hRU, hTU⟩
theorem Rol.mono {U' : Nat → Prop} (h : Rol w U g gt r t) (hs : ∀ k, U k → U' k) : Rol w U' g gt r t := by
  obtain ⟨R, T, hR, hT, iR, iT, ha, hRU, hTU⟩ := h
  exact ⟨R, T, hR, hT, iR, iT, ha, fun k h => hs k (hRU k h), fun k h => hs k (hTU k h)⟩
theorem Rol.fit (h : Rol w U g gt r t) : r.fit := by obtain ⟨R, T, hR, _⟩ := h; exact hR.fit
theorem Rol.ok (h : Rol w U g gt r t) : t.ok ∧ t.fit := by obtain ⟨R, T, _, hT, _⟩ := h; exact hT.ok
theorem RolPost.same (h : Rol w U g gt r t) (he : e = .returned v) (hb : Below w.heap.size w w') : RolPost v U g gt r t w e w' :=
  ⟨he, (h.below hb).mono (fun _ => .inl), L6.Turn.of_keep hb⟩
/-- A call of its tape. -/
theorem Rol.tape {R T : Nat → Prop} (hR : Rll w R g gt r) (iR : In w R) (iT : In w T) (ha : Apart R T) (hRU : ∀ k, R k → U k) (hTU : ∀ k, T k → U k) (h : TpPost v T gt t' w e w') : RolPost v U g gt r t' w e w' := by
  obtain ⟨he, hT, hU⟩ := h
  refine ⟨he, ⟨R, moreB T w w', hR.kept hU ha, hT, iR.le hU.size, iT.more hU.size, (ha.symm.more iR).symm, fun k h => .inl (hRU k h), fun k h => h.imp (hTU k) id⟩, hU.mono (fun k _ h => hTU k h)⟩
/-- A call of its own. -/
theorem Rol.own {R T : Nat → Prop} (hT : Tpe w T gt t) (iR : In w R) (iT : In w T) (ha : Apart R T) (hRU : ∀ k, R k → U k) (hTU : ∀ k, T k → U k) (he : e = .returned v) (h : Rll w' (moreB R w w') g gt r') (hU : Turn R w w') : RolPost v U g gt r' t w e w' :=
  ⟨he, ⟨moreB R w w', T, h, hT.kept hU ha.symm, iR.more hU.size, iT.le hU.size, ha.more iT, fun k h => h.imp (hRU k) id, fun k h => .inl (hTU k h)⟩, hU.mono (fun k _ h => hRU k h)⟩
/-- A call behind others. -/
theorem RolPost.after (h1 : Turn U w w1) (h : RolPost v (moreB U w w1) g gt r t w1 e w2) : RolPost v U g gt r t w e w2 := by
  obtain ⟨he, hR, hU⟩ := h
  have hs1 := h1.size
  have hs2 := hU.size
  refine ⟨he, hR.mono (fun k hk => ?_), h1.trans hU (fun i hi => hi.imp id fun h => h.1)⟩
  rcases hk with (hk | hk) | hk
  · exact .inl hk
  · exact .inr ⟨hk.1, Nat.lt_of_lt_of_le hk.2 hs2⟩
  · exact .inr ⟨Nat.le_trans hs1 hk.1, hk.2⟩
theorem RolPost.back (hb : Below w.heap.size w w1) (h : RolPost v U g gt r t w1 e w2) : RolPost v U g gt r t w e w2 :=
  RolPost.after (L6.Turn.of_keep hb) ⟨h.1, h.2.1.mono (fun k hk => hk.imp .inl id), h.2.2.mono (fun k _ h => .inl h)⟩
end
set_option maxHeartbeats 1000000 in
set_option maxRecDepth 100000 in
theorem told_any {w : World} {U : Nat → Prop} {g gt : Nat} {r : Rl} {t : Tp} (h : Rol w U g gt r t) (n : Int) : Calls Try.prog 46 #[.pointer (some ⟨g, 0, none⟩), .int .i64 n] w (RolPost (.int .i64 n) U g gt (toldR r n) t w) := by
  by_cases hn : n = 170
  · subst hn
    have er : toldR r 170 = { r with broken := true } := if_pos rfl
    rw [er]
    obtain ⟨R, T, hR, hT, iR, iT, ha, hRU, hTU⟩ := h
    obtain ⟨v, hb, hr, hf, hg, hk⟩ := hR
    have hng := row_ne hr hb (by decide)
    have HO := Lib.hid (show RolPost (.int .i64 170) U g gt { r with broken := true } t w (.returned (.int .i64 170)) (w.setCell ⟨g, 4, none⟩ (.bool true)) from by
      obtain ⟨h1, h2⟩ := count_put (r' := { r with broken := true }) hg hb hk hng (L6.Turn.refl _ w) hr (fun k e => .inl e) ((L6.Turn.refl (fun k => k = g) w).setCell (p := ⟨g, 4, none⟩) (.inl rfl) (.bool true)) (hb.set_ 4 (.bool true)) ⟨hf.n, hf.s, hf.l, hf.e⟩
      exact Rol.own hT iR iT ha hRU hTU rfl h1 h2)
    have c4 : w.cell? ⟨g, 4, none⟩ = some (.bool r.broken) := hb.cell 4
    have f4 := hb.frozen 4
    clear hb hr hf hk hng hT iR iT ha hRU hTU er
    go_enter Try.func46, Try.ntmps46
    go_wp2
    go_ret
    exact HO.out
  · have er : toldR r n = r := if_neg hn
    rw [er]
    have hq : (n == 170) = false := by rw [beq_eq_false_iff_ne]; exact hn
    have HO := Lib.hid h
    clear h er hn
    go_enter Try.func46, Try.ntmps46
    go_wp2
    go_ret
    exact RolPost.same HO.out rfl (Below.refl _ _)
/-- How much fits in. -/
structure Small (t : Tp) (n : Nat) : Prop where
  l : n ≤ 100000000
  s : t.first + t.held.length + n ≤ 1000000000
set_option maxHeartbeats 2000000 in
set_option maxRecDepth 100000 in
theorem keep_any {w : World} {U : Nat → Prop} {g gt : Nat} {r : Rl} {t : Tp} (h : Rol w U g gt r t) (l : List UInt8) (hl : Small t l.length) : Calls Try.prog 63 #[.pointer (some ⟨g, 0, none⟩), .string (str l)] w (RolPost (.int .i64 (keepE t l)) U g gt r (keepT t l) w) := by
  obtain ⟨c1, w1, hcv, hr1, hb1⟩ := str_bytes w l
  obtain ⟨R, T, hR, hT, iR, iT, ha, hRU, hTU⟩ := h
  have hR1 := hR.below hb1
  have iR1 := iR.le hb1.size
  have iT1 := iT.le hb1.size
  have HW := Lib.hid (write_any (hT.below hb1) iT1 (some ⟨w.heap.size, 0, none⟩) c1 l (fun ad e hk => by cases e; have := iT _ hk; exact absurd this (Nat.lt_irrefl _)) hr1 hl.l hl.s)
  have HX := Lib.hid (fun e w' (hp : TpPost (.int .i64 (writeE t l)) T gt (writeT t l) w1 e w') => Rol.tape (U := U) hR1 iR1 iT1 ha hRU hTU hp)
  have HB := Lib.hid hb1
  have c0 : w.cell? ⟨g, 0, none⟩ = some (.pointer (some ⟨gt, 0, none⟩)) := by obtain ⟨v, hb, _⟩ := hR; exact hb.cell 0
  have hC2 : ∀ W U' t', Rol W U' g gt r t' → W.cell? ⟨g, 0, none⟩ = some (.pointer (some ⟨gt, 0, none⟩)) := fun W U' t' h => by obtain ⟨_, _, ⟨v, hb, _⟩, _⟩ := h; exact hb.cell 0
  have HC2 := Lib.hid hC2
  obtain ⟨n, hn⟩ : ∃ n, n = writeE t l := ⟨_, rfl⟩
  have HN := Lib.hid hn
  rw [← hn] at HW HX
  clear hR hT iR iT ha hRU hTU hR1 iR1 iT1 hr1 hb1 hl hC2 hn
  obtain ⟨m, hm⟩ : ∃ m, m = l.length := ⟨_, rfl⟩
  rw [← hm] at HW hcv
  clear hm
  obtain ⟨s, hs⟩ : ∃ s, s = str l := ⟨_, rfl⟩
  rw [← hs] at hcv ⊢
  clear hs
  by_cases h0 : n = 0
  · have e1 : keepE t l = strokeE (writeT t l) := by unfold keepE; rw [← HN.out, if_neg (by rw [h0]; decide)]
    have e2 : keepT t l = holdT (writeT t l) := by unfold keepT; rw [← HN.out, if_neg (by rw [h0]; decide)]
    rw [e1, e2]
    subst h0
    obtain ⟨t2, ht2⟩ : ∃ t2, t2 = writeT t l := ⟨_, rfl⟩
    rw [← ht2] at HW HX ⊢
    clear e1 e2 ht2
    have HH := Lib.hid (fun W (U' : Nat → Prop) (h : Rol W U' g gt r t2) => show Calls Try.prog 71 #[.pointer (some ⟨gt, 0, none⟩)] W (RolPost (.int .i64 (strokeE t2)) U' g gt r (holdT t2) W) from by
      obtain ⟨R, T, hR, hT, iR, iT, ha, hRU, hTU⟩ := h
      exact (hold_any hT iT).mono fun e w' hp => Rol.tape hR iR iT ha hRU hTU hp)
    go_enter Try.func63, Try.ntmps63
    go_wp2_with (first
      | (go_at_call 70; refine HW.out.mono ?_; rintro e w2 hp; obtain ⟨he, hR2, hU2⟩ := HX.out _ _ hp; subst he; clear hp; have c2 := HC2.out _ _ _ hR2)
      | (go_at_call 71; refine (HH.out _ _ hR2).mono ?_; rintro e w3 hp; have hp3 := Lib.hid hp; obtain ⟨he, -, -⟩ := hp; subst he)
      | go_in)
    go_ret
    exact RolPost.back HB.out (RolPost.after hU2 hp3.out)
  · have e1 : keepE t l = n := by unfold keepE; rw [← HN.out, if_pos h0]
    have e2 : keepT t l = writeT t l := by unfold keepT; rw [← HN.out, if_pos h0]
    rw [e1, e2]
    have g1 : (n == 0) = false := by rw [beq_eq_false_iff_ne]; exact h0
    have g2 : (n != 0) = true := by rw [bne_iff_ne]; exact h0
    clear e1 e2 h0
    go_enter Try.func63, Try.ntmps63
    go_wp2_with (first
      | (go_at_call 70; refine HW.out.mono ?_; rintro e w2 hp; have hp2 := Lib.hid (HX.out _ _ hp); obtain ⟨he, -, -⟩ := hp; subst he)
      | go_in)
    go_ret
    exact RolPost.back HB.out hp2.out
end Go.Proofs.Ythhjdielananeaa
