/-
  A table made; where a number stands; one more is wanted, one came.
-/
import Derived.Test.YtglnocclhhdbbaaTab
set_option linter.unusedSimpArgs false
set_option linter.unusedVariables false
set_option maxRecDepth 10000
namespace Go.Proofs.Ytglnocclhhdbbaa
open Go.RowKit Go.Lib
open L3 (Blk Reads block_of_add add_of_add)
open L6 (Turn moreB fresh From In)
open L4 (isF isF_mk isF_not isF_le isF_gt more)

theorem more_in {f : Int} (hf : isF f = true) : ∃ m : Nat, more 3 f = (m : Int) ∧ m ≤ 10 ∧ ((m : Int) == 0) = false := by
  obtain ⟨m, hm, hm10⟩ := L4.more_is f
  refine ⟨m, hm, hm10, ?_⟩
  have : more 3 f = 3 * f + 1 := by unfold more; rw [if_pos hf]
  have := isF_le hf
  exact beq_eq_false_iff_ne.2 (by omega)
set_option maxHeartbeats 2000000 in
set_option maxRecDepth 100000 in
theorem new_signer (f me most tries : Int) (w : World) (hf : isF f = true) (h1 : 1 ≤ most) (h2 : most ≤ 16) (h3 : 1 ≤ tries) (hm : me < 0 ∨ 3 * f + 1 ≤ me) : Calls Try.prog 7 #[.int .i64 f, .int .i64 me, .int .i64 most, .int .i64 tries] w (gives (.tuple #[.pointer none, .int .i64 40]) w) := by
  have ha := fun W => L4.all_any f W
  have hb := fun W => L4.full_any f W
  have hc := fun W => L4.has_any (2 ^ (more 3 f).toNat - 1) me W full_lt
  have hv : L4.hasV (2 ^ (more 3 f).toNat - 1) me = false := by rw [has_full hf]; exact decide_eq_false (by omega)
  rw [hv] at hc
  obtain ⟨m, hmm, hm10, hm0⟩ := more_in hf
  rw [hmm] at ha
  obtain ⟨q, hq⟩ : ∃ q, q = 2 ^ (more 3 f).toNat - 1 := ⟨_, rfl⟩
  rw [← hq] at hb hc
  have g1 : ¬ most < 1 := by omega
  have g2 : ¬ 16 < most := by omega
  have g3 : ¬ tries < 1 := by omega
  clear hq hv hm hmm hf h1 h2 h3
  go_enter Try.func7, Try.ntmps7
  go_wp2_with (first
    | (go_at_call 17; refine (ha _).mono ?_; rintro e w1 ⟨rfl, rfl⟩)
    | (go_at_call 21; refine (hb _).mono ?_; rintro e w1 ⟨rfl, rfl⟩)
    | (go_at_call 20; refine (hc _).mono ?_; rintro e w1 ⟨rfl, rfl⟩)
    | go_in)
  go_ret2
  exact ⟨rfl, Below.refl _ _⟩
theorem ok_new {f me most tries : Int} (hf : isF f = true) (h1 : 1 ≤ most) (h2 : most ≤ 16) (h3 : 1 ≤ tries) (hm0 : 0 ≤ me) (hm1 : me < 3 * f + 1) : FS.ok ⟨f, me, most, tries, []⟩ :=
  ⟨(isF_le hf).1, (isF_le hf).2, hm0, hm1, h1, h2, h3, by show ((0 : Nat) : Int) ≤ most; omega, List.Pairwise.nil, fun x hx => nomatch hx⟩
theorem fit_new {f me most tries : Int} (h : inI tries) : FS.fit ⟨f, me, most, tries, []⟩ := ⟨h, fun x hx => nomatch hx⟩
set_option maxHeartbeats 2000000 in
set_option maxRecDepth 100000 in
theorem new_ok (f me most tries : Int) (w : World) (hf : isF f = true) (h1 : 1 ≤ most) (h2 : most ≤ 16) (h3 : 1 ≤ tries) (hm0 : 0 ≤ me) (hm1 : me < 3 * f + 1) (ht : inI tries) : Calls Try.prog 7 #[.int .i64 f, .int .i64 me, .int .i64 most, .int .i64 tries] w fun e w' =>
    e = .returned (.tuple #[.pointer (some ⟨w.heap.size, 0, none⟩), .int .i64 0]) ∧ Ft w' (fresh w w') w.heap.size ⟨f, me, most, tries, []⟩ ∧ Below w.heap.size w w' := by
  have ha := fun W => L4.all_any f W
  have hb := fun W => L4.full_any f W
  have hc := fun W => L4.has_any (2 ^ (more 3 f).toNat - 1) me W full_lt
  have hv : L4.hasV (2 ^ (more 3 f).toNat - 1) me = true := by rw [has_full hf]; exact decide_eq_true (by omega)
  rw [hv] at hc
  have HO := Lib.hid (ok_new hf h1 h2 h3 hm0 hm1)
  have HF := Lib.hid (fit_new (f := f) (me := me) (most := most) ht)
  obtain ⟨m, hmm, hm10, hm0'⟩ := more_in hf
  rw [hmm] at ha
  obtain ⟨q, hq⟩ : ∃ q, q = 2 ^ (more 3 f).toNat - 1 := ⟨_, rfl⟩
  rw [← hq] at hb hc
  have g1 : ¬ most < 1 := by omega
  have g2 : ¬ 16 < most := by omega
  have g3 : ¬ tries < 1 := by omega
  have hbd := build_ft f me most tries
  clear hq hv hmm hf h1 h2 h3 hm0 hm1 ht
  go_enter Try.func7, Try.ntmps7
  go_wp2_with (first
    | (go_at_call 17; refine (ha _).mono ?_; rintro e w1 ⟨rfl, rfl⟩)
    | (go_at_call 21; refine (hb _).mono ?_; rintro e w1 ⟨rfl, rfl⟩)
    | (go_at_call 20; refine (hc _).mono ?_; rintro e w1 ⟨rfl, rfl⟩)
    | go_in)
  go_ret2
  refine ⟨rfl, ⟨.slice none 0 0, Blk.new _ _ _, ⟨by simp, .inl ⟨rfl, rfl⟩⟩, ⟨HO.out, HF.out⟩, ⟨Nat.le_refl _, by simp⟩, fun k hk => ?_⟩, below_new _ _⟩
  simp [Value.ownBlock] at hk

/-! Where a number stands -/
set_option maxHeartbeats 2000000 in
set_option maxRecDepth 100000 in
theorem place_any {w : World} {S : Nat → Prop} {g : Nat} {s : FS} (h : Ft w S g s) (n : Int) :
    Calls Try.prog 23 #[.pointer (some ⟨g, 0, none⟩), .int .i64 n] w (gives (.tuple #[.int .i64 (spot s.L n), .bool (decide (wanted s.L n))]) w) := by
  obtain ⟨A, c, hb, hrd, _, hok, _⟩ := h.open_
  have HS := Lib.hid (search_any A c s.L n w hrd hok.1.rising (by have := hok.1.small; omega))
  have c4 : w.cell? ⟨g, 4, none⟩ = some (.slice A s.L.length c) := hb.cell 4
  obtain ⟨z, hz⟩ : ∃ z, z = s.L.length := ⟨_, rfl⟩
  obtain ⟨r, hr⟩ : ∃ r, r = spot s.L n := ⟨_, rfl⟩
  obtain ⟨b, hbb⟩ : ∃ b, b = decide (wanted s.L n) := ⟨_, rfl⟩
  rw [← hz, ← hr, ← hbb] at HS
  rw [← hz] at c4
  rw [← hr, ← hbb]
  clear hb hrd hok hz hr hbb h
  go_enter Try.func23, Try.ntmps23
  go_wp2_with (first
    | (go_at_call 34; refine HS.out.mono ?_; unfold gives; rintro e w1 ⟨rfl, hb1⟩)
    | go_in)
  go_ret2
  exact ⟨rfl, hb1⟩

/-! One more is wanted -/
theorem build_wn (n : Int) (w : World) : (Instr.build 63 #[(0, .int .i64 n)]).run Try.prog w = .ok (.agg (wnC ⟨n, 0⟩)) w := run_build w _ _ _ (by kernel_rfl)
theorem slice_wn (x : Wnt) (w : World) : (Instr.buildSlice 56 1 #[(0, .agg (wnC x))]).run Try.prog w = .ok (.slice (some ⟨w.heap.size, 0, none⟩) 1 1) (w.alloc (.cells (wnC x) 63)) := by kernel_rfl
/-- What a call of it tells and leaves. -/
def FtPost (v : Value) (S : Nat → Prop) (g : Nat) (s : FS) (w : World) (e : Ending) (w' : World) : Prop := e = .returned v ∧ Ft w' (moreB S w w') g s ∧ Turn S w w'
theorem FtPost.same {v : Value} {S : Nat → Prop} {g : Nat} {s : FS} {w w' : World} {e : Ending} (h : Ft w S g s) (he : e = .returned v) (hb : Below w.heap.size w w') : FtPost v S g s w e w' :=
  ⟨he, (h.below hb).mono (fun _ => .inl), L6.Turn.of_keep hb⟩
/-- Its row is another one, or holds others. -/
theorem Ft.put {w w1 : World} {S : Nat → Prop} {g : Nat} {s s' : FS} {v v' : Value} (hS : S g) (hb : Blk w g 58 (ftC s v)) (hk : ∀ k, v.ownBlock = some k → S k) (hng : v.ownBlock ≠ some g)
    (ht1 : Turn (fun k => v.ownBlock = some k) w w1) (hr : w1.ownsRow 0 63 2 v' s'.L.length (s'.L.flatMap wnL)) (hv' : ∀ k, v'.ownBlock = some k → v.ownBlock = some k ∨ w.heap.size ≤ k) (hok : s'.ok ∧ s'.fit)
    (he : s'.f = s.f ∧ s'.me = s.me ∧ s'.most = s.most ∧ s'.tries = s.tries) : Ft (w1.setCell ⟨g, 4, none⟩ v') (moreB S w (w1.setCell ⟨g, 4, none⟩ v')) g s' ∧ Turn S w (w1.setCell ⟨g, 4, none⟩ v') := by
  have hgl := hb.lt
  have hb1 : Blk w1 g 58 (ftC s v) := ht1.blk hb hng
  have hb2 := hb1.set_ 4 v'
  have e : (ftC s v).setIfInBounds 4 v' = ftC s' v' := by
    obtain ⟨e1, e2, e3, e4⟩ := he
    unfold ftC
    rw [e1, e2, e3, e4]
    rfl
  rw [e] at hb2
  have hn : v'.ownBlock ≠ some g := fun h => by
    rcases hv' g h with h | h
    · exact hng h
    · omega
  have ht2 : Turn (fun k => k = g) w1 (w1.setCell ⟨g, 4, none⟩ v') := (L6.Turn.refl (fun k => k = g) w1).setCell (p := ⟨g, 4, none⟩) (.inl rfl) v'
  have hr2 := ht2.row hr (fun k h e => hn (e ▸ h))
  have ht : Turn S w (w1.setCell ⟨g, 4, none⟩ v') := (ht1.mono fun k _ h => hk k h).trans ht2 (fun k e => .inl (e ▸ hS))
  refine ⟨⟨v', hb2, hr2, hok, .inl hS, fun k h => ?_⟩, ht⟩
  rcases hv' k h with h1 | h1
  · exact .inl (hk k h1)
  · exact .inr ⟨h1, row_lt hr2 h⟩
end Go.Proofs.Ytglnocclhhdbbaa
