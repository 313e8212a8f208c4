/-
  What a tape tells of its bytes; a crash.
-/
import Derived.Test.YthhjdielananeaaTap4
set_option linter.unusedSimpArgs false
set_option linter.unusedVariables false
set_option maxRecDepth 10000
namespace Go.Proofs.Ythhjdielananeaa
open Go.RowKit Go.Lib
open L3 (Blk Reads block_of_add add_of_add)
open L6 (Turn moreB fresh From In)

theorem Tpe.reset {w : World} {S : Nat → Prop} {g : Nat} {t : Tp} (h : Tpe w S g t) : Tpe ((w.setCell ⟨g, 4, none⟩ (.bool true)).setCell ⟨g, 5, none⟩ (.int .i64 (-1))) (moreB S w ((w.setCell ⟨g, 4, none⟩ (.bool true)).setCell ⟨g, 5, none⟩ (.int .i64 (-1)))) g { t with fuse := none, on := true } ∧ Turn S w ((w.setCell ⟨g, 4, none⟩ (.bool true)).setCell ⟨g, 5, none⟩ (.int .i64 (-1))) := by
  obtain ⟨A, c, hb, hr, hf, hg, hk⟩ := h
  exact Tpe.cells (t' := { t with fuse := none, on := true }) ((hb.set_ 4 (.bool true)).set_ 5 (.int .i64 (-1))) (((L6.Turn.refl (fun k => k = g) w).setCell (p := ⟨g, 4, none⟩) (.inl rfl) _).setCell (p := ⟨g, 5, none⟩) (.inl rfl) _) hb hr ⟨⟨hf.1.f1, hf.1.f2, hf.1.room⟩, hf.2.room, hf.2.stop, fun k hk => by cases hk⟩ hg hk rfl
theorem crash_cut {t : Tp} (h : t.ok) (n p : Int) (hp : p = (t.fast : Int) + (keepN t n : Nat)) : ({ ({ ({ t with held := t.held.take (p.toNat - t.first), fast := min t.fast p.toNat } : Tp) with fast := ({ t with held := t.held.take (p.toNat - t.first), fast := min t.fast p.toNat } : Tp).stop } : Tp) with fuse := none, on := true } : Tp) = crashT t n := by
  have e : p.toNat - t.first = t.fast - t.first + keepN t n := by have := h.f1; omega
  have hl := crash_len h n
  have h1 := h.f1
  have e2 : ({ t with held := t.held.take (p.toNat - t.first), fast := min t.fast p.toNat } : Tp).stop = t.fast + keepN t n := by
    show t.first + (t.held.take (p.toNat - t.first)).length = _
    rw [e]
    have : (t.held.take (t.fast - t.first + keepN t n)).length = t.fast - t.first + keepN t n := hl
    rw [this]; omega
  rw [e2, e]
  rfl
theorem wrap_u (n : Int) : IntKind.u64.wrap n = n % 18446744073709551616 := by simp [IntKind.wrap, IntKind.bits, IntKind.signed]
set_option maxHeartbeats 1000000 in
set_option maxRecDepth 100000 in
theorem crash_any {w : World} {S : Nat → Prop} {g : Nat} {t : Tp} (h : Tpe w S g t) (n : Int) (hn : inI n) : Calls Try.prog 24 #[.pointer (some ⟨g, 0, none⟩), .int .i64 n] w (TpPost (.int .i64 0) S g (crashT t n) w) := by
  have HH := Lib.hid h
  have HQ := Lib.hid (fun W (hW : Below w.heap.size w W) k => end_left (h.below hW) k)
  obtain ⟨A, c, hb, hr, hf, hg, hk⟩ := h
  have c2 : w.cell? ⟨g, 2, none⟩ = some (.int .i64 t.fast) := hb.cell 2
  have hs := hf.2.stop
  have h1 := hf.1.f1
  have h2 := hf.1.f2
  have hkl := keepN_le t n
  have hts : t.stop = t.first + t.held.length := rfl
  obtain ⟨p, hp⟩ : ∃ p : Int, p = (t.fast : Int) + (keepN t n : Nat) := ⟨_, rfl⟩
  have HC := Lib.hid (fun W (hW : Below w.heap.size w W) => cut_any (HH.out.below hW) p (by omega) (by omega))
  have HE := Lib.hid (crash_cut hf.1 n p hp)
  obtain ⟨t1, ht1⟩ : ∃ t1, t1 = ({ t with held := t.held.take (p.toNat - t.first), fast := min t.fast p.toNat } : Tp) := ⟨_, rfl⟩
  rw [← ht1] at HC HE
  have hkd : (keepN t n : Int) = (n % 18446744073709551616) % (((t.stop : Nat) : Int) - (t.fast : Int) + 1) := by
    unfold keepN
    rw [Int.natCast_emod]
    have e1 : ((t.stop - t.fast + 1 : Nat) : Int) = ((t.stop : Nat) : Int) - (t.fast : Int) + 1 := by omega
    have e2 : (((n % 18446744073709551616).toNat : Nat) : Int) = n % 18446744073709551616 := Int.toNat_of_nonneg (Int.emod_nonneg _ (by decide))
    rw [e1, e2]
  obtain ⟨r, hr'⟩ : ∃ r : Int, r = (keepN t n : Nat) := ⟨_, rfl⟩
  rw [← hr'] at hkd hp
  obtain ⟨f, hf'⟩ : ∃ f, f = t.fast := ⟨_, rfl⟩
  obtain ⟨s, hs'⟩ : ∃ s, s = t.stop := ⟨_, rfl⟩
  have hfs : (f : Int) ≤ s := by omega
  have hsl : (s : Int) ≤ 1000000000 := by omega
  have hr0 : 0 ≤ r := by omega
  have hrl : r ≤ (s : Int) - f := by omega
  rw [← hf'] at c2 hkd hp
  rw [← hs'] at HQ hkd
  have hb0 : Below w.heap.size w w := Below.refl _ _
  have HP := Lib.hid hp
  have HK := Lib.hid hkd
  clear hf' hs' h1 h2 hs hb hr hf hk hkl hts ht1 hp hkd hr' HH
  go_enter Try.func24, Try.ntmps24
  go_upto_region 3 with fail
  go_quiet ((go_at_call 43; exact HQ.out _ hb0 _))
  go_upto_region 4 with fail
  have hbq : Below w.heap.size w (w.drewN nq) := L6.below_drewN hb0 _
  obtain ⟨l, hl⟩ : ∃ l : Int, l = (s : Int) - (f : Int) := ⟨_, rfl⟩
  have hl0 : 0 ≤ l := by omega
  have hl1 : l ≤ 1000000000 := by omega
  have hrl' : r ≤ l := by omega
  rw [← hl]
  obtain ⟨k, hk⟩ : ∃ k : Int, k = l + 1 := ⟨_, rfl⟩
  have e1 : IntKind.u64.wrap (l + 1) = k := by rw [wrap_u, hk]; omega
  obtain ⟨m, hm⟩ : ∃ m : Int, m = IntKind.u64.wrap n := ⟨_, rfl⟩
  have e2 : IntKind.u64.wrap n = m := hm.symm
  have hk0 : ¬ k = 0 := by omega
  have e3 : m.tmod k = r := by
    have hm0 : 0 ≤ m := by rw [hm, wrap_u]; exact Int.emod_nonneg _ (by decide)
    rw [Int.tmod_eq_emod_of_nonneg hm0, hm, wrap_u, hk, hl]
    exact HK.out.symm
  clear hl hk hm
  have hw1 : IntKind.i64.wrap r = r := by simp [IntKind.wrap, IntKind.bits, IntKind.signed]; omega
  have hw2 : IntKind.i64.wrap ((f : Int) + r) = p := by rw [← HP.out]; simp [IntKind.wrap, IntKind.bits, IntKind.signed]; have := HP.out; omega
  have HC1 := Lib.hid (HC.out _ (L6.below_drewN hb0 (nq + 1)))
  go_region_with (first | (go_at_call 44; refine HC1.out.mono ?_; rintro e w2 hp2; obtain ⟨rfl, hT2, hU2⟩ := hp2))
  clear e1 e2 e3 hw1 hw2 HQ
  have HQ2 := Lib.hid (fun k => end_left hT2 k)
  have HF2 := Lib.hid (fun k => hT2.fast_ k)
  obtain ⟨_, _, hb2, _⟩ := hT2
  have d2 : w2.cell? ⟨g, 2, none⟩ = some (.int .i64 t1.fast) := hb2.cell 2
  have d4 : w2.cell? ⟨g, 4, none⟩ = some (.bool t1.on) := hb2.cell 4
  have d5 : w2.cell? ⟨g, 5, none⟩ = some (.int .i64 (leftV t1)) := hb2.cell 5
  have f2 := hb2.frozen 2
  have f4 := hb2.frozen 4
  have f5 := hb2.frozen 5
  obtain ⟨s1, hs1⟩ : ∃ s1, s1 = t1.stop := ⟨_, rfl⟩
  rw [← hs1] at HQ2 HF2
  have HS1 := Lib.hid hs1
  clear hs1 hb2
  go_upto_region 6 with (first | (go_at_call 43; refine (HQ2.out 0).mono ?_; rintro e w3 ⟨rfl, m3, rfl⟩))
  have hT4 := (HF2.out m3).1
  have hU4 := (HF2.out m3).2
  refine name_world (fun w4 hw4 => ?_)
  rw [← hw4] at hT4 hU4
  clear hw4 d2 d4 d5 f2 f4 f5 HQ2 HF2
  have HR4 := Lib.hid hT4.reset
  obtain ⟨_, _, hb4, _⟩ := hT4
  have d4 : w4.cell? ⟨g, 4, none⟩ = some (.bool t1.on) := hb4.cell 4
  have d5 : w4.cell? ⟨g, 5, none⟩ = some (.int .i64 (leftV t1)) := hb4.cell 5
  have f4 := hb4.frozen 4
  have f5 := hb4.frozen 5
  have f5' : (w4.setCell ⟨g, 4, none⟩ (.bool true)).frozen? ⟨g, 5, none⟩ = false := (hb4.set_ 4 _).frozen 5
  clear hb4
  go_wp2
  go_ret
  obtain ⟨hT5, hU5⟩ := HR4.out
  rw [HS1.out] at hT5
  have e9 : ({ ({ t1 with fast := t1.stop } : Tp) with fuse := none, on := true } : Tp) = crashT t n := HE.out
  rw [e9] at hT5
  have hp4 : TpPost (.int .i64 0) (moreB (moreB S (w.drewN (nq + 1)) w2) w2 w4) g (crashT t n) w4 _ _ := ⟨rfl, hT5, hU5⟩
  exact ((hp4.after hU4).after hU2).back (L6.below_drewN hb0 (nq + 1))
end Go.Proofs.Ythhjdielananeaa
