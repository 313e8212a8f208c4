/-
  What a stroke does: all is held fast, the bytes ahead of a place are let go, those from a place on are taken back, one more byte stands at the end.
-/
import Derived.Test.YthhjdielananeaaTap3
set_option linter.unusedSimpArgs false
set_option linter.unusedVariables false
set_option maxRecDepth 10000
namespace Go.Proofs.Ythhjdielananeaa
open Go.RowKit Go.Lib
open L3 (Blk Reads block_of_add add_of_add)
open L6 (Turn moreB fresh From In)

set_option maxHeartbeats 1000000 in
set_option maxRecDepth 100000 in
theorem cut_any {w : World} {S : Nat → Prop} {g : Nat} {t : Tp} (h : Tpe w S g t) (p : Int) (h1 : (t.first : Int) ≤ p) (h2 : p ≤ (t.stop : Nat)) : Calls Try.prog 44 #[.pointer (some ⟨g, 0, none⟩), .int .i64 p] w (TpPost (.tuple #[]) S g { t with held := t.held.take (p.toNat - t.first), fast := min t.fast p.toNat } w) := by
  obtain ⟨A, c, hb, hr, hf, hg, hk⟩ := h
  have c1 : w.cell? ⟨g, 1, none⟩ = some (.int .i64 t.first) := hb.cell 1
  have c2 : w.cell? ⟨g, 2, none⟩ = some (.int .i64 t.fast) := hb.cell 2
  have c3 : w.cell? ⟨g, 3, none⟩ = some (.slice A t.held.length c) := hb.cell 3
  have f2 := hb.frozen 2
  have f3 := hb.frozen 3
  obtain ⟨_, hlc, hcm⟩ := hr.reads
  have hs := hf.2.stop
  unfold Tp.stop at h2
  obtain ⟨f, hf'⟩ : ∃ f, f = t.first := ⟨_, rfl⟩
  obtain ⟨n, hn⟩ : ∃ n, n = t.held.length := ⟨_, rfl⟩
  obtain ⟨s, hs'⟩ : ∃ s, s = t.fast := ⟨_, rfl⟩
  rw [← hf'] at c1 h1 h2 hs
  rw [← hn] at c3 h2 hs hlc
  rw [← hs'] at c2
  have g1 : ¬ p - (f : Int) < 0 := by omega
  have g2 : p - (f : Int) ≤ (c : Int) := by omega
  have HT := Lib.hid (show Tpe ((((w.setCell ⟨g, 3, none⟩ (.slice A (p.toNat - f) c)).setCell ⟨g, 2, none⟩ (.int .i64 (min (s : Int) p))).drew)) (moreB S w ((((w.setCell ⟨g, 3, none⟩ (.slice A (p.toNat - f) c)).setCell ⟨g, 2, none⟩ (.int .i64 (min (s : Int) p))).drew))) g { t with held := t.held.take (p.toNat - f), fast := min s p.toNat } ∧ Turn S w ((((w.setCell ⟨g, 3, none⟩ (.slice A (p.toNat - f) c)).setCell ⟨g, 2, none⟩ (.int .i64 (min (s : Int) p))).drew)) from by
    have hd : p.toNat - f ≤ t.held.length := by rw [← hn]; omega
    have hT : Turn (fun k => k = g) w (((w.setCell ⟨g, 3, none⟩ (.slice A (p.toNat - f) c)).setCell ⟨g, 2, none⟩ (.int .i64 (min (s : Int) p))).drew) := (((L6.Turn.refl (fun k => k = g) w).setCell (p := ⟨g, 3, none⟩) (.inl rfl) _).setCell (p := ⟨g, 2, none⟩) (.inl rfl) _).drew
    have hng : (Value.slice A t.held.length c).ownBlock ≠ some g := hr.ne hb (by decide)
    have hob : (Value.slice A (p.toNat - f) c).ownBlock = (Value.slice A t.held.length c).ownBlock := by cases A <;> rfl
    have hr2 := (hr.back hd).turn hT (fun k e e' => hng (by rw [← e', ← hob]; exact e))
    have hb2 : Blk (((w.setCell ⟨g, 3, none⟩ (.slice A (p.toNat - f) c)).setCell ⟨g, 2, none⟩ (.int .i64 (min (s : Int) p))).drew) g 88 (tpC { t with held := t.held.take (p.toNat - f), fast := min s p.toNat } (.slice A (p.toNat - f) c)) := by
      have := ((hb.set_ 3 (.slice A (p.toNat - f) c)).set_ 2 (.int .i64 (min (s : Int) p))).drew
      have e : ((tpC t (.slice A t.held.length c)).setIfInBounds 3 (.slice A (p.toNat - f) c)).setIfInBounds 2 (.int .i64 (min (s : Int) p)) = tpC { t with held := t.held.take (p.toNat - f), fast := min s p.toNat } (.slice A (p.toNat - f) c) := by
        have e2 : ((min s p.toNat : Nat) : Int) = min (s : Int) p := by omega
        unfold tpC leftV
        simp [e2]
      rw [e] at this
      exact this
    have hl : (t.held.take (p.toNat - f)).length = p.toNat - f := by rw [List.length_take]; omega
    refine ⟨⟨A, c, by show Blk _ _ _ (tpC _ (.slice A (t.held.take (p.toNat - f)).length c)); rw [hl]; exact hb2, by show Bts _ (.slice A (t.held.take (p.toNat - f)).length c) _; rw [hl]; exact hr2, ⟨⟨?_, ?_, ?_⟩, hf.2.room, ?_, hf.2.fuse⟩, .inl hg, fun k e => .inl (hk k ?_)⟩, hT.mono (fun k _ e => e ▸ hg)⟩
    · have := hf.1.f1
      show t.first ≤ min s p.toNat
      omega
    · have := hf.1.f2
      show min s p.toNat ≤ t.first + (t.held.take (p.toNat - f)).length
      rw [hl]; omega
    · have := hf.1.room
      show (t.held.take (p.toNat - f)).length ≤ t.room
      rw [hl]; omega
    · show t.first + (t.held.take (p.toNat - f)).length ≤ 1000000000
      rw [hl]; omega
    · rw [← hob]
      have e3 : (Value.slice A (t.held.take (p.toNat - f)).length c).ownBlock = (Value.slice A (p.toNat - f) c).ownBlock := by rw [hl]
      rw [← e3]; exact e)
  have HP : Hid (p.toNat - t.first = p.toNat - f) := Lib.hid (by rw [hf'])
  rw [← hs', HP.out]
  have c2' : (w.setCell ⟨g, 3, none⟩ (.slice A (p.toNat - f) c)).cell? ⟨g, 2, none⟩ = some (.int .i64 s) := by
    rw [World.cell?_setCell_other w _ _ _ (by simp)]; exact c2
  have hsi : (s : Int) ≤ 1000000000 := by have := hf.1.f2; omega
  have f2' : (w.setCell ⟨g, 3, none⟩ (.slice A (p.toNat - f) c)).frozen? ⟨g, 2, none⟩ = false := (hb.set_ 3 _).frozen 2
  clear hb hr hf hk hf' hn hs' HP hlc
  by_cases hps : p < (s : Int)
  · have hps' : ¬ (s : Int) ≤ p := by omega
    have e : min (s : Int) p = p := by omega
    rw [e] at HT
    clear e
    go_enter Try.func44, Try.ntmps44
    go_upto_region 0 with fail
    go_region
    go_wp2
    go_end0
    exact ⟨rfl, HT.out⟩
  · have e : min (s : Int) p = s := by omega
    rw [e] at HT
    clear e
    go_enter Try.func44, Try.ntmps44
    go_upto_region 0 with fail
    go_region
    go_wp2
    go_end0
    exact ⟨rfl, HT.out⟩

/-! One after another -/
theorem TpPost.after {v : Value} {S : Nat → Prop} {g : Nat} {t : Tp} {w w1 w2 : World} {e : Ending} (h1 : Turn S w w1) (h : TpPost v (moreB S w w1) g t w1 e w2) : TpPost v S g t w e w2 := by
  obtain ⟨he, hT, hU⟩ := h
  have s1 := h1.size
  have s2 := hU.size
  refine ⟨he, hT.mono fun k hk => ?_, h1.trans hU fun i hi => ?_⟩
  · rcases hk with (hk | hk) | hk
    · exact .inl hk
    · exact .inr ⟨hk.1, Nat.lt_of_lt_of_le hk.2 s2⟩
    · exact .inr ⟨Nat.le_trans s1 hk.1, hk.2⟩
  · rcases hi with hi | hi
    · exact .inl hi
    · exact .inr hi.1
theorem TpPost.back {v : Value} {S : Nat → Prop} {g : Nat} {t : Tp} {w w1 w2 : World} {e : Ending} (hb : Below w.heap.size w w1) (h : TpPost v S g t w1 e w2) : TpPost v S g t w e w2 := by
  obtain ⟨he, hT, hU⟩ := h
  have s1 := hb.size
  refine ⟨he, hT.mono fun k hk => ?_, (L6.Turn.of_keep (S := S) hb).trans hU fun i hi => .inl hi⟩
  rcases hk with hk | hk
  · exact .inl hk
  · exact .inr ⟨Nat.le_trans s1 hk.1, hk.2⟩
/-- One stroke, of whatever does F. -/
theorem strike_any {w : World} {S : Nat → Prop} {g : Nat} {t : Tp} (h : Tpe w S g t) (ho : t.on = true) (F : Tp → Tp) (f : Nat) (lb : Array Value) (eg : ∀ args w, (callFunc f args).run Try.prog w = .ok (.enter f args) w)
    (hd : ∀ w', Tpe w' (moreB S w w') g (t.burn 1) → Turn S w w' → Calls Try.prog f lb w' (TpPost (.tuple #[]) (moreB S w w') g (F (t.burn 1)) w')) :
    Calls Try.prog 59 #[.func (.func 60) #[.pointer (some ⟨g, 0, none⟩)] #[], .func (.func f) #[] lb] w (TpPost (.int .i64 (strokeE t)) S g (strokeT t F) w) := by
  have h0 : ¬ t.on = false := by rw [ho]; decide
  by_cases hc : t.can 1 = 0
  · have e1 : strokeE t = 170 := by unfold strokeE; rw [if_neg h0, if_pos hc]
    have e2 : strokeT t F = t.burn 1 := by unfold strokeT; rw [if_neg h0, if_pos hc]
    rw [e1, e2]
    exact strike_no h ho hc _
  · have e1 : strokeE t = 0 := by unfold strokeE; rw [if_neg h0, if_neg hc]
    have e2 : strokeT t F = F (t.burn 1) := by unfold strokeT; rw [if_neg h0, if_neg hc]
    rw [e1, e2]
    refine (strike_yes h ho hc f lb eg (fun w2 => ∃ w1, Turn S w w1 ∧ TpPost (.tuple #[]) (moreB S w w1) g (F (t.burn 1)) w1 (.returned (.tuple #[])) w2) (fun w' hT hU => (hd w' hT hU).mono fun e w'' hp => ⟨hp.1, w', hU, rfl, hp.2⟩)).mono ?_
    rintro e w2 ⟨rfl, w1, hU, hp⟩
    obtain ⟨_, h2⟩ := hp.after hU
    exact ⟨rfl, h2⟩

/-! What a stroke does -/
theorem Tpe.fast_ {w : World} {S : Nat → Prop} {g : Nat} {t : Tp} (h : Tpe w S g t) (n : Nat) : Tpe ((w.drewN n).setCell ⟨g, 2, none⟩ (.int .i64 (t.stop : Nat))) (moreB S w ((w.drewN n).setCell ⟨g, 2, none⟩ (.int .i64 (t.stop : Nat)))) g { t with fast := t.stop } ∧ Turn S w ((w.drewN n).setCell ⟨g, 2, none⟩ (.int .i64 (t.stop : Nat))) := by
  obtain ⟨A, c, hb, hr, hf, hg, hk⟩ := h
  refine Tpe.cells (t' := { t with fast := t.stop }) ?_ ((L6.Turn.of_keep (S := fun k => k = g) (L6.below_drewN (Below.refl _ w) n)).setCell (p := ⟨g, 2, none⟩) (.inl rfl) _) hb hr ⟨⟨?_, Nat.le_refl _, hf.1.room⟩, hf.2.room, hf.2.stop, hf.2.fuse⟩ hg hk rfl
  · exact (hb.drewN n).set_ 2 (.int .i64 (t.stop : Nat))
  · show t.first ≤ t.stop
    unfold Tp.stop; omega
theorem enters_hold : ∀ args w, (callFunc 74 args).run Try.prog w = .ok (.enter 74 args) w := enters_of Try.func74 (by kernel_rfl) rfl
set_option maxHeartbeats 1000000 in
set_option maxRecDepth 100000 in
theorem hold_do {w : World} {S : Nat → Prop} {g B : Nat} {t : Tp} (h : Tpe w S g t) (hB : w.cell? ⟨B, 0, none⟩ = some (.pointer (some ⟨g, 0, none⟩))) : Calls Try.prog 74 #[.pointer (some ⟨B, 0, none⟩)] w (TpPost (.tuple #[]) S g { t with fast := t.stop } w) := by
  have HE := Lib.hid (fun n => end_left h n)
  have HF := Lib.hid (fun n => h.fast_ n)
  obtain ⟨A, c, hb, _⟩ := h
  have c2 : w.cell? ⟨g, 2, none⟩ = some (.int .i64 t.fast) := hb.cell 2
  have f2 := hb.frozen 2
  obtain ⟨s, hs'⟩ : ∃ s, s = t.stop := ⟨_, rfl⟩
  rw [← hs'] at HE HF ⊢
  clear hb hs'
  go_enter Try.func74, Try.ntmps74
  go_upto_region 0 with fail
  go_region_with (first
    | (go_at_call 43; refine (HE.out 1).mono ?_; rintro e w1 ⟨rfl, m, rfl⟩))
  all_goals (go_end0; exact ⟨rfl, HF.out _⟩)
set_option maxHeartbeats 1000000 in
set_option maxRecDepth 100000 in
theorem hold_any {w : World} {S : Nat → Prop} {g : Nat} {t : Tp} (h : Tpe w S g t) (hS : In w S) : Calls Try.prog 71 #[.pointer (some ⟨g, 0, none⟩)] w (TpPost (.int .i64 (strokeE t)) S g (holdT t) w) := by
  obtain ⟨w1, hw1⟩ : ∃ w1, w.alloc (.cells #[.pointer (some ⟨g, 0, none⟩)] 46) = w1 := ⟨_, rfl⟩
  have hb1 : Below w.heap.size w w1 := by rw [← hw1]; exact below_new _ _
  have hB1 : Blk w1 w.heap.size 46 #[.pointer (some ⟨g, 0, none⟩)] := by rw [← hw1]; exact Blk.new _ _ _
  have hnB : ¬ S w.heap.size := fun hk => by have := hS _ hk; omega
  have h1 := h.below hb1
  have HR := Lib.hid (ready_any h1)
  obtain ⟨B, hB⟩ : ∃ B, B = w.heap.size := ⟨_, rfl⟩
  rw [← hB] at hB1 hnB
  have HB := Lib.hid hB
  have cB : w1.cell? ⟨B, 0, none⟩ = some (.pointer (some ⟨g, 0, none⟩)) := hB1.cell 0
  rcases Bool.eq_false_or_eq_true t.on with ho | ho
  · rw [if_neg (by rw [ho]; decide)] at HR
    have HX := Lib.hid (fun W (hW : Below w1.heap.size w1 W) => strike_any (h1.below hW) ho (fun x => { x with fast := x.stop }) 74 #[.pointer (some ⟨B, 0, none⟩)] enters_hold (fun w' hT hU => hold_do hT (hU.cell ((hB1.below hW hB1.lt).cell 0) hnB)))
    have HM := Lib.hid (fun W (hW : Below w1.heap.size w1 W) => (hB1.below hW hB1.lt).cell 0)
    have HO := Lib.hid (show holdT t = strokeT t fun x => { x with fast := x.stop } from rfl)
    clear h h1 hS ho hB1 hnB hB
    go_enter Try.func71, Try.ntmps71
    go_upto_region 1 with fail
    rw [← HB.out]
    clear hw1
    go_wp2_with (first
      | (go_at_call 48; refine HR.out.mono ?_; unfold gives; rintro e w2 ⟨rfl, hb2⟩
         have cB2 : w2.cell? ⟨B, 0, none⟩ = some (.pointer (some ⟨g, 0, none⟩)) := HM.out _ hb2
         have HX2 := Lib.hid (HX.out w2 hb2))
      | (go_at_call 59; refine HX2.out.mono ?_; rintro e w3 hp
         obtain ⟨rfl, hT3, hU3⟩ := hp)
      | go_in)
    go_ret
    rw [HO.out]
    exact TpPost.back (nxt hb1 hb2) ⟨rfl, hT3, hU3⟩
  · rw [if_pos ho] at HR
    have HE := Lib.hid (show strokeE t = 170 by unfold strokeE; rw [if_pos ho])
    have HO := Lib.hid (show holdT t = t by unfold holdT strokeT; rw [if_pos ho])
    have HH := Lib.hid h
    clear h h1 hS ho hB1 hnB hB
    go_enter Try.func71, Try.ntmps71
    go_upto_region 1 with fail
    rw [← HB.out]
    clear hw1
    go_wp2_with (first
      | (go_at_call 48; refine HR.out.mono ?_; unfold gives; rintro e w2 ⟨rfl, hb2⟩)
      | go_in)
    go_ret
    rw [HE.out, HO.out]
    exact TpPost.same HH.out rfl (nxt hb1 hb2)
end Go.Proofs.Ythhjdielananeaa
