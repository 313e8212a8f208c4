/-
  The bytes ahead of a place let go.
-/
import Derived.Test.YthhjdielananeaaTap6
set_option linter.unusedSimpArgs false
set_option linter.unusedVariables false
set_option maxRecDepth 10000
namespace Go.Proofs.Ythhjdielananeaa
open Go.RowKit Go.Lib
open L3 (Blk Reads block_of_add add_of_add)
open L6 (Turn moreB fresh From In)

theorem enters_shed : ∀ args w, (callFunc 64 args).run Try.prog w = .ok (.enter 64 args) w := enters_of Try.func64 (by kernel_rfl) rfl
set_option maxHeartbeats 2000000 in
set_option maxRecDepth 100000 in
theorem shed_do {w : World} {S : Nat → Prop} {g B P : Nat} {t : Tp} (h : Tpe w S g t) (p : Int) (h1 : (t.first : Int) ≤ p) (h2 : p ≤ t.fast) (hB : w.cell? ⟨B, 0, none⟩ = some (.pointer (some ⟨g, 0, none⟩))) (hP : w.cell? ⟨P, 0, none⟩ = some (.int .i64 p)) :
    Calls Try.prog 64 #[.pointer (some ⟨B, 0, none⟩), .pointer (some ⟨P, 0, none⟩)] w (TpPost (.tuple #[]) S g { t with first := p.toNat, held := t.held.drop (p.toNat - t.first) } w) := by
  obtain ⟨A, c, hb, hr, hf, hg, hk⟩ := h
  have c1 : w.cell? ⟨g, 1, none⟩ = some (.int .i64 t.first) := hb.cell 1
  have c3 : w.cell? ⟨g, 3, none⟩ = some (.slice A t.held.length c) := hb.cell 3
  have f1 := hb.frozen 1
  have f3 := hb.frozen 3
  obtain ⟨_, hlc, hcm⟩ := hr.reads
  have hs := hf.2.stop
  have hfa := hf.1.f2
  obtain ⟨f, hf'⟩ : ∃ f, f = t.first := ⟨_, rfl⟩
  obtain ⟨n, hn⟩ : ∃ n, n = t.held.length := ⟨_, rfl⟩
  have hc' : p.toNat - f ≤ n := by omega
  have HT := Lib.hid (fun q => show Tpe (((w.setCell ⟨g, 3, none⟩ (.slice (if c = p.toNat - f then A else A.map (·.add (p.toNat - f))) (n - (p.toNat - f)) (c - (p.toNat - f)))).setCell ⟨g, 1, none⟩ (.int .i64 p)).drewN q) (moreB S w (((w.setCell ⟨g, 3, none⟩ (.slice (if c = p.toNat - f then A else A.map (·.add (p.toNat - f))) (n - (p.toNat - f)) (c - (p.toNat - f)))).setCell ⟨g, 1, none⟩ (.int .i64 p)).drewN q)) g { t with first := p.toNat, held := t.held.drop (p.toNat - f) } ∧ Turn S w (((w.setCell ⟨g, 3, none⟩ (.slice (if c = p.toNat - f then A else A.map (·.add (p.toNat - f))) (n - (p.toNat - f)) (c - (p.toNat - f)))).setCell ⟨g, 1, none⟩ (.int .i64 p)).drewN q) from by
    rw [← hf'] at h1 hs hfa
    rw [← hn] at hs hfa hlc
    have hd : p.toNat - f ≤ t.held.length := by omega
    have hdl : (t.held.drop (p.toNat - f)).length = n - (p.toNat - f) := by rw [List.length_drop, hn]
    obtain ⟨hr2, hob⟩ := hr.shed hd
    rw [← hn] at hr2 hob
    have hng : (Value.slice A n c).ownBlock ≠ some g := by rw [hn]; exact hr.ne hb (by decide)
    obtain ⟨v, hv⟩ : ∃ v, v = Value.slice (if c = p.toNat - f then A else A.map (·.add (p.toNat - f))) (n - (p.toNat - f)) (c - (p.toNat - f)) := ⟨_, rfl⟩
    rw [← hv] at hr2 hob ⊢
    have hT : Turn (fun k => k = g) w (((w.setCell ⟨g, 3, none⟩ v).setCell ⟨g, 1, none⟩ (.int .i64 p)).drewN q) := (((L6.Turn.refl (fun k => k = g) w).setCell (p := ⟨g, 3, none⟩) (.inl rfl) _).setCell (p := ⟨g, 1, none⟩) (.inl rfl) _).kept (L6.below_drewN (Below.refl _ _) q)
    have hr3 := hr2.turn hT (fun k e e' => hng (by rw [← e', ← hob]; exact e))
    have hb2 : Blk (((w.setCell ⟨g, 3, none⟩ v).setCell ⟨g, 1, none⟩ (.int .i64 p)).drewN q) g 88 (tpC { t with first := p.toNat, held := t.held.drop (p.toNat - f) } v) := by
      have := ((hb.set_ 3 v).set_ 1 (.int .i64 p)).drewN q
      have e : ((tpC t (.slice A t.held.length c)).setIfInBounds 3 v).setIfInBounds 1 (.int .i64 p) = tpC { t with first := p.toNat, held := t.held.drop (p.toNat - f) } v := by
        have e2 : ((p.toNat : Nat) : Int) = p := by omega
        unfold tpC leftV
        simp [e2]
      rw [e] at this
      exact this
    refine ⟨⟨(if c = p.toNat - f then A else A.map (·.add (p.toNat - f))), c - (p.toNat - f), ?_, ?_, ⟨⟨?_, ?_, ?_⟩, hf.2.room, ?_, hf.2.fuse⟩, .inl hg, fun k e => .inl (hk k ?_)⟩, hT.mono (fun k _ e => e ▸ hg)⟩
    · show Blk _ _ _ (tpC _ (.slice _ (t.held.drop (p.toNat - f)).length _))
      rw [hdl, ← hv]; exact hb2
    · show Bts _ (.slice _ (t.held.drop (p.toNat - f)).length _) _
      rw [hdl, ← hv]; exact hr3
    · show p.toNat ≤ t.fast
      omega
    · show t.fast ≤ p.toNat + (t.held.drop (p.toNat - f)).length
      rw [hdl]; omega
    · have := hf.1.room
      show (t.held.drop (p.toNat - f)).length ≤ t.room
      rw [hdl]; omega
    · show p.toNat + (t.held.drop (p.toNat - f)).length ≤ 1000000000
      rw [hdl]; omega
    · rw [← hn, ← hob, hv]
      have e3 : ({ t with first := p.toNat, held := t.held.drop (p.toNat - f) } : Tp).held.length = n - (p.toNat - f) := hdl
      rw [e3] at e
      exact e)
  have HP : Hid (p.toNat - t.first = p.toNat - f) := Lib.hid (by rw [hf'])
  rw [HP.out]
  rw [← hf'] at c1 h1 hs hfa
  rw [← hn] at c3 hs hfa hlc
  have c1' : ∀ v, (w.setCell ⟨g, 3, none⟩ v).cell? ⟨g, 1, none⟩ = some (.int .i64 f) := fun v => by
    rw [World.cell?_setCell_other w _ _ _ (by simp)]; exact c1
  have f1' : ∀ v, (w.setCell ⟨g, 3, none⟩ v).frozen? ⟨g, 1, none⟩ = false := fun v => (hb.set_ 3 v).frozen 1
  have g1 : ¬ p - (f : Int) < 0 := by omega
  have g2 : p - (f : Int) ≤ (n : Int) := by omega
  clear hb hr hf hk hf' hn HP
  go_enter Try.func64, Try.ntmps64
  go_upto_region 0 with fail
  go_region
  go_end0
  exact ⟨rfl, HT.out 1⟩
set_option maxHeartbeats 2000000 in
set_option maxRecDepth 100000 in
theorem shed_any {w : World} {S : Nat → Prop} {g : Nat} {t : Tp} (h : Tpe w S g t) (hS : In w S) (p : Int) : Calls Try.prog 47 #[.pointer (some ⟨g, 0, none⟩), .int .i64 p] w (TpPost (.int .i64 (shedE t p)) S g (shedT t p) w) := by
  have hx := boxes_mk w g p
  obtain ⟨w1, hw1⟩ : ∃ w1, (w.alloc (.cells #[.pointer (some ⟨g, 0, none⟩)] 46)).alloc (.cells #[.int .i64 p] 3) = w1 := ⟨_, rfl⟩
  rw [hw1] at hx
  obtain ⟨B, hB⟩ : ∃ B, B = w.heap.size := ⟨_, rfl⟩
  obtain ⟨P, hP⟩ : ∃ P, P = w.heap.size + 1 := ⟨_, rfl⟩
  have hnB : ¬ S B := fun hk => by have := hS _ hk; omega
  have hnP : ¬ S P := fun hk => by have := hS _ hk; omega
  rw [← hP, ← hB] at hx
  have HB := Lib.hid hB
  have HP := Lib.hid hP
  have h1 := h.below hx.bw
  have hb1 := hx.bw
  have HR := Lib.hid (ready_any h1)
  have cB : w1.cell? ⟨B, 0, none⟩ = some (.pointer (some ⟨g, 0, none⟩)) := hx.b.cell 0
  have cP : w1.cell? ⟨P, 0, none⟩ = some (.int .i64 p) := hx.p.cell 0
  rcases Bool.eq_false_or_eq_true t.on with ho | ho
  · rw [if_neg (by rw [ho]; decide)] at HR
    have h0 : ¬ t.on = false := by rw [ho]; decide
    have HD := Lib.hid (fun W (hW : Below w1.heap.size w1 W) => h1.below hW)
    have HM := Lib.hid (fun W (hW : Below w1.heap.size w1 W) => And.intro ((hx.b.below hW hx.b.lt).cell 0) ((hx.p.below hW hx.p.lt).cell 0))
    have hF : ∀ W, Below w1.heap.size w1 W → W.cell? ⟨g, 1, none⟩ = some (.int .i64 t.first) := fun W hW => by obtain ⟨_, _, hb, _⟩ := h1.below hW; exact hb.cell 1
    have hF2 : ∀ W, Below w1.heap.size w1 W → W.cell? ⟨g, 2, none⟩ = some (.int .i64 t.fast) := fun W hW => by obtain ⟨_, _, hb, _⟩ := h1.below hW; exact hb.cell 2
    have HF2 := Lib.hid hF2
    have HF := Lib.hid hF
    obtain ⟨f, hf'⟩ : ∃ f, f = t.first := ⟨_, rfl⟩
    obtain ⟨s, hs'⟩ : ∃ s, s = t.fast := ⟨_, rfl⟩
    rw [← hf'] at HF
    rw [← hs'] at HF2
    by_cases hb : p < (f : Int) ∨ (s : Int) < p
    · have e1 : shedE t p = 240 := by unfold shedE; rw [if_neg h0, if_pos (by rw [hf', hs'] at hb; exact hb)]
      have e2 : shedT t p = t := by unfold shedT; rw [if_neg h0, if_pos (by rw [hf', hs'] at hb; exact hb)]
      have HE := Lib.hid (And.intro e1 e2)
      have HH := Lib.hid h
      clear h h1 hS ho hnB hnP hB hP hx e1 e2 h0 hF hF2 hf' hs'
      by_cases hpf : p < (f : Int)
      · have hd : decide (p < (f : Int)) = true := by simpa using hpf
        clear hb
        go_enter Try.func47, Try.ntmps47
        go_upto_region 1 with fail
        rw [← HP.out, ← HB.out]
        clear hw1
        go_upto_region 4 with (first
          | (go_at_call 48; refine HR.out.mono ?_; unfold gives; rintro e w2 ⟨rfl, hb2⟩)
          | go_in)
        have cB2 := (HM.out _ hb2).1
        have cP2 := (HM.out _ hb2).2
        have cF2 := HF.out _ hb2
        have cG2 := HF2.out _ hb2
        go_quiet (fail)
        go_wp2
        go_ret
        rw [HE.out.1, HE.out.2]
        exact TpPost.same HH.out rfl (L6.below_drewN (nxt hb1 hb2) _)
      · have hd : decide (p < (f : Int)) = false := by simpa using hpf
        have hps : (s : Int) < p := by omega
        clear hb
        go_enter Try.func47, Try.ntmps47
        go_upto_region 1 with fail
        rw [← HP.out, ← HB.out]
        clear hw1
        go_upto_region 4 with (first
          | (go_at_call 48; refine HR.out.mono ?_; unfold gives; rintro e w2 ⟨rfl, hb2⟩)
          | go_in)
        have cB2 := (HM.out _ hb2).1
        have cP2 := (HM.out _ hb2).2
        have cF2 := HF.out _ hb2
        have cG2 := HF2.out _ hb2
        go_quiet (fail)
        go_wp2
        go_ret
        rw [HE.out.1, HE.out.2]
        exact TpPost.same HH.out rfl (L6.below_drewN (nxt hb1 hb2) _)
    · have hnb : ¬ (p < t.first ∨ (t.fast : Int) < p) := by rw [hf', hs'] at hb; exact hb
      have e1 : shedE t p = strokeE t := by unfold shedE; rw [if_neg h0, if_neg hnb]
      have e2 : shedT t p = strokeT t fun x => { x with first := p.toNat, held := x.held.drop (p.toNat - x.first) } := by unfold shedT; rw [if_neg h0, if_neg hnb]
      have HE := Lib.hid (And.intro e1 e2)
      obtain ⟨b1, b2, b3, b4⟩ := burn_same t 1
      have HX := Lib.hid (fun W (hW : Below w1.heap.size w1 W) => strike_any (h1.below hW) ho (fun x => { x with first := p.toNat, held := x.held.drop (p.toNat - x.first) }) 64 #[.pointer (some ⟨B, 0, none⟩), .pointer (some ⟨P, 0, none⟩)] enters_shed
        (fun w' hT hU => shed_do hT p (by rw [b1]; omega) (by rw [b2]; omega) (hU.cell ((hx.b.below hW hx.b.lt).cell 0) hnB) (hU.cell ((hx.p.below hW hx.p.lt).cell 0) hnP)))
      have hpf : ¬ p < (f : Int) := by omega
      have hd : decide (p < (f : Int)) = false := by simpa using hpf
      have hps : ¬ (s : Int) < p := by omega
      clear h h1 hS ho hnB hnP hB hP hx e1 e2 h0 hF hF2 hf' hs' hb hnb b1 b2 b3 b4
      go_enter Try.func47, Try.ntmps47
      go_upto_region 1 with fail
      rw [← HP.out, ← HB.out]
      clear hw1
      go_upto_region 4 with (first
        | (go_at_call 48; refine HR.out.mono ?_; unfold gives; rintro e w2 ⟨rfl, hb2⟩)
        | go_in)
      have cB2 := (HM.out _ hb2).1
      have cP2 := (HM.out _ hb2).2
      have cF2 := HF.out _ hb2
      have cG2 := HF2.out _ hb2
      go_quiet (fail)
      have hb3 : Below w1.heap.size w1 (w2.drewN nq) := L6.below_drewN hb2 _
      have HX2 := Lib.hid (HX.out _ hb3)
      go_wp2_with (first
        | (go_at_call 59; refine HX2.out.mono ?_; rintro e w3 hp
           obtain ⟨rfl, hT3, hU3⟩ := hp)
        | go_in)
      go_ret
      rw [HE.out.1, HE.out.2]
      exact TpPost.back (nxt hb1 hb3) ⟨rfl, hT3, hU3⟩
  · rw [if_pos ho] at HR
    have HE := Lib.hid (show shedE t p = 170 by unfold shedE; rw [if_pos ho])
    have HO := Lib.hid (show shedT t p = t by unfold shedT; rw [if_pos ho])
    have HH := Lib.hid h
    clear h h1 hS ho hnB hnP hB hP hx
    go_enter Try.func47, Try.ntmps47
    go_upto_region 1 with fail
    rw [← HP.out, ← HB.out]
    clear hw1
    go_wp2_with (first
      | (go_at_call 48; refine HR.out.mono ?_; unfold gives; rintro e w2 ⟨rfl, hb2⟩)
      | go_in)
    go_ret
    rw [HE.out, HO.out]
    exact TpPost.same HH.out rfl (nxt hb1 hb2)
end Go.Proofs.Ythhjdielananeaa
