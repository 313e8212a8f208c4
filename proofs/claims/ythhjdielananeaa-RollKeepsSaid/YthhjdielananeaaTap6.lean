/-
  The bytes from a place on taken back; what a tape tells of its bytes; a crash.
-/
import Derived.Test.YthhjdielananeaaTap4
set_option linter.unusedSimpArgs false
set_option linter.unusedVariables false
set_option maxRecDepth 10000
namespace Go.Proofs.Ythhjdielananeaa
open Go.RowKit Go.Lib
open L3 (Blk Reads block_of_add add_of_add)
open L6 (Turn moreB fresh From In)

theorem enters_back : ∀ args w, (callFunc 61 args).run Try.prog w = .ok (.enter 61 args) w := enters_of Try.func61 (by kernel_rfl) rfl
set_option maxHeartbeats 1000000 in
set_option maxRecDepth 100000 in
theorem back_do {w : World} {S : Nat → Prop} {g B P : Nat} {t : Tp} (h : Tpe w S g t) (p : Int) (h1 : (t.first : Int) ≤ p) (h2 : p ≤ (t.stop : Nat)) (hB : w.cell? ⟨B, 0, none⟩ = some (.pointer (some ⟨g, 0, none⟩))) (hP : w.cell? ⟨P, 0, none⟩ = some (.int .i64 p)) :
    Calls Try.prog 61 #[.pointer (some ⟨B, 0, none⟩), .pointer (some ⟨P, 0, none⟩)] w (TpPost (.tuple #[]) S g { t with held := t.held.take (p.toNat - t.first), fast := min t.fast p.toNat } w) := by
  have HC := Lib.hid (cut_any h p h1 h2)
  clear h h1 h2
  go_enter Try.func61, Try.ntmps61
  go_wp2_with (first
    | (go_at_call 44; refine HC.out.mono ?_; rintro e w2 hp
       obtain ⟨rfl, hT, hU⟩ := hp)
    | go_in)
  go_end0
  exact ⟨rfl, hT, hU⟩
/-- A box for the tape and one for the place, as Shed and Back have them. -/
structure Boxes (w w1 : World) (B P g : Nat) (p : Int) : Prop where
  b : Blk w1 B 46 #[.pointer (some ⟨g, 0, none⟩)]
  p : Blk w1 P 3 #[.int .i64 p]
  bw : Below w.heap.size w w1
  eB : B = w.heap.size
  eP : P = w.heap.size + 1
theorem boxes_mk (w : World) (g : Nat) (p : Int) : Boxes w ((w.alloc (.cells #[.pointer (some ⟨g, 0, none⟩)] 46)).alloc (.cells #[.int .i64 p] 3)) w.heap.size (w.heap.size + 1) g p := by
  have e : (w.alloc (.cells #[.pointer (some ⟨g, 0, none⟩)] 46)).heap.size = w.heap.size + 1 := by simp
  refine ⟨(Blk.new _ _ _).alloc _, ?_, nxt (below_new _ _) (below_new _ _), rfl, rfl⟩
  have := Blk.new (w.alloc (.cells #[.pointer (some ⟨g, 0, none⟩)] 46)) 3 #[.int .i64 p]
  rw [e] at this
  exact this
set_option maxHeartbeats 2000000 in
set_option maxRecDepth 100000 in
theorem back_any {w : World} {S : Nat → Prop} {g : Nat} {t : Tp} (h : Tpe w S g t) (hS : In w S) (p : Int) : Calls Try.prog 41 #[.pointer (some ⟨g, 0, none⟩), .int .i64 p] w (TpPost (.int .i64 (backE t p)) S g (backT t p) w) := by
  have hx := boxes_mk w g p
  obtain ⟨w1, hw1⟩ : ∃ w1, (w.alloc (.cells #[.pointer (some ⟨g, 0, none⟩)] 46)).alloc (.cells #[.int .i64 p] 3) = w1 := ⟨_, rfl⟩
  rw [hw1] at hx
  obtain ⟨B, hB⟩ : ∃ B, B = w.heap.size := ⟨_, rfl⟩
  obtain ⟨P, hP⟩ : ∃ P, P = w.heap.size + 1 := ⟨_, rfl⟩
  have hnB : ¬ S B := fun hk => by have := hS _ hk; omega
  have hnP : ¬ S P := fun hk => by have := hS _ hk; omega
  rw [← hP, ← hB] at hx
  have HB := Lib.hid hB
  have HP := Lib.hid hP
  have h1 := h.below hx.bw
  have hb1 := hx.bw
  have HR := Lib.hid (ready_any h1)
  have cB : w1.cell? ⟨B, 0, none⟩ = some (.pointer (some ⟨g, 0, none⟩)) := hx.b.cell 0
  have cP : w1.cell? ⟨P, 0, none⟩ = some (.int .i64 p) := hx.p.cell 0
  rcases Bool.eq_false_or_eq_true t.on with ho | ho
  · rw [if_neg (by rw [ho]; decide)] at HR
    have h0 : ¬ t.on = false := by rw [ho]; decide
    have HQ := Lib.hid (fun W (hW : Below w1.heap.size w1 W) n => end_left (h1.below hW) n)
    have HD := Lib.hid (fun W (hW : Below w1.heap.size w1 W) => h1.below hW)
    have HM := Lib.hid (fun W (hW : Below w1.heap.size w1 W) => And.intro ((hx.b.below hW hx.b.lt).cell 0) ((hx.p.below hW hx.p.lt).cell 0))
    have hF : ∀ W, Below w1.heap.size w1 W → W.cell? ⟨g, 1, none⟩ = some (.int .i64 t.first) := fun W hW => by obtain ⟨_, _, hb, _⟩ := h1.below hW; exact hb.cell 1
    have HF := Lib.hid hF
    obtain ⟨f, hf'⟩ : ∃ f, f = t.first := ⟨_, rfl⟩
    obtain ⟨s, hs'⟩ : ∃ s, s = t.stop := ⟨_, rfl⟩
    rw [← hf'] at HF
    rw [← hs'] at HQ
    by_cases hb : p < (f : Int) ∨ (s : Int) < p
    · have e1 : backE t p = 240 := by unfold backE; rw [if_neg h0, if_pos (by rw [hf', hs'] at hb; exact hb)]
      have e2 : backT t p = t := by unfold backT; rw [if_neg h0, if_pos (by rw [hf', hs'] at hb; exact hb)]
      have HE := Lib.hid (And.intro e1 e2)
      have HH := Lib.hid h
      clear h h1 hS ho hnB hnP hB hP hx e1 e2 h0 hF hf' hs'
      by_cases hpf : p < (f : Int)
      · have hd : decide (p < (f : Int)) = true := by simpa using hpf
        clear hb
        go_enter Try.func41, Try.ntmps41
        go_upto_region 1 with fail
        rw [← HP.out, ← HB.out]
        clear hw1
        go_upto_region 4 with (first
          | (go_at_call 48; refine HR.out.mono ?_; unfold gives; rintro e w2 ⟨rfl, hb2⟩)
          | go_in)
        have cB2 := (HM.out _ hb2).1
        have cP2 := (HM.out _ hb2).2
        have cF2 := HF.out _ hb2
        go_quiet (fail)
        go_wp2
        go_ret
        rw [HE.out.1, HE.out.2]
        exact TpPost.same HH.out rfl (L6.below_drewN (nxt hb1 hb2) _)
      · have hd : decide (p < (f : Int)) = false := by simpa using hpf
        have hps : (s : Int) < p := by omega
        clear hb
        go_enter Try.func41, Try.ntmps41
        go_upto_region 1 with fail
        rw [← HP.out, ← HB.out]
        clear hw1
        go_upto_region 4 with (first
          | (go_at_call 48; refine HR.out.mono ?_; unfold gives; rintro e w2 ⟨rfl, hb2⟩)
          | go_in)
        have cB2 := (HM.out _ hb2).1
        have cP2 := (HM.out _ hb2).2
        have cF2 := HF.out _ hb2
        go_quiet ((go_at_call 43; exact HQ.out _ hb2 _))
        go_wp2
        go_ret
        rw [HE.out.1, HE.out.2]
        exact TpPost.same HH.out rfl (L6.below_drewN (nxt hb1 hb2) _)
    · have hnb : ¬ (p < t.first ∨ ((t.stop : Nat) : Int) < p) := by rw [hf', hs'] at hb; exact hb
      have e1 : backE t p = strokeE t := by unfold backE; rw [if_neg h0, if_neg hnb]
      have e2 : backT t p = strokeT t fun x => { x with held := x.held.take (p.toNat - x.first), fast := min x.fast p.toNat } := by unfold backT; rw [if_neg h0, if_neg hnb]
      have HE := Lib.hid (And.intro e1 e2)
      obtain ⟨b1, b2, b3, b4⟩ := burn_same t 1
      have HX := Lib.hid (fun W (hW : Below w1.heap.size w1 W) => strike_any (h1.below hW) ho (fun x => { x with held := x.held.take (p.toNat - x.first), fast := min x.fast p.toNat }) 61 #[.pointer (some ⟨B, 0, none⟩), .pointer (some ⟨P, 0, none⟩)] enters_back
        (fun w' hT hU => back_do hT p (by rw [b1]; omega) (by unfold Tp.stop at *; rw [b1, b3]; omega) (hU.cell ((hx.b.below hW hx.b.lt).cell 0) hnB) (hU.cell ((hx.p.below hW hx.p.lt).cell 0) hnP)))
      have hpf : ¬ p < (f : Int) := by omega
      have hd : decide (p < (f : Int)) = false := by simpa using hpf
      have hps : ¬ (s : Int) < p := by omega
      clear h h1 hS ho hnB hnP hB hP hx e1 e2 h0 hF hf' hs' hb hnb b1 b2 b3 b4
      go_enter Try.func41, Try.ntmps41
      go_upto_region 1 with fail
      rw [← HP.out, ← HB.out]
      clear hw1
      go_upto_region 4 with (first
        | (go_at_call 48; refine HR.out.mono ?_; unfold gives; rintro e w2 ⟨rfl, hb2⟩)
        | go_in)
      have cB2 := (HM.out _ hb2).1
      have cP2 := (HM.out _ hb2).2
      have cF2 := HF.out _ hb2
      go_quiet ((go_at_call 43; exact HQ.out _ hb2 _))
      have hb3 : Below w1.heap.size w1 (w2.drewN nq) := L6.below_drewN hb2 _
      have HX2 := Lib.hid (HX.out _ hb3)
      go_wp2_with (first
        | (go_at_call 59; refine HX2.out.mono ?_; rintro e w3 hp
           obtain ⟨rfl, hT3, hU3⟩ := hp)
        | go_in)
      go_ret
      rw [HE.out.1, HE.out.2]
      exact TpPost.back (nxt hb1 hb3) ⟨rfl, hT3, hU3⟩
  · rw [if_pos ho] at HR
    have HE := Lib.hid (show backE t p = 170 by unfold backE; rw [if_pos ho])
    have HO := Lib.hid (show backT t p = t by unfold backT; rw [if_pos ho])
    have HH := Lib.hid h
    clear h h1 hS ho hnB hnP hB hP hx
    go_enter Try.func41, Try.ntmps41
    go_upto_region 1 with fail
    rw [← HP.out, ← HB.out]
    clear hw1
    go_wp2_with (first
      | (go_at_call 48; refine HR.out.mono ?_; unfold gives; rintro e w2 ⟨rfl, hb2⟩)
      | go_in)
    go_ret
    rw [HE.out, HO.out]
    exact TpPost.same HH.out rfl (nxt hb1 hb2)
end Go.Proofs.Ythhjdielananeaa
