/-
  A right roll, what a call does where power lasts, and what a crash leaves wherever power goes, plainly. No program in this text.
-/
import Derived.Test.YthhjdielananeaaRp
set_option linter.unusedSimpArgs false
set_option linter.unusedVariables false
namespace Go.Proofs.Ythhjdielananeaa

/-- A tape with these entries alone, all of it fast, power on, no fuse. -/
structure RgT (L : List Ent) (t : Tp) : Prop where
  on : t.on = true
  fuse : t.fuse = none
  held : t.held = flatE L
  fast : t.fast = t.stop
  ok : t.ok
theorem may_next {L : List Ent} {kind : Int} {b : List UInt8} (hn : 1 ≤ nextE L ∧ nextE L ≤ 4611686018427387904) (hk : kind = 1 ∨ kind = 2) (hb : b.length ≤ 4194304) : mayE ⟨nextE L, kind, b⟩ = 0 := by
  unfold mayE
  dsimp only
  rw [if_neg (by omega), if_neg (by omega)]
theorem ask_right {L : List Ent} {kind : Int} {b : List UInt8} (hx : mayE ⟨nextE L, kind, b⟩ = 0) : askE (rlOf L) kind b = 0 := by
  unfold askE
  have h : (rlOf L).broken = false := rfl
  rw [h, if_neg (by decide)]
  exact hx
theorem rises_more {L : List Ent} {kind : Int} {b : List UInt8} (hr : risesE L) (hx : mayE ⟨nextE L, kind, b⟩ = 0) : risesE (L ++ [⟨nextE L, kind, b⟩]) := rises_snoc L _ hr hx (.inr rfl)
theorem flat_snoc (L : List Ent) (x : Ent) : flatE (L ++ [x]) = flatE L ++ lineE x := by
  unfold flatE
  rw [List.flatMap_append]
  simp
theorem flat_one (x : Ent) : flatE [x] = lineE x := by unfold flatE; simp
/-- A line kept with power that lasts. -/
theorem keep_free {L : List Ent} {t : Tp} (h : RgT L t) (s : List UInt8) (hroom : t.held.length + s.length ≤ t.room) :
    keepE t s = 0 ∧ keepT t s = { t with held := t.held ++ s, fast := t.stop + s.length } := by
  have hc : ∀ n, t.can n = n := fun n => by unfold Tp.can; rw [h.fuse]
  have hb : ∀ n, t.burn n = t := fun n => by unfold Tp.burn; rw [h.fuse]
  have e1 : writeE t s = 0 := by
    unfold writeE
    rw [if_neg (by rw [h.on]; decide), if_neg (by omega), hc, if_neg (Nat.lt_irrefl _)]
  have e2 : writeT t s = { t with held := t.held ++ s } := by
    unfold writeT
    rw [if_neg (by rw [h.on]; decide), if_neg (by omega), hb, hc, List.take_length]
  have c1 : ({ t with held := t.held ++ s } : Tp).can 1 = 1 := by unfold Tp.can; dsimp only; rw [h.fuse]
  have b1 : ({ t with held := t.held ++ s } : Tp).burn 1 = { t with held := t.held ++ s } := by unfold Tp.burn; dsimp only; rw [h.fuse]
  refine ⟨?_, ?_⟩
  · unfold keepE
    rw [e1, if_neg (by decide), e2]
    unfold strokeE
    rw [c1]
    dsimp only
    rw [if_neg (by rw [h.on]; decide), if_neg (by decide)]
  · unfold keepT
    rw [e1, if_neg (by decide), e2]
    unfold holdT strokeT
    rw [c1, b1]
    dsimp only
    rw [if_neg (by rw [h.on]; decide), if_neg (by decide)]
    unfold Tp.stop
    dsimp only
    rw [List.length_append, Nat.add_assoc]
/-- An entry more, with power that lasts. -/
theorem put_right {L : List Ent} {t : Tp} (h : RgT L t) {kind : Int} {b : List UInt8} (hx : mayE ⟨nextE L, kind, b⟩ = 0) (hroom : t.held.length + (lineE ⟨nextE L, kind, b⟩).length ≤ t.room) :
    putE (rlOf L) t kind b = 0 ∧ putR (rlOf L) t kind b = rlOf (L ++ [⟨nextE L, kind, b⟩]) ∧ RgT (L ++ [⟨nextE L, kind, b⟩]) (putT (rlOf L) t kind b) ∧
      putT (rlOf L) t kind b = { t with held := t.held ++ lineE ⟨nextE L, kind, b⟩, fast := t.stop + (lineE ⟨nextE L, kind, b⟩).length } := by
  obtain ⟨k1, k2⟩ := keep_free h (lineE ⟨nextE L, kind, b⟩) hroom
  have ha := ask_right hx
  have hn : (rlOf L).next = nextE L := rfl
  have e1 : putE (rlOf L) t kind b = 0 := by unfold putE; rw [ha, if_neg (by decide), hn, k1]
  have e2 : putT (rlOf L) t kind b = { t with held := t.held ++ lineE ⟨nextE L, kind, b⟩, fast := t.stop + (lineE ⟨nextE L, kind, b⟩).length } := by unfold putT; rw [ha, if_neg (by decide), hn, k2]
  have e3 : putR (rlOf L) t kind b = rlOf (L ++ [⟨nextE L, kind, b⟩]) := by unfold putR; rw [ha, if_neg (by decide), hn, k1, if_neg (by decide), cnt_snoc]
  refine ⟨e1, e3, ?_, e2⟩
  rw [e2]
  refine ⟨h.on, h.fuse, ?_, ?_, ?_, ?_, ?_⟩
  · dsimp only
    rw [h.held, flat_snoc]
  · unfold Tp.stop
    dsimp only
    rw [List.length_append, Nat.add_assoc]
  · have := h.ok.f1
    have := h.ok.f2
    dsimp only
    unfold Tp.stop
    omega
  · dsimp only
    unfold Tp.stop
    rw [List.length_append]
    omega
  · dsimp only
    rw [List.length_append]
    exact hroom
theorem rl_sum {L : List Ent} {x : Ent} (hk : x.kind = 2) : rlOf (L ++ [x]) = rlOf [x] := by
  unfold rlOf
  rw [next_snoc, sum_snoc, recs_snoc, if_pos hk, if_pos hk]
  have e1 : nextE [x] = x.num + 1 := next_snoc [] x
  have e2 : sumE [x] = x.b := by have := sum_snoc [] x; rw [if_pos hk] at this; exact this
  have e3 : recsE [x] = [] := by have := recs_snoc [] x; rw [if_pos hk] at this; exact this
  rw [e1, e2, e3]
/-- A summary, with power that lasts. -/
theorem sum_right {L : List Ent} {t : Tp} (h : RgT L t) {b : List UInt8} (hx : mayE ⟨nextE L, 2, b⟩ = 0) (hroom : t.held.length + (lineE ⟨nextE L, 2, b⟩).length ≤ t.room) :
    sumEE (rlOf L) t b = 0 ∧ sumR (rlOf L) t b = rlOf [⟨nextE L, 2, b⟩] ∧ RgT [⟨nextE L, 2, b⟩] (sumT (rlOf L) t b) ∧ (sumT (rlOf L) t b).stop = t.stop + (lineE ⟨nextE L, 2, b⟩).length ∧ (sumT (rlOf L) t b).room = t.room := by
  obtain ⟨e1, e2, e3, e4⟩ := put_right h hx hroom
  obtain ⟨s, hs⟩ : ∃ s, s = lineE ⟨nextE L, 2, b⟩ := ⟨_, rfl⟩
  rw [← hs] at e4 hroom ⊢
  have hf := h.fast
  have hst : t.stop = t.first + t.held.length := rfl
  have q1 : shedE (putT (rlOf L) t 2 b) (t.stop : Nat) = 0 := by
    rw [e4]
    unfold shedE strokeE
    have c1 : ({ t with held := t.held ++ s, fast := t.stop + s.length } : Tp).can 1 = 1 := by unfold Tp.can; dsimp only; rw [h.fuse]
    rw [c1]
    dsimp only
    rw [if_neg (by rw [h.on]; decide), if_neg (by omega), if_neg (by rw [h.on]; decide), if_neg (by decide)]
  have q2 : shedT (putT (rlOf L) t 2 b) (t.stop : Nat) = { t with first := t.stop, held := s, fast := t.stop + s.length } := by
    rw [e4]
    unfold shedT strokeT
    have c1 : ({ t with held := t.held ++ s, fast := t.stop + s.length } : Tp).can 1 = 1 := by unfold Tp.can; dsimp only; rw [h.fuse]
    have b1 : ({ t with held := t.held ++ s, fast := t.stop + s.length } : Tp).burn 1 = { t with held := t.held ++ s, fast := t.stop + s.length } := by unfold Tp.burn; dsimp only; rw [h.fuse]
    rw [c1, b1]
    dsimp only
    rw [if_neg (by rw [h.on]; decide), if_neg (by omega), if_neg (by rw [h.on]; decide), if_neg (by decide)]
    have e5 : ((t.stop : Nat) : Int).toNat - t.first = t.held.length := by omega
    rw [e5, List.drop_left, Int.toNat_natCast]
  have h1 : sumEE (rlOf L) t b = 0 := by unfold sumEE; rw [e1, if_neg (by decide), q1]
  have h2 : sumT (rlOf L) t b = { t with first := t.stop, held := s, fast := t.stop + s.length } := by unfold sumT; rw [e1, if_neg (by decide), q2]
  have h3 : sumR (rlOf L) t b = rlOf [⟨nextE L, 2, b⟩] := by
    unfold sumR
    rw [e1, if_neg (by decide), q1, e2]
    unfold toldR
    rw [if_neg (by decide)]
    exact rl_sum rfl
  refine ⟨h1, h3, ?_, ?_, ?_⟩
  · rw [h2]
    refine ⟨h.on, h.fuse, ?_, rfl, Nat.le_add_right _ _, Nat.le_refl _, ?_⟩
    · dsimp only
      rw [hs, flat_one]
    · dsimp only
      omega
  · rw [h2]; rfl
  · rw [h2]

/-! Wherever the power goes -/
/-- What a crash leaves. -/
structure Left (M : List Ent) (tn : List UInt8) (t : Tp) : Prop where
  on : t.on = true
  fuse : t.fuse = none
  held : t.held = flatE M ++ tn
  free : (0 : UInt8) ∉ tn
theorem crash_left {t : Tp} (keep : Int) (ho : t.ok) : ∃ j, j ≤ t.stop - t.fast ∧ (crashT t keep).held = t.held.take (t.fast - t.first + j) ∧ (crashT t keep).on = true ∧ (crashT t keep).fuse = none := ⟨keepN t keep, keepN_le t keep, rfl, rfl, rfl⟩
/-- A line that isn't fast, or a part of it. -/
theorem crash_part {L : List Ent} {x : Ent} {t : Tp} (keep : Int) (ho : t.ok) (k : Nat) (hh : t.held = flatE L ++ (lineE x).take k) (hf : t.fast - t.first = (flatE L).length) :
    (∃ tn, Left L tn (crashT t keep)) ∨ Left (L ++ [x]) [] (crashT t keep) := by
  obtain ⟨j, hj, e1, e2, e3⟩ := crash_left keep ho
  have e4 : (crashT t keep).held = flatE L ++ ((lineE x).take k).take j := by
    rw [e1, hf, hh, List.take_length_add_append]
  rw [List.take_take] at e4
  rcases line_part x (min j k) with h | h
  · right
    refine ⟨e2, e3, ?_, by simp⟩
    rw [e4, h, flat_snoc, List.append_nil]
  · left
    exact ⟨_, e2, e3, e4, h⟩
/-- All is fast. -/
theorem crash_whole {M : List Ent} {t : Tp} (keep : Int) (ho : t.ok) (hh : t.held = flatE M) (hf : t.fast = t.stop) : Left M [] (crashT t keep) := by
  obtain ⟨j, hj, e1, e2, e3⟩ := crash_left keep ho
  refine ⟨e2, e3, ?_, by simp⟩
  have : t.stop = t.first + t.held.length := rfl
  rw [e1, List.append_nil, List.take_of_length_le (by omega), hh]
/-- An entry under way, where the power lasts for k strokes. -/
theorem put_fused {L : List Ent} {t : Tp} (h : RgT L t) {kind : Int} {b : List UInt8} (k : Nat) (hx : mayE ⟨nextE L, kind, b⟩ = 0) (hroom : t.held.length + (lineE ⟨nextE L, kind, b⟩).length ≤ t.room) :
    (putE (rlOf L) { t with fuse := some k } kind b = 170 ∧ ∃ j, putT (rlOf L) { t with fuse := some k } kind b = { t with held := t.held ++ (lineE ⟨nextE L, kind, b⟩).take j, fuse := some 0, on := false }) ∨
    (∃ i, putE (rlOf L) { t with fuse := some k } kind b = 0 ∧ putT (rlOf L) { t with fuse := some k } kind b = { t with held := t.held ++ lineE ⟨nextE L, kind, b⟩, fast := t.stop + (lineE ⟨nextE L, kind, b⟩).length, fuse := some i }) := by
  have ha := ask_right hx
  have hn : (rlOf L).next = nextE L := rfl
  obtain ⟨s, hs⟩ : ∃ s, s = lineE ⟨nextE L, kind, b⟩ := ⟨_, rfl⟩
  have e1 : putE (rlOf L) { t with fuse := some k } kind b = keepE { t with fuse := some k } s := by unfold putE; rw [ha, if_neg (by decide), hn, hs]
  have e2 : putT (rlOf L) { t with fuse := some k } kind b = keepT { t with fuse := some k } s := by unfold putT; rw [ha, if_neg (by decide), hn, hs]
  rw [e1, e2]
  rw [← hs] at hroom ⊢
  have hc : ∀ n, ({ t with fuse := some k } : Tp).can n = min n k := fun n => rfl
  rcases Nat.lt_or_ge k s.length with hk | hk
  · left
    have w1 : writeE { t with fuse := some k } s = 170 := by
      unfold writeE
      rw [hc]
      dsimp only
      rw [if_neg (by rw [h.on]; decide), if_neg (by omega), if_pos (by omega)]
    have w2 : writeT { t with fuse := some k } s = { t with held := t.held ++ s.take k, fuse := some 0, on := false } := by
      unfold writeT
      rw [hc]
      dsimp only
      rw [if_neg (by rw [h.on]; decide), if_neg (by omega)]
      unfold Tp.burn
      dsimp only
      rw [if_neg (by omega), Nat.min_eq_right (by omega)]
    refine ⟨?_, k, ?_⟩
    · unfold keepE
      rw [w1, if_pos (by decide)]
    · unfold keepT
      rw [w1, if_pos (by decide), w2]
  · have w1 : writeE { t with fuse := some k } s = 0 := by
      unfold writeE
      rw [hc]
      dsimp only
      rw [if_neg (by rw [h.on]; decide), if_neg (by omega), if_neg (by omega)]
    have w2 : writeT { t with fuse := some k } s = { t with held := t.held ++ s, fuse := some (k - s.length) } := by
      unfold writeT
      rw [hc]
      dsimp only
      rw [if_neg (by rw [h.on]; decide), if_neg (by omega)]
      unfold Tp.burn
      dsimp only
      rw [if_pos hk, Nat.min_eq_left hk, List.take_length]
    rcases Nat.eq_zero_or_pos (k - s.length) with h0 | h0
    · left
      rw [h0] at w2
      have s1 : strokeE { t with held := t.held ++ s, fuse := some 0 } = 170 := by
        unfold strokeE Tp.can
        dsimp only
        rw [if_neg (by rw [h.on]; decide), if_pos (by simp)]
      have s2 : holdT { t with held := t.held ++ s, fuse := some 0 } = { t with held := t.held ++ s, fuse := some 0, on := false } := by
        unfold holdT strokeT Tp.can Tp.burn
        dsimp only
        rw [if_neg (by rw [h.on]; decide), if_pos (by simp), if_neg (by decide)]
      refine ⟨?_, s.length, ?_⟩
      · unfold keepE
        rw [w1, if_neg (by decide), w2, s1]
      · unfold keepT
        rw [w1, if_neg (by decide), w2, s2, List.take_length]
    · right
      obtain ⟨i, hi⟩ : ∃ i, k - s.length = i + 1 := ⟨k - s.length - 1, by omega⟩
      rw [hi] at w2
      have s1 : strokeE { t with held := t.held ++ s, fuse := some (i + 1) } = 0 := by
        unfold strokeE Tp.can
        dsimp only
        rw [if_neg (by rw [h.on]; decide), if_neg (by omega)]
      have s2 : holdT { t with held := t.held ++ s, fuse := some (i + 1) } = { t with held := t.held ++ s, fast := t.stop + s.length, fuse := some i } := by
        unfold holdT strokeT Tp.can Tp.burn
        dsimp only
        rw [if_neg (by rw [h.on]; decide), if_neg (by omega), if_pos (by omega), Nat.add_sub_cancel]
        unfold Tp.stop
        dsimp only
        rw [List.length_append, Nat.add_assoc]
      refine ⟨i, ?_, ?_⟩
      · unfold keepE
        rw [w1, if_neg (by decide), w2, s1]
      · unfold keepT
        rw [w1, if_neg (by decide), w2, s2]
theorem whole_ok {t : Tp} (h : t.ok) (s : List UInt8) (hroom : t.held.length + s.length ≤ t.room) (f : Option Nat) (o : Bool) (fa : Nat) (hfa : fa = t.fast ∨ fa = t.stop + s.length) (j : Nat) (hj : fa = t.stop + s.length → s.length ≤ j) : ({ t with held := t.held ++ s.take j, fast := fa, fuse := f, on := o } : Tp).ok := by
  have h1 := h.f1
  have h2 := h.f2
  have hst : t.stop = t.first + t.held.length := rfl
  have hl : (t.held ++ s.take j).length = t.held.length + min j s.length := by rw [List.length_append, List.length_take]
  refine ⟨?_, ?_, ?_⟩
  · show t.first ≤ fa
    omega
  · show fa ≤ t.first + (t.held ++ s.take j).length
    rw [hl]
    rcases hfa with hf | hf
    · omega
    · have := hj hf; omega
  · show (t.held ++ s.take j).length ≤ t.room
    rw [hl]; omega
/-- What is left behind a record under way and a crash. -/
theorem add_crash {L : List Ent} {t : Tp} (h : RgT L t) {b : List UInt8} (k : Nat) (keep : Int) (hx : mayE ⟨nextE L, 1, b⟩ = 0) (hroom : t.held.length + (lineE ⟨nextE L, 1, b⟩).length ≤ t.room) :
    (addE (rlOf L) { t with fuse := some k } b ≠ 0 ∧ ∃ tn, Left L tn (crashT (putT (rlOf L) { t with fuse := some k } 1 b) keep)) ∨ Left (L ++ [⟨nextE L, 1, b⟩]) [] (crashT (putT (rlOf L) { t with fuse := some k } 1 b) keep) := by
  have hst : t.stop = t.first + t.held.length := rfl
  rcases put_fused h k hx hroom with ⟨e1, j, e2⟩ | ⟨i, e1, e2⟩
  · have hok := whole_ok h.ok _ hroom (some 0) false t.fast (.inl rfl) j (fun hj => by have := h.fast; have := line_pos (⟨nextE L, 1, b⟩ : Ent); omega)
    rw [e2]
    rcases crash_part (t := { t with held := t.held ++ (lineE ⟨nextE L, 1, b⟩).take j, fuse := some 0, on := false }) keep hok j (by dsimp only; rw [h.held]) (by have := h.fast; dsimp only; rw [← h.held]; omega) with hl | hl
    · exact .inl ⟨by unfold addE; rw [e1]; decide, hl⟩
    · exact .inr hl
  · right
    have hok := whole_ok h.ok _ hroom (some i) t.on (t.stop + (lineE ⟨nextE L, 1, b⟩).length) (.inr rfl) (lineE ⟨nextE L, 1, b⟩).length (fun _ => Nat.le_refl _)
    rw [List.take_length] at hok
    rw [e2]
    exact crash_whole keep hok (by dsimp only; rw [h.held, flat_snoc]) (by unfold Tp.stop; dsimp only; rw [List.length_append, Nat.add_assoc])
/-- What is left behind a summary under way and a crash. -/
theorem sum_crash {L : List Ent} {t : Tp} (h : RgT L t) {b : List UInt8} (k : Nat) (keep : Int) (hx : mayE ⟨nextE L, 2, b⟩ = 0) (hroom : t.held.length + (lineE ⟨nextE L, 2, b⟩).length ≤ t.room) :
    (sumEE (rlOf L) { t with fuse := some k } b ≠ 0 ∧ ∃ tn, Left L tn (crashT (sumT (rlOf L) { t with fuse := some k } b) keep)) ∨ Left (L ++ [⟨nextE L, 2, b⟩]) [] (crashT (sumT (rlOf L) { t with fuse := some k } b) keep) ∨ Left [⟨nextE L, 2, b⟩] [] (crashT (sumT (rlOf L) { t with fuse := some k } b) keep) := by
  have hst : t.stop = t.first + t.held.length := rfl
  rcases put_fused h k hx hroom with ⟨e1, j, e2⟩ | ⟨i, e1, e2⟩
  · have hok := whole_ok h.ok _ hroom (some 0) false t.fast (.inl rfl) j (fun hj => by have := h.fast; have := line_pos (⟨nextE L, 2, b⟩ : Ent); omega)
    have e3 : sumT (rlOf L) { t with fuse := some k } b = putT (rlOf L) { t with fuse := some k } 2 b := by unfold sumT; rw [e1, if_pos (by decide)]
    rw [e3, e2]
    rcases crash_part (t := { t with held := t.held ++ (lineE ⟨nextE L, 2, b⟩).take j, fuse := some 0, on := false }) keep hok j (by dsimp only; rw [h.held]) (by have := h.fast; dsimp only; rw [← h.held]; omega) with hl | hl
    · exact .inl ⟨by unfold sumEE; rw [e1, if_pos (by decide)]; decide, hl⟩
    · exact .inr (.inl hl)
  · right
    have hok := whole_ok h.ok _ hroom (some i) t.on (t.stop + (lineE ⟨nextE L, 2, b⟩).length) (.inr rfl) (lineE ⟨nextE L, 2, b⟩).length (fun _ => Nat.le_refl _)
    rw [List.take_length] at hok
    have hs0 : ({ t with fuse := some k } : Tp).stop = t.stop := rfl
    have e3 : sumT (rlOf L) { t with fuse := some k } b = shedT (putT (rlOf L) { t with fuse := some k } 2 b) (t.stop : Nat) := by unfold sumT; rw [e1, if_neg (by decide), hs0]
    rw [e3, e2]
    obtain ⟨s, hs⟩ : ∃ s, s = lineE ⟨nextE L, 2, b⟩ := ⟨_, rfl⟩
    have hfs := flat_snoc L ⟨nextE L, 2, b⟩
    have hf1 := flat_one ⟨nextE L, 2, b⟩
    rw [← hs] at hok hfs hf1 ⊢
    have hp : ¬ (((t.stop : Nat) : Int) < (t.first : Int) ∨ (((t.stop + s.length : Nat) : Int)) < ((t.stop : Nat) : Int)) := by omega
    cases i with
    | zero =>
      left
      have e4 : shedT { t with held := t.held ++ s, fast := t.stop + s.length, fuse := some 0 } (t.stop : Nat) = { t with held := t.held ++ s, fast := t.stop + s.length, fuse := some 0, on := false } := by
        unfold shedT strokeT Tp.can Tp.burn
        dsimp only
        rw [if_neg (by rw [h.on]; decide), if_neg hp, if_neg (by rw [h.on]; decide), if_pos (by simp), if_neg (by decide)]
      rw [e4]
      exact crash_whole keep ⟨hok.f1, hok.f2, hok.room⟩ (by dsimp only; rw [h.held, hfs]) (by unfold Tp.stop; dsimp only; rw [List.length_append, Nat.add_assoc])
    | succ i =>
      right
      have e4 : shedT { t with held := t.held ++ s, fast := t.stop + s.length, fuse := some (i + 1) } (t.stop : Nat) = { t with first := t.stop, held := s, fast := t.stop + s.length, fuse := some i } := by
        unfold shedT strokeT Tp.can Tp.burn
        dsimp only
        rw [if_neg (by rw [h.on]; decide), if_neg hp, if_neg (by rw [h.on]; decide), if_neg (by omega), if_pos (by omega), Nat.add_sub_cancel]
        have e5 : ((t.stop : Nat) : Int).toNat - t.first = t.held.length := by omega
        rw [e5, List.drop_left, Int.toNat_natCast]
      rw [e4]
      exact crash_whole keep ⟨Nat.le_add_right _ _, Nat.le_refl _, by dsimp only; rw [hs]; omega⟩ (by dsimp only; rw [hf1]) rfl
end Go.Proofs.Ythhjdielananeaa
