/-
  Power that goes in a call, a crash, a roll opened behind it and once more.
-/
import Derived.Test.YthhjdielananeaaWalkSheds
import Derived.Test.YthhjdielananeaaSame
set_option linter.unusedSimpArgs false
set_option linter.unusedVariables false
set_option maxRecDepth 10000
namespace Go.Proofs.Ythhjdielananeaa
open Go.RowKit Go.Lib
open L3 (Blk Reads block_of_add add_of_add)
open L6 (Turn moreB fresh From In Apart)

/-! The room stays -/
theorem room_burn (t : Tp) (n : Nat) : (t.burn n).room = t.room := (burn_same t n).2.2.2
theorem room_write (t : Tp) (s : List UInt8) : (writeT t s).room = t.room := by
  unfold writeT
  split
  · rfl
  · split
    · rfl
    · exact room_burn t _
theorem room_stroke (t : Tp) (f : Tp → Tp) (hf : ∀ x, (f x).room = x.room) : (strokeT t f).room = t.room := by
  unfold strokeT
  split
  · rfl
  · split
    · exact room_burn t _
    · rw [hf]; exact room_burn t _
theorem room_keep (t : Tp) (s : List UInt8) : (keepT t s).room = t.room := by
  unfold keepT
  split
  · exact room_write t s
  · unfold holdT
    refine (room_stroke _ _ ?_).trans (room_write t s)
    intro x; rfl
theorem room_put (r : Rl) (t : Tp) (k : Int) (l : List UInt8) : (putT r t k l).room = t.room := by
  unfold putT
  split
  · rfl
  · exact room_keep t _
theorem room_shed (t : Tp) (p : Int) : (shedT t p).room = t.room := by
  unfold shedT
  split
  · rfl
  · split
    · rfl
    · refine room_stroke _ _ ?_
      intro x; rfl
theorem room_law (r : Rl) (t : Tp) (x : Actx) : (lawT r t x).room = t.room := by
  unfold lawT
  split
  · unfold sumT
    split
    · exact room_put _ _ _ _
    · rw [room_shed]; exact room_put _ _ _ _
  · exact room_put _ _ _ _
theorem left_open {M : List Ent} {tn : List UInt8} {t : Tp} (h : Left M tn t) (ho : t.ok) : Left M [] (openT t tn.length) ∧ (openT t tn.length).room = t.room := by
  have hh := h.held
  by_cases hn : tn = []
  · subst hn
    exact ⟨h, rfl⟩
  · have hp : 0 < tn.length := List.length_pos_iff.2 hn
    have hl : t.held.length = (flatE M).length + tn.length := by rw [hh, List.length_append]
    have hst : t.stop = t.first + t.held.length := rfl
    have hc : t.can 1 = 1 := by unfold Tp.can; rw [h.fuse]
    have hb : t.burn 1 = t := by unfold Tp.burn; rw [h.fuse]
    have e : openT t tn.length = { t with held := t.held.take (((t.stop : Int) - (tn.length : Int)).toNat - t.first), fast := min t.fast ((t.stop : Int) - (tn.length : Int)).toNat } := by
      unfold openT backT strokeT
      rw [if_neg (by omega), if_neg (by rw [h.on]; decide), if_neg (by omega), if_neg (by rw [h.on]; decide), if_neg (by rw [hc]; decide), hb]
    rw [e]
    refine ⟨⟨h.on, h.fuse, ?_, by simp⟩, rfl⟩
    show t.held.take _ = _
    have e2 : ((t.stop : Int) - (tn.length : Int)).toNat - t.first = (flatE M).length := by omega
    rw [e2, hh, List.take_left, List.append_nil]
/-- What a last call and a crash leave. -/
def LeftBy (L : List Ent) (x : Actx) (d : Int) (t : Tp) : Prop := ∃ M tn, Left M tn t ∧ risesE M ∧ ((M = L ∧ d ≠ 0) ∨ (tn = [] ∧ rlOf M = rlOf (actE L x)))
theorem law_crash {L : List Ent} {t : Tp} {k : Nat} (h : Run L t k) (hk : k ≤ 80) (x : Actx) (hl : x.s.length ≤ 3000) (n : Int) (hn : 0 ≤ n) (z : Int) :
    LeftBy L x (lawE (rlOf L) (fuseT t n) x) (crashT (lawT (rlOf L) (fuseT t n) x) z) ∧ (crashT (lawT (rlOf L) (fuseT t n) x) z).room = 4194304 := by
  have hf : fuseT t n = { t with fuse := some n.toNat } := if_neg (by omega)
  refine ⟨?_, ?_⟩
  · obtain ⟨-, -, hS⟩ := h.step (by omega) x hl
    rw [hf]
    by_cases hx : x.kind = 1
    · obtain ⟨hm, -, hr⟩ := h.may (by omega) (.inr rfl) hl
      have ea : actE L x = [⟨nextE L, 2, x.s⟩] := by unfold actE; rw [if_pos hx]
      have ee : ∀ q, lawE (rlOf L) q x = sumEE (rlOf L) q x.s := fun q => by unfold lawE; rw [if_pos hx]
      have et : ∀ q, lawT (rlOf L) q x = sumT (rlOf L) q x.s := fun q => by unfold lawT; rw [if_pos hx]
      rw [ee, et]
      have hsn := hS.rises
      rw [ea] at hsn
      rcases sum_crash h.rg n.toNat z hm hr with ⟨hd, tn, hL⟩ | hL | hL
      · exact ⟨L, tn, hL, h.rises, .inl ⟨rfl, hd⟩⟩
      · exact ⟨_, [], hL, rises_more h.rises hm, .inr ⟨rfl, by rw [ea]; exact rl_sum rfl⟩⟩
      · exact ⟨_, [], hL, hsn, .inr ⟨rfl, by rw [ea]⟩⟩
    · obtain ⟨hm, -, hr⟩ := h.may (by omega) (.inl rfl) hl
      have ea : actE L x = L ++ [⟨nextE L, 1, x.s⟩] := by unfold actE; rw [if_neg hx]
      have ee : ∀ q, lawE (rlOf L) q x = addE (rlOf L) q x.s := fun q => by unfold lawE; rw [if_neg hx]
      have et : ∀ q, lawT (rlOf L) q x = putT (rlOf L) q 1 x.s := fun q => by unfold lawT; rw [if_neg hx]
      rw [ee, et]
      rcases add_crash h.rg n.toNat z hm hr with ⟨hd, tn, hL⟩ | hL
      · exact ⟨L, tn, hL, h.rises, .inl ⟨rfl, hd⟩⟩
      · exact ⟨_, [], hL, rises_more h.rises hm, .inr ⟨rfl, by rw [ea]⟩⟩
  · show (lawT (rlOf L) (fuseT t n) x).room = _
    rw [room_law, hf]
    exact h.room

/-! Its roll, behind it -/
theorem recs_at {w : World} {U : Nat → Prop} {g gt : Nat} {r : Rl} {t : Tp} (h : Rol w U g gt r t) : Calls Try.prog 22 #[.pointer (some ⟨g, 0, none⟩)] w fun e w' => ∃ A c, e = .returned (.slice A r.recs.length c) ∧ RcP w' (fresh w w') A r.recs ∧ Below w.heap.size w w' :=
  (records_any h).mono fun e w' ⟨A, c, he, hr, hb⟩ => ⟨A, c, he, hr.p, hb⟩
/-- A roll on its tape, and the records that it told. -/
structure KpAt (w : World) (g gt : Nat) (r : Rl) (t : Tp) (P : Nat → Prop) (A : Option Addr) (R : List (List UInt8)) (U : Nat → Prop) (W : World) : Prop where
  rol : Rol W U g gt r t
  inn : In W U
  frm : From w.heap.size U
  rc : RcP W P A R
  off : ∀ k, P k → ¬ U k ∧ k < W.heap.size
  bw : Below w.heap.size w W
section
variable {w W W' : World} {g g' gt : Nat} {r r' : Rl} {t t' : Tp} {P : Nat → Prop} {A : Option Addr} {R : List (List UInt8)} {U : Nat → Prop} {v : Value} {e : Ending}
theorem KpAt.post (h : KpAt w g gt r t P A R U W) (hp : RolPost v U g' gt r' t' W e W') : KpAt w g' gt r' t' P A R (moreB U W W') W' := by
  have hs := h.bw.size
  have hz := hp.2.2.size
  refine ⟨hp.2.1, h.inn.more hz, h.frm.more hs, h.rc.turn hp.2.2 (fun k hk => (h.off k hk).1), fun k hk => ⟨fun hu => ?_, Nat.lt_of_lt_of_le (h.off k hk).2 hz⟩, h.bw.trans (hp.2.2.below h.frm hs)⟩
  rcases hu with hu | hu
  · exact (h.off k hk).1 hu
  · have := hu.1; have := (h.off k hk).2; omega
theorem KpAt.below (h : KpAt w g gt r t P A R U W) (hb : Below W.heap.size W W') : KpAt w g gt r t P A R U W' :=
  ⟨h.rol.below hb, h.inn.le hb.size, h.frm, h.rc.below hb, fun k hk => ⟨(h.off k hk).1, Nat.lt_of_lt_of_le (h.off k hk).2 hb.size⟩, nxt h.bw hb⟩
theorem KpAt.fuse (h : KpAt w g gt r t P A R U W) (n : Int) (hn : inI n) : Calls Try.prog 23 #[.pointer (some ⟨gt, 0, none⟩), .int .i64 n] W fun e W' => e = .returned (.int .i64 (fuseE n)) ∧ KpAt w g gt r (fuseT t n) P A R (moreB U W W') W' := by
  obtain ⟨R0, T, hR, hT, iR, iT, ha, hRU, hTU⟩ := h.rol
  exact (fuse_any hT n hn).mono fun e W' hp => ⟨hp.1, h.post (Rol.tape hR iR iT ha hRU hTU hp)⟩
theorem KpAt.crash (h : KpAt w g gt r t P A R U W) (n : Int) (hn : inI n) : Calls Try.prog 24 #[.pointer (some ⟨gt, 0, none⟩), .int .i64 n] W fun e W' => e = .returned (.int .i64 0) ∧ KpAt w g gt r (crashT t n) P A R (moreB U W W') W' := by
  obtain ⟨R0, T, hR, hT, iR, iT, ha, hRU, hTU⟩ := h.rol
  exact (crash_any hT n hn).mono fun e W' hp => ⟨hp.1, h.post (Rol.tape hR iR iT ha hRU hTU hp)⟩
theorem KpAt.put (h : KpAt w g gt r t P A R U W) (x : Actx) (hl : x.s.length ≤ 3000) (hs : t.first + t.held.length ≤ 900000000) (hrl : r.recs.length + 1 ≤ 10000000) :
    Calls Try.prog 20 #[.pointer (some ⟨g, 0, none⟩), .agg (acC x)] W fun e W' => e = .returned (.int .i64 (lawE r t x)) ∧ KpAt w g gt (lawR r t x) (lawT r t x) P A R (moreB U W W') W' :=
  (lput_any h.rol h.inn x hl hs hrl).mono fun e W' hp => ⟨hp.1, h.post hp⟩
theorem KpAt.open1 (h : KpAt w g gt r t P A R U W) {M : List Ent} {tn : List UInt8} (hL : Left M tn t) (hr : risesE M) (hm : t.room = 4194304) :
    Calls Try.prog 19 #[.pointer (some ⟨gt, 0, none⟩)] W fun e W' => ∃ gx, e = .returned (.tuple #[.pointer (some ⟨gx, 0, none⟩), .int .i64 0]) ∧ KpAt w gx gt (rlOf M) (openT t tn.length) P A R (moreB U W W') W' := by
  have hok := h.rol.ok.1
  obtain ⟨R0, T, hR, hT, iR, iT, ha, hRU, hTU⟩ := h.rol
  refine (open_any hT iT hL.on M tn (by unfold leftT; rw [hL.held, List.drop_zero]) hL.free hr (.inr hL.fuse) (by have := hok.room; omega)).mono fun e W' hp => ?_
  obtain ⟨gx, he, hO⟩ := hp
  refine ⟨gx, he, h.post (v := .tuple #[.pointer (some ⟨gx, 0, none⟩), .int .i64 0]) (e := e) ⟨he, hO.rol.mono (fun k hk => hk.imp (hTU k) id), hO.turn.mono (fun k _ hk => hTU k hk)⟩⟩
/-- Two rolls on one tape, and the records. -/
structure XyAt (w : World) (gx gy : Nat) (r : Rl) (P : Nat → Prop) (A : Option Addr) (R : List (List UInt8)) (W : World) : Prop where
  x : ∃ S t gt, Rol W S gx gt r t
  y : ∃ S t gt, Rol W S gy gt r t
  rc : RcP W P A R
  bw : Below w.heap.size w W
theorem XyAt.below {gx gy : Nat} (h : XyAt w gx gy r P A R W) (hb : Below W.heap.size W W') : XyAt w gx gy r P A R W' := by
  obtain ⟨⟨S, t, gt, hx⟩, ⟨S2, t2, gt2, hy⟩, hr, hw⟩ := h
  exact ⟨⟨S, t, gt, hx.below hb⟩, ⟨S2, t2, gt2, hy.below hb⟩, hr.below hb, nxt hw hb⟩
theorem KpAt.open2 {gx : Nat} {M : List Ent} (h : KpAt w gx gt (rlOf M) t P A R U W) (hL : Left M [] t) (hr : risesE M) (hm : t.room = 4194304) :
    Calls Try.prog 19 #[.pointer (some ⟨gt, 0, none⟩)] W fun e W' => ∃ gy, e = .returned (.tuple #[.pointer (some ⟨gy, 0, none⟩), .int .i64 0]) ∧ XyAt w gx gy (rlOf M) P A R W' := by
  have hok := h.rol.ok.1
  obtain ⟨R0, T, hR, hT, iR, iT, ha, hRU, hTU⟩ := h.rol
  refine (open_any hT iT hL.on M [] (by unfold leftT; rw [hL.held, List.drop_zero]) hL.free hr (.inl rfl) (by have := hok.room; omega)).mono fun e W' hp => ?_
  obtain ⟨gy, he, hO⟩ := hp
  have hz := hO.turn.size
  have hs := h.bw.size
  have htu : Turn U W W' := hO.turn.mono (fun k _ hk => hTU k hk)
  refine ⟨gy, he, ?_, ⟨_, _, _, hO.rol⟩, h.rc.turn htu (fun k hk => (h.off k hk).1), h.bw.trans (htu.below h.frm hs)⟩
  obtain ⟨Ry, Ty, hRy, hTy, iRy, iTy, hay, hRyU, hTyU⟩ := hO.rol
  refine ⟨moreB U W W', openT t ([] : List UInt8).length, gt, R0, Ty, hR.kept hO.turn ha, hTy, iR.le hz, iTy, fun k hk hty => ?_, fun k hk => .inl (hRU k hk), fun k hk => (hTyU k hk).imp (hTU k) id⟩
  rcases hTyU k hty with hq | hq
  · exact ha k hk hq
  · have := hq.1; have := iR k hk; omega
end
/-- What two rolls tell. -/
theorem XyAt.sumX {w W : World} {gx gy : Nat} {r : Rl} {P : Nat → Prop} {A : Option Addr} {R : List (List UInt8)} (h : XyAt w gx gy r P A R W) : Calls Try.prog 21 #[.pointer (some ⟨gx, 0, none⟩)] W fun e w' => ∃ B c, e = .returned (.slice B r.sum.length c) ∧ ByT W w' B r.sum := by
  obtain ⟨_, _, _, hx⟩ := h.x
  exact summary_any hx
theorem XyAt.sumY {w W : World} {gx gy : Nat} {r : Rl} {P : Nat → Prop} {A : Option Addr} {R : List (List UInt8)} (h : XyAt w gx gy r P A R W) : Calls Try.prog 21 #[.pointer (some ⟨gy, 0, none⟩)] W fun e w' => ∃ B c, e = .returned (.slice B r.sum.length c) ∧ ByT W w' B r.sum := by
  obtain ⟨_, _, _, hx⟩ := h.y
  exact summary_any hx
theorem XyAt.recsX {w W : World} {gx gy : Nat} {r : Rl} {P : Nat → Prop} {A : Option Addr} {R : List (List UInt8)} (h : XyAt w gx gy r P A R W) : Calls Try.prog 22 #[.pointer (some ⟨gx, 0, none⟩)] W fun e w' => ∃ B c, e = .returned (.slice B r.recs.length c) ∧ RcP w' (fresh W w') B r.recs ∧ Below W.heap.size W w' := by
  obtain ⟨_, _, _, hx⟩ := h.x
  exact recs_at hx
theorem XyAt.recsY {w W : World} {gx gy : Nat} {r : Rl} {P : Nat → Prop} {A : Option Addr} {R : List (List UInt8)} (h : XyAt w gx gy r P A R W) : Calls Try.prog 22 #[.pointer (some ⟨gy, 0, none⟩)] W fun e w' => ∃ B c, e = .returned (.slice B r.recs.length c) ∧ RcP w' (fresh W w') B r.recs ∧ Below W.heap.size W w' := by
  obtain ⟨_, _, _, hx⟩ := h.y
  exact recs_at hx
theorem XyAt.small {w W : World} {gx gy : Nat} {r : Rl} {P : Nat → Prop} {A : Option Addr} {R : List (List UInt8)} (h : XyAt w gx gy r P A R W) : r.recs.length ≤ 100000000 := by
  obtain ⟨_, _, _, hx⟩ := h.x
  have := hx.fit.l
  omega
theorem ByT.text {w w' : World} {B : Option Addr} {l : List UInt8} (h : ByT w w' B l) (c : Nat) : (convert 53 9 (.slice B l.length c)).run Try.prog w' = .ok (.string (str l)) w' := conv_all h.rd
end Go.Proofs.Ythhjdielananeaa
