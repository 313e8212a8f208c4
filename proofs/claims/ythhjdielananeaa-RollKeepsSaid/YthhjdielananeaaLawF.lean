/-
  What the statements ask: how many calls are looked at, one call of a roll.
-/
import Derived.Test.YthhjdielananeaaAlive
import Derived.Test.YthhjdielananeaaActs
set_option linter.unusedSimpArgs false
set_option linter.unusedVariables false
set_option maxRecDepth 10000
namespace Go.Proofs.Ythhjdielananeaa
open Go.RowKit Go.Lib
open L3 (Blk Reads block_of_add add_of_add)
open L6 (Turn moreB fresh From In Apart)

theorem add_field (a : Addr) (i f : Nat) (hf : 0 < f) : a.add (i + f) = ⟨(a.add i).block, (a.add i).off + f, none⟩ := by
  unfold Addr.add
  rw [if_neg (by omega)]
  split
  · rename_i h; subst h; simp
  · simp; omega
theorem Acts.row {w : World} {A : Option Addr} {n : Nat} {D : Nat → Actx} (h : Acts w A n D) {i : Nat} (hi : i < n) : ∃ ad, A = some ad ∧ w.cell? (ad.add (i * 5 + 1)) = some (.string (str (D i).s)) ∧ w.cell? (ad.add (i * 5 + 4)) = some (.string (str (D i).s2)) := by
  obtain ⟨ad, e, _, hc, _⟩ := h i hi
  have h1 := hc 1 _ rfl
  have h4 := hc 4 _ rfl
  rw [add_of_add] at h1 h4
  exact ⟨ad, e, h1, h4⟩
def FarPost (n : Nat) (D : Nat → Actx) (w : World) (e : Ending) (w' : World) : Prop := ∃ b, e = .returned (.bool b) ∧ w = w' ∧ (b = false → n ≤ 80 ∧ ∀ i, i < n → (D i).s.length ≤ 3000)
set_option maxHeartbeats 4000000 in
set_option maxRecDepth 100000 in
theorem far_any (A : Option Addr) (n c : Nat) (D : Nat → Actx) (w : World) (h : Acts w A n D) : Calls Try.prog 17 #[.slice A n c] w (FarPost n D w) := by
  have HH := Lib.hid h
  by_cases hn : 80 < n
  · have g1 : 80 < (n : Int) := by omega
    clear h
    go_enter Try.func17, Try.ntmps17
    go_wp2
    go_ret
    exact ⟨true, rfl, rfl, fun h => by cases h⟩
  · have g1 : ¬ 80 < (n : Int) := by omega
    clear h
    go_enter Try.func17, Try.ntmps17
    go_wp2
    go_loopw [3] (fun i wr => ∃ k : Nat, i = .int .i64 k ∧ k ≤ n ∧ wr = w ∧ ∀ j, j < k → (D j).s.length ≤ 3000) (fun i _ => n - (RowKit.intOf i).toNat)
    case atStart => exact ⟨0, rfl, Nat.zero_le _, rfl, fun j hj => by omega⟩
    case round =>
      obtain ⟨k, rfl, hk, hw, hl⟩ := hrel
      have HL := Lib.hid hl
      clear hl
      by_cases hlt : k < n
      · obtain ⟨ad, hAd, hc1, hc4⟩ := HH.out.row hlt
        rw [← hw] at hc1 hc4
        have HW := Lib.hid hw
        clear hw
        rw [add_field _ _ _ (by decide)] at hc1 hc4
        obtain ⟨s, hs⟩ : ∃ s, s = str (D k).s := ⟨_, rfl⟩
        have hsn : s.size = (D k).s.length := by rw [hs, str_size]
        rw [← hs] at hc1
        obtain ⟨u, hu⟩ : ∃ u, u = str (D k).s2 := ⟨_, rfl⟩
        rw [← hu] at hc4
        have HS := Lib.hid hsn
        subst hAd
        clear hs hsn hu
        by_cases hb : 3000 < s.size
        · have g2 : 3000 < (s.size : Int) := by omega
          go_wp2_with fail
          go_ret
          exact ⟨true, rfl, HW.out.symm, fun h => by cases h⟩
        · have g2 : ¬ 3000 < (s.size : Int) := by omega
          by_cases hb2 : 3000 < u.size
          · have g3 : 3000 < (u.size : Int) := by omega
            go_wp2_with fail
            go_ret
            exact ⟨true, rfl, HW.out.symm, fun h => by cases h⟩
          · have g3 : ¬ 3000 < (u.size : Int) := by omega
            go_wp2_with fail
            go_roundw
            case rel =>
              refine ⟨k + 1, by go_num, by omega, HW.out, fun j hj => ?_⟩
              rcases Nat.lt_or_ge j k with h | h
              · exact HL.out j h
              · obtain rfl : j = k := by omega
                rw [← HS.out]; omega
            case measure => simp [RowKit.intOf]; omega
      · obtain rfl : k = n := by omega
        have HW := Lib.hid hw
        clear hw
        go_wp2_with fail
        go_ret
        exact ⟨false, rfl, HW.out.symm, fun _ => ⟨by omega, fun i hi => HL.out i hi⟩⟩
/-- One call of a roll: what it tells, what it leaves. -/
def lawE (r : Rl) (t : Tp) (x : Actx) : Int := if x.kind = 1 then sumEE r t x.s else addE r t x.s
def lawR (r : Rl) (t : Tp) (x : Actx) : Rl := if x.kind = 1 then sumR r t x.s else putR r t 1 x.s
def lawT (r : Rl) (t : Tp) (x : Actx) : Tp := if x.kind = 1 then sumT r t x.s else putT r t 1 x.s
set_option maxHeartbeats 2000000 in
set_option maxRecDepth 100000 in
theorem lput_any {w : World} {U : Nat → Prop} {g gt : Nat} {r : Rl} {t : Tp} (h : Rol w U g gt r t) (hU : In w U) (x : Actx) (hl : x.s.length ≤ 3000) (hs : t.first + t.held.length ≤ 900000000) (hrl : r.recs.length + 1 ≤ 10000000) :
    Calls Try.prog 20 #[.pointer (some ⟨g, 0, none⟩), .agg (acC x)] w (RolPost (.int .i64 (lawE r t x)) U g gt (lawR r t x) (lawT r t x) w) := by
  have hb1 := below_new w (.cells (acC x) 44)
  have hk1 := Blk.new w 44 (acC x)
  have h1 := h.below hb1
  have hU1 := hU.le hb1.size
  obtain ⟨w1, hw1⟩ : ∃ w1, w.alloc (.cells (acC x) 44) = w1 := ⟨_, rfl⟩
  obtain ⟨p, hp⟩ : ∃ p, p = w.heap.size := ⟨_, rfl⟩
  rw [hw1] at hb1 hk1 h1 hU1
  rw [← hp] at hk1
  have HP := Lib.hid hp
  have c0 : w1.cell? ⟨p, 0, none⟩ = some (.int .i64 x.kind) := hk1.cell 0
  have c1 : w1.cell? ⟨p, 1, none⟩ = some (.string (str x.s)) := hk1.cell 1
  obtain ⟨c, w2, hcv, hr2, hb2⟩ := str_bytes w1 x.s
  have h2 := h1.below hb2
  have hU2 := hU1.le hb2.size
  have hsm : ∀ k, mayE ⟨r.next, k, x.s⟩ = 0 → Small t (lineE ⟨r.next, k, x.s⟩).length := fun k hm => by
    have := line_len hm
    have hx : (⟨r.next, k, x.s⟩ : Ent).b.length ≤ 3000 := hl
    exact ⟨by omega, by omega⟩
  have HAD := Lib.hid (add_any h2 hU2 (some ⟨w1.heap.size, 0, none⟩) c x.s hr2 (by unfold maxLen; omega) (hsm 1) hrl)
  have HSM := Lib.hid (sum_any h2 hU2 (some ⟨w1.heap.size, 0, none⟩) c x.s hr2 (by unfold maxLen; omega) (hsm 2) hrl)
  have HB := Lib.hid (nxt hb1 hb2)
  obtain ⟨n, hn⟩ : ∃ n, n = x.s.length := ⟨_, rfl⟩
  obtain ⟨s, hs'⟩ : ∃ s, s = str x.s := ⟨_, rfl⟩
  obtain ⟨k, hk⟩ : ∃ k, k = x.kind := ⟨_, rfl⟩
  rw [← hn] at hcv HAD HSM
  rw [← hs'] at hcv c1
  rw [← hk] at c0
  have HK := Lib.hid hk
  clear h hU hl hs hrl hk1 h1 hU1 hp hr2 h2 hU2 hsm hn hs' hk hb1 hb2
  by_cases hk1 : k = 1
  · have e1 : lawE r t x = sumEE r t x.s := by unfold lawE; rw [← HK.out, if_pos hk1]
    have e2 : lawR r t x = sumR r t x.s := by unfold lawR; rw [← HK.out, if_pos hk1]
    have e3 : lawT r t x = sumT r t x.s := by unfold lawT; rw [← HK.out, if_pos hk1]
    rw [e1, e2, e3]
    subst hk1
    obtain ⟨m, hm⟩ : ∃ m, m = sumEE r t x.s := ⟨_, rfl⟩
    rw [← hm] at HSM ⊢
    clear e1 e2 e3 hm
    go_enter Try.func20, Try.ntmps20
    go_upto_region 1 with fail
    rw [← HP.out]
    clear hw1
    go_wp2_with (first
      | (go_at_call 27; refine HSM.out.mono ?_; rintro e w3 hp3; have HQ := Lib.hid hp3; obtain ⟨he, -, -⟩ := hp3; subst he)
      | go_in)
    go_ret
    exact RolPost.back HB.out HQ.out
  · have e1 : lawE r t x = addE r t x.s := by unfold lawE; rw [← HK.out, if_neg hk1]
    have e2 : lawR r t x = putR r t 1 x.s := by unfold lawR; rw [← HK.out, if_neg hk1]
    have e3 : lawT r t x = putT r t 1 x.s := by unfold lawT; rw [← HK.out, if_neg hk1]
    rw [e1, e2, e3]
    have g1 : (k == 1) = false := by rw [beq_eq_false_iff_ne]; exact hk1
    obtain ⟨m, hm⟩ : ∃ m, m = addE r t x.s := ⟨_, rfl⟩
    rw [← hm] at HAD ⊢
    clear e1 e2 e3 hm hk1
    go_enter Try.func20, Try.ntmps20
    go_upto_region 1 with fail
    rw [← HP.out]
    clear hw1
    go_wp2_with (first
      | (go_at_call 29; refine HAD.out.mono ?_; rintro e w3 hp3; have HQ := Lib.hid hp3; obtain ⟨he, -, -⟩ := hp3; subst he)
      | go_in)
    go_ret
    exact RolPost.back HB.out HQ.out

/-! The entries behind calls with power that lasts -/
def actE (L : List Ent) (x : Actx) : List Ent := if x.kind = 1 then [⟨nextE L, 2, x.s⟩] else L ++ [⟨nextE L, 1, x.s⟩]
def entsE (D : Nat → Actx) : Nat → List Ent
  | 0 => []
  | k + 1 => actE (entsE D k) (D k)
theorem act_next (L : List Ent) (x : Actx) : nextE (actE L x) = nextE L + 1 := by
  unfold actE
  split
  · exact next_snoc [] _
  · exact next_snoc L _
theorem ents_next (D : Nat → Actx) : ∀ k, nextE (entsE D k) = (k : Int) + 1
  | 0 => rfl
  | k + 1 => by
    show nextE (actE (entsE D k) (D k)) = _
    rw [act_next, ents_next D k]
    push_cast
    rfl
/-- A right roll, in a room that is wide enough. -/
structure Run (L : List Ent) (t : Tp) (k : Nat) : Prop where
  rg : RgT L t
  rises : risesE L
  next : nextE L = (k : Int) + 1
  stop : t.stop ≤ 6100 * k
  room : t.room = 4194304
theorem run_new : Run [] (newTp 4194304) 0 := ⟨rg_new _, trivial, rfl, Nat.le_refl _, rfl⟩
theorem Run.may {L : List Ent} {t : Tp} {k : Nat} (h : Run L t k) (hk : k ≤ 100) {kind : Int} (hkd : kind = 1 ∨ kind = 2) {b : List UInt8} (hb : b.length ≤ 3000) : mayE ⟨nextE L, kind, b⟩ = 0 ∧ (lineE ⟨nextE L, kind, b⟩).length ≤ 6037 ∧ t.held.length + (lineE ⟨nextE L, kind, b⟩).length ≤ t.room := by
  have hn := h.next
  have hm := may_next (L := L) (kind := kind) (b := b) (by omega) hkd (by omega)
  have hl := line_len hm
  have hb' : (⟨nextE L, kind, b⟩ : Ent).b.length ≤ 3000 := hb
  have hs := h.stop
  have hst : t.stop = t.first + t.held.length := rfl
  have hr := h.room
  exact ⟨hm, by omega, by omega⟩
theorem Run.step {L : List Ent} {t : Tp} {k : Nat} (h : Run L t k) (hk : k ≤ 100) (x : Actx) (hb : x.s.length ≤ 3000) : lawE (rlOf L) t x = 0 ∧ lawR (rlOf L) t x = rlOf (actE L x) ∧ Run (actE L x) (lawT (rlOf L) t x) (k + 1) := by
  have hs := h.stop
  by_cases hx : x.kind = 1
  · obtain ⟨hm, hl, hr⟩ := h.may hk (.inr rfl) hb
    obtain ⟨e1, e2, e3, e4, e5⟩ := sum_right h.rg hm hr
    have ea : actE L x = [⟨nextE L, 2, x.s⟩] := by unfold actE; rw [if_pos hx]
    have et : lawT (rlOf L) t x = sumT (rlOf L) t x.s := by unfold lawT; rw [if_pos hx]
    rw [ea, et]
    refine ⟨by unfold lawE; rw [if_pos hx, e1], by unfold lawR; rw [if_pos hx, e2], e3, hm, ?_, by rw [e4]; omega, by rw [e5]; exact h.room⟩
    have := act_next L x
    rw [ea] at this
    rw [this, h.next]
    push_cast
    rfl
  · obtain ⟨hm, hl, hr⟩ := h.may hk (.inl rfl) hb
    obtain ⟨e1, e2, e3, e4⟩ := put_right h.rg hm hr
    have ea : actE L x = L ++ [⟨nextE L, 1, x.s⟩] := by unfold actE; rw [if_neg hx]
    have et : lawT (rlOf L) t x = putT (rlOf L) t 1 x.s := by unfold lawT; rw [if_neg hx]
    rw [ea, et]
    refine ⟨by unfold lawE addE; rw [if_neg hx, e1], by unfold lawR; rw [if_neg hx, e2], e3, rises_more h.rises hm, ?_, ?_, by rw [e4]; exact h.room⟩
    · have := act_next L x
      rw [ea] at this
      rw [this, h.next]
      push_cast
      rfl
    · rw [e4]
      unfold Tp.stop
      dsimp only
      rw [List.length_append]
      have hst : t.stop = t.first + t.held.length := rfl
      omega
theorem Run.recs {L : List Ent} {t : Tp} {k : Nat} (h : Run L t k) : L.length ≤ 6100 * k := by
  have h1 : t.stop = t.first + t.held.length := rfl
  have h2 := h.stop
  have h3 := congrArg List.length h.rg.held
  have : ∀ M : List Ent, M.length ≤ (flatE M).length := by
    intro M
    induction M with
    | nil => exact Nat.le_refl _
    | cons a M ih =>
      unfold flatE at ih ⊢
      rw [List.flatMap_cons, List.length_append, List.length_cons]
      have := line_pos a
      omega
  have := this L
  omega
end Go.Proofs.Ythhjdielananeaa
