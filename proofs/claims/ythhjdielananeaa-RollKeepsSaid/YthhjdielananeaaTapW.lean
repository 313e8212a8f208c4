/-
  A write: byte by byte, a stroke each.
-/
import Derived.Test.YthhjdielananeaaTap9
import Derived.Test.YthhjdielananeaaTq
set_option linter.unusedSimpArgs false
set_option linter.unusedVariables false
set_option maxRecDepth 10000
namespace Go.Proofs.Ythhjdielananeaa
open Go.RowKit Go.Lib
open L3 (Blk Reads block_of_add add_of_add)
open L6 (Turn moreB fresh From In)

/-- A round of it: k bytes are written. -/
structure WAt (w : World) (S : Nat → Prop) (B g : Nat) (t : Tp) (A : Option Addr) (l : List UInt8) (k : Nat) (T : Nat → Prop) (W : World) : Prop where
  tp : Tpe W T g (aftT t l k)
  inn : In W T
  le : ∀ j, T j → S j ∨ w.heap.size ≤ j
  tr : Turn S w W
  box : W.cell? ⟨B, 0, none⟩ = some (.pointer (some ⟨g, 0, none⟩))
  nB : ¬ T B
  rd : Reads W w.heap.size 1 A l.length (bcs l)
theorem reads_turn {w w' : World} {B n : Nat} {A : Option Addr} {xs : List Value} {T : Nat → Prop} (h : Reads w B 1 A n xs) (ht : Turn T w w') (hn : ∀ ad, A = some ad → ad.block < B → ¬ T ad.block) : Reads w' B 1 A n xs :=
  ⟨h.1, fun h0 => by
    obtain ⟨ad, e, hb, hc⟩ := h.2 h0
    exact ⟨ad, e, hb, fun j u hu => ht.cell (hc j u hu) (by rw [block_of_add]; exact hn ad e hb)⟩⟩
/-- What is at hand for the next byte. -/
theorem WAt.byte {w W : World} {S T : Nat → Prop} {B g : Nat} {t : Tp} {A : Option Addr} {l : List UInt8} {k : Nat} (h : WAt w S B g t A l k T W) (hk : k < l.length) : ∃ ad, A = some ad ∧ W.cell? (ad.add k) = some (.int .u8 l[k].toNat) := by
  obtain ⟨ad, e, _, hc⟩ := h.rd.2 (by omega)
  exact ⟨ad, e, hc k _ (bcs_get l k hk)⟩
theorem WAt.next {w W W1 W' : World} {S T : Nat → Prop} {B g : Nat} {t t' : Tp} {A : Option Addr} {l : List UInt8} {k : Nat} (h : WAt w S B g t A l k T W) (hA : ∀ ad, A = some ad → ¬ S ad.block) (hb : Below W.heap.size W W1) (hT : Tpe W' (moreB T W1 W') g t') (hU : Turn T W1 W') :
    Tpe W' (moreB T W1 W') g t' ∧ In W' (moreB T W1 W') ∧ (∀ j, moreB T W1 W' j → S j ∨ w.heap.size ≤ j) ∧ Turn S w W' ∧ W'.cell? ⟨B, 0, none⟩ = some (.pointer (some ⟨g, 0, none⟩)) ∧ ¬ moreB T W1 W' B ∧ Reads W' w.heap.size 1 A l.length (bcs l) := by
  have hs := h.tr.size
  have hs1 := hb.size
  have hU' : Turn T W W' := (L6.Turn.of_keep hb).trans hU (fun i hi => .inl hi)
  have hTS : Turn S w W' := h.tr.trans hU' (fun i hi => h.le i hi)
  have hBl : B < W.heap.size := World.block_lt_of_cell? W _ h.box
  refine ⟨hT, (h.inn.le hs1).more hU.size, fun j hj => ?_, hTS, hU'.cell h.box h.nB, fun hj => ?_, reads_turn h.rd hU' fun ad e hlt hd => ?_⟩
  · rcases hj with hj | hj
    · exact h.le j hj
    · exact .inr (by have := hj.1; omega)
  · rcases hj with hj | hj
    · exact h.nB hj
    · have := hj.1; omega
  · rcases h.le _ hd with h1 | h1
    · exact hA ad e h1
    · omega
/-- The stroke that is asked for in a round, where there is one. -/
theorem WAt.yes {w W W1 : World} {S T : Nat → Prop} {B g P : Nat} {t : Tp} {A : Option Addr} {l : List UInt8} {k : Nat} (h : WAt w S B g t A l k T W) (hb : Below W.heap.size W W1) (hP : W.heap.size ≤ P) (hk : k < l.length) (hc : k < t.can l.length) (ho : t.on = true) (hcell : W1.cell? ⟨P, 0, none⟩ = some (.int .u8 l[k].toNat))
    (hr : t.held.length + l.length ≤ t.room) (hs : t.first + t.held.length + l.length ≤ 1000000000) :
    Calls Try.prog 59 #[.func (.func 60) #[.pointer (some ⟨g, 0, none⟩)] #[], .func (.func 73) #[] #[.pointer (some ⟨B, 0, none⟩), .pointer (some ⟨P, 0, none⟩)]] W1 (TpPost (.int .i64 0) T g (aftT t l (k + 1)) W1) := by
  have hB1 : W1.cell? ⟨B, 0, none⟩ = some (.pointer (some ⟨g, 0, none⟩)) := (hb.cell (p := ⟨B, 0, none⟩) (World.block_lt_of_cell? W _ h.box)).trans h.box
  have hBl : B < W1.heap.size := World.block_lt_of_cell? W1 _ hB1
  have hPl : P < W1.heap.size := World.block_lt_of_cell? W1 _ hcell
  have hnP : ¬ T P := fun e => by have := h.inn _ e; omega
  have ha := aft_on (l := l) ho (k := k) (by omega)
  have hnz : ¬ (aftT t l k).can 1 = 0 := fun e => by have := (aft_can (by omega) hk).1 e; omega
  obtain ⟨a1, a2, a3⟩ := aft_same t l k
  have a4 := aft_len t l (k := k) (by omega)
  obtain ⟨b1, b2, b3, b4⟩ := burn_same (aftT t l k) 1
  have := strike_any (h.tp.below hb) ha (fun x => { x with held := x.held ++ [l[k]] }) 73 #[.pointer (some ⟨B, 0, none⟩), .pointer (some ⟨P, 0, none⟩)] enters_write
    (fun w' hT hU => write_do hT l[k] (hU.cell hB1 h.nB) (hU.cell hcell hnP) (fun e => e.elim h.nB fun e => by have := e.1; omega) (fun e => e.elim hnP fun e => by have := e.1; omega) (by rw [b3, b4, a3, a4]; omega) (by rw [b1, b3, a1, a4]; omega))
  have e1 : strokeE (aftT t l k) = 0 := by unfold strokeE; rw [if_neg (by rw [ha]; decide), if_neg hnz]
  have e2 : strokeT (aftT t l k) (fun x => { x with held := x.held ++ [l[k]] }) = aftT t l (k + 1) := by
    unfold strokeT
    rw [if_neg (by rw [ha]; decide), if_neg hnz]
    exact aft_next hc hk
  rw [e1, e2] at this
  exact this
theorem WAt.no {w W W1 : World} {S T : Nat → Prop} {B g : Nat} {t : Tp} {A : Option Addr} {l : List UInt8} {k : Nat} (h : WAt w S B g t A l k T W) (hb : Below W.heap.size W W1) (hk : k < l.length) (hc : k = t.can l.length) (ho : t.on = true) (hr : t.held.length + l.length ≤ t.room) (v : Value) :
    Calls Try.prog 59 #[.func (.func 60) #[.pointer (some ⟨g, 0, none⟩)] #[], v] W1 (TpPost (.int .i64 170) T g (writeT t l) W1) := by
  have ha := aft_on (l := l) ho (k := k) (by omega)
  have := strike_no (h.tp.below hb) ha ((aft_can (by omega) hk).2 hc) v
  rw [(aft_stop ho hr hc hk).1] at this
  exact this
set_option maxHeartbeats 4000000 in
set_option maxRecDepth 100000 in
theorem write_any {w : World} {S : Nat → Prop} {g : Nat} {t : Tp} (h : Tpe w S g t) (hS : In w S) (A : Option Addr) (c : Nat) (l : List UInt8) (hA : ∀ ad, A = some ad → ¬ S ad.block) (hrd : Reads w w.heap.size 1 A l.length (bcs l)) (hl : l.length ≤ 100000000) (hs : t.first + t.held.length + l.length ≤ 1000000000) :
    Calls Try.prog 70 #[.pointer (some ⟨g, 0, none⟩), .slice A l.length c] w (TpPost (.int .i64 (writeE t l)) S g (writeT t l) w) := by
  obtain ⟨w1, hw1⟩ : ∃ w1, w.alloc (.cells #[.pointer (some ⟨g, 0, none⟩)] 46) = w1 := ⟨_, rfl⟩
  have hb1 : Below w.heap.size w w1 := by rw [← hw1]; exact below_new _ _
  have hB1 : Blk w1 w.heap.size 46 #[.pointer (some ⟨g, 0, none⟩)] := by rw [← hw1]; exact Blk.new _ _ _
  have hnB : ¬ S w.heap.size := fun hk => by have := hS _ hk; omega
  have h1 := h.below hb1
  have HR := Lib.hid (ready_any h1)
  obtain ⟨B, hB⟩ : ∃ B, B = w.heap.size := ⟨_, rfl⟩
  rw [← hB] at hB1 hnB
  have HB := Lib.hid hB
  have cB : w1.cell? ⟨B, 0, none⟩ = some (.pointer (some ⟨g, 0, none⟩)) := hB1.cell 0
  obtain ⟨n, hn⟩ : ∃ n, n = l.length := ⟨_, rfl⟩
  rcases Bool.eq_false_or_eq_true t.on with ho | ho
  · rw [if_neg (by rw [ho]; decide)] at HR
    have h0 : ¬ t.on = false := by rw [ho]; decide
    have HM := Lib.hid (fun W (hW : Below w1.heap.size w1 W) => (hB1.below hW hB1.lt).cell 0)
    have hf := h.ok
    have HH := Lib.hid h
    have HBK := Lib.hid hB1
    have HRD := Lib.hid hrd
    have hF : ∀ W, Below w1.heap.size w1 W → ∃ A' c', W.cell? ⟨g, 0, none⟩ = some (.int .i64 t.room) ∧ W.cell? ⟨g, 3, none⟩ = some (.slice A' t.held.length c') := fun W hW => by obtain ⟨A', c', hb, _⟩ := h1.below hW; exact ⟨A', c', hb.cell 0, hb.cell 3⟩
    have HF := Lib.hid hF
    obtain ⟨r, hr⟩ : ∃ r, r = t.room := ⟨_, rfl⟩
    obtain ⟨m, hm⟩ : ∃ m, m = t.held.length := ⟨_, rfl⟩
    have hml : m ≤ r ∧ r ≤ 16777216 := by rw [hm, hr]; exact ⟨hf.1.room, hf.2.room⟩
    rw [← hr, ← hm] at HF
    by_cases hroom : (r : Int) - (m : Int) < (n : Int)
    · have hroom' : t.room < t.held.length + l.length := by rw [← hr, ← hm, ← hn]; omega
      have HE := Lib.hid (show writeE t l = 171 ∧ writeT t l = t from ⟨by unfold writeE; rw [if_neg h0, if_pos hroom'], by unfold writeT; rw [if_neg h0, if_pos hroom']⟩)
      rw [← hn]
      clear h h1 hS ho hB1 hnB hB hrd hA hf h0 hF hr hm hn hroom'
      go_enter Try.func70, Try.ntmps70
      go_upto_region 1 with fail
      rw [← HB.out]
      clear hw1
      go_upto_region 4 with (first
        | (go_at_call 48; refine HR.out.mono ?_; unfold gives; rintro e w2 ⟨rfl, hb2⟩)
        | go_in)
      have cB2 := HM.out _ hb2
      obtain ⟨A', c', c02, c32⟩ := HF.out _ hb2
      go_quiet (fail)
      go_wp2
      go_ret
      rw [HE.out.1, HE.out.2]
      exact TpPost.same HH.out rfl (L6.below_drewN (nxt hb1 hb2) _)
    · have hroom' : t.held.length + l.length ≤ t.room := by rw [← hr, ← hm, ← hn]; omega
      have HRO := Lib.hid hroom'
      have HO := Lib.hid ho
      have HN := Lib.hid hn
      have HSS := Lib.hid (And.intro hS (And.intro hnB hA))
      have HSL := Lib.hid hs
      have hn0 : n ≤ 100000000 := by omega
      rw [← hn]
      clear h h1 hS ho hB1 hnB hB hrd hA hf h0 hF hr hm hn hroom' hs hl
      go_enter Try.func70, Try.ntmps70
      go_upto_region 1 with fail
      rw [← HB.out]
      clear hw1
      go_upto_region 4 with (first
        | (go_at_call 48; refine HR.out.mono ?_; unfold gives; rintro e w2 ⟨rfl, hb2⟩)
        | go_in)
      have cB2 := HM.out _ hb2
      obtain ⟨A', c', c02, c32⟩ := HF.out _ hb2
      go_quiet (fail)
      have hb3 : Below w.heap.size w (w2.drewN nq) := L6.below_drewN (nxt hb1 hb2) _
      have hb3' : Below w1.heap.size w1 (w2.drewN nq) := L6.below_drewN hb2 _
      have hW0 : WAt w S B g t A l 0 S (w2.drewN nq) := by
        refine ⟨?_, HSS.out.1.le hb3.size, fun j hj => .inl hj, L6.Turn.of_keep hb3, HM.out _ hb3', HSS.out.2.1, HRD.out.below hb3⟩
        rw [aft_zero]
        exact HH.out.below hb3
      have HW0 := Lib.hid hW0
      clear hW0 hb3 hb3' c02 c32 cB2 cB
      have hdr : decide ((r : Int) - (m : Int) < (n : Int)) = false := by simpa using hroom
      go_upto_region 6 with fail
      clear hdr hroom
      refine name_world (fun w3 hw3 => ?_)
      rw [← hw3] at HW0
      clear hw3
      have cB3 := HW0.out.box
      go_wp2_with fail
      go_loopw [34] (fun i wr => ∃ (k : Nat) (T : Nat → Prop), i = .int .i64 k ∧ k ≤ n ∧ k ≤ t.can l.length ∧ WAt w S B g t A l k T wr) (fun i _ => n - (RowKit.intOf i).toNat)
      case atStart => exact ⟨0, S, rfl, Nat.zero_le _, Nat.zero_le _, HW0.out⟩
      case round =>
        obtain ⟨k, T, rfl, hk, hkc, hW⟩ := hrel
        by_cases hlt : k < n
        · have hkl : k < l.length := by have := HN.out; omega
          obtain ⟨ad, hAd, hcell⟩ := hW.byte hkl
          have cBr := hW.box
          obtain ⟨b, hbb⟩ : ∃ b : Int, b = l[k].toNat := ⟨_, rfl⟩
          obtain ⟨W1, hW1⟩ : ∃ W1, wr.alloc (.cells #[.int .u8 b] 5) = W1 := ⟨_, rfl⟩
          have hbx : Below wr.heap.size wr W1 := by rw [← hW1]; exact below_new _ _
          have hcx : W1.cell? ⟨wr.heap.size, 0, none⟩ = some (.int .u8 l[k].toNat) := by rw [← hW1, ← hbb]; exact World.cell?_alloc_new _ _ _ 0
          have HNX := Lib.hid (fun W' t' (hT : Tpe W' (moreB T W1 W') g t') (hU : Turn T W1 W') => hW.next HSS.out.2.2 hbx hT hU)
          have cB1 : W1.cell? ⟨B, 0, none⟩ = some (.pointer (some ⟨g, 0, none⟩)) := (hbx.cell (p := ⟨B, 0, none⟩) (World.block_lt_of_cell? wr _ cBr)).trans cBr
          rw [← hbb] at hcell
          by_cases hc : k = t.can l.length
          · have HX := Lib.hid (hW.no hbx hkl hc HO.out HRO.out (.func (.func 73) #[] #[.pointer (some ⟨B, 0, none⟩), .pointer (some ⟨wr.heap.size, 0, none⟩)]))
            have HE := Lib.hid (aft_stop HO.out HRO.out hc hkl).2
            subst hAd
            clear hW hcx hbx hbb hc hkl
            go_wp2_with (first
              | (go_at_call 59; refine HX.out.mono ?_; rintro e w5 hp; obtain ⟨rfl, hT5, hU5⟩ := hp)
              | go_in)
            go_ret
            obtain ⟨q1, q2, q3, q4, _⟩ := HNX.out _ _ hT5 hU5
            rw [HE.out]
            exact ⟨rfl, q1.mono (fun j hj => (q3 j hj).imp id fun h => ⟨h, q2 j hj⟩), q4⟩
          · have hk1 : k + 1 ≤ t.can l.length := by omega
            have hk2 : k < t.can l.length := by omega
            have HX := Lib.hid (hW.yes hbx (Nat.le_refl _) hkl hk2 HO.out hcx HRO.out HSL.out)
            have HK1 := Lib.hid hk1
            subst hAd
            clear hW hcx hbx hbb hc hkl hk1 hk2 hkc
            go_wp2_with (first
              | (go_at_call 59; refine HX.out.mono ?_; rintro e w5 hp; obtain ⟨rfl, hT5, hU5⟩ := hp)
              | go_in)
            go_roundw
            case rel =>
              obtain ⟨q1, q2, q3, q4, q5, q6, q7⟩ := HNX.out _ _ hT5 hU5
              exact ⟨k + 1, _, by go_num, by omega, HK1.out, ⟨q1, q2, q3, q4, q5, q6, q7⟩⟩
            case measure => simp [RowKit.intOf]; omega
        · obtain rfl : k = n := by omega
          have hkl : k = l.length := HN.out
          obtain ⟨e1, e2⟩ := aft_end HO.out HRO.out (l := l) (Nat.le_trans (Nat.le_of_eq hkl.symm) hkc)
          have HE := Lib.hid (And.intro e1 e2)
          have HWW := Lib.hid hW
          clear hW e1 e2 hkl
          go_wp2_with fail
          go_ret
          have hWW := HWW.out
          have hke : k = l.length := HN.out
          subst hke
          have ht := hWW.tp
          rw [HE.out.1] at ht
          rw [HE.out.2]
          exact ⟨rfl, ht.mono (fun j hj => (hWW.le j hj).imp id fun h => ⟨h, hWW.inn j hj⟩), hWW.tr⟩
  · rw [if_pos ho] at HR
    have HE := Lib.hid (show writeE t l = 170 by unfold writeE; rw [if_pos ho])
    have HO := Lib.hid (show writeT t l = t by unfold writeT; rw [if_pos ho])
    have HH := Lib.hid h
    rw [← hn]
    clear h h1 hS ho hB1 hnB hB hrd hA hn
    go_enter Try.func70, Try.ntmps70
    go_upto_region 1 with fail
    rw [← HB.out]
    clear hw1
    go_wp2_with (first
      | (go_at_call 48; refine HR.out.mono ?_; unfold gives; rintro e w2 ⟨rfl, hb2⟩)
      | go_in)
    go_ret
    rw [HE.out, HO.out]
    exact TpPost.same HH.out rfl (nxt hb1 hb2)
end Go.Proofs.Ythhjdielananeaa
