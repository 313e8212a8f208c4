/-
  What is fast stays: the statement's walk.
-/
import Derived.Test.YtdojbnjaomlngaaWalkStrokes
import Derived.Test.YtdojbnjaomlngaaActs
set_option linter.unusedSimpArgs false
set_option linter.unusedVariables false
set_option maxRecDepth 10000
namespace Go.Proofs.Ytdojbnjaomlngaa
open Go.RowKit Go.Lib
open L3 (Blk Reads block_of_add add_of_add)
open L6 (Turn moreB fresh From In)

/-! Plainly -/
theorem burn_stop (t : Tp) (n : Nat) : (t.burn n).stop = t.stop := by
  obtain ⟨e1, e2, e3, e4⟩ := burn_same t n
  unfold Tp.stop
  rw [e1, e3]
theorem strokeT_stop {t : Tp} {f : Tp → Tp} {b : Nat} (h : t.stop ≤ b) (hf : ∀ x : Tp, x.first = t.first → x.fast = t.fast → x.held = t.held → (f x).stop ≤ b) : (strokeT t f).stop ≤ b := by
  obtain ⟨e1, e2, e3, e4⟩ := burn_same t 1
  unfold strokeT
  split
  · exact h
  · split
    · rw [burn_stop]; exact h
    · exact hf _ e1 e2 e3
theorem do_stop {t : Tp} (h : t.ok) (x : Actx) : (doT t x).stop ≤ t.stop + x.s.length := by
  have h2 := h.f2
  have es : t.stop = t.first + t.held.length := rfl
  unfold doT
  split
  · exact write_stop t x.s
  split
  · refine strokeT_stop (by omega) fun y a b c => ?_
    show y.first + y.held.length ≤ _
    rw [a, c]; omega
  split
  · unfold shedT
    split
    · omega
    split
    · omega
    next hp =>
      refine strokeT_stop (by omega) fun y a b c => ?_
      show x.n.toNat + (y.held.drop (x.n.toNat - y.first)).length ≤ _
      rw [List.length_drop, a, c]
      omega
  split
  · unfold backT
    split
    · omega
    split
    · omega
    next hp =>
      refine strokeT_stop (by omega) fun y a b c => ?_
      show y.first + (y.held.take (x.n.toNat - y.first)).length ≤ _
      rw [List.length_take, a, c]
      omega
  split
  · unfold fuseT
    split
    · omega
    · show t.first + t.held.length ≤ _
      omega
  split
  · have := (crash_is h x.n).2.2.2.1
    omega
  · omega
/-- Behind k of these calls. -/
def fS (D : Nat → Actx) : Nat → Tp
  | 0 => newTp 1048576
  | k + 1 => doT (fS D k) (D k)

/-! How many are looked at -/
theorem Acts.row {w : World} {A : Option Addr} {n : Nat} {D : Nat → Actx} (h : Acts w A n D) {i : Nat} (hi : i < n) : ∃ ad, A = some ad ∧ w.cell? (ad.add (i * 3 + 2)) = some (.string (str (D i).s)) := by
  obtain ⟨ad, e, _, hc, _⟩ := h i hi
  have := hc 2 _ rfl
  rw [add_of_add] at this
  exact ⟨ad, e, this⟩
theorem add_field (a : Addr) (i f : Nat) (hf : 0 < f) : a.add (i + f) = ⟨(a.add i).block, (a.add i).off + f, none⟩ := by
  unfold Addr.add
  rw [if_neg (by omega)]
  split
  · rename_i h; subst h; simp
  · simp; omega
set_option maxHeartbeats 4000000 in
set_option maxRecDepth 100000 in
theorem far_any (A : Option Addr) (n c : Nat) (D : Nat → Actx) (w : World) (h : Acts w A n D) : Calls Try.prog 8 #[.slice A n c] w fun e w' => ∃ b, e = .returned (.bool b) ∧ w = w' ∧ (b = false → n ≤ 100 ∧ ∀ i, i < n → (D i).s.length ≤ 3000) := by
  have HH := Lib.hid h
  by_cases hn : 100 < n
  · have g1 : 100 < (n : Int) := by omega
    clear h
    go_enter Try.func8, Try.ntmps8
    go_wp2
    go_ret
    exact ⟨true, rfl, rfl, fun h => by cases h⟩
  · have g1 : ¬ 100 < (n : Int) := by omega
    clear h
    go_enter Try.func8, Try.ntmps8
    go_wp2
    go_loopw [3] (fun i wr => ∃ k : Nat, i = .int .i64 k ∧ k ≤ n ∧ wr = w ∧ ∀ j, j < k → (D j).s.length ≤ 3000) (fun i _ => n - (RowKit.intOf i).toNat)
    case atStart => exact ⟨0, rfl, Nat.zero_le _, rfl, fun j hj => by omega⟩
    case round =>
      obtain ⟨k, rfl, hk, hw, hl⟩ := hrel
      have HL := Lib.hid hl
      clear hl
      by_cases hlt : k < n
      · obtain ⟨ad, hAd, hc2⟩ := HH.out.row hlt
        rw [← hw] at hc2
        have HW := Lib.hid hw
        clear hw
        rw [add_field _ _ _ (by decide)] at hc2
        obtain ⟨s, hs⟩ : ∃ s, s = (D k).s := ⟨_, rfl⟩
        rw [← hs] at hc2
        have HS := Lib.hid hs
        subst hAd
        clear hs
        by_cases hb : 3000 < s.length
        · have g2 : 3000 < (s.length : Int) := by omega
          go_wp2_with fail
          go_ret
          exact ⟨true, rfl, HW.out.symm, fun h => by cases h⟩
        · have g2 : ¬ 3000 < (s.length : Int) := by omega
          go_wp2_with fail
          go_roundw
          case rel =>
            refine ⟨k + 1, by go_num, by omega, HW.out, fun j hj => ?_⟩
            rcases Nat.lt_or_ge j k with h | h
            · exact HL.out j h
            · obtain rfl : j = k := by omega
              rw [← HS.out]; omega
          case measure => simp [RowKit.intOf]; omega
      · obtain rfl : k = n := by omega
        have HW := Lib.hid hw
        clear hw
        go_wp2_with fail
        go_ret
        exact ⟨false, rfl, HW.out.symm, fun _ => ⟨by omega, fun i hi => HL.out i hi⟩⟩
theorem fS_stop {D : Nat → Actx} {n : Nat} (hl : ∀ i, i < n → (D i).s.length ≤ 3000) (k : Nat) (hk : k < n) (ho : (fS D k).ok) (hs : (fS D k).stop ≤ 3000 * k) : (fS D (k + 1)).stop ≤ 3000 * (k + 1) := by
  have := do_stop ho (D k)
  have := hl k hk
  show (doT (fS D k) (D k)).stop ≤ _
  omega
/-- A round of the law: k calls are done. -/
structure FsAt (w : World) (g : Nat) (D : Nat → Actx) (A : Option Addr) (n k : Nat) (S : Nat → Prop) (W : World) : Prop where
  tp : TAt w g S (fS D k) W
  ac : Acts W A n D
  st : (fS D k).stop ≤ 3000 * k
theorem FsAt.next {w W W' : World} {g : Nat} {D : Nat → Actx} {A : Option Addr} {n k : Nat} {S : Nat → Prop} (h : FsAt w g D A n k S W) (hw : Acts w A n D) (hl : ∀ i, i < n → (D i).s.length ≤ 3000) (hk : k < n) (hT : Tpe W' (moreB S W W') g (doT (fS D k) (D k))) (hU : Turn S W W') : FsAt w g D A n (k + 1) (moreB S W W') W' :=
  ⟨h.tp.post hT hU, hw.below (h.tp.post hT hU).bw, fS_stop hl k hk h.tp.tp.ok.1 h.st⟩
set_option maxHeartbeats 4000000 in
set_option maxRecDepth 100000 in
theorem fast_walk (A : Option Addr) (n c : Nat) (D : Nat → Actx) (keep : Int) (w : World) (hkp : inI keep) (h : Acts w A n D) : Calls Try.prog 3 #[.slice A n c, .int .i64 keep] w fun e w' => e = .returned (.bool true) ∧ Below w.heap.size w w' := by
  have HA := Lib.hid (fun W => alive_any W)
  have HN := Lib.hid (fun W => new_any 1048576 W (by decide))
  have HH := Lib.hid h
  have HFR := Lib.hid (fun W (hW : Below w.heap.size w W) => far_any A n c D W (h.below hW))
  clear h
  go_enter Try.func3, Try.ntmps3
  go_upto_region 4 with (first
    | (go_at_call 6; refine (HA.out _).mono ?_; unfold gives; rintro e w1 ⟨rfl, hb1⟩)
    | (go_at_call 7; refine (HN.out _).mono ?_; rintro e w2 ⟨rfl, hT2, hb2⟩)
    | go_in)
  have hA2 := Lib.hid (TAt.new hb1 hT2 hb2)
  have HF2 := Lib.hid (HFR.out _ hA2.out.bw)
  obtain ⟨g, hg⟩ : ∃ g, g = w1.heap.size := ⟨_, rfl⟩
  obtain ⟨S2, hS2⟩ : ∃ S2, S2 = fresh w1 w2 := ⟨_, rfl⟩
  rw [← hg, ← hS2] at hA2
  rw [← hg]
  clear hT2 hb1 hb2 hg hS2 HN HA HFR
  go_upto_region 5 with (first
    | (go_at_call 8; refine HF2.out.mono ?_; rintro e w3 ⟨b, rfl, hw3, hfr⟩; have HFA := Lib.hid hfr; have HW3 := Lib.hid hw3; clear hfr hw3; cases b)
    | go_in)
  · have hw := HW3.out
    subst hw
    obtain ⟨hn1, hl1⟩ := HFA.out (by first | exact rfl | trivial)
    have HL := Lib.hid hl1
    have HW0 := Lib.hid (show FsAt w g D A n 0 S2 w2 from ⟨hA2.out, HH.out.below hA2.out.bw, Nat.zero_le _⟩)
    clear hl1 HF2 hA2 HFA HW3
    go_loopw [7] (fun i wr => ∃ (k : Nat) (S : Nat → Prop), i = .int .i64 k ∧ k ≤ n ∧ FsAt w g D A n k S wr) (fun i _ => n - (RowKit.intOf i).toNat)
    case atStart => exact ⟨0, S2, rfl, Nat.zero_le _, HW0.out⟩
    case round =>
      obtain ⟨k, S, rfl, hk, hE⟩ := hrel
      clear HW0
      by_cases hlt : k < n
      · obtain ⟨ad, hAd, _, hcs, hfi⟩ := hE.ac k hlt
        have hsl := HL.out k hlt
        have hst : (fS D k).first + (fS D k).held.length ≤ 3000 * k := hE.st
        have HD := Lib.hid (do_any hE.tp.tp hE.tp.inn (D k) hfi hsl (by omega))
        have HNX := Lib.hid (fun W' hT hU => hE.next (W' := W') HH.out HL.out hlt hT hU)
        obtain ⟨x, hx⟩ : ∃ x, x = D k := ⟨_, rfl⟩
        rw [← hx] at hcs HD
        subst hAd
        have HX := Lib.hid hx
        clear hE hfi hsl hst hx
        go_wp2_with (first
          | (refine wpList_cells_at rfl _ _ rfl (ad.add (k * 3)) rfl (acL x) _ hcs Try.underlying31 rfl acInfo ?_)
          | (go_at_call 9; refine HD.out.mono ?_; rintro e w4 hp; obtain ⟨rfl, hT4, hU4⟩ := hp)
          | go_in)
        go_roundw
        case rel =>
          rw [HX.out] at hT4
          exact ⟨k + 1, _, by go_num, by omega, HNX.out _ hT4 hU4⟩
        case measure => simp [RowKit.intOf]; omega
      · obtain rfl : k = n := by omega
        have hO := on_any hE.tp.tp
        have HE := Lib.hid hE
        obtain ⟨t, ht⟩ : ∃ t, t = fS D k := ⟨_, rfl⟩
        rw [← ht] at hO
        have hTA := hE.tp
        rw [← ht] at hTA
        have HT := Lib.hid hTA
        clear hE hTA HE ht
        rcases Bool.eq_false_or_eq_true t.on with ho | ho
        · rw [ho] at hO
          have HO := Lib.hid hO
          have HON := Lib.hid ho
          clear hO ho
          go_upto_region 14 with (first
            | (go_at_call 10; refine HO.out.mono ?_; unfold gives; rintro e w5 ⟨rfl, hb5⟩
               have hT5 := HT.out.below hb5
               have HR5 := Lib.hid (read_on hT5.tp HON.out))
            | (go_at_call 12; refine HR5.out.mono ?_; unfold ReadPost; rintro e w6 ⟨A6, c6, rfl, hD6⟩
               have hT6 := hT5.below hD6.bw
               have HP6 := Lib.hid (places_any hT6.tp))
            | (go_at_call 13; refine HP6.out.mono ?_; unfold gives; rintro e w7 ⟨rfl, hb7⟩)
            | go_in)
          have hT7 := hT6.below hb7
          have hR7 : Reads w7 w6.heap.size 1 A6 t.held.length (bcs t.held) := hD6.rd.below hb7
          have hnS : ∀ ad, A6 = some ad → ¬ S ad.block := fun ad e hk => by
            have := hD6.new ad e
            have := hT5.inn _ hk
            omega
          have HD6 := Lib.hid hD6.le
          have HS67 := Lib.hid hb7.size
          have HX7 := Lib.hid (And.intro hT7 (And.intro hR7 hnS))
          have HC7 := Lib.hid (crash_any hT7.tp keep hkp)
          have HCI := Lib.hid (crash_is hT7.tp.ok.1 keep)
          obtain ⟨t', ht'⟩ : ∃ t', t' = crashT t keep := ⟨_, rfl⟩
          rw [← ht'] at HC7 HCI
          have hon' : t'.on = true := HCI.out.2.2.2.2.2
          clear ht' hT5 hT6 hT7 hb5 hb7 HR5 HP6 HO HON hR7 hnS hD6 HT
          go_upto_region 18 with (first
            | (go_at_call 11; refine HC7.out.mono ?_; rintro e w8 hp; obtain ⟨rfl, hT8, hU8⟩ := hp
               have hTA8 := HX7.out.1.post hT8 hU8
               have HR8 := Lib.hid (read_on hTA8.tp hon'))
            | (go_at_call 12; refine HR8.out.mono ?_; unfold ReadPost; rintro e w9 ⟨A9, c9, rfl, hD9⟩
               have hT9 := hTA8.below hD9.bw
               have HP9 := Lib.hid (places_any hT9.tp))
            | (go_at_call 13; refine HP9.out.mono ?_; unfold gives; rintro e w10 ⟨rfl, hb10⟩)
            | go_in)
          obtain ⟨k1, k2, k3, k4, k5, _⟩ := HCI.out
          rw [k1, k2]
          have hr9 : Reads w10 w9.heap.size 1 A9 t'.held.length (bcs t'.held) := hD9.rd.below hb10
          have hr6 : Reads w10 w6.heap.size 1 A6 t.held.length (bcs t.held) := by
            have r8 := reads_turn HX7.out.2.1 hU8 fun ad e _ => HX7.out.2.2 ad e
            have hs8 : w6.heap.size ≤ w8.heap.size := by have h7 := hU8.size; have := HS67.out; omega
            exact r8.below ((nxt hD9.bw hb10).mono hs8)
          have hml : t'.held.length ≤ t.held.length := by
            have := congrArg List.length k5
            rw [List.length_take] at this
            omega
          have cv9 : ∀ q, (convert 33 9 (.slice A9 t'.held.length c9)).run Try.prog (w10.drewN q) = .ok (.string (str t'.held)) (w10.drewN q) := fun q => by
            have := conv_reads (c := c9) (hr9.drewN q) (Nat.le_refl _)
            rw [List.take_length] at this
            exact this
          have cv6 : ∀ q, (convert 33 9 (.slice A6 t'.held.length c6)).run Try.prog (w10.drewN q) = .ok (.string (str t'.held)) (w10.drewN q) := fun q => by
            have := conv_reads (c := c6) (hr6.drewN q) hml
            rw [← k5] at this
            exact this
          have g1 : (t.fast : Int) ≤ (t'.stop : Nat) := by omega
          have g2 : ((t'.stop : Nat) : Int) ≤ (t.stop : Nat) := by omega
          have g3 : (t'.held.length : Int) ≤ (t.held.length : Nat) := by omega
          have g4 : (t'.held.length : Int) ≤ (c6 : Nat) := by have := HD6.out; omega
          have hbz := (hT9.below hb10).bw
          obtain ⟨f, hf⟩ : ∃ f, f = t.first := ⟨_, rfl⟩
          obtain ⟨fa, hfa⟩ : ∃ fa, fa = t.fast := ⟨_, rfl⟩
          obtain ⟨s, hs⟩ : ∃ s, s = t.stop := ⟨_, rfl⟩
          obtain ⟨s', hs'⟩ : ∃ s', s' = t'.stop := ⟨_, rfl⟩
          obtain ⟨m, hm⟩ : ∃ m, m = t.held.length := ⟨_, rfl⟩
          obtain ⟨m', hm'⟩ : ∃ m', m' = t'.held.length := ⟨_, rfl⟩
          obtain ⟨x, hx⟩ : ∃ x, x = str t'.held := ⟨_, rfl⟩
          rw [← hf, ← hfa, ← hs, ← hs', ← hm, ← hm']
          rw [← hm', ← hx] at cv9 cv6
          rw [← hfa, ← hs'] at g1
          rw [← hs', ← hs] at g2
          rw [← hm', ← hm] at g3
          rw [← hm'] at g4
          clear k1 k2 k3 k4 k5 hr9 hr6 hml hf hfa hs hs' hm hm' hx HCI HX7 HC7 hon' hT8 hU8 hTA8 HR8 hD9 hT9 HP9 hb10 HD6
          go_quiet (fail)
          go_wp2
          go_ret
          exact ⟨rfl, L6.below_drewN hbz _⟩
        · rw [ho] at hO
          have HO := Lib.hid hO
          clear hO ho
          go_wp2_with (first
            | (go_at_call 10; first
                | (refine HO7.mono ?_; unfold gives; rintro e w7 ⟨rfl, hb7⟩)
                | (refine HO.out.mono ?_; unfold gives; rintro e w5 ⟨rfl, hb5⟩
                   have hT5 := HT.out.below hb5
                   have HC5 := Lib.hid (crash_any hT5.tp keep hkp)))
            | (go_at_call 11; refine HC5.out.mono ?_; rintro e w6 hp; obtain ⟨rfl, hT6, hU6⟩ := hp
               have hT6' := hT5.post hT6 hU6
               have HO7 := on_any hT6'.tp
               have eon : (crashT t keep).on = true := rfl
               rw [eon] at HO7)
            | go_in)
          go_ret
          exact ⟨rfl, (hT6'.below hb7).bw⟩
  · have hw := HW3.out
    subst hw
    go_wp2
    go_ret
    exact ⟨rfl, hA2.out.bw⟩
end Go.Proofs.Ytdojbnjaomlngaa
