/-
  Power that goes, a crash, and what a roll has behind it: the statement's walk.
-/
import Derived.Test.YthhjdielananeaaKeep
import Derived.Test.YthhjdielananeaaGrow
set_option linter.unusedSimpArgs false
set_option linter.unusedVariables false
set_option maxRecDepth 10000
namespace Go.Proofs.Ythhjdielananeaa
open Go.RowKit Go.Lib
open L3 (Blk Reads block_of_add add_of_add)
open L6 (Turn moreB fresh From In Apart)

theorem wpK_three {P : Program} {md : Region.Mode} {ops : Array Oper} {Q : Exit → Act → World → Prop} {S : World → Prop} {R : List Nat} (i j k : Nat) {oi oj ok : Oper} {f : Nat} {listed : Array Bool} {a : Act} {w : World} (hr : Region.ready md ops listed = [i, j, k]) (hi : ops[i]? = some oi) (hj : ops[j]? = some oj) (hk : ops[k]? = some ok)
    (h1 : wpList P ops (stepQ Q fun a' w' => (lateB md ops R i = false → S w') ∧ wpK P md ops Q S R f (listed.setIfInBounds i true) a' w') [oi] a w)
    (h2 : wpList P ops (stepQ Q fun a' w' => (lateB md ops R j = false → S w') ∧ wpK P md ops Q S R f (listed.setIfInBounds j true) a' w') [oj] a w)
    (h3 : wpList P ops (stepQ Q fun a' w' => (lateB md ops R k = false → S w') ∧ wpK P md ops Q S R f (listed.setIfInBounds k true) a' w') [ok] a w) : wpK P md ops Q S R (f + 1) listed a w :=
  ⟨fun h0 => (by rw [hr] at h0; cases h0), fun m hm => by
    rw [hr] at hm
    have : m = i ∨ m = j ∨ m = k := by simpa using hm
    rcases this with rfl | rfl | rfl
    · exact wpOp_of_list hi h1
    · exact wpOp_of_list hj h2
    · exact wpOp_of_list hk h3⟩
theorem wpK_with {P : Program} {md : Region.Mode} {ops : Array Oper} {Q : Exit → Act → World → Prop} {S : World → Prop} {R : List Nat} {f : Nat} {listed : Array Bool} {a : Act} {w : World} (T : Array Oper → (Exit → Act → World → Prop) → Array Bool → Act → Prop) (h1 : T ops Q listed a) (h2 : T ops Q listed a → wpK P md ops Q S R f listed a w) : wpK P md ops Q S R f listed a w := h2 h1
theorem wpK_listed {P : Program} {md : Region.Mode} {ops : Array Oper} {Q : Exit → Act → World → Prop} {S : World → Prop} {R : List Nat} {f : Nat} {listed listed' : Array Bool} {a : Act} {w : World} (e : listed = listed') (h : wpK P md ops Q S R f listed' a w) : wpK P md ops Q S R f listed a w := e ▸ h
theorem RcP.cap {w : World} {P : Nat → Prop} {A : Option Addr} {L : List (List UInt8)} (h : RcP w P A L) : RcP w (fun k => P k ∧ k < w.heap.size) A L := by
  intro i b hi
  obtain ⟨ad, Ai, ci, e, h1, h3, h4, h5⟩ := h i b hi
  have hlt := World.block_lt_of_cell? w _ h3
  rw [block_of_add] at hlt
  refine ⟨ad, Ai, ci, e, ⟨h1, hlt⟩, h3, h4, fun h0 a ea => ⟨h5 h0 a ea, ?_⟩⟩
  obtain ⟨ad', e', hl, _⟩ := h4.2 h0
  rw [ea] at e'
  injection e' with e'
  subst e'
  exact hl
theorem ByT.below {w w' w2 : World} {B : Option Addr} {l : List UInt8} (h : ByT w w' B l) (hb : Below w'.heap.size w' w2) : ByT w w2 B l :=
  ⟨reads_kept h.rd (L6.Turn.of_keep (S := fun _ => False) hb) hb.size (fun _ _ _ h => h), h.new, nxt h.bw hb⟩
theorem LpAt.kp {w W Wa Wb : World} {g gt n k : Nat} {D : Nat → Actx} {A : Option Addr} {U : Nat → Prop} {t : Tp} (h : LpAt w g gt D A n k U t W) {B : Option Addr} {R : List (List UInt8)} (ha : Below W.heap.size W Wa) (hr : RcP Wb (fresh Wa Wb) B R) (hb : Below Wa.heap.size Wa Wb) :
    KpAt w g gt (rlOf (entsE D k)) t (fresh Wa Wb) B R U Wb := by
  have hw := nxt ha hb
  exact ⟨h.rol.below hw, h.inn.le hw.size, h.frm, hr, fun i hi => ⟨fun hu => by have := h.inn i hu; have := ha.size; have := hi.1; omega, hi.2⟩, nxt h.bw hw⟩
theorem act_rl (L : List Ent) (x : Actx) : (x.kind = 1 → (rlOf (actE L x)).sum = x.s ∧ (rlOf (actE L x)).recs = []) ∧ (x.kind ≠ 1 → (rlOf (actE L x)).sum = (rlOf L).sum ∧ (rlOf (actE L x)).recs = (rlOf L).recs ++ [x.s]) := by
  refine ⟨fun h => ?_, fun h => ?_⟩
  · have e : actE L x = [⟨nextE L, 2, x.s⟩] := by unfold actE; rw [if_pos h]
    rw [e]
    have e2 := sum_snoc [] (⟨nextE L, 2, x.s⟩ : Ent)
    have e3 := recs_snoc [] (⟨nextE L, 2, x.s⟩ : Ent)
    rw [if_pos rfl] at e2 e3
    exact ⟨e2, e3⟩
  · have e : actE L x = L ++ [⟨nextE L, 1, x.s⟩] := by unfold actE; rw [if_neg h]
    rw [e]
    have e2 := sum_snoc L (⟨nextE L, 1, x.s⟩ : Ent)
    have e3 := recs_snoc L (⟨nextE L, 1, x.s⟩ : Ent)
    rw [if_neg (show ¬ (1 : Int) = 2 by decide)] at e2 e3
    exact ⟨e2, e3⟩
theorem law_room {L : List Ent} {t : Tp} {k : Nat} (h : Run L t k) (hk : k ≤ 80) (n : Int) (hn : 0 ≤ n) : (fuseT t n).first + (fuseT t n).held.length ≤ 900000000 ∧ (rlOf L).recs.length + 1 ≤ 10000000 := by
  have hf : fuseT t n = { t with fuse := some n.toNat } := if_neg (by omega)
  have h1 := h.stop
  have h2 : t.stop = t.first + t.held.length := rfl
  have h3 := recs_len L
  have h4 := h.recs
  have h5 : (rlOf L).recs = recsE L := rfl
  rw [hf, h5]
  exact ⟨by dsimp only; omega, by omega⟩
set_option maxHeartbeats 16000000 in
set_option maxRecDepth 100000 in
theorem keeps_walk (A : Option Addr) (n c : Nat) (D : Nat → Actx) (x : Actx) (x2 x3 : Int) (w : World) (h : Acts w A n D) (wx : x.fit) (bd2 : inI x2) (bd3 : inI x3) : Calls Try.prog 4 #[.slice A n c, .agg (acC x), .int .i64 x2, .int .i64 x3] w (gives (.bool true) w) := by
  have hb0 := below_new w (.cells (acC x) 44)
  have hk0 := Blk.new w 44 (acC x)
  have h1 := h.below hb0
  obtain ⟨w1, hw1⟩ : ∃ w1, w.alloc (.cells (acC x) 44) = w1 := ⟨_, rfl⟩
  obtain ⟨p, hp⟩ : ∃ p, p = w.heap.size := ⟨_, rfl⟩
  rw [hw1] at hb0 hk0 h1
  rw [← hp] at hk0
  have HP := Lib.hid hp
  have HB0 := Lib.hid hb0
  have HA := Lib.hid (fun W => alive_any W)
  have HN := Lib.hid (fun W => new_any 4194304 W (by decide))
  have HH := Lib.hid h1
  have HFR := Lib.hid (fun W (hW : Below w1.heap.size w1 W) => far_any A n c D W (h1.below hW))
  have HBD := Lib.hid (And.intro bd2 bd3)
  obtain ⟨s1, hs1⟩ : ∃ s, s = str x.s := ⟨_, rfl⟩
  obtain ⟨kk, hkk⟩ : ∃ k, k = x.kind := ⟨_, rfl⟩
  have hsz1 : s1.size = x.s.length := by rw [hs1, str_size]
  have HS1 := Lib.hid (And.intro hs1 (And.intro hkk hsz1))
  have HK := Lib.hid (fun W (hW : Below w1.heap.size w1 W) => (hk0.below hW hk0.lt : Blk W p 44 (acC x)))
  have HC0 := Lib.hid (show ∀ W, Below w1.heap.size w1 W → W.cell? ⟨p, 0, none⟩ = some (.int .i64 kk) from fun W hW => by rw [hkk]; exact (HK.out W hW).cell 0)
  have HC1 := Lib.hid (show ∀ W, Below w1.heap.size w1 W → W.cell? ⟨p, 1, none⟩ = some (.string s1) from fun W hW => by rw [hs1]; exact (HK.out W hW).cell 1)
  clear h h1 wx hb0 hk0 hp bd2 bd3 hs1 hkk hsz1
  go_enter Try.func4, Try.ntmps4
  go_upto_region 1 with fail
  rw [← HP.out]
  clear hw1
  go_upto_region 3 with (first
    | (go_at_call 8; refine (HA.out _).mono ?_; unfold gives; rintro e w2 ⟨rfl, hb2⟩)
    | go_in)
  have HF1 := Lib.hid (HFR.out _ hb2)
  have HB2 := Lib.hid hb2
  have c1 := HC1.out _ hb2
  clear hb2 HFR HA
  by_cases hbig : 3000 < s1.size
  · have g1 : 3000 < (s1.size : Int) := by omega
    go_wp2_with (first
      | (go_at_call 17; refine HF1.out.mono ?_; unfold FarPost; rintro e w3 ⟨b, rfl, hw3, hfr⟩; subst hw3; have HFA := Lib.hid hfr; clear hfr; cases b)
      | go_in)
    all_goals
      go_ret
      exact ⟨rfl, nxt HB0.out HB2.out⟩
  have g1 : ¬ 3000 < (s1.size : Int) := by omega
  by_cases hneg : x2 < 0
  · skip
    go_wp2_with (first
      | (go_at_call 17; refine HF1.out.mono ?_; unfold FarPost; rintro e w3 ⟨b, rfl, hw3, hfr⟩; subst hw3; have HFA := Lib.hid hfr; clear hfr; cases b)
      | go_in)
    all_goals
      go_ret
      exact ⟨rfl, nxt HB0.out HB2.out⟩
  go_upto_region 5 with (first
    | (go_at_call 17; refine HF1.out.mono ?_; unfold FarPost; rintro e w3 ⟨b, rfl, hw3, hfr⟩; subst hw3; have HFA := Lib.hid hfr; clear hfr; cases b)
    | go_in)
  rotate_left
  · go_wp2
    go_ret
    exact ⟨rfl, nxt HB0.out HB2.out⟩
  obtain ⟨hn1, hl1⟩ := HFA.out (by first | exact rfl | trivial)
  have HL1 := Lib.hid hl1
  have HXS := Lib.hid (show x.s.length ≤ 3000 by have := HS1.out.2.2; omega)
  have HX2 := Lib.hid (show 0 ≤ x2 by omega)
  clear hl1 HF1 HFA c1 hbig hneg g1
  go_upto_region 6 with (first
    | (go_at_call 18; refine (HN.out _).mono ?_; rintro e w3 ⟨rfl, hT2, hb3⟩)
    | go_in)
  have HO := Lib.hid (open_new hT2 (L6.In.fresh _ _))
  have HST := Lib.hid (fun g w4 (hR : OpenR (fresh w2 w3) w2.heap.size [] (newTp 4194304) w3 g w4) => LpAt.start HH.out HB2.out rfl hb3 hR)
  obtain ⟨gt, hgt⟩ : ∃ gt, gt = w2.heap.size := ⟨_, rfl⟩
  obtain ⟨S, hS⟩ : ∃ S, S = fresh w2 w3 := ⟨_, rfl⟩
  rw [← hgt, ← hS] at HO HST
  rw [← hgt]
  clear hT2 hb3 hgt hS HN
  go_upto_region 9 with (first
    | (go_at_call 19; refine HO.out.mono ?_; rintro e w4 ⟨g, rfl, hR3⟩)
    | go_in)
  have HW0 := Lib.hid (HST.out _ _ hR3)
  clear hR3 HO HST
  go_wp2_with fail
  go_loopw [13] (fun i wr => ∃ (k : Nat) (U : Nat → Prop) (t : Tp), i = .int .i64 k ∧ k ≤ n ∧ LpAt w1 g gt D A n k U t wr) (fun i _ => n - (RowKit.intOf i).toNat)
  case atStart => exact ⟨0, _, _, rfl, Nat.zero_le _, HW0.out⟩
  case round =>
    obtain ⟨k, U, t, rfl, hk, hE⟩ := hrel
    clear HW0
    by_cases hlt : k < n
    · obtain ⟨ad, hAd, _, hcs, _⟩ := hE.ac k hlt
      have HPU := Lib.hid (hE.put HH.out (by omega) (HL1.out k hlt))
      obtain ⟨y, hy⟩ : ∃ y, y = D k := ⟨_, rfl⟩
      rw [← hy] at hcs HPU
      have hA2 := hAd
      subst hA2
      have hk80 : k ≤ 80 := by omega
      clear hE hy hAd
      go_wp2_with (first
        | (refine wpList_cells_at rfl _ _ rfl (ad.add (k * 5)) rfl (acL y) _ hcs Try.underlying44 rfl acInfo ?_)
        | (go_at_call 20; refine HPU.out.mono ?_; rintro e w5 ⟨rfl, U5, t5, hE5⟩)
        | go_in)
      go_roundw
      case rel => exact ⟨k + 1, _, _, by go_num, by omega, hE5⟩
      case measure => simp [RowKit.intOf]; omega
    obtain rfl : k = n := by omega
    have HE := Lib.hid hE
    have HN1 := Lib.hid hn1
    clear hE hn1 hk hlt
    obtain ⟨L, hL⟩ : ∃ L, L = entsE D k := ⟨_, rfl⟩
    obtain ⟨r0, hr0⟩ : ∃ r, r = rlOf L := ⟨_, rfl⟩
    have HR0 := Lib.hid (And.intro hL hr0)
    have HRU := Lib.hid (show Run L t k by rw [hL]; exact HE.out.run)
    have HRL := Lib.hid (show ∀ W, Below wr.heap.size wr W → Rol W U g gt r0 t from fun W hW => by rw [hr0, hL]; exact (HE.out.below hW).rol)
    have HSU := Lib.hid (fun W (hW : Below wr.heap.size wr W) => summary_any (HRL.out W hW))
    have HRE := Lib.hid (fun W (hW : Below wr.heap.size wr W) => recs_at (HRL.out W hW))
    have HKP := Lib.hid (show ∀ (Wa Wb : World) (B : Option Addr), Below wr.heap.size wr Wa → RcP Wb (fresh Wa Wb) B r0.recs → Below Wa.heap.size Wa Wb → KpAt w1 g gt r0 t (fresh Wa Wb) B r0.recs U Wb from fun Wa Wb B ha hr hb => by rw [hr0, hL] at hr ⊢; exact HE.out.kp ha hr hb)
    obtain ⟨s0, hs0⟩ : ∃ s, s = str r0.sum := ⟨_, rfl⟩
    have HS0 := Lib.hid hs0
    have HCS := Lib.hid (show ∀ W W' B c, ByT W W' B r0.sum → (convert 53 9 (.slice B r0.sum.length c)).run Try.prog W' = .ok (.string s0) W' from fun W W' B c hB => by rw [hs0]; exact hB.text c)
    have hk80 : k ≤ 80 := HN1.out
    clear hL hr0 hs0
    go_upto_region 14 with fail
    go_cut [14, 15] from 59 to 63 (fun x y wx => ∃ (B : Option Addr) (c : Nat) (P : Nat → Prop), x = .string s0 ∧ y = .slice B r0.recs.length c ∧ KpAt w1 g gt r0 t P B r0.recs U wx)
    case first =>
      refine wp_region_K (fun _ => True) [0, 3] (by kernel_rfl) ?_
      have hd0 : Below wr.heap.size wr wr.drew := (Below.refl _ _).drew
      have HS2 := Lib.hid (HSU.out _ hd0)
      refine wpK_quiet (f := 5) (by kernel_rfl) (fun _ x _ _ _ h => by cases x <;> exact h) trivial [0, 3] _ _ (by kernel_rfl) (by kernel_rfl) (by kernel_rfl) ?_
      have ne : Nonempty (WorldIn (fun _ => True)) := ⟨⟨wr, trivial⟩⟩
      conv => arg 5; simp [pick]
      iterate 2 go_big_quiet_step (fail)
      refine wpQuiet_nil ?_
      clear ne
      refine wpK_step 1 (by kernel_rfl) rfl ?_
      go_wp2_with (go_at_call 21; (with_reducible refine HS2.out.mono ?_); rintro e wa ⟨Ba, ca, rfl, ha⟩)
      refine stepQ.mk ⟨fun _ => trivial, ?_⟩
      have hba := nxt hd0 ha.bw
      have HR2 := Lib.hid (HRE.out _ hba)
      clear HS2 hd0
      refine wpK_two 2 4 (by kernel_rfl) rfl rfl ?_ ?_
      · have hcv := HCS.out _ _ _ ca ha
        go_wp2
        refine stepQ.mk ⟨fun _ => trivial, ?_⟩
        clear hcv
        refine wpK_step 4 (by kernel_rfl) rfl ?_
        go_wp2_with (go_at_call 22; (with_reducible refine HR2.out.mono ?_); rintro e wb ⟨Bb, cb, rfl, hrb, hbb⟩)
        refine stepQ.mk ⟨fun _ => trivial, ?_⟩
        refine wpK_step 5 (by kernel_rfl) rfl ?_
        go_wp2
        refine stepQ.mk ⟨fun _ => trivial, ?_⟩
        refine wpK_step 6 (by kernel_rfl) rfl ?_
        go_wp2
        refine stepQ.mk ⟨fun _ => trivial, ?_⟩
        refine wpK_seq [] _ _ _ (by kernel_rfl) ?_
        conv => arg 4; simp [pick]
        go_wp2
        go_meet
        exact ⟨_, _, _, rfl, rfl, HKP.out _ _ _ hba hrb hbb⟩
      · go_wp2_with (go_at_call 22; (with_reducible refine HR2.out.mono ?_); rintro e wb ⟨Bb, cb, rfl, hrb, hbb⟩)
        refine stepQ.mk ⟨fun _ => trivial, ?_⟩
        have hcv := HCS.out _ _ _ ca (ha.below hbb)
        refine wpK_step 2 (by kernel_rfl) rfl ?_
        go_wp2
        refine stepQ.mk ⟨fun _ => trivial, ?_⟩
        clear hcv
        refine wpK_step 5 (by kernel_rfl) rfl ?_
        go_wp2
        refine stepQ.mk ⟨fun _ => trivial, ?_⟩
        refine wpK_step 6 (by kernel_rfl) rfl ?_
        go_wp2
        refine stepQ.mk ⟨fun _ => trivial, ?_⟩
        refine wpK_seq [] _ _ _ (by kernel_rfl) ?_
        conv => arg 4; simp [pick]
        go_wp2
        go_meet
        exact ⟨_, _, _, rfl, rfl, HKP.out _ _ _ hba hrb hbb⟩
    case rest =>
      obtain ⟨B0, c0, P0, rfl, rfl, hK⟩ := hcut
      obtain ⟨d, hd⟩ : ∃ d, d = lawE r0 (fuseT t x2) x := ⟨_, rfl⟩
      obtain ⟨t2, ht2⟩ : ∃ q, q = lawT r0 (fuseT t x2) x := ⟨_, rfl⟩
      obtain ⟨r2, hr2⟩ : ∃ q, q = lawR r0 (fuseT t x2) x := ⟨_, rfl⟩
      obtain ⟨M, tn, hLM, hrM, hor, hroom⟩ : ∃ M tn, Left M tn (crashT t2 x3) ∧ risesE M ∧ ((M = L ∧ d ≠ 0) ∨ (tn = [] ∧ rlOf M = rlOf (actE L x))) ∧ (crashT t2 x3).room = 4194304 := by
        have hc := law_crash HRU.out hk80 x HXS.out x2 HX2.out x3
        rw [← HR0.out.2, ← hd, ← ht2] at hc
        obtain ⟨⟨M, tn, h1, h2, h3⟩, h4⟩ := hc
        exact ⟨M, tn, h1, h2, h3, h4⟩
      obtain ⟨r, hr⟩ : ∃ q, q = rlOf M := ⟨_, rfl⟩
      have HOR := Lib.hid (show (M = L ∧ d ≠ 0) ∨ r = rlOf (actE L x) from hor.imp id (fun h => hr.trans h.2))
      have HRM := Lib.hid hr
      have HFU := Lib.hid (hK.fuse x2 HBD.out.1)
      have HPT := Lib.hid (show ∀ W U, KpAt w1 g gt r0 (fuseT t x2) P0 B0 r0.recs U W → Calls Try.prog 20 #[.pointer (some ⟨g, 0, none⟩), .agg (acC x)] W (fun e W' => e = .returned (.int .i64 d) ∧ ∃ U', KpAt w1 g gt r2 t2 P0 B0 r0.recs U' W') from fun W U h => by
        have hl := law_room HRU.out hk80 x2 HX2.out
        rw [← HR0.out.2] at hl
        have := h.put x HXS.out hl.1 hl.2
        rw [← hd, ← hr2, ← ht2] at this
        exact this.mono fun e W' hp => ⟨hp.1, _, hp.2⟩)
      have HCR := Lib.hid (fun W U (h : KpAt w1 g gt r2 t2 P0 B0 r0.recs U W) => h.crash x3 HBD.out.2)
      have HO1 := Lib.hid (show ∀ W U, KpAt w1 g gt r2 (crashT t2 x3) P0 B0 r0.recs U W → Calls Try.prog 19 #[.pointer (some ⟨gt, 0, none⟩)] W (fun e W' => ∃ gx U', e = .returned (.tuple #[.pointer (some ⟨gx, 0, none⟩), .int .i64 0]) ∧ KpAt w1 gx gt r (openT (crashT t2 x3) tn.length) P0 B0 r0.recs U' W') from fun W U h => by
        have := h.open1 hLM hrM hroom
        rw [← hr] at this
        exact this.mono fun e W' ⟨gx, he, hk⟩ => ⟨gx, _, he, hk⟩)
      have HO2 := Lib.hid (show (crashT t2 x3).ok → ∀ W U gx, KpAt w1 gx gt r (openT (crashT t2 x3) tn.length) P0 B0 r0.recs U W → Calls Try.prog 19 #[.pointer (some ⟨gt, 0, none⟩)] W (fun e W' => ∃ gy, e = .returned (.tuple #[.pointer (some ⟨gy, 0, none⟩), .int .i64 0]) ∧ XyAt w1 gx gy r P0 B0 r0.recs W') from fun hok W U gx h => by
        rw [hr] at h ⊢
        exact h.open2 (left_open hLM hok).1 hrM ((left_open hLM hok).2.trans hroom))
      obtain ⟨fe, hfe⟩ : ∃ q, q = fuseE x2 := ⟨_, rfl⟩
      rw [← hfe] at HFU
      clear hK hd ht2 hr2 hor hr hLM hrM hroom hfe hk80
      go_upto_region 16 with (first
        | (go_at_call 23; refine HFU.out.mono ?_; rintro e wf ⟨rfl, hKf⟩)
        | go_in)
      have HKF := Lib.hid hKf
      have hBF := HK.out _ hKf.bw
      clear hKf HFU
      go_upto_region 17 with (first
        | (refine wpList_row_at rfl _ _ rfl p rfl _ _ _ _ hBF Try.underlying44 rfl acInfo ?_)
        | (go_at_call 20; refine (HPT.out _ _ HKF.out).mono ?_; rintro e wp ⟨rfl, Up, hKp⟩)
        | go_in)
      have HCR1 := Lib.hid (HCR.out _ _ hKp)
      clear hKp hBF HKF HPT HCR
      go_upto_region 18 with (first
        | (go_at_call 24; refine HCR1.out.mono ?_; rintro e wq ⟨rfl, hKq⟩)
        | go_in)
      have HO1a := Lib.hid (HO1.out _ _ hKq)
      have HOK := Lib.hid hKq.rol.ok.1
      have HO2a := Lib.hid (HO2.out HOK.out)
      clear hKq HCR1 HO1 HO2
      go_upto_region 21 with (first
        | (go_at_call 19; refine HO1a.out.mono ?_; rintro e wo ⟨gx, Uo, rfl, hKo⟩)
        | go_in)
      have HO2b := Lib.hid (HO2a.out _ _ _ hKo)
      clear hKo HO1a HO2a
      go_upto_region 22 with (first
        | (go_at_call 19; refine HO2b.out.mono ?_; rintro e wy ⟨gy, rfl, hX⟩)
        | go_in)
      have HX := Lib.hid hX
      clear HO2b
      have hsm := hX.small
      have hs0m := (HRL.out _ (Below.refl _ _)).fit.l
      have HLM := Lib.hid (show r.recs.length ≤ 100000000 ∧ r0.recs.length ≤ 10000000 from ⟨hsm, hs0m⟩)
      clear hX hsm hs0m
      obtain ⟨sx, hsx⟩ : ∃ s, s = str r.sum := ⟨_, rfl⟩
      have HSX := Lib.hid hsx
      have HCX := Lib.hid (show ∀ W W' B c, ByT W W' B r.sum → (convert 53 9 (.slice B r.sum.length c)).run Try.prog W' = .ok (.string sx) W' from fun W W' B c hB => by rw [hsx]; exact hB.text c)
      have HUX := Lib.hid (fun W (hW : Below wy.heap.size wy W) => (HX.out.below hW).sumX)
      have HUY := Lib.hid (fun W (hW : Below wy.heap.size wy W) => (HX.out.below hW).sumY)
      have HVX := Lib.hid (fun W (hW : Below wy.heap.size wy W) => (HX.out.below hW).recsX)
      have HVY := Lib.hid (fun W (hW : Below wy.heap.size wy W) => (HX.out.below hW).recsY)
      have HSA := Lib.hid (show ∀ W P Q A B c d, RcP W P A r.recs → RcP W Q B r.recs → Calls Try.prog 25 #[.slice A r.recs.length c, .slice B r.recs.length d] W (fun e W' => e = .returned (.bool true) ∧ Below W.heap.size W W') from fun W P Q A B c d h1 h2 => (same_any h1 h2 c d HLM.out.1 HLM.out.1).mono fun e W' ⟨b, he, hq, hb⟩ => ⟨by rw [hq rfl] at he; exact he, hb⟩)
      have q1 : (sx.toList == sx.toList) = true := by simp
      clear hsx
      go_cut [103] from 85 to 103 (fun b wx => b = .bool false ∧ Below wy.heap.size wy wx)
      case first =>
        refine wp_region_K (fun _ => True) [0, 1, 2, 3, 5, 8, 9, 10, 11, 14] (by kernel_rfl) ?_
        have hd0 : Below wy.heap.size wy wy.drew := (Below.refl _ _).drew
        have H4 := Lib.hid (HVX.out _ hd0)
        refine wpK_quiet (f := 14) (by kernel_rfl) (fun _ x _ _ _ h => by cases x <;> exact h) trivial [0, 1, 2, 3, 5] _ _ (by kernel_rfl) (by kernel_rfl) (by kernel_rfl) ?_
        have ne : Nonempty (WorldIn (fun _ => True)) := ⟨⟨wr, trivial⟩⟩
        conv => arg 5; simp [pick]
        iterate 5 go_big_quiet_step (fail)
        refine wpQuiet_nil ?_
        clear ne
        refine wpK_step 4 (by kernel_rfl) rfl ?_
        go_wp2_with (go_at_call 22; (with_reducible refine H4.out.mono ?_); rintro e wa ⟨Ba, ca, rfl, hra, hba⟩)
        refine stepQ.mk ⟨fun _ => trivial, ?_⟩
        have hb4 := nxt hd0 hba
        have H6 := Lib.hid (HVY.out _ hb4)
        clear H4 hd0 hba
        refine wpK_step 6 (by kernel_rfl) rfl ?_
        go_wp2_with (go_at_call 22; (with_reducible refine H6.out.mono ?_); rintro e wb ⟨Bb, cb, rfl, hrb, hbb⟩)
        refine stepQ.mk ⟨fun _ => trivial, ?_⟩
        have hb6 := nxt hb4 hbb
        have H7 := Lib.hid (HSA.out _ _ _ _ _ ca cb (hra.below hbb) hrb)
        clear H6 hb4 hra hrb hbb
        refine wpK_step 7 (by kernel_rfl) rfl ?_
        go_wp2_with (go_at_call 25; (with_reducible refine H7.out.mono ?_); rintro e wd ⟨rfl, hbd⟩)
        refine stepQ.mk ⟨fun _ => trivial, ?_⟩
        have hb7 := nxt hb6 hbd
        have H12 := Lib.hid (HUX.out _ hb7)
        clear H7 hb6 hbd
        refine wpK_quiet (f := 6) (by kernel_rfl) (fun _ x _ _ _ h => by cases x <;> exact h) trivial [8, 9, 10, 11, 14] _ _ (by kernel_rfl) (by kernel_rfl) (by kernel_rfl) ?_
        have ne : Nonempty (WorldIn (fun _ => True)) := ⟨⟨wr, trivial⟩⟩
        conv => arg 5; simp [pick]
        iterate 5 go_big_quiet_step (fail)
        refine wpQuiet_nil ?_
        clear ne
        refine wpK_step 12 (by kernel_rfl) rfl ?_
        go_wp2_with (go_at_call 21; (with_reducible refine H12.out.mono ?_); rintro e we ⟨Be, ce, rfl, he⟩)
        refine stepQ.mk ⟨fun _ => trivial, ?_⟩
        have hb12 := nxt hb7 he.bw
        have H15 := Lib.hid (HUY.out _ hb12)
        clear H12 hb7
        refine wpK_two 13 15 (by kernel_rfl) rfl rfl ?_ ?_
        · have hcv := HCX.out _ _ _ ce he
          go_wp2
          refine stepQ.mk ⟨fun _ => trivial, ?_⟩
          clear hcv
          refine wpK_step 15 (by kernel_rfl) rfl ?_
          go_wp2_with (go_at_call 21; (with_reducible refine H15.out.mono ?_); rintro e wf ⟨Bf, cf, rfl, hf⟩)
          refine stepQ.mk ⟨fun _ => trivial, ?_⟩
          have hcv := HCX.out _ _ _ cf hf
          refine wpK_step 16 (by kernel_rfl) rfl ?_
          go_wp2
          refine stepQ.mk ⟨fun _ => trivial, ?_⟩
          clear hcv
          refine wpK_step 17 (by kernel_rfl) rfl ?_
          go_wp2
          refine stepQ.mk ⟨fun _ => trivial, ?_⟩
          refine wpK_step 18 (by kernel_rfl) rfl ?_
          go_wp2
          refine stepQ.mk ⟨fun _ => trivial, ?_⟩
          refine wpK_seq [] _ _ _ (by kernel_rfl) ?_
          conv => arg 4; simp [pick]
          go_wp2
          go_meet
          exact ⟨rfl, nxt hb12 hf.bw⟩
        · go_wp2_with (go_at_call 21; (with_reducible refine H15.out.mono ?_); rintro e wf ⟨Bf, cf, rfl, hf⟩)
          refine stepQ.mk ⟨fun _ => trivial, ?_⟩
          have hcv1 := HCX.out _ _ _ ce (he.below hf.bw)
          have hcv2 := HCX.out _ _ _ cf hf
          refine wpK_two 13 16 (by kernel_rfl) rfl rfl ?_ ?_
          · go_wp2
            refine stepQ.mk ⟨fun _ => trivial, ?_⟩
            refine wpK_step 16 (by kernel_rfl) rfl ?_
            go_wp2
            refine stepQ.mk ⟨fun _ => trivial, ?_⟩
            clear hcv1 hcv2
            refine wpK_step 17 (by kernel_rfl) rfl ?_
            go_wp2
            refine stepQ.mk ⟨fun _ => trivial, ?_⟩
            refine wpK_step 18 (by kernel_rfl) rfl ?_
            go_wp2
            refine stepQ.mk ⟨fun _ => trivial, ?_⟩
            refine wpK_seq [] _ _ _ (by kernel_rfl) ?_
            conv => arg 4; simp [pick]
            go_wp2
            go_meet
            exact ⟨rfl, nxt hb12 hf.bw⟩
          · go_wp2
            refine stepQ.mk ⟨fun _ => trivial, ?_⟩
            refine wpK_step 13 (by kernel_rfl) rfl ?_
            go_wp2
            refine stepQ.mk ⟨fun _ => trivial, ?_⟩
            clear hcv1 hcv2
            refine wpK_step 17 (by kernel_rfl) rfl ?_
            go_wp2
            refine stepQ.mk ⟨fun _ => trivial, ?_⟩
            refine wpK_step 18 (by kernel_rfl) rfl ?_
            go_wp2
            refine stepQ.mk ⟨fun _ => trivial, ?_⟩
            refine wpK_seq [] _ _ _ (by kernel_rfl) ?_
            conv => arg 4; simp [pick]
            go_wp2
            go_meet
            exact ⟨rfl, nxt hb12 hf.bw⟩
      case rest =>
        obtain ⟨rfl, hbc⟩ := hcut
        obtain ⟨wA, hwA⟩ : ∃ W, W = wc := ⟨_, rfl⟩
        subst hwA
        have HBA := Lib.hid hbc
        clear hbc HVY HUY HSA
        go_upto_region 24 with fail
        go_cut [118] from 104 to 118 (fun b wx => ∃ q, b = .bool q ∧ (M = L → d ≠ 0 → q = true) ∧ Below wy.heap.size wy wx)
        case first =>
          have HUA := Lib.hid (HUX.out _ HBA.out)
          have HSB := Lib.hid (show ∀ W P A c d, RcP W P A r.recs → RcP W P0 B0 r0.recs → Calls Try.prog 25 #[.slice A r.recs.length c, .slice B0 r0.recs.length d] W (SamePost r.recs r0.recs W) from fun W P A c d h1 h2 => same_any h1 h2 c d HLM.out.1 (by have := HLM.out.2; omega))
          have HDN : Hid (d = 0 → (M = L → d ≠ 0 → false = true)) := Lib.hid (fun h0 _ h1 => absurd h0 h1)
          have HSN := Lib.hid (show M = L → sx = s0 from fun h => by rw [HSX.out, HS0.out, HRM.out, HR0.out.2, h])
          have HRN := Lib.hid (show M = L → r.recs = r0.recs from fun h => by rw [HRM.out, HR0.out.2, h])
          cases hdq : (d != 0)
          · have HD0 := Lib.hid (show d = 0 by simpa using hdq)
            go_wp2_with fail
            go_meet
            exact ⟨false, rfl, HDN.out HD0.out, HBA.out⟩
          · cases hsq : (sx.toList == s0.toList)
            · go_wp2_with (first
                | (go_at_call 21; refine HUA.out.mono ?_; rintro e wa ⟨Ba, ca, rfl, ha⟩; have hcv := HCX.out _ _ _ ca ha)
                | go_in)
              go_meet
              exact ⟨false, rfl, fun h _ => by rw [HSN.out h] at hsq; simp at hsq, nxt HBA.out ha.bw⟩
            · go_wp2_with (first
                | (go_at_call 21; refine HUA.out.mono ?_; rintro e wa ⟨Ba, ca, rfl, ha⟩; have hcv := HCX.out _ _ _ ca ha)
                | (go_at_call 22; refine (HVX.out _ (nxt HBA.out ha.bw)).mono ?_; rintro e wb ⟨Bb, cb, rfl, hrb, hbb⟩; have hbw := nxt (nxt HBA.out ha.bw) hbb)
                | (go_at_call 25; refine (HSB.out _ _ _ cb c0 hrb (HX.out.below hbw).rc).mono ?_; unfold SamePost; rintro e wd ⟨b, rfl, hb, hbd⟩)
                | go_in)
              go_meet
              exact ⟨b, rfl, fun h _ => hb (HRN.out h), nxt hbw hbd⟩
        case rest =>
          obtain ⟨q, rfl, hq, hbc⟩ := hcut
          obtain ⟨wB, hwB⟩ : ∃ W, W = wc := ⟨_, rfl⟩
          subst hwB
          have HBB := Lib.hid hbc
          have HFN := Lib.hid (show ∀ W, Below wB.heap.size wB W → Below w.heap.size w W from fun W hW => nxt (nxt HB0.out HX.out.bw) (nxt HBB.out hW))
          have HKB := Lib.hid (show ∀ W, Below wB.heap.size wB W → Below w1.heap.size w1 W from fun W hW => nxt HX.out.bw (nxt HBB.out hW))
          have HUX2 := Lib.hid (fun W (hW : Below wB.heap.size wB W) => HUX.out W (nxt HBB.out hW))
          have HVX2 := Lib.hid (fun W (hW : Below wB.heap.size wB W) => HVX.out W (nxt HBB.out hW))
          have HRR := Lib.hid (fun W (hW : Below wB.heap.size wB W) => (HX.out.below (nxt HBB.out hW)).rc)
          have HC0B := Lib.hid (fun W (hW : Below wB.heap.size wB W) => HC0.out W (HKB.out W hW))
          have HC1B := Lib.hid (fun W (hW : Below wB.heap.size wB W) => HC1.out W (HKB.out W hW))
          cases q
          rotate_left
          · go_wp2
            go_ret
            exact ⟨rfl, HFN.out _ (Below.refl _ _)⟩
          have HB := Lib.hid (show r = rlOf (actE L x) from HOR.out.resolve_left (fun h => absurd (hq h.1 h.2) (by simp)))
          have k0 := HC0B.out _ (Below.refl _ _)
          clear hq hbc HUX HVX HX HBB HBA HOR
          by_cases hk1 : kk = 1
          · have hka : x.kind = 1 := by rw [← HS1.out.2.1]; exact hk1
            have HG := Lib.hid ((act_rl L x).1 hka)
            have hsx : sx = s1 := by rw [HSX.out, HB.out, HG.out.1, HS1.out.1]
            have hnx : r.recs.length = 0 := by rw [HB.out, HG.out.2]; rfl
            subst hk1
            subst hsx
            clear hka
            have HVX3 := Lib.hid (show ∀ W, Below wB.heap.size wB W → Calls Try.prog 22 #[.pointer (some ⟨gx, 0, none⟩)] W (fun e W' => ∃ B c, e = .returned (.slice B 0 c) ∧ Below W.heap.size W W') from fun W hW => (HVX2.out W hW).mono fun e W' ⟨B, c, he, _, hb⟩ => ⟨B, c, by rw [hnx] at he; exact he, hb⟩)
            clear hnx HVX2
            go_upto_region 27 with fail
            have hd0 : Below wB.heap.size wB wB.drew := (Below.refl _ _).drew
            obtain ⟨S3, hS3⟩ : ∃ S : World → Prop, S = fun W => W.cell? ⟨p, 1, none⟩ = some (.string sx) := ⟨_, rfl⟩
            have HSI := Lib.hid (show ∀ W, Below wB.heap.size wB W → S3 W from fun W hW => by rw [hS3]; exact HC1B.out W hW)
            have HSO := Lib.hid (show ∀ y : WorldIn S3, y.w.cell? ⟨p, 1, none⟩ = some (.string sx) from fun y => Eq.mp (congrFun hS3 y.w) y.h)
            clear hS3 k0
            refine wp_region_K S3 [0, 3, 4, 5, 6, 7] (by kernel_rfl) ?_
            have hS := HSI.out _ hd0
            refine wpK_quiet (f := 10) (by kernel_rfl) (fun _ x _ _ _ h => by cases x <;> exact h) hS [0, 3, 4] _ _ (by kernel_rfl) (by kernel_rfl) (by kernel_rfl) ?_
            have ne : Nonempty (WorldIn S3) := ⟨⟨_, hS⟩⟩
            have g1 := HSO.out
            conv => arg 5; simp [pick]
            iterate 3 go_big_quiet_step (fail)
            refine wpQuiet_nil ?_
            clear ne g1
            have H1 := Lib.hid (HUX2.out _ hd0)
            refine wpK_step 1 (by kernel_rfl) rfl ?_
            go_wp2_with (go_at_call 21; (with_reducible refine H1.out.mono ?_); rintro e wa ⟨Ba, ca, rfl, ha⟩)
            have hba := nxt hd0 ha.bw
            have hSa := HSI.out _ hba
            refine stepQ.mk ⟨fun _ => hSa, ?_⟩
            have hcv := HCX.out _ _ _ ca ha
            refine wpK_step 2 (by kernel_rfl) rfl ?_
            go_wp2
            refine stepQ.mk ⟨fun _ => hSa, ?_⟩
            clear hcv ha hS hd0 H1
            refine wpK_quiet (f := 5) (by kernel_rfl) (fun _ x _ _ _ h => by cases x <;> exact h) hSa [5, 6, 7] _ _ (by kernel_rfl) (by kernel_rfl) (by kernel_rfl) ?_
            have ne : Nonempty (WorldIn S3) := ⟨⟨_, hSa⟩⟩
            conv => arg 5; simp [pick]
            iterate 3 go_big_quiet_step (fail)
            refine wpQuiet_nil ?_
            clear ne
            have H8 := Lib.hid (HVX3.out _ hba)
            refine wpK_step 8 (by kernel_rfl) rfl ?_
            go_wp2_with (go_at_call 22; (with_reducible refine H8.out.mono ?_); rintro e wb ⟨Bb, cb, rfl, hbb⟩)
            refine stepQ.mk ⟨fun _ => HSI.out _ (nxt hba hbb), ?_⟩
            refine wpK_step 9 (by kernel_rfl) rfl ?_
            go_wp2
            refine stepQ.mk ⟨fun _ => HSI.out _ (nxt hba hbb), ?_⟩
            refine wpK_step 10 (by kernel_rfl) rfl ?_
            go_wp2
            refine stepQ.mk ⟨fun _ => HSI.out _ (nxt hba hbb), ?_⟩
            refine wpK_step 11 (by kernel_rfl) rfl ?_
            go_wp2
            refine stepQ.mk ⟨fun _ => HSI.out _ (nxt hba hbb), ?_⟩
            refine wpK_seq [12] _ _ _ (by kernel_rfl) ?_
            conv => arg 4; simp [pick]
            go_wp2
            go_ret
            exact ⟨rfl, HFN.out _ (nxt hba hbb)⟩
          · have hka : x.kind ≠ 1 := by rw [← HS1.out.2.1]; exact hk1
            have HG := Lib.hid ((act_rl L x).2 hka)
            have hsx : sx = s0 := by rw [HSX.out, HS0.out, HB.out, HG.out.1, HR0.out.2]
            have HEQ := Lib.hid (show r.recs = r0.recs ++ [x.s] by rw [HB.out, HG.out.2, HR0.out.2])
            have gk : (kk == 1) = false := by rw [beq_eq_false_iff_ne]; exact hk1
            subst hsx
            clear hka hk1
            obtain ⟨l, hl⟩ : ∃ l, l = x.s := ⟨_, rfl⟩
            rw [← hl] at HEQ
            have HSL := Lib.hid (show s1 = str l by rw [hl]; exact HS1.out.1)
            clear hl
            have HST := Lib.hid (show ∀ W, ∃ c w', (convert 9 53 (.string s1)).run Try.prog W = .ok (.slice (some ⟨W.heap.size, 0, none⟩) l.length c) w' ∧ Reads w' w'.heap.size 1 (some ⟨W.heap.size, 0, none⟩) l.length (bcs l) ∧ Below W.heap.size W w' from fun W => by rw [HSL.out]; exact str_bytes W l)
            have HSA := Lib.hid (show ∀ W P Q A B c d, RcP W P A r.recs → RcP W Q B (r0.recs ++ [l]) → Calls Try.prog 25 #[.slice A r.recs.length c, .slice B (r0.recs.length + 1) d] W (fun e W' => e = .returned (.bool true) ∧ Below W.heap.size W W') from fun W P Q A B c d h1 h2 => by
              have h3 : (r0.recs ++ [l]).length = r0.recs.length + 1 := by simp
              have := same_any h1 h2 c d HLM.out.1 (by have := HLM.out.2; omega)
              rw [h3] at this
              exact this.mono fun e W' ⟨b, he, hq, hb⟩ => ⟨by rw [hq HEQ.out] at he; exact he, hb⟩)
            go_upto_region 28 with fail
            have hd0 : Below wB.heap.size wB wB.drew := (Below.refl _ _).drew
            obtain ⟨S3, hS3⟩ : ∃ S : World → Prop, S = fun W => W.cell? ⟨p, 1, none⟩ = some (.string s1) := ⟨_, rfl⟩
            have HSI := Lib.hid (show ∀ W, Below wB.heap.size wB W → S3 W from fun W hW => by rw [hS3]; exact HC1B.out W hW)
            have HSO := Lib.hid (show ∀ y : WorldIn S3, y.w.cell? ⟨p, 1, none⟩ = some (.string s1) from fun y => Eq.mp (congrFun hS3 y.w) y.h)
            clear hS3 k0
            refine wp_region_K S3 [0, 3, 4, 5, 6, 9, 11, 12] (by kernel_rfl) ?_
            have hS := HSI.out _ hd0
            refine wpK_quiet (f := 17) (by kernel_rfl) (fun _ x _ _ _ h => by cases x <;> exact h) hS [0, 3] _ _ (by kernel_rfl) (by kernel_rfl) (by kernel_rfl) ?_
            have ne : Nonempty (WorldIn S3) := ⟨⟨_, hS⟩⟩
            conv => arg 5; simp [pick]
            iterate 2 go_big_quiet_step (fail)
            refine wpQuiet_nil ?_
            clear ne
            have H1 := Lib.hid (HUX2.out _ hd0)
            refine wpK_step 1 (by kernel_rfl) rfl ?_
            go_wp2_with (go_at_call 21; (with_reducible refine H1.out.mono ?_); rintro e wa ⟨Ba, ca, rfl, ha⟩)
            have hba := nxt hd0 ha.bw
            have hSa := HSI.out _ hba
            refine stepQ.mk ⟨fun _ => hSa, ?_⟩
            have hcv := HCX.out _ _ _ ca ha
            refine wpK_step 2 (by kernel_rfl) rfl ?_
            go_wp2
            refine stepQ.mk ⟨fun _ => hSa, ?_⟩
            clear hcv ha hS hd0 H1
            refine wpK_quiet (f := 9) (by kernel_rfl) (fun _ x _ _ _ h => by cases x <;> exact h) hSa [4, 5, 6, 9, 11, 12] _ _ (by kernel_rfl) (by kernel_rfl) (by kernel_rfl) ?_
            have ne : Nonempty (WorldIn S3) := ⟨⟨_, hSa⟩⟩
            have g1 := HSO.out
            conv => arg 5; simp [pick]
            iterate 6 go_big_quiet_step (fail)
            refine wpQuiet_nil ?_
            clear ne g1
            have HSI2 := Lib.hid (fun W (hW : Below wa.heap.size wa W) => HSI.out W (nxt hba hW))
            have HFN2 := Lib.hid (fun W (hW : Below wa.heap.size wa W) => HFN.out W (nxt hba hW))
            have HVX3 := Lib.hid (fun W (hW : Below wa.heap.size wa W) => HVX2.out W (nxt hba hW))
            have hcap := (HRR.out _ hba).cap
            have HRC := Lib.hid (fun W (hW : Below wa.heap.size wa W) => hcap.below hW)
            have G0 := Gt.start (Below.refl wa.heap.size wa) l r.recs
            clear hba hSa HSI HSO HFN HVX2 HRR hcap HC0 HC1 HC0B HC1B HUX2 HKB HK HS1 HSU HRE HKP HRU HRL HCS HCX HN1 HE HL1 HBD HX2 HXS q1 gk
            refine wpK_with (fun ops Q listed a => ∀ (Bx : Option Addr) (cx : Nat) (E : Value) (F : Option Addr) (cf aS cS aC : Nat) (Px Ps Pc : Nat → Prop) (W : World), Gt wa true true true true Px Ps Pc Bx r.recs (.slice F r0.recs.length cf) r0.recs (some ⟨aS, 0, none⟩) l (some ⟨aC, 0, none⟩) cS W → wpK Try.prog .any ops Q S3 [0, 3, 4, 5, 6, 9, 11, 12] 4 (((((listed.setIfInBounds 7 true).setIfInBounds 8 true).setIfInBounds 10 true).setIfInBounds 13 true).setIfInBounds 14 true) (((((a.put (some 141) (.slice Bx r.recs.length cx)).put (some 142) E).put (some 144) (.slice F r0.recs.length cf)).put (some 147) (.slice (some ⟨aS, 0, none⟩) l.length cS)).put (some 148) (.slice (some ⟨aC, 0, none⟩) 1 1)) W) ?_ (fun TAIL0 => ?_)
            · intro Bx cx E F cf aS cS aC Px Ps Pc W G
              clear G0
              conv => arg 9; simp only [Act.put, List.setIfInBounds_toArray, List.set_cons_zero, List.set_cons_succ]
              refine wpK_step 15 (by kernel_rfl) rfl ?_
              refine wpList_app2 rfl _ _ rfl rfl 1 _ rfl G rfl (by have := HLM.out.2; omega) ?_
              intro F1 cf1 w1z hx1 hy1 hb1
              go_wp2
              clear G
              refine stepQ.mk ⟨fun _ => HSI2.out _ hb1, ?_⟩
              refine wpK_step 16 (by kernel_rfl) rfl ?_
              go_wp2_with (go_at_call 25; (with_reducible refine (HSA.out _ _ _ _ _ _ _ hx1 hy1).mono ?_); rintro e w2z ⟨rfl, hbz⟩)
              have hbe := nxt hb1 hbz
              clear hx1 hy1 hb1 hbz
              refine stepQ.mk ⟨fun _ => HSI2.out _ hbe, ?_⟩
              refine wpK_step 17 (by kernel_rfl) rfl ?_
              go_wp2
              refine stepQ.mk ⟨fun _ => HSI2.out _ hbe, ?_⟩
              refine wpK_seq [18] _ _ _ (by kernel_rfl) ?_
              conv => arg 4; simp [pick]
              go_wp2
              go_ret
              exact ⟨rfl, HFN2.out _ hbe⟩
            simp only [Act.put, List.setIfInBounds_toArray, List.set_cons_zero, List.set_cons_succ] at TAIL0
            have TAIL := Lib.hid TAIL0
            clear TAIL0
            refine wpK_three 7 8 13 (by kernel_rfl) rfl rfl rfl ?_ ?_ ?_
            · go_wp2_with (go_at_call 22; (with_reducible refine (HVX3.out _ G0.bw).mono ?_); rintro e w3z ⟨B3, c3, rfl, hr3, hb3⟩)
              have G3 := G0.mkX hr3 hb3
              clear G0 hr3 hb3
              refine stepQ.mk ⟨fun _ => HSI2.out _ G3.bw, ?_⟩
              refine wpK_two 8 13 (by kernel_rfl) rfl rfl ?_ ?_
              · have hrw := em_row w3z
                have G4 := G3.mkE
                obtain ⟨w4z, hwz⟩ : ∃ W, W = w3z.alloc (.cells #[] 53) := ⟨_, rfl⟩
                obtain ⟨a4, haz⟩ : ∃ z, z = w3z.heap.size := ⟨_, rfl⟩
                rw [← hwz, ← haz] at hrw
                rw [← hwz, ← haz] at G4
                clear hwz haz G3
                refine wpList_buildSlice_met rfl _ _ _ rfl #[] rfl hrw ?_
                go_wp2
                clear hrw
                refine stepQ.mk ⟨fun _ => HSI2.out _ G4.bw, ?_⟩
                refine wpK_two 10 13 (by kernel_rfl) rfl rfl ?_ ?_
                · refine wpList_app1 rfl _ _ rfl rfl B0 _ c0 r0.recs rfl rfl G4 HRC.out (fun _ h => h.2) (by have := HLM.out.2; omega) ?_
                  intro F5 cf5 w5z G5
                  go_wp2
                  clear G4
                  refine stepQ.mk ⟨fun _ => HSI2.out _ G5.bw, ?_⟩
                  refine wpK_step 13 (by kernel_rfl) rfl ?_
                  obtain ⟨c6, w6z, hcv, hrz, hbz⟩ := HST.out w5z
                  have G6 := G5.mkS hrz hbz
                  obtain ⟨a6, haz⟩ : ∃ z, z = w5z.heap.size := ⟨_, rfl⟩
                  rw [← haz] at hcv G6
                  clear hrz hbz haz G5
                  go_wp2
                  clear hcv
                  refine stepQ.mk ⟨fun _ => HSI2.out _ G6.bw, ?_⟩
                  refine wpK_step 14 (by kernel_rfl) rfl ?_
                  have hrw := by_row (some ⟨a6, 0, none⟩) l.length c6 w6z
                  have G7 := G6.mkC c6
                  obtain ⟨w7z, hwz⟩ : ∃ W, W = w6z.alloc (.cells #[.slice (some ⟨a6, 0, none⟩) l.length c6] 53) := ⟨_, rfl⟩
                  obtain ⟨a7, haz⟩ : ∃ z, z = w6z.heap.size := ⟨_, rfl⟩
                  rw [← hwz, ← haz] at hrw
                  rw [← hwz, ← haz] at G7
                  clear hwz haz G6
                  refine wpList_buildSlice_met rfl _ _ _ rfl #[(0, .slice (some ⟨a6, 0, none⟩) l.length c6)] rfl hrw ?_
                  go_wp2
                  clear hrw
                  refine stepQ.mk ⟨fun _ => HSI2.out _ G7.bw, ?_⟩
                  exact wpK_listed (by kernel_rfl) (TAIL.out _ _ _ _ _ _ _ _ _ _ _ _ G7)
                · obtain ⟨c8, w8z, hcv, hrz, hbz⟩ := HST.out w4z
                  have G8 := G4.mkS hrz hbz
                  obtain ⟨a8, haz⟩ : ∃ z, z = w4z.heap.size := ⟨_, rfl⟩
                  rw [← haz] at hcv G8
                  clear hrz hbz haz G4
                  go_wp2
                  clear hcv
                  refine stepQ.mk ⟨fun _ => HSI2.out _ G8.bw, ?_⟩
                  refine wpK_two 10 14 (by kernel_rfl) rfl rfl ?_ ?_
                  · refine wpList_app1 rfl _ _ rfl rfl B0 _ c0 r0.recs rfl rfl G8 HRC.out (fun _ h => h.2) (by have := HLM.out.2; omega) ?_
                    intro F9 cf9 w9z G9
                    go_wp2
                    clear G8
                    refine stepQ.mk ⟨fun _ => HSI2.out _ G9.bw, ?_⟩
                    refine wpK_step 14 (by kernel_rfl) rfl ?_
                    have hrw := by_row (some ⟨a8, 0, none⟩) l.length c8 w9z
                    have G10 := G9.mkC c8
                    obtain ⟨w10z, hwz⟩ : ∃ W, W = w9z.alloc (.cells #[.slice (some ⟨a8, 0, none⟩) l.length c8] 53) := ⟨_, rfl⟩
                    obtain ⟨a10, haz⟩ : ∃ z, z = w9z.heap.size := ⟨_, rfl⟩
                    rw [← hwz, ← haz] at hrw
                    rw [← hwz, ← haz] at G10
                    clear hwz haz G9
                    refine wpList_buildSlice_met rfl _ _ _ rfl #[(0, .slice (some ⟨a8, 0, none⟩) l.length c8)] rfl hrw ?_
                    go_wp2
                    clear hrw
                    refine stepQ.mk ⟨fun _ => HSI2.out _ G10.bw, ?_⟩
                    exact wpK_listed (by kernel_rfl) (TAIL.out _ _ _ _ _ _ _ _ _ _ _ _ G10)
                  · have hrw := by_row (some ⟨a8, 0, none⟩) l.length c8 w8z
                    have G11 := G8.mkC c8
                    obtain ⟨w11z, hwz⟩ : ∃ W, W = w8z.alloc (.cells #[.slice (some ⟨a8, 0, none⟩) l.length c8] 53) := ⟨_, rfl⟩
                    obtain ⟨a11, haz⟩ : ∃ z, z = w8z.heap.size := ⟨_, rfl⟩
                    rw [← hwz, ← haz] at hrw
                    rw [← hwz, ← haz] at G11
                    clear hwz haz G8
                    refine wpList_buildSlice_met rfl _ _ _ rfl #[(0, .slice (some ⟨a8, 0, none⟩) l.length c8)] rfl hrw ?_
                    go_wp2
                    clear hrw
                    refine stepQ.mk ⟨fun _ => HSI2.out _ G11.bw, ?_⟩
                    refine wpK_step 10 (by kernel_rfl) rfl ?_
                    refine wpList_app1 rfl _ _ rfl rfl B0 _ c0 r0.recs rfl rfl G11 HRC.out (fun _ h => h.2) (by have := HLM.out.2; omega) ?_
                    intro F12 cf12 w12z G12
                    go_wp2
                    clear G11
                    refine stepQ.mk ⟨fun _ => HSI2.out _ G12.bw, ?_⟩
                    exact wpK_listed (by kernel_rfl) (TAIL.out _ _ _ _ _ _ _ _ _ _ _ _ G12)
              · obtain ⟨c13, w13z, hcv, hrz, hbz⟩ := HST.out w3z
                have G13 := G3.mkS hrz hbz
                obtain ⟨a13, haz⟩ : ∃ z, z = w3z.heap.size := ⟨_, rfl⟩
                rw [← haz] at hcv G13
                clear hrz hbz haz G3
                go_wp2
                clear hcv
                refine stepQ.mk ⟨fun _ => HSI2.out _ G13.bw, ?_⟩
                refine wpK_two 8 14 (by kernel_rfl) rfl rfl ?_ ?_
                · have hrw := em_row w13z
                  have G14 := G13.mkE
                  obtain ⟨w14z, hwz⟩ : ∃ W, W = w13z.alloc (.cells #[] 53) := ⟨_, rfl⟩
                  obtain ⟨a14, haz⟩ : ∃ z, z = w13z.heap.size := ⟨_, rfl⟩
                  rw [← hwz, ← haz] at hrw
                  rw [← hwz, ← haz] at G14
                  clear hwz haz G13
                  refine wpList_buildSlice_met rfl _ _ _ rfl #[] rfl hrw ?_
                  go_wp2
                  clear hrw
                  refine stepQ.mk ⟨fun _ => HSI2.out _ G14.bw, ?_⟩
                  refine wpK_two 10 14 (by kernel_rfl) rfl rfl ?_ ?_
                  · refine wpList_app1 rfl _ _ rfl rfl B0 _ c0 r0.recs rfl rfl G14 HRC.out (fun _ h => h.2) (by have := HLM.out.2; omega) ?_
                    intro F15 cf15 w15z G15
                    go_wp2
                    clear G14
                    refine stepQ.mk ⟨fun _ => HSI2.out _ G15.bw, ?_⟩
                    refine wpK_step 14 (by kernel_rfl) rfl ?_
                    have hrw := by_row (some ⟨a13, 0, none⟩) l.length c13 w15z
                    have G16 := G15.mkC c13
                    obtain ⟨w16z, hwz⟩ : ∃ W, W = w15z.alloc (.cells #[.slice (some ⟨a13, 0, none⟩) l.length c13] 53) := ⟨_, rfl⟩
                    obtain ⟨a16, haz⟩ : ∃ z, z = w15z.heap.size := ⟨_, rfl⟩
                    rw [← hwz, ← haz] at hrw
                    rw [← hwz, ← haz] at G16
                    clear hwz haz G15
                    refine wpList_buildSlice_met rfl _ _ _ rfl #[(0, .slice (some ⟨a13, 0, none⟩) l.length c13)] rfl hrw ?_
                    go_wp2
                    clear hrw
                    refine stepQ.mk ⟨fun _ => HSI2.out _ G16.bw, ?_⟩
                    exact wpK_listed (by kernel_rfl) (TAIL.out _ _ _ _ _ _ _ _ _ _ _ _ G16)
                  · have hrw := by_row (some ⟨a13, 0, none⟩) l.length c13 w14z
                    have G17 := G14.mkC c13
                    obtain ⟨w17z, hwz⟩ : ∃ W, W = w14z.alloc (.cells #[.slice (some ⟨a13, 0, none⟩) l.length c13] 53) := ⟨_, rfl⟩
                    obtain ⟨a17, haz⟩ : ∃ z, z = w14z.heap.size := ⟨_, rfl⟩
                    rw [← hwz, ← haz] at hrw
                    rw [← hwz, ← haz] at G17
                    clear hwz haz G14
                    refine wpList_buildSlice_met rfl _ _ _ rfl #[(0, .slice (some ⟨a13, 0, none⟩) l.length c13)] rfl hrw ?_
                    go_wp2
                    clear hrw
                    refine stepQ.mk ⟨fun _ => HSI2.out _ G17.bw, ?_⟩
                    refine wpK_step 10 (by kernel_rfl) rfl ?_
                    refine wpList_app1 rfl _ _ rfl rfl B0 _ c0 r0.recs rfl rfl G17 HRC.out (fun _ h => h.2) (by have := HLM.out.2; omega) ?_
                    intro F18 cf18 w18z G18
                    go_wp2
                    clear G17
                    refine stepQ.mk ⟨fun _ => HSI2.out _ G18.bw, ?_⟩
                    exact wpK_listed (by kernel_rfl) (TAIL.out _ _ _ _ _ _ _ _ _ _ _ _ G18)
                · have hrw := by_row (some ⟨a13, 0, none⟩) l.length c13 w13z
                  have G19 := G13.mkC c13
                  obtain ⟨w19z, hwz⟩ : ∃ W, W = w13z.alloc (.cells #[.slice (some ⟨a13, 0, none⟩) l.length c13] 53) := ⟨_, rfl⟩
                  obtain ⟨a19, haz⟩ : ∃ z, z = w13z.heap.size := ⟨_, rfl⟩
                  rw [← hwz, ← haz] at hrw
                  rw [← hwz, ← haz] at G19
                  clear hwz haz G13
                  refine wpList_buildSlice_met rfl _ _ _ rfl #[(0, .slice (some ⟨a13, 0, none⟩) l.length c13)] rfl hrw ?_
                  go_wp2
                  clear hrw
                  refine stepQ.mk ⟨fun _ => HSI2.out _ G19.bw, ?_⟩
                  refine wpK_step 8 (by kernel_rfl) rfl ?_
                  have hrw := em_row w19z
                  have G20 := G19.mkE
                  obtain ⟨w20z, hwz⟩ : ∃ W, W = w19z.alloc (.cells #[] 53) := ⟨_, rfl⟩
                  obtain ⟨a20, haz⟩ : ∃ z, z = w19z.heap.size := ⟨_, rfl⟩
                  rw [← hwz, ← haz] at hrw
                  rw [← hwz, ← haz] at G20
                  clear hwz haz G19
                  refine wpList_buildSlice_met rfl _ _ _ rfl #[] rfl hrw ?_
                  go_wp2
                  clear hrw
                  refine stepQ.mk ⟨fun _ => HSI2.out _ G20.bw, ?_⟩
                  refine wpK_step 10 (by kernel_rfl) rfl ?_
                  refine wpList_app1 rfl _ _ rfl rfl B0 _ c0 r0.recs rfl rfl G20 HRC.out (fun _ h => h.2) (by have := HLM.out.2; omega) ?_
                  intro F21 cf21 w21z G21
                  go_wp2
                  clear G20
                  refine stepQ.mk ⟨fun _ => HSI2.out _ G21.bw, ?_⟩
                  exact wpK_listed (by kernel_rfl) (TAIL.out _ _ _ _ _ _ _ _ _ _ _ _ G21)
            · have hrw := em_row wa
              have G22 := G0.mkE
              obtain ⟨w22z, hwz⟩ : ∃ W, W = wa.alloc (.cells #[] 53) := ⟨_, rfl⟩
              obtain ⟨a22, haz⟩ : ∃ z, z = wa.heap.size := ⟨_, rfl⟩
              rw [← hwz, ← haz] at hrw
              rw [← hwz, ← haz] at G22
              clear hwz haz G0
              refine wpList_buildSlice_met rfl _ _ _ rfl #[] rfl hrw ?_
              go_wp2
              clear hrw
              refine stepQ.mk ⟨fun _ => HSI2.out _ G22.bw, ?_⟩
              refine wpK_two 7 13 (by kernel_rfl) rfl rfl ?_ ?_
              · go_wp2_with (go_at_call 22; (with_reducible refine (HVX3.out _ G22.bw).mono ?_); rintro e w23z ⟨B23, c23, rfl, hr23, hb23⟩)
                have G23 := G22.mkX hr23 hb23
                clear G22 hr23 hb23
                refine stepQ.mk ⟨fun _ => HSI2.out _ G23.bw, ?_⟩
                refine wpK_two 10 13 (by kernel_rfl) rfl rfl ?_ ?_
                · refine wpList_app1 rfl _ _ rfl rfl B0 _ c0 r0.recs rfl rfl G23 HRC.out (fun _ h => h.2) (by have := HLM.out.2; omega) ?_
                  intro F24 cf24 w24z G24
                  go_wp2
                  clear G23
                  refine stepQ.mk ⟨fun _ => HSI2.out _ G24.bw, ?_⟩
                  refine wpK_step 13 (by kernel_rfl) rfl ?_
                  obtain ⟨c25, w25z, hcv, hrz, hbz⟩ := HST.out w24z
                  have G25 := G24.mkS hrz hbz
                  obtain ⟨a25, haz⟩ : ∃ z, z = w24z.heap.size := ⟨_, rfl⟩
                  rw [← haz] at hcv G25
                  clear hrz hbz haz G24
                  go_wp2
                  clear hcv
                  refine stepQ.mk ⟨fun _ => HSI2.out _ G25.bw, ?_⟩
                  refine wpK_step 14 (by kernel_rfl) rfl ?_
                  have hrw := by_row (some ⟨a25, 0, none⟩) l.length c25 w25z
                  have G26 := G25.mkC c25
                  obtain ⟨w26z, hwz⟩ : ∃ W, W = w25z.alloc (.cells #[.slice (some ⟨a25, 0, none⟩) l.length c25] 53) := ⟨_, rfl⟩
                  obtain ⟨a26, haz⟩ : ∃ z, z = w25z.heap.size := ⟨_, rfl⟩
                  rw [← hwz, ← haz] at hrw
                  rw [← hwz, ← haz] at G26
                  clear hwz haz G25
                  refine wpList_buildSlice_met rfl _ _ _ rfl #[(0, .slice (some ⟨a25, 0, none⟩) l.length c25)] rfl hrw ?_
                  go_wp2
                  clear hrw
                  refine stepQ.mk ⟨fun _ => HSI2.out _ G26.bw, ?_⟩
                  exact wpK_listed (by kernel_rfl) (TAIL.out _ _ _ _ _ _ _ _ _ _ _ _ G26)
                · obtain ⟨c27, w27z, hcv, hrz, hbz⟩ := HST.out w23z
                  have G27 := G23.mkS hrz hbz
                  obtain ⟨a27, haz⟩ : ∃ z, z = w23z.heap.size := ⟨_, rfl⟩
                  rw [← haz] at hcv G27
                  clear hrz hbz haz G23
                  go_wp2
                  clear hcv
                  refine stepQ.mk ⟨fun _ => HSI2.out _ G27.bw, ?_⟩
                  refine wpK_two 10 14 (by kernel_rfl) rfl rfl ?_ ?_
                  · refine wpList_app1 rfl _ _ rfl rfl B0 _ c0 r0.recs rfl rfl G27 HRC.out (fun _ h => h.2) (by have := HLM.out.2; omega) ?_
                    intro F28 cf28 w28z G28
                    go_wp2
                    clear G27
                    refine stepQ.mk ⟨fun _ => HSI2.out _ G28.bw, ?_⟩
                    refine wpK_step 14 (by kernel_rfl) rfl ?_
                    have hrw := by_row (some ⟨a27, 0, none⟩) l.length c27 w28z
                    have G29 := G28.mkC c27
                    obtain ⟨w29z, hwz⟩ : ∃ W, W = w28z.alloc (.cells #[.slice (some ⟨a27, 0, none⟩) l.length c27] 53) := ⟨_, rfl⟩
                    obtain ⟨a29, haz⟩ : ∃ z, z = w28z.heap.size := ⟨_, rfl⟩
                    rw [← hwz, ← haz] at hrw
                    rw [← hwz, ← haz] at G29
                    clear hwz haz G28
                    refine wpList_buildSlice_met rfl _ _ _ rfl #[(0, .slice (some ⟨a27, 0, none⟩) l.length c27)] rfl hrw ?_
                    go_wp2
                    clear hrw
                    refine stepQ.mk ⟨fun _ => HSI2.out _ G29.bw, ?_⟩
                    exact wpK_listed (by kernel_rfl) (TAIL.out _ _ _ _ _ _ _ _ _ _ _ _ G29)
                  · have hrw := by_row (some ⟨a27, 0, none⟩) l.length c27 w27z
                    have G30 := G27.mkC c27
                    obtain ⟨w30z, hwz⟩ : ∃ W, W = w27z.alloc (.cells #[.slice (some ⟨a27, 0, none⟩) l.length c27] 53) := ⟨_, rfl⟩
                    obtain ⟨a30, haz⟩ : ∃ z, z = w27z.heap.size := ⟨_, rfl⟩
                    rw [← hwz, ← haz] at hrw
                    rw [← hwz, ← haz] at G30
                    clear hwz haz G27
                    refine wpList_buildSlice_met rfl _ _ _ rfl #[(0, .slice (some ⟨a27, 0, none⟩) l.length c27)] rfl hrw ?_
                    go_wp2
                    clear hrw
                    refine stepQ.mk ⟨fun _ => HSI2.out _ G30.bw, ?_⟩
                    refine wpK_step 10 (by kernel_rfl) rfl ?_
                    refine wpList_app1 rfl _ _ rfl rfl B0 _ c0 r0.recs rfl rfl G30 HRC.out (fun _ h => h.2) (by have := HLM.out.2; omega) ?_
                    intro F31 cf31 w31z G31
                    go_wp2
                    clear G30
                    refine stepQ.mk ⟨fun _ => HSI2.out _ G31.bw, ?_⟩
                    exact wpK_listed (by kernel_rfl) (TAIL.out _ _ _ _ _ _ _ _ _ _ _ _ G31)
              · obtain ⟨c32, w32z, hcv, hrz, hbz⟩ := HST.out w22z
                have G32 := G22.mkS hrz hbz
                obtain ⟨a32, haz⟩ : ∃ z, z = w22z.heap.size := ⟨_, rfl⟩
                rw [← haz] at hcv G32
                clear hrz hbz haz G22
                go_wp2
                clear hcv
                refine stepQ.mk ⟨fun _ => HSI2.out _ G32.bw, ?_⟩
                refine wpK_two 7 14 (by kernel_rfl) rfl rfl ?_ ?_
                · go_wp2_with (go_at_call 22; (with_reducible refine (HVX3.out _ G32.bw).mono ?_); rintro e w33z ⟨B33, c33, rfl, hr33, hb33⟩)
                  have G33 := G32.mkX hr33 hb33
                  clear G32 hr33 hb33
                  refine stepQ.mk ⟨fun _ => HSI2.out _ G33.bw, ?_⟩
                  refine wpK_two 10 14 (by kernel_rfl) rfl rfl ?_ ?_
                  · refine wpList_app1 rfl _ _ rfl rfl B0 _ c0 r0.recs rfl rfl G33 HRC.out (fun _ h => h.2) (by have := HLM.out.2; omega) ?_
                    intro F34 cf34 w34z G34
                    go_wp2
                    clear G33
                    refine stepQ.mk ⟨fun _ => HSI2.out _ G34.bw, ?_⟩
                    refine wpK_step 14 (by kernel_rfl) rfl ?_
                    have hrw := by_row (some ⟨a32, 0, none⟩) l.length c32 w34z
                    have G35 := G34.mkC c32
                    obtain ⟨w35z, hwz⟩ : ∃ W, W = w34z.alloc (.cells #[.slice (some ⟨a32, 0, none⟩) l.length c32] 53) := ⟨_, rfl⟩
                    obtain ⟨a35, haz⟩ : ∃ z, z = w34z.heap.size := ⟨_, rfl⟩
                    rw [← hwz, ← haz] at hrw
                    rw [← hwz, ← haz] at G35
                    clear hwz haz G34
                    refine wpList_buildSlice_met rfl _ _ _ rfl #[(0, .slice (some ⟨a32, 0, none⟩) l.length c32)] rfl hrw ?_
                    go_wp2
                    clear hrw
                    refine stepQ.mk ⟨fun _ => HSI2.out _ G35.bw, ?_⟩
                    exact wpK_listed (by kernel_rfl) (TAIL.out _ _ _ _ _ _ _ _ _ _ _ _ G35)
                  · have hrw := by_row (some ⟨a32, 0, none⟩) l.length c32 w33z
                    have G36 := G33.mkC c32
                    obtain ⟨w36z, hwz⟩ : ∃ W, W = w33z.alloc (.cells #[.slice (some ⟨a32, 0, none⟩) l.length c32] 53) := ⟨_, rfl⟩
                    obtain ⟨a36, haz⟩ : ∃ z, z = w33z.heap.size := ⟨_, rfl⟩
                    rw [← hwz, ← haz] at hrw
                    rw [← hwz, ← haz] at G36
                    clear hwz haz G33
                    refine wpList_buildSlice_met rfl _ _ _ rfl #[(0, .slice (some ⟨a32, 0, none⟩) l.length c32)] rfl hrw ?_
                    go_wp2
                    clear hrw
                    refine stepQ.mk ⟨fun _ => HSI2.out _ G36.bw, ?_⟩
                    refine wpK_step 10 (by kernel_rfl) rfl ?_
                    refine wpList_app1 rfl _ _ rfl rfl B0 _ c0 r0.recs rfl rfl G36 HRC.out (fun _ h => h.2) (by have := HLM.out.2; omega) ?_
                    intro F37 cf37 w37z G37
                    go_wp2
                    clear G36
                    refine stepQ.mk ⟨fun _ => HSI2.out _ G37.bw, ?_⟩
                    exact wpK_listed (by kernel_rfl) (TAIL.out _ _ _ _ _ _ _ _ _ _ _ _ G37)
                · have hrw := by_row (some ⟨a32, 0, none⟩) l.length c32 w32z
                  have G38 := G32.mkC c32
                  obtain ⟨w38z, hwz⟩ : ∃ W, W = w32z.alloc (.cells #[.slice (some ⟨a32, 0, none⟩) l.length c32] 53) := ⟨_, rfl⟩
                  obtain ⟨a38, haz⟩ : ∃ z, z = w32z.heap.size := ⟨_, rfl⟩
                  rw [← hwz, ← haz] at hrw
                  rw [← hwz, ← haz] at G38
                  clear hwz haz G32
                  refine wpList_buildSlice_met rfl _ _ _ rfl #[(0, .slice (some ⟨a32, 0, none⟩) l.length c32)] rfl hrw ?_
                  go_wp2
                  clear hrw
                  refine stepQ.mk ⟨fun _ => HSI2.out _ G38.bw, ?_⟩
                  refine wpK_step 7 (by kernel_rfl) rfl ?_
                  go_wp2_with (go_at_call 22; (with_reducible refine (HVX3.out _ G38.bw).mono ?_); rintro e w39z ⟨B39, c39, rfl, hr39, hb39⟩)
                  have G39 := G38.mkX hr39 hb39
                  clear G38 hr39 hb39
                  refine stepQ.mk ⟨fun _ => HSI2.out _ G39.bw, ?_⟩
                  refine wpK_step 10 (by kernel_rfl) rfl ?_
                  refine wpList_app1 rfl _ _ rfl rfl B0 _ c0 r0.recs rfl rfl G39 HRC.out (fun _ h => h.2) (by have := HLM.out.2; omega) ?_
                  intro F40 cf40 w40z G40
                  go_wp2
                  clear G39
                  refine stepQ.mk ⟨fun _ => HSI2.out _ G40.bw, ?_⟩
                  exact wpK_listed (by kernel_rfl) (TAIL.out _ _ _ _ _ _ _ _ _ _ _ _ G40)
            · obtain ⟨c41, w41z, hcv, hrz, hbz⟩ := HST.out wa
              have G41 := G0.mkS hrz hbz
              obtain ⟨a41, haz⟩ : ∃ z, z = wa.heap.size := ⟨_, rfl⟩
              rw [← haz] at hcv G41
              clear hrz hbz haz G0
              go_wp2
              clear hcv
              refine stepQ.mk ⟨fun _ => HSI2.out _ G41.bw, ?_⟩
              refine wpK_three 7 8 14 (by kernel_rfl) rfl rfl rfl ?_ ?_ ?_
              · go_wp2_with (go_at_call 22; (with_reducible refine (HVX3.out _ G41.bw).mono ?_); rintro e w42z ⟨B42, c42, rfl, hr42, hb42⟩)
                have G42 := G41.mkX hr42 hb42
                clear G41 hr42 hb42
                refine stepQ.mk ⟨fun _ => HSI2.out _ G42.bw, ?_⟩
                refine wpK_two 8 14 (by kernel_rfl) rfl rfl ?_ ?_
                · have hrw := em_row w42z
                  have G43 := G42.mkE
                  obtain ⟨w43z, hwz⟩ : ∃ W, W = w42z.alloc (.cells #[] 53) := ⟨_, rfl⟩
                  obtain ⟨a43, haz⟩ : ∃ z, z = w42z.heap.size := ⟨_, rfl⟩
                  rw [← hwz, ← haz] at hrw
                  rw [← hwz, ← haz] at G43
                  clear hwz haz G42
                  refine wpList_buildSlice_met rfl _ _ _ rfl #[] rfl hrw ?_
                  go_wp2
                  clear hrw
                  refine stepQ.mk ⟨fun _ => HSI2.out _ G43.bw, ?_⟩
                  refine wpK_two 10 14 (by kernel_rfl) rfl rfl ?_ ?_
                  · refine wpList_app1 rfl _ _ rfl rfl B0 _ c0 r0.recs rfl rfl G43 HRC.out (fun _ h => h.2) (by have := HLM.out.2; omega) ?_
                    intro F44 cf44 w44z G44
                    go_wp2
                    clear G43
                    refine stepQ.mk ⟨fun _ => HSI2.out _ G44.bw, ?_⟩
                    refine wpK_step 14 (by kernel_rfl) rfl ?_
                    have hrw := by_row (some ⟨a41, 0, none⟩) l.length c41 w44z
                    have G45 := G44.mkC c41
                    obtain ⟨w45z, hwz⟩ : ∃ W, W = w44z.alloc (.cells #[.slice (some ⟨a41, 0, none⟩) l.length c41] 53) := ⟨_, rfl⟩
                    obtain ⟨a45, haz⟩ : ∃ z, z = w44z.heap.size := ⟨_, rfl⟩
                    rw [← hwz, ← haz] at hrw
                    rw [← hwz, ← haz] at G45
                    clear hwz haz G44
                    refine wpList_buildSlice_met rfl _ _ _ rfl #[(0, .slice (some ⟨a41, 0, none⟩) l.length c41)] rfl hrw ?_
                    go_wp2
                    clear hrw
                    refine stepQ.mk ⟨fun _ => HSI2.out _ G45.bw, ?_⟩
                    exact wpK_listed (by kernel_rfl) (TAIL.out _ _ _ _ _ _ _ _ _ _ _ _ G45)
                  · have hrw := by_row (some ⟨a41, 0, none⟩) l.length c41 w43z
                    have G46 := G43.mkC c41
                    obtain ⟨w46z, hwz⟩ : ∃ W, W = w43z.alloc (.cells #[.slice (some ⟨a41, 0, none⟩) l.length c41] 53) := ⟨_, rfl⟩
                    obtain ⟨a46, haz⟩ : ∃ z, z = w43z.heap.size := ⟨_, rfl⟩
                    rw [← hwz, ← haz] at hrw
                    rw [← hwz, ← haz] at G46
                    clear hwz haz G43
                    refine wpList_buildSlice_met rfl _ _ _ rfl #[(0, .slice (some ⟨a41, 0, none⟩) l.length c41)] rfl hrw ?_
                    go_wp2
                    clear hrw
                    refine stepQ.mk ⟨fun _ => HSI2.out _ G46.bw, ?_⟩
                    refine wpK_step 10 (by kernel_rfl) rfl ?_
                    refine wpList_app1 rfl _ _ rfl rfl B0 _ c0 r0.recs rfl rfl G46 HRC.out (fun _ h => h.2) (by have := HLM.out.2; omega) ?_
                    intro F47 cf47 w47z G47
                    go_wp2
                    clear G46
                    refine stepQ.mk ⟨fun _ => HSI2.out _ G47.bw, ?_⟩
                    exact wpK_listed (by kernel_rfl) (TAIL.out _ _ _ _ _ _ _ _ _ _ _ _ G47)
                · have hrw := by_row (some ⟨a41, 0, none⟩) l.length c41 w42z
                  have G48 := G42.mkC c41
                  obtain ⟨w48z, hwz⟩ : ∃ W, W = w42z.alloc (.cells #[.slice (some ⟨a41, 0, none⟩) l.length c41] 53) := ⟨_, rfl⟩
                  obtain ⟨a48, haz⟩ : ∃ z, z = w42z.heap.size := ⟨_, rfl⟩
                  rw [← hwz, ← haz] at hrw
                  rw [← hwz, ← haz] at G48
                  clear hwz haz G42
                  refine wpList_buildSlice_met rfl _ _ _ rfl #[(0, .slice (some ⟨a41, 0, none⟩) l.length c41)] rfl hrw ?_
                  go_wp2
                  clear hrw
                  refine stepQ.mk ⟨fun _ => HSI2.out _ G48.bw, ?_⟩
                  refine wpK_step 8 (by kernel_rfl) rfl ?_
                  have hrw := em_row w48z
                  have G49 := G48.mkE
                  obtain ⟨w49z, hwz⟩ : ∃ W, W = w48z.alloc (.cells #[] 53) := ⟨_, rfl⟩
                  obtain ⟨a49, haz⟩ : ∃ z, z = w48z.heap.size := ⟨_, rfl⟩
                  rw [← hwz, ← haz] at hrw
                  rw [← hwz, ← haz] at G49
                  clear hwz haz G48
                  refine wpList_buildSlice_met rfl _ _ _ rfl #[] rfl hrw ?_
                  go_wp2
                  clear hrw
                  refine stepQ.mk ⟨fun _ => HSI2.out _ G49.bw, ?_⟩
                  refine wpK_step 10 (by kernel_rfl) rfl ?_
                  refine wpList_app1 rfl _ _ rfl rfl B0 _ c0 r0.recs rfl rfl G49 HRC.out (fun _ h => h.2) (by have := HLM.out.2; omega) ?_
                  intro F50 cf50 w50z G50
                  go_wp2
                  clear G49
                  refine stepQ.mk ⟨fun _ => HSI2.out _ G50.bw, ?_⟩
                  exact wpK_listed (by kernel_rfl) (TAIL.out _ _ _ _ _ _ _ _ _ _ _ _ G50)
              · have hrw := em_row w41z
                have G51 := G41.mkE
                obtain ⟨w51z, hwz⟩ : ∃ W, W = w41z.alloc (.cells #[] 53) := ⟨_, rfl⟩
                obtain ⟨a51, haz⟩ : ∃ z, z = w41z.heap.size := ⟨_, rfl⟩
                rw [← hwz, ← haz] at hrw
                rw [← hwz, ← haz] at G51
                clear hwz haz G41
                refine wpList_buildSlice_met rfl _ _ _ rfl #[] rfl hrw ?_
                go_wp2
                clear hrw
                refine stepQ.mk ⟨fun _ => HSI2.out _ G51.bw, ?_⟩
                refine wpK_two 7 14 (by kernel_rfl) rfl rfl ?_ ?_
                · go_wp2_with (go_at_call 22; (with_reducible refine (HVX3.out _ G51.bw).mono ?_); rintro e w52z ⟨B52, c52, rfl, hr52, hb52⟩)
                  have G52 := G51.mkX hr52 hb52
                  clear G51 hr52 hb52
                  refine stepQ.mk ⟨fun _ => HSI2.out _ G52.bw, ?_⟩
                  refine wpK_two 10 14 (by kernel_rfl) rfl rfl ?_ ?_
                  · refine wpList_app1 rfl _ _ rfl rfl B0 _ c0 r0.recs rfl rfl G52 HRC.out (fun _ h => h.2) (by have := HLM.out.2; omega) ?_
                    intro F53 cf53 w53z G53
                    go_wp2
                    clear G52
                    refine stepQ.mk ⟨fun _ => HSI2.out _ G53.bw, ?_⟩
                    refine wpK_step 14 (by kernel_rfl) rfl ?_
                    have hrw := by_row (some ⟨a41, 0, none⟩) l.length c41 w53z
                    have G54 := G53.mkC c41
                    obtain ⟨w54z, hwz⟩ : ∃ W, W = w53z.alloc (.cells #[.slice (some ⟨a41, 0, none⟩) l.length c41] 53) := ⟨_, rfl⟩
                    obtain ⟨a54, haz⟩ : ∃ z, z = w53z.heap.size := ⟨_, rfl⟩
                    rw [← hwz, ← haz] at hrw
                    rw [← hwz, ← haz] at G54
                    clear hwz haz G53
                    refine wpList_buildSlice_met rfl _ _ _ rfl #[(0, .slice (some ⟨a41, 0, none⟩) l.length c41)] rfl hrw ?_
                    go_wp2
                    clear hrw
                    refine stepQ.mk ⟨fun _ => HSI2.out _ G54.bw, ?_⟩
                    exact wpK_listed (by kernel_rfl) (TAIL.out _ _ _ _ _ _ _ _ _ _ _ _ G54)
                  · have hrw := by_row (some ⟨a41, 0, none⟩) l.length c41 w52z
                    have G55 := G52.mkC c41
                    obtain ⟨w55z, hwz⟩ : ∃ W, W = w52z.alloc (.cells #[.slice (some ⟨a41, 0, none⟩) l.length c41] 53) := ⟨_, rfl⟩
                    obtain ⟨a55, haz⟩ : ∃ z, z = w52z.heap.size := ⟨_, rfl⟩
                    rw [← hwz, ← haz] at hrw
                    rw [← hwz, ← haz] at G55
                    clear hwz haz G52
                    refine wpList_buildSlice_met rfl _ _ _ rfl #[(0, .slice (some ⟨a41, 0, none⟩) l.length c41)] rfl hrw ?_
                    go_wp2
                    clear hrw
                    refine stepQ.mk ⟨fun _ => HSI2.out _ G55.bw, ?_⟩
                    refine wpK_step 10 (by kernel_rfl) rfl ?_
                    refine wpList_app1 rfl _ _ rfl rfl B0 _ c0 r0.recs rfl rfl G55 HRC.out (fun _ h => h.2) (by have := HLM.out.2; omega) ?_
                    intro F56 cf56 w56z G56
                    go_wp2
                    clear G55
                    refine stepQ.mk ⟨fun _ => HSI2.out _ G56.bw, ?_⟩
                    exact wpK_listed (by kernel_rfl) (TAIL.out _ _ _ _ _ _ _ _ _ _ _ _ G56)
                · have hrw := by_row (some ⟨a41, 0, none⟩) l.length c41 w51z
                  have G57 := G51.mkC c41
                  obtain ⟨w57z, hwz⟩ : ∃ W, W = w51z.alloc (.cells #[.slice (some ⟨a41, 0, none⟩) l.length c41] 53) := ⟨_, rfl⟩
                  obtain ⟨a57, haz⟩ : ∃ z, z = w51z.heap.size := ⟨_, rfl⟩
                  rw [← hwz, ← haz] at hrw
                  rw [← hwz, ← haz] at G57
                  clear hwz haz G51
                  refine wpList_buildSlice_met rfl _ _ _ rfl #[(0, .slice (some ⟨a41, 0, none⟩) l.length c41)] rfl hrw ?_
                  go_wp2
                  clear hrw
                  refine stepQ.mk ⟨fun _ => HSI2.out _ G57.bw, ?_⟩
                  refine wpK_step 7 (by kernel_rfl) rfl ?_
                  go_wp2_with (go_at_call 22; (with_reducible refine (HVX3.out _ G57.bw).mono ?_); rintro e w58z ⟨B58, c58, rfl, hr58, hb58⟩)
                  have G58 := G57.mkX hr58 hb58
                  clear G57 hr58 hb58
                  refine stepQ.mk ⟨fun _ => HSI2.out _ G58.bw, ?_⟩
                  refine wpK_step 10 (by kernel_rfl) rfl ?_
                  refine wpList_app1 rfl _ _ rfl rfl B0 _ c0 r0.recs rfl rfl G58 HRC.out (fun _ h => h.2) (by have := HLM.out.2; omega) ?_
                  intro F59 cf59 w59z G59
                  go_wp2
                  clear G58
                  refine stepQ.mk ⟨fun _ => HSI2.out _ G59.bw, ?_⟩
                  exact wpK_listed (by kernel_rfl) (TAIL.out _ _ _ _ _ _ _ _ _ _ _ _ G59)
              · have hrw := by_row (some ⟨a41, 0, none⟩) l.length c41 w41z
                have G60 := G41.mkC c41
                obtain ⟨w60z, hwz⟩ : ∃ W, W = w41z.alloc (.cells #[.slice (some ⟨a41, 0, none⟩) l.length c41] 53) := ⟨_, rfl⟩
                obtain ⟨a60, haz⟩ : ∃ z, z = w41z.heap.size := ⟨_, rfl⟩
                rw [← hwz, ← haz] at hrw
                rw [← hwz, ← haz] at G60
                clear hwz haz G41
                refine wpList_buildSlice_met rfl _ _ _ rfl #[(0, .slice (some ⟨a41, 0, none⟩) l.length c41)] rfl hrw ?_
                go_wp2
                clear hrw
                refine stepQ.mk ⟨fun _ => HSI2.out _ G60.bw, ?_⟩
                refine wpK_two 7 8 (by kernel_rfl) rfl rfl ?_ ?_
                · go_wp2_with (go_at_call 22; (with_reducible refine (HVX3.out _ G60.bw).mono ?_); rintro e w61z ⟨B61, c61, rfl, hr61, hb61⟩)
                  have G61 := G60.mkX hr61 hb61
                  clear G60 hr61 hb61
                  refine stepQ.mk ⟨fun _ => HSI2.out _ G61.bw, ?_⟩
                  refine wpK_step 8 (by kernel_rfl) rfl ?_
                  have hrw := em_row w61z
                  have G62 := G61.mkE
                  obtain ⟨w62z, hwz⟩ : ∃ W, W = w61z.alloc (.cells #[] 53) := ⟨_, rfl⟩
                  obtain ⟨a62, haz⟩ : ∃ z, z = w61z.heap.size := ⟨_, rfl⟩
                  rw [← hwz, ← haz] at hrw
                  rw [← hwz, ← haz] at G62
                  clear hwz haz G61
                  refine wpList_buildSlice_met rfl _ _ _ rfl #[] rfl hrw ?_
                  go_wp2
                  clear hrw
                  refine stepQ.mk ⟨fun _ => HSI2.out _ G62.bw, ?_⟩
                  refine wpK_step 10 (by kernel_rfl) rfl ?_
                  refine wpList_app1 rfl _ _ rfl rfl B0 _ c0 r0.recs rfl rfl G62 HRC.out (fun _ h => h.2) (by have := HLM.out.2; omega) ?_
                  intro F63 cf63 w63z G63
                  go_wp2
                  clear G62
                  refine stepQ.mk ⟨fun _ => HSI2.out _ G63.bw, ?_⟩
                  exact wpK_listed (by kernel_rfl) (TAIL.out _ _ _ _ _ _ _ _ _ _ _ _ G63)
                · have hrw := em_row w60z
                  have G64 := G60.mkE
                  obtain ⟨w64z, hwz⟩ : ∃ W, W = w60z.alloc (.cells #[] 53) := ⟨_, rfl⟩
                  obtain ⟨a64, haz⟩ : ∃ z, z = w60z.heap.size := ⟨_, rfl⟩
                  rw [← hwz, ← haz] at hrw
                  rw [← hwz, ← haz] at G64
                  clear hwz haz G60
                  refine wpList_buildSlice_met rfl _ _ _ rfl #[] rfl hrw ?_
                  go_wp2
                  clear hrw
                  refine stepQ.mk ⟨fun _ => HSI2.out _ G64.bw, ?_⟩
                  refine wpK_step 7 (by kernel_rfl) rfl ?_
                  go_wp2_with (go_at_call 22; (with_reducible refine (HVX3.out _ G64.bw).mono ?_); rintro e w65z ⟨B65, c65, rfl, hr65, hb65⟩)
                  have G65 := G64.mkX hr65 hb65
                  clear G64 hr65 hb65
                  refine stepQ.mk ⟨fun _ => HSI2.out _ G65.bw, ?_⟩
                  refine wpK_step 10 (by kernel_rfl) rfl ?_
                  refine wpList_app1 rfl _ _ rfl rfl B0 _ c0 r0.recs rfl rfl G65 HRC.out (fun _ h => h.2) (by have := HLM.out.2; omega) ?_
                  intro F66 cf66 w66z G66
                  go_wp2
                  clear G65
                  refine stepQ.mk ⟨fun _ => HSI2.out _ G66.bw, ?_⟩
                  exact wpK_listed (by kernel_rfl) (TAIL.out _ _ _ _ _ _ _ _ _ _ _ _ G66)
end Go.Proofs.Ythhjdielananeaa
