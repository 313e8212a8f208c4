/-
  A summary lets go of all ahead: the statement's walk.
-/
import Derived.Test.YthhjdielananeaaLawF
set_option linter.unusedSimpArgs false
set_option linter.unusedVariables false
set_option maxRecDepth 10000
namespace Go.Proofs.Ythhjdielananeaa
open Go.RowKit Go.Lib
open L3 (Blk Reads block_of_add add_of_add)
open L6 (Turn moreB fresh From In Apart)

/-- A round of a law: k calls are done. -/
structure LpAt (w : World) (g gt : Nat) (D : Nat → Actx) (A : Option Addr) (n k : Nat) (U : Nat → Prop) (t : Tp) (W : World) : Prop where
  rol : Rol W U g gt (rlOf (entsE D k)) t
  inn : In W U
  frm : From w.heap.size U
  run : Run (entsE D k) t k
  ac : Acts W A n D
  bw : Below w.heap.size w W
theorem LpAt.post {w W W' : World} {g gt n k : Nat} {D : Nat → Actx} {A : Option Addr} {U : Nat → Prop} {t t' : Tp} {v : Value} {e : Ending} (h : LpAt w g gt D A n k U t W) (hw : Acts w A n D) (hp : RolPost v U g gt (rlOf (actE (entsE D k) (D k))) t' W e W') (hr : Run (actE (entsE D k) (D k)) t' (k + 1)) : LpAt w g gt D A n (k + 1) (moreB U W W') t' W' := by
  have hs := h.bw.size
  have hb : Below w.heap.size w W' := h.bw.trans (hp.2.2.below h.frm hs)
  exact ⟨hp.2.1, h.inn.more hp.2.2.size, h.frm.more hs, hr, hw.below hb, hb⟩
theorem LpAt.below {w W W' : World} {g gt n k : Nat} {D : Nat → Actx} {A : Option Addr} {U : Nat → Prop} {t : Tp} (h : LpAt w g gt D A n k U t W) (hb : Below W.heap.size W W') : LpAt w g gt D A n k U t W' :=
  ⟨h.rol.below hb, h.inn.le hb.size, h.frm, h.run, h.ac.below hb, nxt h.bw hb⟩
theorem LpAt.start {w w1 w2 w3 : World} {g gt n : Nat} {D : Nat → Actx} {A : Option Addr} (hw : Acts w A n D) (hb1 : Below w.heap.size w w1) (hgt : gt = w1.heap.size) (hb2 : Below w1.heap.size w1 w2) (hO : OpenR (fresh w1 w2) gt [] (newTp 4194304) w2 g w3) : LpAt w g gt D A n 0 (moreB (fresh w1 w2) w2 w3) (newTp 4194304) w3 := by
  have hs1 := hb1.size
  have hf : From w.heap.size (fresh w1 w2) := fun k hk => Nat.le_trans hs1 hk.1
  have hb : Below w.heap.size w w3 := (nxt hb1 hb2).trans (hO.turn.below hf (nxt hb1 hb2).size)
  exact ⟨hO.rol, (L6.In.fresh _ _).more hO.turn.size, hf.more (nxt hb1 hb2).size, run_new, hw.below hb, hb⟩
theorem LpAt.put {w W : World} {g gt n k : Nat} {D : Nat → Actx} {A : Option Addr} {U : Nat → Prop} {t : Tp} (h : LpAt w g gt D A n k U t W) (hw : Acts w A n D) (hk : k ≤ 80) (hl : (D k).s.length ≤ 3000) :
    Calls Try.prog 20 #[.pointer (some ⟨g, 0, none⟩), .agg (acC (D k))] W fun e W' => e = .returned (.int .i64 0) ∧ ∃ U' t', LpAt w g gt D A n (k + 1) U' t' W' := by
  obtain ⟨e1, e2, e3⟩ := h.run.step (by omega) (D k) hl
  have hst : t.first + t.held.length ≤ 900000000 := by
    have h1 := h.run.stop
    have h2 : t.stop = t.first + t.held.length := rfl
    omega
  have hrl : (rlOf (entsE D k)).recs.length + 1 ≤ 10000000 := by
    have h1 := recs_len (entsE D k)
    have h2 := h.run.recs
    have h3 : (rlOf (entsE D k)).recs = recsE (entsE D k) := rfl
    rw [h3]
    omega
  have := lput_any h.rol h.inn (D k) hl hst hrl
  rw [e1, e2] at this
  exact this.mono fun e W' hp => ⟨hp.1, _, _, h.post hw hp e3⟩
theorem LpAt.tpe {w W : World} {g gt n k : Nat} {D : Nat → Actx} {A : Option Addr} {U : Nat → Prop} {t : Tp} (h : LpAt w g gt D A n k U t W) : ∃ T, Tpe W T gt t ∧ In W T := by
  obtain ⟨_, T, _, hT, _, iT, _⟩ := h.rol
  exact ⟨T, hT, iT⟩
/-- What a summary leaves. -/
structure ShAt (w : World) (g gt : Nat) (x : Ent) (U : Nat → Prop) (t : Tp) (W : World) : Prop where
  rol : Rol W U g gt (rlOf [x]) t
  rg : RgT [x] t
  bw : Below w.heap.size w W
theorem ShAt.below {w W W' : World} {g gt : Nat} {x : Ent} {U : Nat → Prop} {t : Tp} (h : ShAt w g gt x U t W) (hb : Below W.heap.size W W') : ShAt w g gt x U t W' := ⟨h.rol.below hb, h.rg, nxt h.bw hb⟩
theorem ShAt.read {w W : World} {g gt : Nat} {x : Ent} {U : Nat → Prop} {t : Tp} (h : ShAt w g gt x U t W) : Calls Try.prog 28 #[.pointer (some ⟨gt, 0, none⟩)] W fun e W' => ∃ (f : Int) (B : Option Addr) (c : Nat), e = .returned (.tuple #[.int .i64 f, .slice B (lineE x).length c, .int .i64 0]) ∧ ByT W W' B (lineE x) := by
  obtain ⟨_, T, _, hT, _⟩ := h.rol
  have hh : t.held = lineE x := by rw [h.rg.held, flat_one]
  refine (read_on hT h.rg.on).mono fun e W' hp => ?_
  obtain ⟨B, c, he, hT⟩ := hp
  rw [hh] at he hT
  exact ⟨_, B, c, he, ⟨hT.rd, hT.new, hT.bw⟩⟩
theorem LpAt.sum {w W : World} {g gt n k : Nat} {D : Nat → Actx} {A : Option Addr} {U : Nat → Prop} {t : Tp} (h : LpAt w g gt D A n k U t W) (hk : k ≤ 80) (l : List UInt8) (hl : l.length ≤ 3000) (B : Option Addr) (c : Nat) (hrd : Reads W W.heap.size 1 B l.length (bcs l)) :
    Calls Try.prog 27 #[.pointer (some ⟨g, 0, none⟩), .slice B l.length c] W fun e W' => e = .returned (.int .i64 0) ∧ ∃ U' t', ShAt w g gt ⟨nextE (entsE D k), 2, l⟩ U' t' W' := by
  obtain ⟨hm, hll, hr⟩ := h.run.may (by omega) (.inr rfl) hl
  obtain ⟨e1, e2, e3, _, _⟩ := sum_right h.run.rg hm hr
  have hrl : (rlOf (entsE D k)).recs.length + 1 ≤ 10000000 := by
    have h1 := recs_len (entsE D k)
    have h2 := h.run.recs
    have h3 : (rlOf (entsE D k)).recs = recsE (entsE D k) := rfl
    rw [h3]
    omega
  have hst : t.first + t.held.length ≤ 900000000 := by
    have h1 := h.run.stop
    have h2 : t.stop = t.first + t.held.length := rfl
    omega
  have hnx : (rlOf (entsE D k)).next = nextE (entsE D k) := rfl
  have hsm : Small t (lineE ⟨(rlOf (entsE D k)).next, 2, l⟩).length := by
    rw [hnx]
    exact ⟨by omega, by omega⟩
  have := sum_any h.rol h.inn B c l hrd (by unfold maxLen; omega) (fun _ => hsm) hrl
  rw [e1, e2] at this
  exact this.mono fun e W' hp => ⟨hp.1, _, _, hp.2.1, e3, h.bw.trans (hp.2.2.below h.frm h.bw.size)⟩
theorem build_en4 (z : Int) (s : ByteArray) (w : World) : (Instr.build 31 #[(0, .int .i64 z), (1, .int .i64 2), (2, .string s)]).run Try.prog w = .ok (.agg #[.int .i64 z, .int .i64 2, .string s]) w := run_build w _ _ _ (by kernel_rfl)
set_option maxHeartbeats 4000000 in
set_option maxRecDepth 100000 in
theorem sheds_walk (A : Option Addr) (n c : Nat) (D : Nat → Actx) (s0 : ByteArray) (w : World) (h : Acts w A n D) (hs0 : s0.size ≤ 9223372036854775807) : Calls Try.prog 6 #[.slice A n c, .string s0] w (gives (.bool true) w) := by
  have HA := Lib.hid (fun W => alive_any W)
  have HN := Lib.hid (fun W => new_any 4194304 W (by decide))
  have HH := Lib.hid h
  have HFR := Lib.hid (fun W (hW : Below w.heap.size w W) => far_any A n c D W (h.below hW))
  obtain ⟨l, hl⟩ : ∃ l, l = s0.data.toList := ⟨_, rfl⟩
  have hsl : s0 = str l := by rw [hl, str_of]
  have hln : l.length = s0.size := by rw [hl, Array.length_toList]; rfl
  have HSL := Lib.hid (And.intro hsl hln)
  clear h hl hsl hln
  go_enter Try.func6, Try.ntmps6
  go_upto_region 3 with (first
    | (go_at_call 8; refine (HA.out _).mono ?_; unfold gives; rintro e w1 ⟨rfl, hb1⟩)
    | go_in)
  have HF1 := Lib.hid (HFR.out _ hb1)
  have HB1 := Lib.hid hb1
  clear hb1 HFR HA
  by_cases hbig : 3000 < s0.size
  · have g1 : 3000 < (s0.size : Int) := by omega
    go_wp2_with (first
      | (go_at_call 17; refine HF1.out.mono ?_; unfold FarPost; rintro e w3 ⟨b, rfl, hw3, hfr⟩; have HFA := Lib.hid hfr; have HW3 := Lib.hid hw3; clear hfr hw3; cases b)
      | go_in)
    all_goals
      go_ret
      have hw := HW3.out
      subst hw
      exact ⟨rfl, HB1.out⟩
  have g1 : ¬ 3000 < (s0.size : Int) := by omega
  go_upto_region 5 with (first
    | (go_at_call 17; refine HF1.out.mono ?_; unfold FarPost; rintro e w3 ⟨b, rfl, hw3, hfr⟩; have HFA := Lib.hid hfr; have HW3 := Lib.hid hw3; clear hfr hw3; cases b)
    | go_in)
  · have hw := HW3.out
    subst hw
    obtain ⟨hn1, hl1⟩ := HFA.out (by first | exact rfl | trivial)
    have HL1 := Lib.hid hl1
    clear hl1 HF1 HFA HW3
    go_upto_region 6 with (first
      | (go_at_call 18; refine (HN.out _).mono ?_; rintro e w2 ⟨rfl, hT2, hb2⟩)
      | go_in)
    have HO := Lib.hid (open_new hT2 (L6.In.fresh _ _))
    have HST := Lib.hid (fun g w3 (hR : OpenR (fresh w1 w2) w1.heap.size [] (newTp 4194304) w2 g w3) => LpAt.start HH.out HB1.out rfl hb2 hR)
    obtain ⟨gt, hgt⟩ : ∃ gt, gt = w1.heap.size := ⟨_, rfl⟩
    obtain ⟨S, hS⟩ : ∃ S, S = fresh w1 w2 := ⟨_, rfl⟩
    rw [← hgt, ← hS] at HO HST
    rw [← hgt]
    clear hT2 hb2 hgt hS HN
    go_upto_region 9 with (first
      | (go_at_call 19; refine HO.out.mono ?_; rintro e w3 ⟨g, rfl, hR3⟩)
      | go_in)
    have HW0 := Lib.hid (HST.out _ _ hR3)
    clear hR3 HO HST
    go_wp2_with fail
    go_loopw [9] (fun i wr => ∃ (k : Nat) (U : Nat → Prop) (t : Tp), i = .int .i64 k ∧ k ≤ n ∧ LpAt w g gt D A n k U t wr) (fun i _ => n - (RowKit.intOf i).toNat)
    case atStart => exact ⟨0, _, _, rfl, Nat.zero_le _, HW0.out⟩
    case round =>
      obtain ⟨k, U, t, rfl, hk, hE⟩ := hrel
      clear HW0
      by_cases hlt : k < n
      · obtain ⟨ad, hAd, _, hcs, _⟩ := hE.ac k hlt
        have HP := Lib.hid (hE.put HH.out (by omega) (HL1.out k hlt))
        obtain ⟨x, hx⟩ : ∃ x, x = D k := ⟨_, rfl⟩
        rw [← hx] at hcs HP
        have hnx : ∀ U' t' W, LpAt w g gt D A n (k + 1) U' t' W → Calls Try.prog 26 #[.pointer (some ⟨g, 0, none⟩)] W (gives (.int .i64 ((k : Int) + 2)) W) := fun U' t' W h => by
          have := next_any h.rol
          have e : (rlOf (entsE D (k + 1))).next = (k : Int) + 2 := by
            have := ents_next D (k + 1)
            show nextE _ = _
            rw [this]
            push_cast
            omega
          rw [e] at this
          exact this
        have HNX := Lib.hid hnx
        have hA2 := hAd
        subst hA2
        have hk80 : k ≤ 80 := by omega
        clear hE hx hnx hAd
        go_wp2_with (first
          | (refine wpList_cells_at rfl _ _ rfl (ad.add (k * 5)) rfl (acL x) _ hcs Try.underlying44 rfl acInfo ?_)
          | (go_at_call 20; refine HP.out.mono ?_; rintro e w4 ⟨rfl, U4, t4, hE4⟩)
          | (go_at_call 26; refine (HNX.out _ _ _ hE4).mono ?_; unfold gives; rintro e w5 ⟨rfl, hb5⟩)
          | go_in)
        go_roundw
        case rel => exact ⟨k + 1, _, _, by go_num, by omega, hE4.below hb5⟩
        case measure => simp [RowKit.intOf]; omega
      · obtain rfl : k = n := by omega
        have hk80 : k ≤ 80 := hn1
        have hl3 : l.length ≤ 3000 := by have := HSL.out.2; omega
        obtain ⟨hm, -, -⟩ := hE.run.may (kind := 2) (b := l) (by omega) (.inr rfl) hl3
        have hnv : (rlOf (entsE D k)).next = (k : Int) + 1 := ents_next D k
        have hnx0 := next_any hE.rol
        rw [hnv] at hnx0
        have HNX := Lib.hid hnx0
        obtain ⟨x, hx⟩ : ∃ x : Ent, x = ⟨nextE (entsE D k), 2, l⟩ := ⟨_, rfl⟩
        have HSB := Lib.hid (show ∀ W, LpAt w g gt D A k k U t W → ∃ c6 W6, (convert 9 53 (.string s0)).run Try.prog W = .ok (.slice (some ⟨W.heap.size, 0, none⟩) l.length c6) W6 ∧ Calls Try.prog 27 #[.pointer (some ⟨g, 0, none⟩), .slice (some ⟨W.heap.size, 0, none⟩) l.length c6] W6 (fun e W' => e = .returned (.int .i64 0) ∧ ∃ U' t', ShAt w g gt x U' t' W') from fun W hW => by
          obtain ⟨c6, W6, h1, h2, h3⟩ := str_bytes W l
          rw [← HSL.out.1] at h1
          refine ⟨c6, W6, h1, ?_⟩
          rw [hx]
          exact (hW.below h3).sum hk80 l hl3 _ c6 h2)
        have hxn : x.num = (k : Int) + 1 := by rw [hx]; exact ents_next D k
        have hxb : x.b = l := by rw [hx]
        rw [← hx] at hm
        have HNN := Lib.hid (show (rlOf [x]).next = (k : Int) + 2 ∧ (rlOf [x]).sum = l ∧ (rlOf [x]).recs = [] from by
          have e1 : nextE [x] = x.num + 1 := next_snoc [] x
          have e2 : sumE [x] = x.b := by have := sum_snoc [] x; rw [if_pos (by rw [hx])] at this; exact this
          have e3 : recsE [x] = [] := by have := recs_snoc [] x; rw [if_pos (by rw [hx])] at this; exact this
          exact ⟨by show nextE [x] = _; rw [e1, hxn]; omega, by show sumE [x] = _; rw [e2, hxb], e3⟩)
        have HLN := Lib.hid (fun W => line_ok x W hm)
        have HEX := Lib.hid (show enC x = #[.int .i64 ((k : Int) + 1), .int .i64 2, .string s0] by rw [HSL.out.1, hx]; unfold enC; dsimp only; rw [ents_next D k])
        rw [HEX.out] at HLN
        have hbd := build_en4 ((k : Int) + 1) s0
        have q1 : (s0.toList == s0.toList) = true := by simp
        obtain ⟨ll, hll⟩ : ∃ ll, ll = l.length := ⟨_, rfl⟩
        obtain ⟨ly, hly⟩ : ∃ ly, ly = (lineE x).length := ⟨_, rfl⟩
        obtain ⟨y, hy⟩ : ∃ y, y = str (lineE x) := ⟨_, rfl⟩
        have q2 : (y.toList == y.toList) = true := by simp
        have HCS := Lib.hid (show ∀ W W' B c, ByT W W' B l → (convert 53 9 (.slice B ll c)).run Try.prog W' = .ok (.string s0) W' from fun W W' B c hB => by
          have := conv_reads (c := c) hB.rd (Nat.le_refl _)
          rw [List.take_length, ← HSL.out.1] at this
          rw [hll]
          exact this)
        have HCY := Lib.hid (show ∀ W W' B c, ByT W W' B (lineE x) → (convert 53 9 (.slice B ly c)).run Try.prog W' = .ok (.string y) W' from fun W W' B c hB => by
          have := conv_reads (c := c) hB.rd (Nat.le_refl _)
          rw [List.take_length] at this
          rw [hly, hy]
          exact this)
        have HSU := Lib.hid (show ∀ W U' t', ShAt w g gt x U' t' W → Calls Try.prog 21 #[.pointer (some ⟨g, 0, none⟩)] W (fun e W' => ∃ B c, e = .returned (.slice B ll c) ∧ ByT W W' B l) from fun W U' t' h => by
          have := summary_any h.rol
          rw [HNN.out.2.1, ← hll] at this
          exact this)
        have HRE := Lib.hid (show ∀ W U' t', ShAt w g gt x U' t' W → Calls Try.prog 22 #[.pointer (some ⟨g, 0, none⟩)] W (fun e W' => ∃ B c, e = .returned (.slice B 0 c) ∧ Below W.heap.size W W') from fun W U' t' h => by
          have := records_any h.rol
          rw [HNN.out.2.2] at this
          exact this.mono fun e W' ⟨B, c, he, _, hb⟩ => ⟨B, c, he, hb⟩)
        have HN2 := Lib.hid (show ∀ W U' t', ShAt w g gt x U' t' W → Calls Try.prog 26 #[.pointer (some ⟨g, 0, none⟩)] W (gives (.int .i64 ((k : Int) + 2)) W) from fun W U' t' h => by
          have := next_any h.rol
          rw [HNN.out.1] at this
          exact this)
        have HRD := Lib.hid (show ∀ W U' t', ShAt w g gt x U' t' W → Calls Try.prog 28 #[.pointer (some ⟨gt, 0, none⟩)] W (fun e W' => ∃ (f : Int) (B : Option Addr) (c : Nat), e = .returned (.tuple #[.int .i64 f, .slice B ly c, .int .i64 0]) ∧ ByT W W' B (lineE x)) from fun W U' t' h => by
          have := h.read
          rw [← hly] at this
          exact this)
        rw [← hll] at HSB
        rw [← hy] at HLN
        have HE := Lib.hid hE
        clear hE hm hnv hnx0 hx hxn hxb hll hly hy hl3
        go_upto_region 17 with (first
          | (go_at_call 27; refine hcs7.mono ?_; rintro e w8 ⟨rfl, U8, t8, hS8⟩)
          | (go_at_call 21; refine (HSU.out _ _ _ (hS8.below hb9)).mono ?_; rintro e w10 ⟨B10, c10, rfl, hY10⟩; have hS10 := (hS8.below hb9).below hY10.bw; have hcv10 := HCS.out _ _ _ c10 hY10)
          | (go_at_call 22; refine (HRE.out _ _ _ hS10).mono ?_; rintro e w11 ⟨B11, c11, rfl, hb11⟩)
          | (go_at_call 26; first
              | (refine (HN2.out _ _ _ hS8).mono ?_; unfold gives; rintro e w9 ⟨rfl, hb9⟩)
              | (refine HNX.out.mono ?_; unfold gives; rintro e w6 ⟨rfl, hb6⟩; obtain ⟨c7, w7, hcv7, hcs7⟩ := HSB.out w6 (HE.out.below hb6)))
          | go_in)
        have HS11 := Lib.hid (hS10.below hb11)
        clear hS8 hS10 hb9 hb11 hcv10 hY10 hcs7 hb6
        go_wp2_with (first
          | (refine wpList_build rfl _ _ rfl #[(0, .int .i64 ((k : Int) + 1)), (1, .int .i64 2), (2, .string s0)] rfl (hbd _) ?_)
          | (go_at_call 13; refine (HLN.out _).mono ?_; unfold gives; rintro e w12 ⟨rfl, hb12⟩)
          | (go_at_call 28; refine (HRD.out _ _ _ (HS11.out.below hb12)).mono ?_; rintro e w13 ⟨f13, B13, c13, rfl, hY13⟩; have hcv13 := HCY.out _ _ _ c13 hY13)
          | go_in)
        go_ret
        exact ⟨rfl, ((HS11.out.below hb12).below hY13.bw).bw⟩
  · have hw := HW3.out
    subst hw
    go_wp2
    go_ret
    exact ⟨rfl, HB1.out⟩
end Go.Proofs.Ythhjdielananeaa
