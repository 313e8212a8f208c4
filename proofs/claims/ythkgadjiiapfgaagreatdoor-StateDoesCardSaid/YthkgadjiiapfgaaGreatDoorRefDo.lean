/-
  The document's: a transaction.
-/
import Derived.Test.YthkgadjiiapfgaaGreatDoorRefPut
import Derived.Test.YthkgadjiiapfgaaGreatDoorRefCheckT
import Derived.Test.YthkgadjiiapfgaaGreatDoorAlive
set_option linter.unusedSimpArgs false
set_option linter.unusedVariables false
set_option maxRecDepth 10000
namespace Go.Proofs.YthkgadjiiapfgaaGreatDoor
open Go.RowKit Go.Maps Go.Lib
open L2 (chk)
open L3 (Blk Reads block_of_add add_of_add)
open L6 (Turn moreB fresh From In)

/-- What Do tells and leaves. -/
def refdoPost (A V : Option Addr) (s : Stt) (t : Txx) (w : World) (e : Ending) (w' : World) : Prop :=
  ∃ A' V' ca cv, e = .returned (.tuple #[.agg (mC A' V' (doS s t).A.length (doS s t).V.length ca cv), .int .i64 (doE s t)]) ∧ Rm w' A' V' (doS s t) ∧
    (∀ ad, A' = some ad → A = some ad ∨ (w.heap.size ≤ ad.block ∧ ad.block < w'.heap.size)) ∧ (∀ ad, V' = some ad → V = some ad ∨ (w.heap.size ≤ ad.block ∧ ad.block < w'.heap.size)) ∧ Below w.heap.size w w'
/-- The boxes: the state, the transaction, what is handed back. -/
structure DoAt (w : World) (m : Array Value) (t : Txx) (wr : World) : Prop where
  st : Blk wr w.heap.size 34 m
  tx : Blk wr (w.heap.size + 1) 40 (txC t)
  re : Blk wr (w.heap.size + 2) 34 (mC none none 0 0 0 0)
  bw : Below w.heap.size w wr
theorem DoAt.below {w wr wr' : World} {m : Array Value} {t : Txx} (h : DoAt w m t wr) (hb : Below wr.heap.size wr wr') : DoAt w m t wr' :=
  ⟨h.st.below hb h.st.lt, h.tx.below hb h.tx.lt, h.re.below hb h.re.lt, nxt h.bw hb⟩
theorem DoAt.turn {w wr wr' : World} {m : Array Value} {t : Txx} (h : DoAt w m t wr) (ht : Turn (fun k => w.heap.size + 3 ≤ k) wr wr') : DoAt w m t wr' :=
  ⟨ht.blk h.st (by omega), ht.blk h.tx (by omega), ht.blk h.re (by omega), h.bw.trans (ht.below (B := w.heap.size) (fun i hi => by omega) h.bw.size)⟩
/-- One block of those behind. -/
theorem turn_wide {w1 w2 : World} {g B : Nat} (h : Turn (fun k => k = g) w1 w2) (hg : B ≤ g) : Turn (fun k => B ≤ k) w1 w2 := by
  obtain ⟨a, b, c, d, e⟩ := h
  exact ⟨a, b, c, d, fun i hi hn => e i hi (fun h => hn (by omega))⟩
/-- A row turned. -/
theorem turn_row (w : World) (g : Nat) (cs : Array Value) : Turn (fun k => k = g) w (w.setRow g cs) := by
  refine ⟨rfl, rfl, rfl, by simp [World.setRow], fun i hi hn => ?_⟩
  have : ¬ g = i := fun e => hn e.symm
  simp [World.setRow, Array.getElem?_modify, this]
/-- A state handed back as it came. -/
theorem refdo_same {A V : Option Addr} {ca cv : Nat} {s : Stt} {t : Txx} {w w' : World} {k : Int} (he : k = doE s t) (h0 : k ≠ 0) (hr : Rm w A V s) (hb : Below w.heap.size w w') :
    refdoPost A V s t w (.returned (.tuple #[.agg (mC A V s.A.length s.V.length ca cv), .int .i64 k])) w' := by
  have hs : doS s t = s := doS_no (by omega)
  exact ⟨A, V, ca, cv, by rw [hs, he], by rw [hs]; exact ⟨hr.1.below hb, hr.2.below hb⟩, fun ad e => .inl e, fun ad e => .inl e, hb⟩
/-- What is handed over stays small. -/
theorem pay_bound {s : Stt} (hs : Sane s) {a b : Acc} {t : Txx} {L1 : List Acc} (hb : b = ofA L1 t.to) (hL : L1 = payA s.A t) (ha : a = ofA s.A t.frm) (hal : a.am ≤ totA s.A) (hle : t.amount ≤ a.am) (h0 : 1 ≤ t.amount) : 0 ≤ b.am ∧ b.am + t.amount ≤ 4611686018427387904 := by
  subst ha
  have hno := (hs.full.of t.frm).2
  have hf : Full (payA s.A t) := Full.put hs.full (by simp only; omega) (by simp only; omega)
  have ht : totA (payA s.A t) = totA s.A - t.amount := by
    unfold payA
    rw [tot_put hs.ok.1]
    simp only
    omega
  have h2 := (hf.of t.to).1
  have h3 := hf.of_le t.to
  have := hs.low
  rw [hb, hL]
  exact ⟨h2, by omega⟩
/-- The last put: the accounts anew behind all, the values where they were. -/
theorem refdo_done {A V A2 : Option Addr} {c2 cv : Nat} {s : Stt} {t : Txx} {w w9 wz : World} {L2 : List Acc} (hrd : Rd accL 3 wz A2 L2) (hoff : ∀ ad, A2 = some ad → w9.heap.size ≤ ad.block ∧ ad.block < wz.heap.size) (hb : Below w.heap.size w wz) (hl : w.heap.size + 2 < w9.heap.size)
    (hv : Rd vlL 3 w V s.V) (e1 : L2 = (doS s t).A) (e2 : s.V = (doS s t).V) (e0 : (0 : Int) = doE s t) :
    refdoPost A V s t w (.returned (.tuple #[.agg (mC A2 V L2.length s.V.length c2 cv), .int .i64 0])) (wz.setRow (w.heap.size + 2) (mC A2 V L2.length s.V.length c2 cv)) := by
  have ht : Turn (fun k => k = w.heap.size + 2) wz (wz.setRow (w.heap.size + 2) (mC A2 V L2.length s.V.length c2 cv)) := turn_row _ _ _
  have hbb := below_setRow (cs := mC A2 V L2.length s.V.length c2 cv) hb (g := w.heap.size + 2) (by omega)
  refine ⟨A2, V, c2, cv, by rw [← e0, ← e1, ← e2], ⟨by rw [← e1]; exact hrd.kept ht (fun ad e h2 => by have := (hoff ad e).1; omega), by rw [← e2]; exact hv.below hbb⟩, fun ad e => .inr ⟨by have := (hoff ad e).1; omega, Nat.lt_of_lt_of_le (hoff ad e).2 ht.size⟩, fun ad e => .inl e, hbb⟩
theorem vl_parts : ∃ i : TypeInfo, Tryz.prog.info? 73 = some i ∧ i.zero = some (.agg #[.string ⟨#[]⟩, .string ⟨#[]⟩, .string ⟨#[]⟩]) ∧ i.size = 3 ∧ i.bytes = 48 := by
  obtain ⟨i, hi, he⟩ := Option.map_eq_some_iff.1 vlInfo3
  simp only [Prod.mk.injEq] at he
  exact ⟨i, hi, he⟩
theorem build_vl3 (v : Vl) (w : World) : (Instr.build 73 #[(0, .string (str v.who)), (1, .string (str v.key)), (2, .string (str v.val))]).run Tryz.prog w = .ok (.agg (vlC v)) w := run_build w _ _ _ (by kernel_rfl)
theorem one_vlL (a : Vl) : ∀ u ∈ vlL a, u.oneCell' = true := by intro u hu; simp [vlL] at hu; rcases hu with rfl | rfl | rfl <;> rfl
theorem rd_off {α : Type} {f : α → List Value} {k B : Nat} {w : World} {A : Option Addr} {L : List α} (h : Rd f k w A L) (hB : w.heap.size ≤ B) : L.length ≠ 0 → Off (fun k => B ≤ k) A := fun h0 ad e hb => by
  obtain ⟨ad2, e2, hl, _⟩ := h 0 (by omega)
  rw [e] at e2; injection e2 with e2
  rw [← e2] at hl
  simp only at hb
  omega
/-- What is held while the values are copied. -/
structure PvAt (w : World) (m : Array Value) (t : Txx) (ga : Nat) (a : Acc) (A V : Option Addr) (s : Stt) (wr : World) : Prop where
  ds : DoAt w m t wr
  ac : Blk wr ga 64 (accC a)
  ra : Rd accL 3 wr A s.A
  rv : Rd vlL 3 wr V s.V
  sz : ga < wr.heap.size
theorem PvAt.below {w wr wr' : World} {m : Array Value} {t : Txx} {ga : Nat} {a : Acc} {A V : Option Addr} {s : Stt} (h : PvAt w m t ga a A V s wr) (hb : Below wr.heap.size wr wr') : PvAt w m t ga a A V s wr' :=
  ⟨h.ds.below hb, h.ac.below hb h.ac.lt, h.ra.below hb, h.rv.below hb, Nat.lt_of_lt_of_le h.sz hb.size⟩
theorem PvAt.drewN {w wr : World} {m : Array Value} {t : Txx} {ga : Nat} {a : Acc} {A V : Option Addr} {s : Stt} (h : PvAt w m t ga a A V s wr) (n : Nat) : PvAt w m t ga a A V s (wr.drewN n) :=
  ⟨⟨h.ds.st, h.ds.tx, h.ds.re, L6.below_drewN h.ds.bw n⟩, h.ac, h.ra, h.rv, h.sz⟩
theorem turn_less {w1 w2 : World} {S T : Nat → Prop} (h : Turn S w1 w2) (hs : ∀ k, S k → T k) : Turn T w1 w2 := by
  obtain ⟨a, b, c, d, e⟩ := h
  exact ⟨a, b, c, d, fun i hi hn => e i hi (fun h => hn (hs _ h))⟩
theorem PvAt.grown {w wr wr' : World} {m : Array Value} {t : Txx} {ga : Nat} {a : Acc} {A V : Option Addr} {s : Stt} (h : PvAt w m t ga a A V s wr) {row : Option Nat} (hg : wr.grownBy wr' row) (hr : ∀ g, row = some g → ga + 1 ≤ g) (hgs : w.heap.size + 3 ≤ ga) (hA : s.A.length ≠ 0 → Off (fun k => ga + 1 ≤ k) A) (hV : s.V.length ≠ 0 → Off (fun k => ga + 1 ≤ k) V) : PvAt w m t ga a A V s wr' := by
  have ht : Turn (fun k => ga + 1 ≤ k) wr wr' := Turn.of_grown hg hr
  exact ⟨h.ds.turn (turn_less ht (fun k hk => by omega)), ht.blk h.ac (by omega), h.ra.kept2 ht hA, h.rv.kept2 ht hV, Nat.lt_of_lt_of_le h.sz ht.size⟩
theorem rd_off2 {α : Type} {f : α → List Value} {k : Nat} {w : World} {A : Option Addr} {L : List α} (h : Rd f k w A L) (h0 : L.length ≠ 0) : Off (fun k => k = w.heap.size) A := fun ad e hb => by
  obtain ⟨ad2, e2, hl, _⟩ := h 0 (by omega)
  rw [e] at e2; injection e2 with e2
  rw [← e2] at hl
  simp only at hb
  omega
/-- The last put, the values anew too. -/
theorem refdo_put {A V A2 V2 : Option Addr} {c2 c3 : Nat} {s : Stt} {t : Txx} {w w9 wz : World} {L2 : List Acc} {M : List Vl} (hrd : Rd accL 3 wz A2 L2) (hoff : ∀ ad, A2 = some ad → w9.heap.size ≤ ad.block ∧ ad.block < wz.heap.size) (hb : Below w.heap.size w wz) (hl : w.heap.size + 2 < w9.heap.size)
    (hv : Rd vlL 3 wz V2 M) (hov : ∀ ad, V2 = some ad → w.heap.size + 3 ≤ ad.block ∧ ad.block < wz.heap.size) (e1 : L2 = (doS s t).A) (e2 : M = (doS s t).V) (e0 : (0 : Int) = doE s t) :
    refdoPost A V s t w (.returned (.tuple #[.agg (mC A2 V2 L2.length M.length c3 c2), .int .i64 0])) (wz.setRow (w.heap.size + 2) (mC A2 V2 L2.length M.length c3 c2)) := by
  have ht : Turn (fun k => k = w.heap.size + 2) wz (wz.setRow (w.heap.size + 2) (mC A2 V2 L2.length M.length c3 c2)) := turn_row _ _ _
  have hbb := below_setRow (cs := mC A2 V2 L2.length M.length c3 c2) hb (g := w.heap.size + 2) (by omega)
  refine ⟨A2, V2, c3, c2, by rw [← e0, ← e1, ← e2], ⟨by rw [← e1]; exact hrd.kept ht (fun ad e h2 => by have := (hoff ad e).1; omega), by rw [← e2]; exact hv.kept ht (fun ad e h2 => by have := (hov ad e).1; omega)⟩, fun ad e => .inr ⟨by have := (hoff ad e).1; omega, Nat.lt_of_lt_of_le (hoff ad e).2 ht.size⟩, fun ad e => .inr ⟨by have := (hov ad e).1; omega, Nat.lt_of_lt_of_le (hov ad e).2 ht.size⟩, hbb⟩
set_option maxHeartbeats 8000000 in
set_option maxRecDepth 100000 in
theorem refdo_any (A V : Option Addr) (ca cv : Nat) (s : Stt) (t : Txx) (w : World) (h : Rm w A V s) (hs : Sane s) (hwf : t.wf 1000000) (hA : s.A.length ≤ 100000) (hV : s.V.length ≤ 100000) :
    Calls Tryz.prog 10 #[.agg (mC A V s.A.length s.V.length ca cv), .agg (txC t)] w (refdoPost A V s t w) := by
  go_enter Tryz.func10, Tryz.ntmps10
  go_upto_region 1 with (fail)
  obtain ⟨W, hW⟩ : ∃ W, W = ((w.alloc (.cells (mC A V s.A.length s.V.length ca cv) 34)).alloc (.cells (txC t) 40)).alloc (.cells (mC none none 0 0 0 0) 34) := ⟨_, rfl⟩
  have hD : DoAt w (mC A V s.A.length s.V.length ca cv) t W := by
    rw [hW]
    have k2 := Blk.new (w.alloc (.cells (mC A V s.A.length s.V.length ca cv) 34)) 40 (txC t)
    have k3 := Blk.new ((w.alloc (.cells (mC A V s.A.length s.V.length ca cv) 34)).alloc (.cells (txC t) 40)) 34 (mC none none 0 0 0 0)
    exact ⟨((Blk.new _ _ _).alloc _).alloc _, by simpa using k2.alloc _, by simpa using k3, (((Below.refl _ _).alloc (Nat.le_refl _) _).alloc (by simp) _).alloc (by simp; omega) _⟩
  have hWe : ((w.alloc (.cells (mC A V s.A.length s.V.length ca cv) 34)).alloc (.cells (txC t) 40)).alloc (.cells #[.slice none 0 0, .slice none 0 0] 34) = W := hW.symm
  rw [hWe]
  clear hW hWe
  have hck := refcheck_any t W hwf
  rcases Bool.eq_false_or_eq_true (right t) with hr | hr
  · rw [hr] at hck
    have hof := fun W (hr : Rd accL 3 W A s.A) => refof_any A V ca cv s.V.length s.A t.frm W hr (by omega)
    obtain ⟨a, ha⟩ : ∃ a, a = ofA s.A t.frm := ⟨_, rfl⟩
    rw [← ha] at hof
    have HA := Lib.hid ha
    have han := hs.full.of t.frm
    have hal := hs.full.of_le t.frm
    have hlow := hs.low
    have hno := nonce_of hs.nonce t.frm
    rw [← ha] at han hal hno
    clear ha
    go_upto_region 4 with (first
      | (refine wpList_row_at rfl _ _ rfl (w.heap.size + 1) rfl _ _ _ _ hD.tx Tryz.underlying40 rfl txInfo ?_)
      | (go_at_call 24; refine hck.mono ?_; unfold gives; rintro e w1 ⟨rfl, hb1⟩
         have hD1 := hD.below hb1
         have d1 : w1.cell? ⟨w.heap.size + 1, 1, none⟩ = some (.string (str t.frm)) := hD1.tx.cell 1)
      | (refine wpList_row_at rfl _ _ rfl w.heap.size rfl _ _ _ _ hD1.st Tryz.underlying34 rfl sttInfo ?_)
      | (go_at_call 25; refine (hof _ (h.1.below hD1.bw)).mono ?_; unfold gives; rintro e w2 ⟨rfl, hb2⟩
         have hD2 := hD1.below hb2)
      | (refine wpList_store_new rfl _ _ _ rfl _ (accC a) rfl rfl _ _ accInfo rfl (accC_ones _) ?_)
      | go_in)
    try simp only [Act.put]
    obtain ⟨w3, hw3⟩ : ∃ w3, w3 = w2.alloc (.cells (accC a) 64) := ⟨_, rfl⟩
    have ka : Blk w3 w2.heap.size 64 (accC a) := by rw [hw3]; exact Blk.new _ _ _
    have hD3 : DoAt w (mC A V s.A.length s.V.length ca cv) t w3 := by rw [hw3]; exact hD2.below ((Below.refl _ _).alloc (Nat.le_refl _) _)
    obtain ⟨ga, hga⟩ : ∃ ga, ga = w2.heap.size := ⟨_, rfl⟩
    have hgs : w.heap.size + 3 ≤ ga := by have := hD2.re.lt; omega
    rw [← hga] at ka ⊢
    rw [← hw3]
    clear hw3 hga hD2 hD1 hD hck hof d1
    obtain ⟨x0, x1, x2, x3, x4, x5, x6⟩ := box_of hD3.tx
    have y1 : w3.cell? ⟨ga, 1, none⟩ = some (.int .i64 a.am) := ka.cell 1
    have y2 : w3.cell? ⟨ga, 2, none⟩ = some (.int .i64 a.no) := ka.cell 2
    have hw : wrap64 (a.no + 1) = a.no + 1 := IntWalk.wrap64_in _ ⟨by omega, by omega⟩
    by_cases hn : t.nonce = a.no + 1
    · have hq : (t.nonce != a.no + 1) = false := by rw [hn]; simp
      by_cases hk : t.kind = 1
      · have hk1 : (t.kind == 1) = true := by rw [hk]; rfl
        by_cases hf : a.am < t.amount
        · have HE : Hid ((91 : Int) = doE s t) := Lib.hid (by unfold doE; rw [if_neg (by rw [hr]; decide), ← HA.out, if_neg (by omega), if_pos ⟨hk, hf⟩])
          have hk' := Lib.hid hk
          clear hn hk hr
          go_wp2_with (first
            | (refine wpList_row_at rfl _ _ rfl w.heap.size rfl _ _ _ _ hD3.st Tryz.underlying34 rfl sttInfo ?_)
            | (refine wpList_store_row rfl _ _ _ rfl (w.heap.size + 2) (mC A V s.A.length s.V.length ca cv) rfl rfl _ _ hD3.re sttInfo rfl (mC_ones _ _ _ _ _ _) ?_)
            | go_in)
          (try simp only [Exit.inBlock, Exit.then])
          refine bodyPost_ret (results_row2 rfl _ _ (w.heap.size + 2) rfl (.int .i64 91) rfl _ (mC A V s.A.length s.V.length ca cv) _ _ (blk_setRow hD3.re) Tryz.underlying34 rfl sttInfo) rfl ?_
          exact refdo_same HE.out (by decide) h (below_setRow hD3.bw (by omega))
        · have HE : Hid ((0 : Int) = doE s t) := Lib.hid (by unfold doE; rw [if_neg (by rw [hr]; decide), ← HA.out, if_neg (by omega), if_neg (by omega)])
          have hrm := right_move hr hk
          have hap := posN_in hrm.2.2.2.1
          have hws : wrap64 (a.am - t.amount) = a.am - t.amount := IntWalk.wrap64_in _ ⟨by omega, by omega⟩
          have f1 := ka.frozen 1
          have f2 := ka.frozen 2
          have HK := Lib.hid hk
          clear hn hk hr hrm
          go_upto_region 11 with (fail)
          obtain ⟨w4, hw4⟩ : ∃ w4, w4 = (w3.setCell ⟨ga, 2, none⟩ (.int .i64 (a.no + 1))).setCell ⟨ga, 1, none⟩ (.int .i64 (a.am - t.amount)) := ⟨_, rfl⟩
          have ka4 : Blk w4 ga 64 (accC ⟨a.nm, a.am - t.amount, a.no + 1⟩) := by rw [hw4]; exact (ka.set_ 2 _).set_ 1 _
          have hD4 : DoAt w (mC A V s.A.length s.V.length ca cv) t w4 := by rw [hw4]; exact hD3.turn (((Turn.refl _ _).setCell (.inl hgs) _).setCell (.inl hgs) _)
          rw [← hw4]
          clear hw4 ka hD3 x0 x1 x2 x3 x4 x5 x6 y1 y2 f1 f2 hq hk1 hw hws
          have hA4 := h.1.below hD4.bw
          obtain ⟨a1, ha1⟩ : ∃ a1, a1 = (⟨a.nm, a.am - t.amount, a.no + 1⟩ : Acc) := ⟨_, rfl⟩
          rw [← ha1] at ka4
          have HA1 : Hid (putA s.A a1 = payA s.A t) := Lib.hid (by rw [ha1, HA.out, ofA_nm]; rfl)
          have hpt := refput_any A V ca cv s.V.length s.A a1 w4 hA4 (by omega)
          have hpl := put_len s.A a1
          clear ha1
          obtain ⟨L1, hL1⟩ : ∃ L1, L1 = putA s.A a1 := ⟨_, rfl⟩
          rw [← hL1] at hpt hpl HA1
          clear hL1
          go_upto_region 12 with (first
            | (refine wpList_row_at rfl _ _ rfl w.heap.size rfl _ _ _ _ hD4.st Tryz.underlying34 rfl sttInfo ?_)
            | (refine wpList_row_at rfl _ _ rfl ga rfl _ _ _ _ ka4 Tryz.underlying64 rfl accInfo ?_)
            | (go_at_call 21; refine hpt.mono ?_; rintro e w5 ⟨A1, c1, rfl, hrd5, hoff5, hb5⟩
               have hD5 := hD4.below hb5)
            | (refine wpList_store_row rfl _ _ _ rfl w.heap.size (mC A1 V L1.length s.V.length c1 cv) rfl rfl _ _ hD5.st sttInfo rfl (mC_ones _ _ _ _ _ _) ?_)
            | go_in)
          try simp only [Act.put]
          obtain ⟨w6, hw6⟩ : ∃ w6, w6 = w5.setRow w.heap.size (mC A1 V L1.length s.V.length c1 cv) := ⟨_, rfl⟩
          have ht6 : Turn (fun k => k = w.heap.size) w5 w6 := by rw [hw6]; exact turn_row _ _ _
          have hD6 : DoAt w (mC A1 V L1.length s.V.length c1 cv) t w6 := ⟨by rw [hw6]; exact blk_setRow hD5.st, ht6.blk hD5.tx (by omega), ht6.blk hD5.re (by omega), by rw [hw6]; exact below_setRow hD5.bw (Nat.le_refl _)⟩
          have hrd6 : Rd accL 3 w6 A1 L1 := hrd5.kept ht6 (fun ad e h2 => by have := (hoff5 ad e).1; have := hD4.re.lt; omega)
          have hofA1 : ∀ ad, A1 = some ad → w.heap.size ≤ ad.block := fun ad e => by have := (hoff5 ad e).1; have := hD4.re.lt; omega
          rw [← hw6]
          clear hw6 ht6 hD5 hrd5 hoff5 hpt hb5 ka4 hD4 hA4
          have hof2 := fun W (hr : Rd accL 3 W A1 L1) => refof_any A1 V c1 cv s.V.length L1 t.to W hr (by omega)
          obtain ⟨b, hb'⟩ : ∃ b, b = ofA L1 t.to := ⟨_, rfl⟩
          rw [← hb'] at hof2
          have HB := Lib.hid hb'
          clear hb'
          have d2 : w6.cell? ⟨w.heap.size + 1, 2, none⟩ = some (.string (str t.to)) := hD6.tx.cell 2
          go_upto_region 13 with (first
            | (refine wpList_row_at rfl _ _ rfl w.heap.size rfl _ _ _ _ hD6.st Tryz.underlying34 rfl sttInfo ?_)
            | (go_at_call 25; refine (hof2 _ hrd6).mono ?_; unfold gives; rintro e w7 ⟨rfl, hb7⟩
               have hD7 := hD6.below hb7)
            | (refine wpList_store_new rfl _ _ _ rfl _ (accC b) rfl rfl _ _ accInfo rfl (accC_ones _) ?_)
            | go_in)
          try simp only [Act.put]
          obtain ⟨w8, hw8⟩ : ∃ w8, w8 = w7.alloc (.cells (accC b) 64) := ⟨_, rfl⟩
          have kb : Blk w8 w7.heap.size 64 (accC b) := by rw [hw8]; exact Blk.new _ _ _
          have hb8 : Below w7.heap.size w7 w8 := by rw [hw8]; exact (Below.refl _ _).alloc (Nat.le_refl _) _
          have hD8 := hD7.below hb8
          have hrd8 : Rd accL 3 w8 A1 L1 := (hrd6.below hb7).below hb8
          obtain ⟨gb, hgb⟩ : ∃ gb, gb = w7.heap.size := ⟨_, rfl⟩
          have hgb3 : w.heap.size + 3 ≤ gb := by have := hD7.re.lt; omega
          have hofB : ∀ ad, A1 = some ad → L1.length ≠ 0 → ad.block < gb := fun ad e h0 => by
            obtain ⟨ad2, e2, hb, _⟩ := hrd6.below hb7 0 (by omega)
            rw [e] at e2; injection e2 with e2; rw [e2, hgb]; exact hb
          rw [← hgb] at kb ⊢
          rw [← hw8]
          clear hw8 hgb hb8 hD7 hrd6 hb7 hD6 hof2 d2
          have hbam : 0 ≤ b.am ∧ b.am + t.amount ≤ 4611686018427387904 := pay_bound hs HB.out HA1.out HA.out hal (by omega) hap.1
          have hwb : wrap64 (b.am + t.amount) = b.am + t.amount := IntWalk.wrap64_in _ ⟨by omega, by omega⟩
          have y1 : w8.cell? ⟨gb, 1, none⟩ = some (.int .i64 b.am) := kb.cell 1
          have f1 := kb.frozen 1
          obtain ⟨x0, x1, x2, x3, x4, x5, x6⟩ := box_of hD8.tx
          go_upto_region 14 with (fail)
          obtain ⟨w9, hw9⟩ : ∃ w9, w9 = w8.setCell ⟨gb, 1, none⟩ (.int .i64 (b.am + t.amount)) := ⟨_, rfl⟩
          have kb9 : Blk w9 gb 64 (accC ⟨b.nm, b.am + t.amount, b.no⟩) := by rw [hw9]; exact kb.set_ 1 _
          have ht9 : Turn (fun k => k = gb) w8 w9 := by rw [hw9]; exact (Turn.refl (fun k => k = gb) w8).setCell (.inl (show (gb : Nat) = gb from rfl)) _
          have hD9 : DoAt w (mC A1 V L1.length s.V.length c1 cv) t w9 := hD8.turn (turn_wide ht9 hgb3)
          have hrd9 : Rd accL 3 w9 A1 L1 := hrd8.kept2 ht9 (fun h0 ad e h2 => by have := hofB ad e h0; omega)
          rw [← hw9]
          clear hw9 ht9 kb hD8 hrd8 x0 x1 x2 x3 x4 x5 x6 y1 f1 hwb
          have hpt2 := refput_any A1 V c1 cv s.V.length L1 ⟨b.nm, b.am + t.amount, b.no⟩ w9 hrd9 (by omega)
          have HS : Hid (putA L1 ⟨b.nm, b.am + t.amount, b.no⟩ = (doS s t).A ∧ s.V = (doS s t).V) := Lib.hid (by
            rw [HB.out, HA1.out, ofA_nm]
            unfold doS
            rw [if_neg (by rw [← HE.out]; decide), if_pos HK.out]
            exact ⟨rfl, rfl⟩)
          obtain ⟨L2, hL2⟩ : ∃ L2, L2 = putA L1 ⟨b.nm, b.am + t.amount, b.no⟩ := ⟨_, rfl⟩
          rw [← hL2] at hpt2 HS
          clear hL2
          go_wp2_with (first
            | (refine wpList_row_at rfl _ _ rfl w.heap.size rfl _ _ _ _ hD9.st Tryz.underlying34 rfl sttInfo ?_)
            | (refine wpList_row_at rfl _ _ rfl gb rfl _ _ _ _ kb9 Tryz.underlying64 rfl accInfo ?_)
            | (go_at_call 21; refine hpt2.mono ?_; rintro e wz ⟨A2, c2, rfl, hrdz, hoffz, hbz⟩
               have hDz := hD9.below hbz)
            | (refine wpList_store_row rfl _ _ _ rfl (w.heap.size + 2) (mC A2 V L2.length s.V.length c2 cv) rfl rfl _ _ hDz.re sttInfo rfl (mC_ones _ _ _ _ _ _) ?_)
            | go_in)
          (try simp only [Exit.inBlock, Exit.then])
          refine bodyPost_ret (results_row2 rfl _ _ (w.heap.size + 2) rfl (.int .i64 0) rfl _ (mC A2 V L2.length s.V.length c2 cv) _ _ (blk_setRow hDz.re) Tryz.underlying34 rfl sttInfo) rfl ?_
          exact refdo_done hrdz hoffz hDz.bw hD9.re.lt h.2 HS.out.1 HS.out.2 HE.out
      · have HE : Hid ((0 : Int) = doE s t) := Lib.hid (by unfold doE; rw [if_neg (by rw [hr]; decide), ← HA.out, if_neg (by omega), if_neg (by omega)])
        have hk0 : (t.kind == 1) = false := by simpa using hk
        have f2 := ka.frozen 2
        have HK := Lib.hid hk
        clear hn hk hr
        go_upto_region 15 with (fail)
        obtain ⟨w4, hw4⟩ : ∃ w4, w4 = w3.setCell ⟨ga, 2, none⟩ (.int .i64 (a.no + 1)) := ⟨_, rfl⟩
        have ka4 : Blk w4 ga 64 (accC ⟨a.nm, a.am, a.no + 1⟩) := by rw [hw4]; exact ka.set_ 2 _
        have hD4 : DoAt w (mC A V s.A.length s.V.length ca cv) t w4 := by rw [hw4]; exact hD3.turn ((Turn.refl _ _).setCell (.inl hgs) _)
        rw [← hw4]
        clear hw4 ka hD3 x0 x1 x2 x3 x4 x5 x6 y1 y2 f2 hq hk0 hw
        obtain ⟨a1, ha1⟩ : ∃ a1, a1 = (⟨a.nm, a.am, a.no + 1⟩ : Acc) := ⟨_, rfl⟩
        rw [← ha1] at ka4
        have HS : Hid (putA s.A a1 = (doS s t).A ∧ putV s.V ⟨t.frm, t.key, t.val⟩ = (doS s t).V) := Lib.hid (by
          rw [ha1, HA.out, ofA_nm]
          unfold doS
          rw [if_neg (by rw [← HE.out]; decide), if_neg HK.out]
          exact ⟨rfl, rfl⟩)
        clear ha1
        have hP : PvAt w (mC A V s.A.length s.V.length ca cv) t ga a1 A V s w4 := ⟨hD4, ka4, h.1.below hD4.bw, h.2.below hD4.bw, ka4.lt⟩
        have hoA : s.A.length ≠ 0 → Off (fun k => ga + 1 ≤ k) A := rd_off h.1 (by omega)
        have hoV : s.V.length ≠ 0 → Off (fun k => ga + 1 ≤ k) V := rd_off h.2 (by omega)
        have HoA := Lib.hid hoA
        have HoV := Lib.hid hoV
        have Hg := Lib.hid hgs
        clear hoA hoV ka4 hD4
        obtain ⟨i0, hi, hz0, hz1, hz2⟩ := vl_parts
        go_wp2
        go_loopw [8, 9] (fun l i wr => ∃ k : Nat, i = .int .i64 k ∧ k ≤ s.V.length ∧ wr.ownsRow (ga + 1) 73 3 l ((s.V.take k).filter (fun x => decide (x.who ≠ t.frm ∨ x.key ≠ t.key))).length (((s.V.take k).filter (fun x => decide (x.who ≠ t.frm ∨ x.key ≠ t.key))).flatMap vlL) ∧ PvAt w (mC A V s.A.length s.V.length ca cv) t ga a1 A V s wr)
          (fun _ i _ => s.V.length - (intOf i).toNat)
        case atStart => exact ⟨0, rfl, Nat.zero_le _, ⟨by simp, .inl ⟨rfl, by simp⟩⟩, hP⟩
        case round =>
          obtain ⟨k, rfl, hk, hrow, hPr⟩ := hrel
          have c1 : wr.cell? ⟨w.heap.size, 1, none⟩ = some (.slice V s.V.length cv) := hPr.ds.st.cell 1
          have b1 : wr.cell? ⟨w.heap.size + 1, 1, none⟩ = some (.string (str t.frm)) := hPr.ds.tx.cell 1
          have b3 : wr.cell? ⟨w.heap.size + 1, 3, none⟩ = some (.string (str t.key)) := hPr.ds.tx.cell 3
          by_cases hlt : k < s.V.length
          · obtain ⟨ad, hade, hadl, hcs⟩ := hPr.rv k hlt
            have hfs := filter_snoc hlt (fun x : Vl => decide (x.who ≠ t.frm ∨ x.key ≠ t.key))
            obtain ⟨x, hx⟩ : ∃ x, x = s.V[k] := ⟨_, rfl⟩
            rw [← hx] at hcs hfs
            have q0 : wr.cell? (ad.add (k * 3)) = some (.string (str x.who)) := by have := hcs 0 _ rfl; rwa [add_of_add] at this
            have q1 : wr.cell? ⟨(ad.add (k * 3)).block, (ad.add (k * 3)).off + 1, none⟩ = some (.string (str x.key)) := by have := hcs 1 _ rfl; rwa [add_of_add, add_off _ _ _ (by decide)] at this
            obtain ⟨F, hF⟩ : ∃ F, F = (s.V.take k).filter (fun x => decide (x.who ≠ t.frm ∨ x.key ≠ t.key)) := ⟨_, rfl⟩
            have hFl : F.length ≤ 1000000 := by rw [hF]; exact Nat.le_trans (List.length_filter_le _ _) (by rw [List.length_take]; omega)
            rw [← hF] at hrow hfs
            subst hade
            obtain hc | hc | hc : x.who ≠ t.frm ∨ (x.who = t.frm ∧ x.key ≠ t.key) ∨ (x.who = t.frm ∧ x.key = t.key) := by
              by_cases h1 : x.who = t.frm
              · by_cases h2 : x.key = t.key
                · exact .inr (.inr ⟨h1, h2⟩)
                · exact .inr (.inl ⟨h1, h2⟩)
              · exact .inl h1
            · have e1 := str_ne hc
              have e2 : True := trivial
              rw [if_pos (by simp [hc])] at hfs
              have HF := Lib.hid hfs
              clear hc hx hF hfs
              go_wp2
              go_quiet (fail)
              have hP1 : PvAt w (mC A (some ad) s.A.length s.V.length ca cv) t ga a1 A (some ad) s (wr.drewN nq) := hPr.drewN nq
              have hrow1 : (wr.drewN nq).ownsRow (ga + 1) 73 3 u8 F.length (F.flatMap vlL) := hrow
              have hcs1 : ∀ j u, (vlL x)[j]? = some u → (wr.drewN nq).cell? ((ad.add (k * 3)).add j) = some u := hcs
              have c11 : (wr.drewN nq).cell? ⟨w.heap.size, 1, none⟩ = some (.slice (some ad) s.V.length cv) := c1
              obtain ⟨w5, hw5⟩ : ∃ w5, w5 = wr.drewN nq := ⟨_, rfl⟩
              rw [← hw5] at hP1 hrow1 hcs1 c11
              rw [← hw5]
              clear hw5 hP hPr hrow hcs c1 b1 b3 q0 q1 e1 e2
              have hyb : Blk (w5.alloc (.cells (vlC x) 73)) w5.heap.size 73 (vlC x) := Blk.new _ _ _
              have hP2 := hP1.below ((Below.refl _ w5).alloc (Nat.le_refl _) (.cells (vlC x) 73))
              go_wp2_with (first
                | (refine wpList_cells_at rfl _ _ rfl (ad.add (k * 3)) rfl (vlL x) _ hcs1 Tryz.underlying73 rfl vlInfo ?_)
                | (refine wpList_buildSlice rfl _ _ _ rfl #[(0, .agg (vlC x))] rfl (slice_vl x _) ?_)
                | (at_builtin; refine L3.wpList_append_any _ rfl (.tmp 92) (.tmp 98) 32 rfl (ga + 1) 73 i0 _ 3 48 Tryz.underlying32 hi hz0 hz1 hz2 rfl (by decide) u8 F.length (F.flatMap vlL) rfl (hrow1.alloc _) (w5.heap.size + 1) (some ⟨w5.heap.size, 0, none⟩) 1 1 (vlL x) rfl (reads_one (k := 3) rfl hyb) (one_vlL x) (by unfold maxLen; omega) (by omega) (by have := hP1.sz; simp; omega) ?_
                   intro v2 w6 hrow2 hg2 hat2
                   have hP3 := hP2.grown hg2 (fun i e => (hrow1.lt i e).1) Hg.out HoA.out HoV.out)
                | go_in)
              go_roundw
              case rel => exact ⟨k + 1, by go_num, by omega, by rw [HF.out, List.length_append, List.flatMap_append]; simpa using hrow2, hP3⟩
              case measure => simp [intOf]; omega
            · have e1 := str_eq hc.1
              have e2 := str_ne hc.2
              rw [if_pos (by simp [hc.2])] at hfs
              have HF := Lib.hid hfs
              clear hc hx hF hfs
              go_wp2
              go_quiet (fail)
              have hP1 : PvAt w (mC A (some ad) s.A.length s.V.length ca cv) t ga a1 A (some ad) s (wr.drewN nq) := hPr.drewN nq
              have hrow1 : (wr.drewN nq).ownsRow (ga + 1) 73 3 u8 F.length (F.flatMap vlL) := hrow
              have hcs1 : ∀ j u, (vlL x)[j]? = some u → (wr.drewN nq).cell? ((ad.add (k * 3)).add j) = some u := hcs
              have c11 : (wr.drewN nq).cell? ⟨w.heap.size, 1, none⟩ = some (.slice (some ad) s.V.length cv) := c1
              obtain ⟨w5, hw5⟩ : ∃ w5, w5 = wr.drewN nq := ⟨_, rfl⟩
              rw [← hw5] at hP1 hrow1 hcs1 c11
              rw [← hw5]
              clear hw5 hP hPr hrow hcs c1 b1 b3 q0 q1 e1 e2
              have hyb : Blk (w5.alloc (.cells (vlC x) 73)) w5.heap.size 73 (vlC x) := Blk.new _ _ _
              have hP2 := hP1.below ((Below.refl _ w5).alloc (Nat.le_refl _) (.cells (vlC x) 73))
              go_wp2_with (first
                | (refine wpList_cells_at rfl _ _ rfl (ad.add (k * 3)) rfl (vlL x) _ hcs1 Tryz.underlying73 rfl vlInfo ?_)
                | (refine wpList_buildSlice rfl _ _ _ rfl #[(0, .agg (vlC x))] rfl (slice_vl x _) ?_)
                | (at_builtin; refine L3.wpList_append_any _ rfl (.tmp 92) (.tmp 98) 32 rfl (ga + 1) 73 i0 _ 3 48 Tryz.underlying32 hi hz0 hz1 hz2 rfl (by decide) u8 F.length (F.flatMap vlL) rfl (hrow1.alloc _) (w5.heap.size + 1) (some ⟨w5.heap.size, 0, none⟩) 1 1 (vlL x) rfl (reads_one (k := 3) rfl hyb) (one_vlL x) (by unfold maxLen; omega) (by omega) (by have := hP1.sz; simp; omega) ?_
                   intro v2 w6 hrow2 hg2 hat2
                   have hP3 := hP2.grown hg2 (fun i e => (hrow1.lt i e).1) Hg.out HoA.out HoV.out)
                | go_in)
              go_roundw
              case rel => exact ⟨k + 1, by go_num, by omega, by rw [HF.out, List.length_append, List.flatMap_append]; simpa using hrow2, hP3⟩
              case measure => simp [intOf]; omega
            · have e1 := str_eq hc.1
              have e2 := str_eq hc.2
              rw [if_neg (by simp [hc.1, hc.2]), List.append_nil] at hfs
              have HF := Lib.hid hfs
              clear hc hx hF hfs
              go_wp2
              go_quiet (fail)
              go_wp2
              go_roundw
              case rel => exact ⟨k + 1, by go_num, by omega, by rw [HF.out]; exact hrow, hPr.drewN _⟩
              case measure => simp [intOf]; omega
          · obtain rfl : k = s.V.length := by omega
            rw [List.take_length] at hrow
            obtain ⟨F, hF⟩ : ∃ F, F = s.V.filter (fun x => decide (x.who ≠ t.frm ∨ x.key ≠ t.key)) := ⟨_, rfl⟩
            have hFl : F.length ≤ 1000000 := by rw [hF]; exact Nat.le_trans (List.length_filter_le _ _) (by omega)
            have HFF : Hid (putV s.V ⟨t.frm, t.key, t.val⟩ = F ++ [⟨t.frm, t.key, t.val⟩]) := Lib.hid (by rw [hF]; rfl)
            rw [← hF] at hrow
            clear hF
            go_upto_region 21 with (fail)
            clear c1 b1 b3
            have hPd : PvAt w (mC A V s.A.length s.V.length ca cv) t ga a1 A V s wr.drew := hPr.drewN 1
            have hS : (fun X : World => X.cell? ⟨w.heap.size, 0, none⟩ = some (.slice A s.A.length ca) ∧ X.cell? ⟨w.heap.size + 1, 1, none⟩ = some (.string (str t.frm)) ∧ X.cell? ⟨w.heap.size + 1, 3, none⟩ = some (.string (str t.key)) ∧ X.cell? ⟨w.heap.size + 1, 4, none⟩ = some (.string (str t.val))) wr.drew := ⟨hPd.ds.st.cell 0, hPd.ds.tx.cell 1, hPd.ds.tx.cell 3, hPd.ds.tx.cell 4⟩
            refine wp_region_K (fun X : World => X.cell? ⟨w.heap.size, 0, none⟩ = some (.slice A s.A.length ca) ∧ X.cell? ⟨w.heap.size + 1, 1, none⟩ = some (.string (str t.frm)) ∧ X.cell? ⟨w.heap.size + 1, 3, none⟩ = some (.string (str t.key)) ∧ X.cell? ⟨w.heap.size + 1, 4, none⟩ = some (.string (str t.val))) [0, 1, 2, 3, 4, 5, 6, 7, 8] (by kernel_rfl) ?_
            refine wpK_quiet (f := 5) (by kernel_rfl) (fun _ x _ _ _ h => by cases x <;> exact h) hS [0, 1, 2, 3, 4, 5, 6, 7, 8] _ _ (by kernel_rfl) (by kernel_rfl) (by kernel_rfl) ?_
            have ne : Nonempty (WorldIn (fun X : World => X.cell? ⟨w.heap.size, 0, none⟩ = some (.slice A s.A.length ca) ∧ X.cell? ⟨w.heap.size + 1, 1, none⟩ = some (.string (str t.frm)) ∧ X.cell? ⟨w.heap.size + 1, 3, none⟩ = some (.string (str t.key)) ∧ X.cell? ⟨w.heap.size + 1, 4, none⟩ = some (.string (str t.val)))) := ⟨⟨_, hS⟩⟩
            have p0 : ∀ y : WorldIn (fun X : World => X.cell? ⟨w.heap.size, 0, none⟩ = some (.slice A s.A.length ca) ∧ X.cell? ⟨w.heap.size + 1, 1, none⟩ = some (.string (str t.frm)) ∧ X.cell? ⟨w.heap.size + 1, 3, none⟩ = some (.string (str t.key)) ∧ X.cell? ⟨w.heap.size + 1, 4, none⟩ = some (.string (str t.val))), y.w.cell? ⟨w.heap.size, 0, none⟩ = some (.slice A s.A.length ca) := fun y => y.h.1
            have p1 : ∀ y : WorldIn (fun X : World => X.cell? ⟨w.heap.size, 0, none⟩ = some (.slice A s.A.length ca) ∧ X.cell? ⟨w.heap.size + 1, 1, none⟩ = some (.string (str t.frm)) ∧ X.cell? ⟨w.heap.size + 1, 3, none⟩ = some (.string (str t.key)) ∧ X.cell? ⟨w.heap.size + 1, 4, none⟩ = some (.string (str t.val))), y.w.cell? ⟨w.heap.size + 1, 1, none⟩ = some (.string (str t.frm)) := fun y => y.h.2.1
            have p3 : ∀ y : WorldIn (fun X : World => X.cell? ⟨w.heap.size, 0, none⟩ = some (.slice A s.A.length ca) ∧ X.cell? ⟨w.heap.size + 1, 1, none⟩ = some (.string (str t.frm)) ∧ X.cell? ⟨w.heap.size + 1, 3, none⟩ = some (.string (str t.key)) ∧ X.cell? ⟨w.heap.size + 1, 4, none⟩ = some (.string (str t.val))), y.w.cell? ⟨w.heap.size + 1, 3, none⟩ = some (.string (str t.key)) := fun y => y.h.2.2.1
            have p4 : ∀ y : WorldIn (fun X : World => X.cell? ⟨w.heap.size, 0, none⟩ = some (.slice A s.A.length ca) ∧ X.cell? ⟨w.heap.size + 1, 1, none⟩ = some (.string (str t.frm)) ∧ X.cell? ⟨w.heap.size + 1, 3, none⟩ = some (.string (str t.key)) ∧ X.cell? ⟨w.heap.size + 1, 4, none⟩ = some (.string (str t.val))), y.w.cell? ⟨w.heap.size + 1, 4, none⟩ = some (.string (str t.val)) := fun y => y.h.2.2.2
            conv => arg 5; simp [pick]
            iterate 9 go_big_quiet_step (fail)
            refine wpQuiet_nil ?_
            refine wpK_step 9 (by kernel_rfl) rfl ?_
            refine wpList_build rfl _ _ rfl #[(0, .string (str t.frm)), (1, .string (str t.key)), (2, .string (str t.val))] rfl (build_vl3 (Vl.mk t.frm t.key t.val) _) ?_
            go_wp2
            refine stepQ.mk ⟨fun _ => ⟨hPd.ds.st.cell 0, hPd.ds.tx.cell 1, hPd.ds.tx.cell 3, hPd.ds.tx.cell 4⟩, ?_⟩
            refine wpK_step 10 (by kernel_rfl) rfl ?_
            refine wpList_buildSlice rfl _ _ _ rfl #[(0, .agg (vlC (Vl.mk t.frm t.key t.val)))] rfl (slice_vl (Vl.mk t.frm t.key t.val) _) ?_
            go_wp2
            have hyb : Blk (wr.drew.alloc (.cells (vlC (Vl.mk t.frm t.key t.val)) 73)) wr.drew.heap.size 73 (vlC (Vl.mk t.frm t.key t.val)) := Blk.new _ _ _
            have hP2 := hPd.below ((Below.refl _ wr.drew).alloc (Nat.le_refl _) (.cells (vlC (Vl.mk t.frm t.key t.val)) 73))
            have hrow1 : wr.drew.ownsRow (ga + 1) 73 3 u8 F.length (F.flatMap vlL) := hrow
            refine stepQ.mk ⟨fun _ => ⟨hP2.ds.st.cell 0, hP2.ds.tx.cell 1, hP2.ds.tx.cell 3, hP2.ds.tx.cell 4⟩, ?_⟩
            refine wpK_step 11 (by kernel_rfl) rfl ?_
            refine L3.wpList_append_any _ rfl (.tmp 102) (.tmp 110) 32 rfl (ga + 1) 73 i0 _ 3 48 Tryz.underlying32 hi hz0 hz1 hz2 rfl (by decide) u8 F.length (F.flatMap vlL) rfl (hrow1.alloc _) (wr.drew.heap.size + 1) (some ⟨wr.drew.heap.size, 0, none⟩) 1 1 (vlL (Vl.mk t.frm t.key t.val)) rfl (reads_one (k := 3) rfl hyb) (one_vlL _) (by unfold maxLen; omega) (by omega) (by have := hPd.sz; simp only [World.size_alloc]; omega) ?_
            intro v2 w2 hrow2 hg2 hat2
            have hP3 := hP2.grown hg2 (fun i e => (hrow1.lt i e).1) Hg.out HoA.out HoV.out
            have hrow3 : w2.ownsRow (ga + 1) 73 3 v2 (F ++ [Vl.mk t.frm t.key t.val]).length ((F ++ [Vl.mk t.frm t.key t.val]).flatMap vlL) := by simpa using hrow2
            rw [← HFF.out] at hrow3
            obtain ⟨V2, c2, rfl, hrd2, hoff2⟩ := Rd.of_row vlL_len hrow3
            obtain ⟨M, hM⟩ : ∃ M, M = putV s.V (Vl.mk t.frm t.key t.val) := ⟨_, rfl⟩
            rw [← hM] at hrd2 HS
            rw [← hM]
            clear hM hrow hrow1 hrow2 hrow3 HFF hg2 hat2 hyb hP2 hPd hS hPr hP p0 p1 p3 p4 ne
            go_wp2
            refine stepQ.mk ⟨fun _ => ⟨hP3.ds.st.cell 0, hP3.ds.tx.cell 1, hP3.ds.tx.cell 3, hP3.ds.tx.cell 4⟩, ?_⟩
            refine wpK_step 12 (by kernel_rfl) rfl ?_
            refine wpList_build rfl _ _ rfl #[(0, .slice A s.A.length ca), (1, .slice V2 M.length c2)] rfl (build_stt A V2 s.A.length M.length ca c2 w2) ?_
            go_wp2
            refine stepQ.mk ⟨fun _ => ⟨hP3.ds.st.cell 0, hP3.ds.tx.cell 1, hP3.ds.tx.cell 3, hP3.ds.tx.cell 4⟩, ?_⟩
            refine wpK_seq [13] _ _ _ (by kernel_rfl) ?_
            conv => arg 4; simp [pick]
            refine wpList_store_row rfl _ _ _ rfl w.heap.size (mC A V2 s.A.length M.length ca c2) rfl rfl _ _ hP3.ds.st sttInfo rfl (mC_ones _ _ _ _ _ _) ?_
            go_upto_region 22 with (fail)
            (try simp only [Act.put])
            obtain ⟨w7, hw7⟩ : ∃ w7, w7 = w2.setRow w.heap.size (mC A V2 s.A.length M.length ca c2) := ⟨_, rfl⟩
            have ht7 : Turn (fun k => k = w.heap.size) w2 w7 := by rw [hw7]; exact turn_row _ _ _
            have hD7 : DoAt w (mC A V2 s.A.length M.length ca c2) t w7 := ⟨by rw [hw7]; exact blk_setRow hP3.ds.st, ht7.blk hP3.ds.tx (by omega), ht7.blk hP3.ds.re (by omega), by rw [hw7]; exact below_setRow hP3.ds.bw (Nat.le_refl _)⟩
            have ka7 : Blk w7 ga 64 (accC a1) := ht7.blk hP3.ac (by omega)
            have hra7 : Rd accL 3 w7 A s.A := hP3.ra.kept2 ht7 (fun h0 => rd_off2 h.1 h0)
            have hrv7 : Rd vlL 3 w7 V2 M := hrd2.kept ht7 (fun ad e h2 => by have := (hoff2 ad e).1; omega)
            have hov7 : ∀ ad, V2 = some ad → w.heap.size + 3 ≤ ad.block ∧ ad.block < w7.heap.size := fun ad e => ⟨by have := (hoff2 ad e).1; omega, Nat.lt_of_lt_of_le (hoff2 ad e).2 ht7.size⟩
            rw [← hw7]
            clear hw7 ht7 hP3 hrd2 hoff2
            have hpt2 := refput_any A V2 ca c2 M.length s.A a1 w7 hra7 (by omega)
            obtain ⟨L2, hL2⟩ : ∃ L2, L2 = putA s.A a1 := ⟨_, rfl⟩
            rw [← hL2] at hpt2 HS
            clear hL2
            go_wp2_with (first
              | (refine wpList_row_at rfl _ _ rfl w.heap.size rfl _ _ _ _ hD7.st Tryz.underlying34 rfl sttInfo ?_)
              | (refine wpList_row_at rfl _ _ rfl ga rfl _ _ _ _ ka7 Tryz.underlying64 rfl accInfo ?_)
              | (go_at_call 21; refine hpt2.mono ?_; rintro e wz ⟨A2, c3, rfl, hrdz, hoffz, hbz⟩
                 have hDz := hD7.below hbz)
              | (refine wpList_store_row rfl _ _ _ rfl (w.heap.size + 2) (mC A2 V2 L2.length M.length c3 c2) rfl rfl _ _ hDz.re sttInfo rfl (mC_ones _ _ _ _ _ _) ?_)
              | go_in)
            (try simp only [Exit.inBlock, Exit.then])
            refine bodyPost_ret (results_row2 rfl _ _ (w.heap.size + 2) rfl (.int .i64 0) rfl _ (mC A2 V2 L2.length M.length c3 c2) _ _ (blk_setRow hDz.re) Tryz.underlying34 rfl sttInfo) rfl ?_
            exact refdo_put hrdz hoffz hDz.bw hD7.re.lt (hrv7.below hbz) (fun ad e => ⟨(hov7 ad e).1, Nat.lt_of_lt_of_le (hov7 ad e).2 hbz.size⟩) HS.out.1 HS.out.2 HE.out
    · have hq : (t.nonce != a.no + 1) = true := by rw [bne_iff_ne]; exact hn
      have HE : Hid ((90 : Int) = doE s t) := Lib.hid (by unfold doE; rw [if_neg (by rw [hr]; decide), ← HA.out, if_pos hn])
      clear hn hr
      go_wp2_with (first
        | (refine wpList_row_at rfl _ _ rfl w.heap.size rfl _ _ _ _ hD3.st Tryz.underlying34 rfl sttInfo ?_)
        | (refine wpList_store_row rfl _ _ _ rfl (w.heap.size + 2) (mC A V s.A.length s.V.length ca cv) rfl rfl _ _ hD3.re sttInfo rfl (mC_ones _ _ _ _ _ _) ?_)
        | go_in)
      (try simp only [Exit.inBlock, Exit.then])
      refine bodyPost_ret (results_row2 rfl _ _ (w.heap.size + 2) rfl (.int .i64 90) rfl _ (mC A V s.A.length s.V.length ca cv) _ _ (blk_setRow hD3.re) Tryz.underlying34 rfl sttInfo) rfl ?_
      exact refdo_same HE.out (by decide) h (below_setRow hD3.bw (by omega))
  · have he : (80 : Int) = doE s t := by unfold doE; rw [if_pos hr]
    have HE := Lib.hid he
    rw [hr] at hck
    clear hr he
    go_wp2_with (first
      | (refine wpList_row_at rfl _ _ rfl (w.heap.size + 1) rfl _ _ _ _ hD.tx Tryz.underlying40 rfl txInfo ?_)
      | (go_at_call 24; refine hck.mono ?_; unfold gives; rintro e w1 ⟨rfl, hb1⟩
         have hD1 := hD.below hb1)
      | (refine wpList_row_at rfl _ _ rfl w.heap.size rfl _ _ _ _ hD1.st Tryz.underlying34 rfl sttInfo ?_)
      | (refine wpList_store_row rfl _ _ _ rfl (w.heap.size + 2) (mC A V s.A.length s.V.length ca cv) rfl rfl _ _ hD1.re sttInfo rfl (mC_ones _ _ _ _ _ _) ?_)
      | go_in)
    (try simp only [Exit.inBlock, Exit.then])
    refine bodyPost_ret (results_row2 rfl _ _ (w.heap.size + 2) rfl (.int .i64 80) rfl _ (mC A V s.A.length s.V.length ca cv) _ _ (blk_setRow hD1.re) Tryz.underlying34 rfl sttInfo) rfl ?_
    exact refdo_same HE.out (by decide) h (below_setRow hD1.bw (by omega))
end Go.Proofs.YthkgadjiiapfgaaGreatDoor
