/-
  What a state does and tells, by the plain state: Do, Total, Copy.
-/
import Derived.Test.YthkgadjiiapfgaaGreatDoorDoS
import Derived.Test.YthkgadjiiapfgaaGreatDoorLays
set_option linter.unusedSimpArgs false
set_option linter.unusedVariables false
set_option maxRecDepth 10000
namespace Go.Proofs.YthkgadjiiapfgaaGreatDoor
open Go.RowKit Go.Maps Go.Lib
open L3 (Blk)
open L6 (Turn moreB fresh From In)
open L2 (chk vlu)

theorem amt_fA (s : Stt) (k : List UInt8) : amt (fA s) k = (ofA s.A k).am := by unfold amt; rw [fA_get]
theorem nnc_fA (s : Stt) (k : List UInt8) : nnc (fA s) k = (ofA s.A k).no := by unfold nnc; rw [fA_get]
theorem vlv_fV (s : Stt) (p : Plc) : vlv (fV s) p = getV s.V p.1 p.2 := fV_get s p
theorem sane_fA {s : Stt} (h : Sane s) : saneF (fA s) := fun k => by
  have h1 := h.full.of k
  have h2 := h.full.of_le k
  have h3 := nonce_of h.nonce k
  have h4 := h.low
  rw [amt_fA, nnc_fA]
  omega
theorem two_fA {s : Stt} (h : Sane s) : twoF (fA s) := fun a b hne => by
  have h1 := h.full.two h.ok.1 hne
  have h4 := h.low
  rw [amt_fA, amt_fA]
  omega
theorem refE_fA {s : Stt} (h : Sane s) (t : Txx) : refE (fA s) t = doE s t := by
  unfold refE doE
  rw [amt_fA, nnc_fA]
  split
  · rfl
  next hr =>
  split
  · rfl
  by_cases hk : t.kind = 1
  · simp [hk]
  · have hm := right_put (by simpa using hr) hk
    have hf := h.full.of t.frm
    rw [if_neg (by omega), if_neg (by rintro ⟨h1, _⟩; exact hk h1)]
theorem fA_some (s : Stt) (k : List UInt8) {a b : Int} (h : a ≠ 0 ∨ b ≠ 0) (h1 : (ofA s.A k).am = a) (h2 : (ofA s.A k).no = b) : fA s k = some (a, b) := by
  unfold fA someA
  rw [h1, h2, if_pos (by simpa using h)]
theorem fA_eq {s z : Stt} {k : List UInt8} (h1 : (ofA s.A k).am = (ofA z.A k).am) (h2 : (ofA s.A k).no = (ofA z.A k).no) : fA s k = fA z k := by
  unfold fA someA
  rw [h1, h2]
theorem doF_fA {s : Stt} (h : Sane s) (t : Txx) (k : List UInt8) : doF (fA s) t k = fA (doS s t) k := by
  unfold doF
  rw [refE_fA h]
  by_cases he : doE s t = 0
  · rw [if_neg (by omega)]
    obtain ⟨hr, hn, hf⟩ := doE_ok he
    have hof := do_of he
    have hfr := h.full.of t.frm
    have hto := h.full.of t.to
    have hk0 := hof k
    by_cases hk : t.kind = 1
    · rw [if_pos hk]
      have hm := right_move hr hk
      have hp := posN_in hm.2.2.2.1
      have hle := hf hk
      unfold putF payF
      by_cases h1 : k = t.to
      · rw [if_pos h1]
        subst h1
        rw [amt_put, nnc_put, amt_fA, nnc_fA, amt_fA, nnc_fA]
        symm
        by_cases h2 : t.to = t.frm
        · rw [if_pos h2, if_pos h2]
          dsimp only
          refine fA_some _ _ (.inr (by omega)) ?_ ?_
          · rw [hk0]; simp [hk, h2]; rw [h2] at *; omega
          · rw [hk0]; simp [h2]
        · rw [if_neg h2, if_neg h2]
          refine fA_some _ _ (.inl (by omega)) ?_ ?_
          · rw [hk0]; simp [hk, h2]
          · rw [hk0]; simp [h2]
      · rw [if_neg h1]
        unfold putF
        by_cases h2 : k = t.frm
        · rw [if_pos h2]
          subst h2
          rw [amt_fA, nnc_fA]
          symm
          refine fA_some _ _ (.inr (by omega)) ?_ ?_
          · rw [hk0]; simp [hk, h1]; omega
          · rw [hk0]; simp
        · rw [if_neg h2]
          refine fA_eq ?_ ?_
          · rw [hk0]; simp [h1, h2]
          · rw [hk0]; simp [h2]
    · rw [if_neg hk]
      have hm := right_put hr hk
      unfold payF putF
      by_cases h2 : k = t.frm
      · rw [if_pos h2]
        subst h2
        rw [amt_fA, nnc_fA]
        symm
        refine fA_some _ _ (.inr (by omega)) ?_ ?_
        · rw [hk0]; simp [hk, hm.2.2.2.2.2.1]
        · rw [hk0]; simp
      · rw [if_neg h2]
        refine fA_eq ?_ ?_
        · rw [hk0]; simp [hk]
        · rw [hk0]; simp [h2]
  · rw [if_pos he, doS_no he]
theorem doV_fV {s : Stt} (h : Sane s) (t : Txx) (p : Plc) : doV (fA s) (fV s) t p = fV (doS s t) p := by
  unfold doV
  rw [refE_fA h]
  by_cases he : doE s t = 0
  · rw [if_neg (by omega)]
    have hg := do_get he p.1 p.2
    by_cases hk : t.kind = 1
    · rw [if_pos hk]
      rw [if_neg (by rintro ⟨h1, _⟩; exact h1 hk)] at hg
      unfold fV
      rw [hg]
    · rw [if_neg hk]
      unfold putG
      by_cases h1 : p = (t.frm, t.key)
      · rw [if_pos h1]
        subst h1
        rw [if_pos ⟨hk, rfl, rfl⟩] at hg
        unfold fV
        rw [hg]
      · rw [if_neg h1]
        rw [if_neg (by rintro ⟨_, h2, h3⟩; exact h1 (Prod.ext h2 h3))] at hg
        unfold fV
        rw [hg]
  · rw [if_pos he, doS_no he]
/-- In w a state that is s. -/
def Sx (w : World) (S : Nat → Prop) (g : Nat) (s : Stt) (n : Nat) : Prop := St w S g (fA s) (fV s) n ∧ Sane s
section
variable {S : Nat → Prop} {g n : Nat} {s : Stt} {w : World}
theorem doSx (h : Sx w S g s n) (hin : In w S) (t : Txx) (hwf : t.wf 1000000) (hT : Tabs w) (hn : n + 3 ≤ maxLen) :
    Calls Tryz.prog 11 #[.pointer (some ⟨g, 0, none⟩), .agg (txC t)] w fun e w' => e = .returned (.int .i64 (doE s t)) ∧ Sx w' (moreB S w w') g (doS s t) (n + 2) ∧ Turn S w w' := by
  refine (do_any h.1 hin t hwf hT (sane_fA h.2) (two_fA h.2) hn).mono ?_
  rintro e w' ⟨rfl, hs, ht⟩
  exact ⟨by rw [refE_fA h.2], ⟨hs.congr (fun x _ => doF_fA h.2 t x) (fun x _ => doV_fV h.2 t x), h.2.does t⟩, ht⟩

/-! Total -/
theorem ofA_without (A : List Acc) {a b : List UInt8} (hne : b ≠ a) : ofA (A.filter (fun x => decide (x.nm ≠ a))) b = ofA A b := by
  induction A with
  | nil => rfl
  | cons x A ih =>
    by_cases hx : x.nm = a
    · rw [List.filter_cons_of_neg (by simpa using hx), ih, ofA, if_neg (fun e => hne (e.symm.trans hx))]
    · rw [List.filter_cons_of_pos (by simpa using hx), ofA, ofA]
      split
      · rfl
      · exact ih
theorem sum_names : ∀ {ss : List (List UInt8)} {A : List Acc}, Full A → Apart Acc.nm A → ss.Nodup → 0 ≤ (ss.map (fun x => (ofA A x).am)).sum ∧ (ss.map (fun x => (ofA A x).am)).sum ≤ totA A
  | [], A, hf, _, _ => ⟨by simp, by simpa using hf.tot⟩
  | x :: ss, A, hf, ha, hn => by
    have hc := List.nodup_cons.1 hn
    have hf' : Full (A.filter (fun y => decide (y.nm ≠ x))) := fun y hy => hf y (List.mem_filter.1 hy).1
    have ih := sum_names (ss := ss) hf' (ha.filter _) hc.2
    rw [tot_without ha] at ih
    have e : ss.map (fun y => (ofA (A.filter (fun y => decide (y.nm ≠ x))) y).am) = ss.map (fun y => (ofA A y).am) := List.map_congr_left fun y hy => by
      have hyx : y ≠ x := fun e => hc.1 (by rw [← e]; exact hy)
      rw [ofA_without A hyx]
    rw [e] at ih
    have := hf.of x
    simp only [List.map_cons, List.sum_cons]
    omega
theorem tot_some (A : List Acc) : totA (A.filter someA) = totA A := by
  induction A with
  | nil => rfl
  | cons a A ih =>
    rw [totA_cons]
    by_cases h : someA a = true
    · rw [List.filter_cons_of_pos h, totA_cons, ih]
    · rw [List.filter_cons_of_neg h, ih]
      unfold someA at h
      rw [decide_eq_true_eq] at h
      have : a.am = 0 := Classical.byContradiction fun e => h (.inl e)
      omega
/-- The names of those who have something. -/
def namesOf (s : Stt) : List (List UInt8) := (s.A.filter someA).map Acc.nm
theorem names_listed {s : Stt} (h : Sane s) : Listed okN (fA s) (namesOf s) := by
  have hap := h.ok.1
  refine ⟨List.pairwise_map.2 (hap.filter _), fun x hx => ?_, fun x _ => ?_⟩
  · obtain ⟨a, ha, rfl⟩ := List.mem_map.1 hx
    have := name_size (h.named a (List.mem_filter.1 ha).1)
    unfold okN maxLen; omega
  · unfold fA
    constructor
    · intro hx
      obtain ⟨a, ha, rfl⟩ := List.mem_map.1 hx
      obtain ⟨h1, h2⟩ := List.mem_filter.1 ha
      rw [ofA_mem hap h1, if_pos h2]; rfl
    · intro hx
      split at hx
      · next hs =>
        refine List.mem_map.2 ⟨ofA s.A x, List.mem_filter.2 ⟨ofA_there (fun e => ?_), hs⟩, ofA_nm _ _⟩
        rw [e] at hs
        simp [someA] at hs
      · cases hx
theorem Listed.same {α β : Type} {ok : α → Prop} {f : α → Option β} {ss zs : List α} (h : Listed ok f ss) (k : Listed ok f zs) : ss.Perm zs :=
  (List.perm_ext_iff_of_nodup h.1 k.1).2 fun x => ⟨fun hx => (k.2.2 x (h.2.1 x hx)).2 ((h.2.2 x (h.2.1 x hx)).1 hx), fun hx => (h.2.2 x (k.2.1 x hx)).2 ((k.2.2 x (k.2.1 x hx)).1 hx)⟩
theorem perm_sum {l m : List Int} (h : l.Perm m) : l.sum = m.sum := by
  induction h with
  | nil => rfl
  | cons x _ ih => simp [ih]
  | swap x y l => simp; omega
  | trans _ _ h1 h2 => exact h1.trans h2
theorem sum_listed {s : Stt} (h : Sane s) {ss : List (List UInt8)} (hl : Listed okN (fA s) ss) : (ss.map (fun x => (ofA s.A x).am)).sum = totA s.A := by
  have hp := hl.same (names_listed h)
  rw [perm_sum (hp.map (fun x => (ofA s.A x).am))]
  unfold namesOf
  rw [List.map_map, ← tot_some]
  unfold totA
  congr 1
  refine List.map_congr_left fun a ha => ?_
  show (ofA s.A a.nm).am = a.am
  rw [ofA_mem h.ok.1 (List.mem_filter.1 ha).1]
set_option maxHeartbeats 2000000 in
set_option maxRecDepth 100000 in
theorem total_any (h : Sx w S g s n) : Calls Tryz.prog 30 #[.pointer (some ⟨g, 0, none⟩)] w (gives (.int .i64 (totA s.A)) w) := by
  obtain ⟨⟨ba, bv, DA, DV, hblk, hA, hV, h1, h2, h3, h4, h5, h6⟩, hs⟩ := h
  have c0 := hblk.cell 0
  go_enter Tryz.func30, Tryz.ntmps30
  go_wp2_with (first
    | (at_range; refine wpList_range_own _ rfl _ 49 rfl 9 57 kdN Tryz.underlying49 accElem ba n _ rfl hA ?_; intro w0 hrg0 hg0 hs0)
    | go_in)
  go_frame
  go_loopw [3] (fun t wr => ∃ (left : Lit → Bool) (cnt : Nat) (ss : List (List UInt8)), t = .int .i64 (ss.map (fun x => (ofA s.A x).am)).sum ∧ wr.ranges Tryz.prog 9 accElem ba w.heap.size n DA left cnt ∧ Hid (Collected DA left ss) ∧ Hid (∀ x ∈ ss, okN x) ∧ Below w.heap.size w wr)
    (fun _ wr => wr.rangeLeft ba w.heap.size)
  case atStart => exact ⟨_, _, [], rfl, hrg0, Lib.hid (Collected.start DA), Lib.hid (fun x hx => by cases hx), (Below.refl _ w).grown hg0 (Nat.le_refl _) (fun j e => by cases e)⟩
  case round =>
    obtain ⟨left, cnt, ss, rfl, hrg, hC, hO, hbw⟩ := hrel
    have hsum := sum_names (ss := ss) hs.full hs.ok.1 hC.out.1
    obtain ⟨m, hm⟩ : ∃ m, m = (ss.map (fun x => (ofA s.A x).am)).sum := ⟨_, rfl⟩
    rw [← hm] at hsum ⊢
    have hlow := hs.low
    have HM2 := Lib.hid hm
    clear hm
    go_wp2_with (first
      | (at_next; refine wpList_next_ranges _ rfl _ rfl 9 kdN accElem (fun l : List UInt8 => .string (str l)) (fun p : Int × Int => .agg #[.int .i64 p.1, .int .i64 p.2]) (fun key kl hk => by obtain ⟨l, _, hl, _⟩ := keyN_inv hk; exact ⟨l, hl⟩) (fun v _ h => by obtain ⟨p, hp, _⟩ := accElem_inv h; exact ⟨p, hp⟩) ba w.heap.size n _ _ _ rfl hrg ?_ ?_)
      | go_in)
    · intro _ hl0
      have hl : Listed okN (fA s) ss := listed_of h1 okN_inj (by rw [List.map_id]; exact hC.out) hO.out hl0
      have HT := Lib.hid (HM2.out.trans (sum_listed hs hl))
      go_wp2
      go_ret
      exact ⟨by rw [HT.out]; rfl, hbw⟩
    · intro x i j kl yd yp w1 cnt1 hkey hlx hv hat hrg1 hlt hg1 hs1 hen
      obtain ⟨x', hx', ex, rfl⟩ := keyN_inv hkey
      obtain rfl : x = x' := by injection ex with ex; exact str_inj ex
      have hyd : yd = accD (i, j) := by have := accElem_mk (i, j); rw [show accV (i, j) = .agg #[.int .i64 i, .int .i64 j] from rfl] at this; rw [this] at hv; exact (congrArg Prod.fst (Option.some.inj hv)).symm
      have hi : i = (ofA s.A x).am := by
        have h0 := h1.acc hx'
        rw [hat, hyd] at h0
        have := congrArg Prod.fst (accD_inj h0)
        rw [← amt_fA]; exact this
      have hC2 : Collected DA (fun z => left z && !z.sameKey (.string x)) (ss ++ [x]) := hC.out.step hlx hat
      have hsum2 := sum_names (ss := ss ++ [x]) hs.full hs.ok.1 hC2.1
      have hO2 : ∀ y ∈ ss ++ [x], okN y := fun y hy => by
        rcases List.mem_append.1 hy with e | e
        · exact hO.out y e
        · rw [List.mem_singleton.1 e]; exact hx'
      have hm2 : ((ss ++ [x]).map (fun x => (ofA s.A x).am)).sum = m + i := by rw [List.map_append, List.sum_append, ← HM2.out, hi]; simp
      rw [hm2] at hsum2
      have hw : wrap64 (m + i) = m + i := IntWalk.wrap64_in _ ⟨by omega, by omega⟩
      have hrg2 := hrg1.alloc (.cells #[.int .i64 i, .int .i64 j] 57)
      have HM := Lib.hid hm2
      have HI := Lib.hid hi
      have hbw2 := hbw.grown hg1 hbw.size (fun k e => by cases e; exact Nat.le_refl _)
      clear hm2 hi hsum hsum2 hyd hkey hv hat hx' hs1
      go_wp2
      go_roundw
      case rel => exact ⟨_, cnt1, ss ++ [x], by rw [HM.out, hw], hrg2, Lib.hid hC2, Lib.hid hO2, hbw2.alloc hbw2.size _⟩
      case measure => rw [hrg2.left_eq, hrg.left_eq]; exact hlt

/-! Copy -/
theorem build_st (a b : Nat) (w : World) : (Instr.build 52 #[(0, .map (some a)), (1, .map (some b))]).run Tryz.prog w = .ok (.agg #[.map (some a), .map (some b)]) w := run_build w _ _ _ (by kernel_rfl)
/-- What the reads meet. -/
def holdC (g ba bv : Nat) (W : World) : Prop := W.cell? ⟨g, 0, none⟩ = some (.map (some ba)) ∧ W.cell? ⟨g, 1, none⟩ = some (.map (some bv))
theorem holdC.below {g ba bv : Nat} {W W' : World} (h : holdC g ba bv W) (hb : Below W.heap.size W W') : holdC g ba bv W' :=
  ⟨(hb.cell (p := ⟨g, 0, none⟩) (L2.cell_in h.1)).trans h.1, (hb.cell (p := ⟨g, 1, none⟩) (L2.cell_in h.2)).trans h.2⟩
set_option maxHeartbeats 2000000 in
set_option maxRecDepth 100000 in
theorem copy_any (h : Sx w S g s n) : Calls Tryz.prog 9 #[.pointer (some ⟨g, 0, none⟩)] w fun e w' => ∃ c, e = .returned (.pointer (some ⟨c, 0, none⟩)) ∧ Sx w' (fresh w w') c s n ∧ Below w.heap.size w w' := by
  obtain ⟨⟨ba, bv, DA, DV, hblk, hA, hV, h1, h2, h3, h4, h5, h6⟩, hs⟩ := h
  have hcA := fun W (hm : W.ownsMap Tryz.prog 9 accElem ba n DA) => AnyW.maps_Clone_owns Tryz.cloneA 9 accElem ba n DA W hm
  have hcV := fun W (hm : W.ownsMap Tryz.prog 68 entElem bv n DV) => AnyW.maps_Clone_owns Tryz.cloneB 68 entElem bv n DV W hm
  change ∀ W (hm : _), Calls Tryz.prog 22 _ _ _ at hcA
  change ∀ W (hm : _), Calls Tryz.prog 23 _ _ _ at hcV
  go_enter Tryz.func9, Tryz.ntmps9
  go_wp2
  have hS : holdC g ba bv w.drew := ⟨hblk.cell 0, hblk.cell 1⟩
  refine wp_region_K (holdC g ba bv) [0, 1, 2, 3, 5, 6, 7, 8] (by kernel_rfl) ?_
  refine wpK_quiet (f := 5) (by kernel_rfl) (fun _ x _ _ _ h => by cases x <;> exact h) hS [0, 1, 2, 3, 5, 6, 7, 8] _ _ (by kernel_rfl) (by kernel_rfl) (by kernel_rfl) ?_
  have ne : Nonempty (WorldIn (holdC g ba bv)) := ⟨⟨_, hS⟩⟩
  have r0 := fun y : WorldIn (holdC g ba bv) => y.h.1
  have r1 := fun y : WorldIn (holdC g ba bv) => y.h.2
  conv => arg 5; simp [pick]
  iterate 8 go_big_quiet_step (fail)
  refine wpQuiet_nil ?_
  refine wpK_step 4 (by kernel_rfl) rfl ?_
  go_wp2_with (go_at_call 22; refine (hcA _ hA.drew).mono ?_; rintro e w1 ⟨rfl, hm1, _, hb1⟩)
  have hb1' := L6.undrew hb1
  refine stepQ.mk ⟨fun _ => hS.below hb1, ?_⟩
  refine wpK_step 9 (by kernel_rfl) rfl ?_
  have hV1 := L6.Turn.map (S := fun _ => False) (L6.Turn.of_keep hb1') hV (fun h => h)
  go_wp2_with (go_at_call 23; refine (hcV _ hV1).mono ?_; rintro e w2 ⟨rfl, hm2, _, hb2⟩)
  refine stepQ.mk ⟨fun _ => (hS.below hb1).below hb2, ?_⟩
  have hb3 := nxt hb1' hb2
  have hmA2 : w2.ownsMap Tryz.prog 9 accElem w.heap.size n DA := L6.Turn.map (S := fun _ => False) (L6.Turn.of_keep hb2) hm1 (fun h => h)
  refine wpK_step 10 (by kernel_rfl) rfl ?_
  refine wpList_build rfl _ _ rfl #[(0, .map (some w.heap.size)), (1, .map (some w1.heap.size))] rfl (build_st _ _ _) ?_
  go_wp2
  refine stepQ.mk ⟨fun _ => (hS.below hb1).below hb2, ?_⟩
  refine wpK_step 11 (by kernel_rfl) rfl ?_
  go_wp2
  refine stepQ.mk ⟨fun _ => ((hS.below hb1).below hb2).below ((Below.refl _ _).alloc (Nat.le_refl _) _), ?_⟩
  refine wpK_seq [12] _ _ _ (by kernel_rfl) ?_
  conv => arg 4; simp [pick]
  go_wp2
  go_ret
  have e1 := hb1'.size
  have e2 := hb2.size
  refine ⟨w2.heap.size, rfl, ⟨⟨w.heap.size, w1.heap.size, DA, DV, Blk.new _ _ _, hmA2.alloc _, hm2.alloc _, h1, h2, ?_, ?_, ?_, ?_⟩, hs⟩, hb3.alloc hb3.size _⟩
  · exact ⟨by omega, by simp⟩
  · exact ⟨by omega, by simp; omega⟩
  · exact ⟨by omega, by have := hm2.lt; simp; omega⟩
  · have := hm1.lt
    have e : w.drew.heap.size = w.heap.size := rfl
    omega
end
end Go.Proofs.YthkgadjiiapfgaaGreatDoor
