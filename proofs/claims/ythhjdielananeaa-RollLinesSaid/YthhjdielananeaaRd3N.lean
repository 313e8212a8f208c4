/-
  The document's reader: numbers.
-/
import Derived.Test.YthhjdielananeaaRd3
import Derived.LoopTactic
import Derived.BigQuiet
set_option linter.unusedSimpArgs false
set_option linter.unusedVariables false
set_option maxRecDepth 10000
namespace Go.Proofs.Ythhjdielananeaa
open Go.RowKit Go.Maps Go.Lib
open L3 (Blk Reads numS failS rdN)

/-- One byte more. -/
theorem rd_more {l : List UInt8} {k a : Nat} (h : rdN 0 0 l = rdN k a (l.drop k)) (hk : k < l.length) (h9 : k ≤ 8) (hc : 128 ≤ l[k].toNat) : rdN 0 0 l = rdN (k + 1) (a + l[k].toNat % 128 * 128 ^ k) (l.drop (k + 1)) := by
  rw [h, List.drop_eq_getElem_cons hk, L3.rdN, if_neg (by omega), if_pos hc]
theorem rd_end {l : List UInt8} {k a : Nat} (h : rdN 0 0 l = rdN k a (l.drop k)) (hk : k = l.length) : rdN 0 0 l = (0, 0, 30) := by
  rw [h, hk, List.drop_length]
  rfl
/-- The ninth byte, too much of it. -/
theorem rd_nine {l : List UInt8} {k a : Nat} (h : rdN 0 0 l = rdN k a (l.drop k)) (hk : k < l.length) (h8 : k = 8) (hb : 128 ≤ l[k].toNat ∨ 64 < l[k].toNat % 128 ∨ (l[k].toNat % 128 = 64 ∧ 0 < a)) : (rdN 0 0 l).1 = 0 ∧ (rdN 0 0 l).2.2 ≠ 0 := by
  subst h8
  have e : rdN 0 0 l = (0, 0, 30) ∨ rdN 0 0 l = (0, 0, 31) := by
    rw [h, List.drop_eq_getElem_cons hk, L3.rdN, if_neg (by omega)]
    by_cases hc : 128 ≤ l[8].toNat
    · rw [if_pos hc]
      cases hd : l.drop (8 + 1) with
      | nil => left; rfl
      | cons c m => right; rw [L3.rdN, if_pos rfl]
    · rw [if_neg hc]
      have hm : l[8].toNat % 128 = l[8].toNat := Nat.mod_eq_of_lt (by omega)
      have hp : (128 : Nat) ^ 8 = 72057594037927936 := by decide
      right
      rw [if_pos]
      right
      rw [hp]
      rw [hm] at hb
      rcases hb with hb | hb | hb <;> omega
  rcases e with e | e <;> rw [e] <;> exact ⟨rfl, by decide⟩
/-- A last digit of nothing. -/
theorem rd_zero {l : List UInt8} {k a : Nat} (h : rdN 0 0 l = rdN k a (l.drop k)) (hk : k < l.length) (h9 : k ≤ 8) (hc : l[k].toNat = 0) (h0 : 0 < k) : rdN 0 0 l = (0, 0, 31) := by
  rw [h, List.drop_eq_getElem_cons hk, L3.rdN, if_neg (by omega), if_neg (by omega), if_pos (.inl ⟨hc, h0⟩)]
/-- The last digit. -/
theorem rd_last {l : List UInt8} {k a : Nat} (h : rdN 0 0 l = rdN k a (l.drop k)) (hk : k < l.length) (h9 : k ≤ 8) (hc : l[k].toNat < 128) (h0 : ¬ (l[k].toNat = 0 ∧ 0 < k)) (ha : a < 128 ^ k) (h8 : k = 8 → l[k].toNat ≤ 64 ∧ (l[k].toNat = 64 → a = 0)) :
    rdN 0 0 l = (a + l[k].toNat * 128 ^ k, k + 1, 0) ∧ a + l[k].toNat * 128 ^ k ≤ 4611686018427387904 := by
  have hle : a + l[k].toNat * 128 ^ k ≤ 4611686018427387904 := by
    by_cases h88 : k = 8
    · have := h8 h88
      subst h88
      have hp : (128 : Nat) ^ 8 = 72057594037927936 := by decide
      rw [hp] at ha ⊢
      by_cases h64 : l[8].toNat = 64
      · have := this.2 h64; omega
      · omega
    · have h7 : 128 ^ k ≤ 128 ^ 7 := Nat.pow_le_pow_right (by omega) (by omega)
      have hp : (128 : Nat) ^ 7 = 562949953421312 := by decide
      have : l[k].toNat * 128 ^ k ≤ 127 * 562949953421312 := Nat.mul_le_mul (by omega) (by omega)
      omega
  refine ⟨?_, hle⟩
  rw [h, List.drop_eq_getElem_cons hk, L3.rdN, if_neg (by omega), if_neg (by omega), if_neg (by rintro (h1 | h1); exact h0 h1; omega)]
theorem numV_of {l : List UInt8} {e : Int} {k s : Nat} (h : rdN 0 0 l = (k, s, 0)) : numV (l, e) = (k : Int) ∧ numS (l, e) = (l.drop s, e) := by
  unfold numV L3.numS
  dsimp only
  rw [h]
  exact ⟨rfl, by rw [if_pos rfl]⟩
theorem numV_no {l : List UInt8} (h : (rdN 0 0 l).1 = 0 ∧ (rdN 0 0 l).2.2 ≠ 0) : numV (l, 0) = 0 ∧ deadS (numS (l, 0)) := by
  unfold numV L3.numS
  dsimp only
  rw [h.1, if_neg (by exact_mod_cast h.2)]
  exact ⟨rfl, failS_dead (fun h => absurd rfl h) (by exact_mod_cast h.2)⟩
theorem get_str (l : List UInt8) (k : Nat) (h : k < l.length) (h' : k < (str l).size) : (str l)[k] = l[k] := rfl
/-- What Num hands back. -/
def numP (p : List UInt8 × Int) (w : World) (e : Ending) (w' : World) : Prop := leads (fun E => .tuple #[.int .i64 (numV p), .agg (rC (numS p).1 E)]) (numS p) w e w'
theorem okE_dead {p : List UInt8 × Int} (h : deadS p) {E : Int} (hE : E ≠ 0) : okE E p := ⟨⟨fun h1 => absurd h1 hE, fun h1 => absurd h1 h.1⟩, h.inv, by rw [h.2]; simp⟩
/-- The boxes of the call. -/
structure RdAt3 (w : World) (l : List UInt8) (E : Int) (W : World) : Prop where
  k1 : Blk W w.heap.size 84 (rC l E)
  k2 : Blk W (w.heap.size + 1) 84 zC
  bw : Below w.heap.size w W
theorem RdAt3.below {w W W' : World} {l : List UInt8} {E : Int} (h : RdAt3 w l E W) (hb : Below W.heap.size W W') : RdAt3 w l E W' := ⟨h.k1.below hb h.k1.lt, h.k2.below hb h.k2.lt, nxt h.bw hb⟩
theorem rdat_start {w w0 : World} {l : List UInt8} {E : Int} (h : Blk w0 w.heap.size 84 (rC l E) ∧ Blk w0 (w.heap.size + 1) 84 zC ∧ Below w.heap.size w w0) : RdAt3 w l E w0 := ⟨h.1, h.2.1, h.2.2⟩
set_option maxHeartbeats 4000000 in
set_option maxRecDepth 100000 in
theorem qnum_dead (p : List UInt8 × Int) (E : Int) (w : World) (h : okE E p) (he : E ≠ 0) : Calls Try.prog 39 #[.agg (rC p.1 E)] w (numP p w) := by
  have hd := h.dead he
  obtain ⟨v1, v2⟩ := numV_dead hd
  unfold numP leads
  rw [v1, v2]
  have HO := Lib.hid h
  have Z := Lib.hid (fun z => two_rd w 84 84 (rC p.1 E) z)
  obtain ⟨l, hl⟩ : ∃ l, l = p.1 := ⟨_, rfl⟩
  rw [← hl] at Z ⊢
  have h3 : (E != 0) = true := by simpa using he
  clear hl h hd v1 v2 he
  go_enter Try.func39, Try.ntmps39
  go_upto_region 1 with fail
  refine name_world (fun w0 hw0 => ?_)
  have hA : RdAt3 w l E w0 := rdat_start (by rw [hw0]; exact Z.out zC)
  clear hw0 Z
  have c1 : w0.cell? ⟨w.heap.size, 1, none⟩ = some (.int .i64 E) := hA.k1.cell 1
  go_upto_region 2 with fail
  clear c1
  have hAd := hA.below (Below.refl _ w0).drew
  obtain ⟨wd, hwd⟩ : ∃ wd, wd = w0.drew := ⟨_, rfl⟩
  rw [← hwd] at hAd
  refine wp_region_K (fun W => Blk W w.heap.size 84 (rC l E)) [0, 1] (by kernel_rfl) ?_
  rw [← hwd]
  refine wpK_quiet (f := 1) (by kernel_rfl) (fun _ x _ _ _ h => by cases x <;> exact h) hAd.k1 [0, 1] _ _ (by kernel_rfl) (by kernel_rfl) (by kernel_rfl) ?_
  have ne : Nonempty (WorldIn (fun W => Blk W w.heap.size 84 (rC l E))) := ⟨⟨_, hAd.k1⟩⟩
  conv => arg 5; simp [pick]
  refine wpQuiet_row rfl _ _ rfl w.heap.size rfl _ _ _ _ (fun y => y.h) Try.underlying84 rfl (qrInfo _ _) ?_
  conv => arg 6; simp only [Act.put, List.setIfInBounds_toArray, List.set_cons_zero, List.set_cons_succ]
  go_big_quiet_step (fail)
  refine wpQuiet_nil ?_
  clear ne
  refine wpK_step 2 (by kernel_rfl) rfl ?_
  go_wp2_with (refine wpList_store_row rfl _ _ _ rfl (w.heap.size + 1) (rC l E) rfl rfl _ _ hAd.k2 (qrInfo _ _) rfl (rC_ones _ _) ?_)
  refine stepQ.mk ⟨fun _ => blk_far hAd.k1 (by omega), ?_⟩
  refine wpK_seq [] _ _ _ (by kernel_rfl) ?_
  conv => arg 4; simp [pick]
  go_wp2_with fail
  (try simp only [Exit.inBlock, Exit.then, Act.put])
  refine bodyPost_ret (v := .tuple #[.int .i64 0, .agg (rC l E)]) (results_rowS rfl _ _ (w.heap.size + 1) rfl (.int .i64 0) rfl _ (rC l E) _ _ (blk_setRow hAd.k2) Try.underlying84 rfl (qrInfo _ _)) rfl ?_
  exact ⟨E, rfl, HO.out, below_setRow hAd.bw (Nat.le_succ _)⟩
theorem extract_drop (l : List UInt8) (a : Nat) : (str l).extract a l.length = str (l.drop a) := by
  apply ByteArray.ext
  apply Array.ext'
  unfold str
  simp [List.extract_eq_take_drop]
  exact List.take_of_length_le (by simp)
theorem wrap_mul {d pk dp : Nat} (hd : d < 128) (hp : pk ≤ 72057594037927936) (h : dp = d * pk) : wrap64 ((d : Int) * (pk : Int)) = (dp : Int) := by
  have e : (d : Int) * (pk : Int) = ((d * pk : Nat) : Int) := by rw [Int.natCast_mul]
  have h2 : d * pk ≤ 127 * pk := Nat.mul_le_mul_right _ (by omega)
  rw [e, ← h]
  unfold wrap64
  omega
theorem wrap_add {d pk dp n v : Nat} (hd : d < 128) (hp : pk ≤ 72057594037927936) (h : dp = d * pk) (hn : n < pk) (hv : v = n + dp) : wrap64 ((n : Int) + (dp : Int)) = (v : Int) := by
  have h2 : d * pk ≤ 127 * pk := Nat.mul_le_mul_right _ (by omega)
  unfold wrap64
  omega
theorem wrap_pow {k pk pk1 : Nat} (h : pk = 128 ^ k) (h1 : pk1 = 128 ^ (k + 1)) (hk : k ≤ 7) : wrap64 ((pk : Int) * 128) = (pk1 : Int) := by
  have h7 : 128 ^ k ≤ 128 ^ 7 := Nat.pow_le_pow_right (by omega) hk
  have hp : (128 : Nat) ^ 7 = 562949953421312 := by decide
  have e : pk1 = pk * 128 := by rw [h1, h, Nat.pow_succ]
  rw [hp] at h7
  rw [← h] at h7
  unfold wrap64
  omega
/-- A number is told. -/
theorem numP_of {l : List UInt8} {w : World} {a s : Nat} (h : rdN 0 0 l = (a, s, 0)) {e : Ending} {w' : World} (he : e = .returned (.tuple #[.int .i64 (a : Int), .agg (rC (l.drop s) 0)])) (hb : Below w.heap.size w w') (hl : l.length ≤ 1000000) : numP (l, 0) w e w' := by
  obtain ⟨h1, h2⟩ := numV_of (e := 0) h
  unfold numP
  rw [h1, h2]
  exact ⟨0, he, ⟨Iff.rfl, fun h3 => absurd rfl h3, by show (l.drop s).length ≤ _; rw [List.length_drop]; omega⟩, hb⟩
theorem numP_no {l : List UInt8} {w : World} (h : (rdN 0 0 l).1 = 0 ∧ (rdN 0 0 l).2.2 ≠ 0) {E : Int} (hE : E ≠ 0) {e : Ending} {w' : World} (he : e = .returned (.tuple #[.int .i64 0, .agg (rC [] E)])) (hb : Below w.heap.size w w') : numP (l, 0) w e w' := by
  obtain ⟨h1, h2⟩ := numV_no h
  unfold numP
  rw [h1, h2.2]
  exact ⟨E, he, okE_dead h2 hE, hb⟩
theorem fail_new {l : List UInt8} {e2 : Int} (h : e2 ≠ 0) : failS e2 (l, 0) = ([], e2) := by unfold L3.failS; rw [if_neg (by rintro (h4 | h4); exact h4 rfl; exact h h4)]
set_option maxHeartbeats 8000000 in
set_option maxRecDepth 100000 in
theorem qnum_alive (l : List UInt8) (w : World) (hl : l.length ≤ 1000000) : Calls Try.prog 39 #[.agg (rC l 0)] w (numP (l, 0) w) := by
  have Z := Lib.hid (fun z => two_rd w 84 84 (rC l 0) z)
  have hF := fun e2 (h2 : e2 ≠ 0) W => (by have := qfail_raw l 0 e2 W; rw [fail_new h2] at this; exact this : Calls Try.prog 57 #[.agg (rC l 0), .int .i64 e2] W (gives (.agg (rC [] e2)) W))
  have HF30 := Lib.hid (hF 30 (by decide))
  have HF31 := Lib.hid (hF 31 (by decide))
  have hsz := str_size l
  obtain ⟨s, hs⟩ : ∃ s, s = str l := ⟨_, rfl⟩
  have HG := Lib.hid (fun (k : Nat) (h : k < l.length) (h' : k < s.size) => show s[k] = l[k] by subst hs; rfl)
  have HS := Lib.hid hs
  rw [← hs] at hsz
  have hrc : rC l 0 = #[.string s, .int .i64 0] := by rw [hs]; rfl
  have HRC := Lib.hid hrc
  clear hF hs
  go_enter Try.func39, Try.ntmps39
  go_upto_region 1 with fail
  refine name_world (fun w0 hw0 => ?_)
  have hA : RdAt3 w l 0 w0 := rdat_start (by have z := Z.out zC; rw [hrc] at z ⊢; rw [hw0]; exact z)
  clear hw0 Z
  have c1 : w0.cell? ⟨w.heap.size, 1, none⟩ = some (.int .i64 0) := hA.k1.cell 1
  have c0 : w0.cell? ⟨w.heap.size, 0, none⟩ = some (.string s) := by have := hA.k1.cell 0; rw [hrc] at this; exact this
  have HA := Lib.hid hA
  clear hA hrc
  go_wp2
  clear c1
  go_loop [4, 5, 6] (fun a b i => ∃ k n : Nat, a = .int .i64 n ∧ b = .int .i64 ((128 ^ k : Nat) : Int) ∧ i = .int .i64 k ∧ k ≤ 8 ∧ k ≤ s.size ∧ Hid (n < 128 ^ k ∧ rdN 0 0 l = rdN k n (l.drop k))) (fun _ _ i => 9 - (RowKit.intOf i).toNat)
  case atStart => exact ⟨0, 0, rfl, rfl, rfl, by omega, Nat.zero_le _, Lib.hid ⟨by decide, rfl⟩⟩
  case round =>
    obtain ⟨k, n, rfl, rfl, rfl, hk8, hks, hr⟩ := hrel
    by_cases hlt : k < s.size
    case neg =>
      have hk : ((k : Int) == (s.size : Int)) = true := by simp; omega
      have hR := Lib.hid (rd_end hr.out.2 (by omega))
      clear hr hlt
      go_wp2_with (first
        | (refine wpList_row_at rfl _ _ rfl w.heap.size rfl _ _ _ _ HA.out.k1 Try.underlying84 rfl (qrInfo _ _) ?_)
        | (go_at_call 57; refine (HF30.out _).mono ?_; unfold gives; rintro e w1 ⟨rfl, hb1⟩
           have hA1 := HA.out.below hb1)
        | (refine wpList_store_row rfl _ _ _ rfl (w.heap.size + 1) (rC [] 30) rfl rfl _ _ hA1.k2 (qrInfo _ _) rfl (rC_ones _ _) ?_))
      (try simp only [Exit.inBlock, Exit.then, Act.put])
      refine bodyPost_ret (v := .tuple #[.int .i64 0, .agg (rC [] 30)]) (results_rowS rfl _ _ (w.heap.size + 1) rfl (.int .i64 0) rfl _ (rC [] 30) _ _ (blk_setRow hA1.k2) Try.underlying84 rfl (qrInfo _ _)) rfl ?_
      exact numP_no (by rw [hR.out]; exact ⟨rfl, by decide⟩) (by decide) rfl (below_setRow hA1.bw (Nat.le_succ _))
    have hk : ((k : Int) == (s.size : Int)) = false := by simp; omega
    have hkl : k < l.length := by omega
    obtain ⟨m, hm⟩ : ∃ m, m = l[k].toNat := ⟨_, rfl⟩
    have hgm : s[k].toNat = m := by rw [HG.out k hkl hlt, hm]
    have hm256 : m < 256 := by rw [hm]; exact UInt8.toNat_lt _
    obtain ⟨d, hd⟩ : ∃ d, d = m % 128 := ⟨_, rfl⟩
    have hd128 : d < 128 := by omega
    have hw : wrap64 (m : Int) = (m : Int) := by unfold wrap64; omega
    have ht : (m : Int).tmod 128 = (d : Int) := by rw [Int.tmod_eq_emod_of_nonneg (by omega), hd]; omega
    have HM := Lib.hid (And.intro hm hd)
    clear hm hd
    -- ROUNDS
    by_cases hB : k = 8 ∧ (128 ≤ m ∨ 64 < d ∨ (d = 64 ∧ 0 < n))
    · have hR := Lib.hid (rd_nine hr.out.2 hkl hB.1 (by have h1 := HM.out.1; have h2 := HM.out.2; rw [← h1, ← h2]; exact hB.2))
      have e8 : ((k : Int) == 8) = true := by simp; omega
      have hB2 := hB.2
      clear hB hr
      have hfin : ∀ (W : World), RdAt3 w l 0 W → numP (l, 0) w (.returned (.tuple #[.int .i64 0, .agg (rC [] 31)])) (W.setRow (w.heap.size + 1) (rC [] 31)) := fun W h => numP_no hR.out (by decide) rfl (below_setRow h.bw (Nat.le_succ _))
      by_cases h1 : 64 < d
      · clear hB2
        go_wp2_with (first
          | (refine wpList_row_at rfl _ _ rfl w.heap.size rfl _ _ _ _ HA.out.k1 Try.underlying84 rfl (qrInfo _ _) ?_)
          | (go_at_call 57; refine (HF31.out _).mono ?_; unfold gives; rintro e w1 ⟨rfl, hb1⟩
             have hA1 := HA.out.below hb1)
          | (refine wpList_store_row rfl _ _ _ rfl (w.heap.size + 1) (rC [] 31) rfl rfl _ _ hA1.k2 (qrInfo _ _) rfl (rC_ones _ _) ?_))
        (try simp only [Exit.inBlock, Exit.then, Act.put])
        refine bodyPost_ret (v := .tuple #[.int .i64 0, .agg (rC [] 31)]) (results_rowS rfl _ _ (w.heap.size + 1) rfl (.int .i64 0) rfl _ (rC [] 31) _ _ (blk_setRow hA1.k2) Try.underlying84 rfl (qrInfo _ _)) rfl ?_
        exact hfin _ hA1
      by_cases h2 : d = 64
      · have e64 : ((d : Int) == 64) = true := by simp; omega
        by_cases h3 : 0 < n
        · clear hB2 h2
          go_wp2_with (first
            | (refine wpList_row_at rfl _ _ rfl w.heap.size rfl _ _ _ _ HA.out.k1 Try.underlying84 rfl (qrInfo _ _) ?_)
            | (go_at_call 57; refine (HF31.out _).mono ?_; unfold gives; rintro e w1 ⟨rfl, hb1⟩
               have hA1 := HA.out.below hb1)
            | (refine wpList_store_row rfl _ _ _ rfl (w.heap.size + 1) (rC [] 31) rfl rfl _ _ hA1.k2 (qrInfo _ _) rfl (rC_ones _ _) ?_))
          (try simp only [Exit.inBlock, Exit.then, Act.put])
          refine bodyPost_ret (v := .tuple #[.int .i64 0, .agg (rC [] 31)]) (results_rowS rfl _ _ (w.heap.size + 1) rfl (.int .i64 0) rfl _ (rC [] 31) _ _ (blk_setRow hA1.k2) Try.underlying84 rfl (qrInfo _ _)) rfl ?_
          exact hfin _ hA1
        · have hm1 : 128 ≤ m := by omega
          clear hB2 h2
          go_wp2_with (first
            | (refine wpList_row_at rfl _ _ rfl w.heap.size rfl _ _ _ _ HA.out.k1 Try.underlying84 rfl (qrInfo _ _) ?_)
            | (go_at_call 57; refine (HF31.out _).mono ?_; unfold gives; rintro e w1 ⟨rfl, hb1⟩
               have hA1 := HA.out.below hb1)
            | (refine wpList_store_row rfl _ _ _ rfl (w.heap.size + 1) (rC [] 31) rfl rfl _ _ hA1.k2 (qrInfo _ _) rfl (rC_ones _ _) ?_))
          (try simp only [Exit.inBlock, Exit.then, Act.put])
          refine bodyPost_ret (v := .tuple #[.int .i64 0, .agg (rC [] 31)]) (results_rowS rfl _ _ (w.heap.size + 1) rfl (.int .i64 0) rfl _ (rC [] 31) _ _ (blk_setRow hA1.k2) Try.underlying84 rfl (qrInfo _ _)) rfl ?_
          exact hfin _ hA1
      · have e64 : ((d : Int) == 64) = false := by simp; omega
        have hm1 : 128 ≤ m := by omega
        clear hB2 h2
        go_wp2_with (first
          | (refine wpList_row_at rfl _ _ rfl w.heap.size rfl _ _ _ _ HA.out.k1 Try.underlying84 rfl (qrInfo _ _) ?_)
          | (go_at_call 57; refine (HF31.out _).mono ?_; unfold gives; rintro e w1 ⟨rfl, hb1⟩
             have hA1 := HA.out.below hb1)
          | (refine wpList_store_row rfl _ _ _ rfl (w.heap.size + 1) (rC [] 31) rfl rfl _ _ hA1.k2 (qrInfo _ _) rfl (rC_ones _ _) ?_))
        (try simp only [Exit.inBlock, Exit.then, Act.put])
        refine bodyPost_ret (v := .tuple #[.int .i64 0, .agg (rC [] 31)]) (results_rowS rfl _ _ (w.heap.size + 1) rfl (.int .i64 0) rfl _ (rC [] 31) _ _ (blk_setRow hA1.k2) Try.underlying84 rfl (qrInfo _ _)) rfl ?_
        exact hfin _ hA1
    -- no end at the ninth byte
    obtain ⟨pk, hpk⟩ : ∃ pk, pk = 128 ^ k := ⟨_, rfl⟩
    have hnp : n < pk := by rw [hpk]; exact hr.out.1
    have hp8 : pk ≤ 72057594037927936 := by rw [hpk]; exact L3.pow128_8 hk8
    obtain ⟨dp, hdpe⟩ : ∃ dp, dp = d * pk := ⟨_, rfl⟩
    obtain ⟨v, hv⟩ : ∃ v, v = n + dp := ⟨_, rfl⟩
    have hw1 := wrap_mul hd128 hp8 hdpe
    have hw2 := wrap_add hd128 hp8 hdpe hnp hv
    have HV := Lib.hid (And.intro hpk (And.intro hdpe hv))
    rw [← hpk]
    clear hpk hdpe hv
    have HB := Lib.hid hB
    by_cases hm1 : 128 ≤ m
    · have hk7 : ¬ k = 8 := fun h => HB.out ⟨h, .inl hm1⟩
      have e8 : ((k : Int) == 8) = false := by simp; omega
      obtain ⟨pk1, hpk1⟩ : ∃ pk1, pk1 = 128 ^ (k + 1) := ⟨_, rfl⟩
      have hw3 := wrap_pow HV.out.1 hpk1 (show k ≤ 7 by omega)
      have HP1 := Lib.hid hpk1
      clear hpk1
      have HN := Lib.hid (show v < 128 ^ (k + 1) ∧ rdN 0 0 l = rdN (k + 1) v (l.drop (k + 1)) by
        have h1 := HM.out.1
        have h2 := HM.out.2
        obtain ⟨p1, p2, p3⟩ := HV.out
        refine ⟨?_, ?_⟩
        · rw [Nat.pow_succ, ← p1]
          have : d * pk ≤ 127 * pk := Nat.mul_le_mul_right _ (by omega)
          omega
        · rw [rd_more hr.out.2 hkl hk8 (by rw [← h1]; exact hm1), ← h1, ← h2, ← p1, ← p2, ← p3])
      clear hB hr hnp hp8
      go_wp2
      go_round
      case rel => exact ⟨k + 1, v, by rw [hw2], by rw [hw3, HP1.out], by go_num, by omega, by omega, HN⟩
      case measure => simp [RowKit.intOf]; omega
    have hmd : d = m := by have := HM.out.2; omega
    by_cases hz : d = 0 ∧ 0 < k
    · have hR := Lib.hid (rd_zero hr.out.2 hkl hk8 (by have h1 := HM.out.1; omega) hz.2)
      have hfin : ∀ (W : World), RdAt3 w l 0 W → numP (l, 0) w (.returned (.tuple #[.int .i64 0, .agg (rC [] 31)])) (W.setRow (w.heap.size + 1) (rC [] 31)) := fun W h => numP_no (by rw [hR.out]; exact ⟨rfl, by decide⟩) (by decide) rfl (below_setRow h.bw (Nat.le_succ _))
      have e0 : ((d : Int) == 0) = true := by simp; omega
      have e64 : ((d : Int) == 64) = false := by simp; omega
      have h64 : ¬ 64 < d := by omega
      have hk0 := hz.2
      clear hz hr hB hmd
      by_cases hk88 : k = 8
      · have e8 : ((k : Int) == 8) = true := by simp; omega
        clear hk88
        go_wp2_with (first
          | (refine wpList_row_at rfl _ _ rfl w.heap.size rfl _ _ _ _ HA.out.k1 Try.underlying84 rfl (qrInfo _ _) ?_)
          | (go_at_call 57; refine (HF31.out _).mono ?_; unfold gives; rintro e w1 ⟨rfl, hb1⟩
             have hA1 := HA.out.below hb1)
          | (refine wpList_store_row rfl _ _ _ rfl (w.heap.size + 1) (rC [] 31) rfl rfl _ _ hA1.k2 (qrInfo _ _) rfl (rC_ones _ _) ?_))
        (try simp only [Exit.inBlock, Exit.then, Act.put])
        refine bodyPost_ret (v := .tuple #[.int .i64 0, .agg (rC [] 31)]) (results_rowS rfl _ _ (w.heap.size + 1) rfl (.int .i64 0) rfl _ (rC [] 31) _ _ (blk_setRow hA1.k2) Try.underlying84 rfl (qrInfo _ _)) rfl ?_
        exact hfin _ hA1
      · have e8 : ((k : Int) == 8) = false := by simp; omega
        clear hk88
        go_wp2_with (first
          | (refine wpList_row_at rfl _ _ rfl w.heap.size rfl _ _ _ _ HA.out.k1 Try.underlying84 rfl (qrInfo _ _) ?_)
          | (go_at_call 57; refine (HF31.out _).mono ?_; unfold gives; rintro e w1 ⟨rfl, hb1⟩
             have hA1 := HA.out.below hb1)
          | (refine wpList_store_row rfl _ _ _ rfl (w.heap.size + 1) (rC [] 31) rfl rfl _ _ hA1.k2 (qrInfo _ _) rfl (rC_ones _ _) ?_))
        (try simp only [Exit.inBlock, Exit.then, Act.put])
        refine bodyPost_ret (v := .tuple #[.int .i64 0, .agg (rC [] 31)]) (results_rowS rfl _ _ (w.heap.size + 1) rfl (.int .i64 0) rfl _ (rC [] 31) _ _ (blk_setRow hA1.k2) Try.underlying84 rfl (qrInfo _ _)) rfl ?_
        exact hfin _ hA1
    have hRL := rd_last hr.out.2 hkl hk8 (by have h1 := HM.out.1; omega) (by have h1 := HM.out.1; intro h; exact hz ⟨by omega, h.2⟩) hr.out.1 (fun h8 => by
      have h1 := HM.out.1
      refine ⟨?_, fun h64 => ?_⟩
      · have : ¬ 64 < d := fun h => HB.out ⟨h8, .inr (.inl h)⟩
        omega
      · have : ¬ (d = 64 ∧ 0 < n) := fun h => HB.out ⟨h8, .inr (.inr h)⟩
        omega)
    have hRV : rdN 0 0 l = (v, k + 1, 0) := by
      obtain ⟨p1, p2, p3⟩ := HV.out
      have h1 := HM.out.1
      rw [hRL.1, ← h1, ← p1, p3, p2, hmd]
    have HRV := Lib.hid hRV
    have hret : ∀ (W : World), RdAt3 w l 0 W → numP (l, 0) w (.returned (.tuple #[.int .i64 (v : Int), .agg (rC (l.drop (k + 1)) 0)])) (W.setRow (w.heap.size + 1) (rC (l.drop (k + 1)) 0)) := fun W h => numP_of HRV.out rfl (below_setRow h.bw (Nat.le_succ _)) hl
    have hst : ∀ (W : World) (cs : Array Value), RdAt3 w l 0 W → Blk (W.setRow (w.heap.size + 1) cs) w.heap.size 84 (rC l 0) := fun W cs h => blk_far h.k1 (by omega)
    clear hRL hRV hr
    obtain ⟨t, ht'⟩ : ∃ t, t = str (l.drop (k + 1)) := ⟨_, rfl⟩
    have hex : s.extract (k + 1) l.length = t := by
      rw [HS.out, ht']; exact extract_drop l (k + 1)
    have hbt : ∀ W, (Instr.build 84 #[(0, .string t)]).run Try.prog W = .ok (.agg (rC (l.drop (k + 1)) 0)) W := fun W => by rw [ht']; exact build_rS _ W
    have i2 : (0 : Int) ≤ (k : Int) + 1 := by omega
    have i3 : (k : Int) + 1 ≤ (s.size : Int) := by omega
    have i4 : IntKind.i64.wrap ((k : Int) + 1) = (k : Int) + 1 := IntWalk.i64_in _ (by omega)
    have HD := Lib.hid (And.intro hz (And.intro hmd hB))
    clear ht' hz hmd hB
    by_cases hd0 : d = 0
    · have e0 : ((d : Int) == 0) = true := by simp; omega
      have e64 : ((d : Int) == 64) = false := by simp; omega
      have hk0 : ¬ 0 < k := fun h => HD.out.1 ⟨hd0, h⟩
      have e8 : ((k : Int) == 8) = false := by simp; omega
      clear hd0
      go_upto_region 17 with fail
      clear c0
      have hAd := HA.out.below (Below.refl _ w0).drew
      obtain ⟨wd, hwd⟩ : ∃ wd, wd = w0.drew := ⟨_, rfl⟩
      rw [← hwd] at hAd
      have c0 : ∀ y : WorldIn (fun W => Blk W w.heap.size 84 (rC l 0)), y.w.cell? ⟨w.heap.size, 0, none⟩ = some (.string s) := fun y => (y.h.cell 0).trans (show (rC l 0)[0]? = some (.string s) by rw [HRC.out]; rfl)
      refine wp_region_K (fun W => Blk W w.heap.size 84 (rC l 0)) [0, 1, 2, 3, 4, 5, 6, 7] (by kernel_rfl) ?_
      rw [← hwd]
      clear hwd
      refine wpK_quiet (f := 1) (by kernel_rfl) (fun _ x _ _ _ h => by cases x <;> exact h) hAd.k1 [0, 1, 2, 3, 4, 5, 6, 7] _ _ (by kernel_rfl) (by kernel_rfl) (by kernel_rfl) ?_
      have ne : Nonempty (WorldIn (fun W => Blk W w.heap.size 84 (rC l 0))) := ⟨⟨_, hAd.k1⟩⟩
      conv => arg 5; simp [pick]
      iterate 6 go_big_quiet_step (fail)
      refine wpQuiet_build rfl _ _ rfl #[(0, .string t)] rfl (v := .agg (rC (l.drop (k + 1)) 0)) (fun W => hbt W) ?_
      conv => arg 6; simp only [Act.put, List.setIfInBounds_toArray, List.set_cons_zero, List.set_cons_succ]
      go_big_quiet_step (fail)
      refine wpQuiet_nil ?_
      clear ne c0
      refine wpK_step 8 (by kernel_rfl) rfl ?_
      go_wp2_with (refine wpList_store_row rfl _ _ _ rfl (w.heap.size + 1) (rC (l.drop (k + 1)) 0) rfl rfl _ _ hAd.k2 (qrInfo _ _) rfl (rC_ones _ _) ?_)
      refine stepQ.mk ⟨fun _ => hst _ _ hAd, ?_⟩
      refine wpK_seq [] _ _ _ (by kernel_rfl) ?_
      conv => arg 4; simp [pick]
      go_wp2_with fail
      (try simp only [Exit.inBlock, Exit.then, Act.put])
      refine bodyPost_ret (v := .tuple #[.int .i64 (v : Int), .agg (rC (l.drop (k + 1)) 0)]) (results_rowS rfl _ _ (w.heap.size + 1) rfl (.int .i64 (v : Int)) rfl _ (rC (l.drop (k + 1)) 0) _ _ (blk_setRow hAd.k2) Try.underlying84 rfl (qrInfo _ _)) rfl ?_
      exact hret _ hAd
    have e0 : ((d : Int) == 0) = false := by simp; omega
    clear hd0
    by_cases hk88 : k = 8
    · have e8 : ((k : Int) == 8) = true := by simp; omega
      have h64 : ¬ 64 < d := fun h => HB.out ⟨hk88, .inr (.inl h)⟩
      by_cases hd64 : d = 64
      · have e64 : ((d : Int) == 64) = true := by simp; omega
        have hn0 : ¬ 0 < n := fun h => HB.out ⟨hk88, .inr (.inr ⟨hd64, h⟩)⟩
        clear hk88 hd64
        go_upto_region 17 with fail
        clear c0
        have hAd := HA.out.below (Below.refl _ w0).drew
        obtain ⟨wd, hwd⟩ : ∃ wd, wd = w0.drew := ⟨_, rfl⟩
        rw [← hwd] at hAd
        have c0 : ∀ y : WorldIn (fun W => Blk W w.heap.size 84 (rC l 0)), y.w.cell? ⟨w.heap.size, 0, none⟩ = some (.string s) := fun y => (y.h.cell 0).trans (show (rC l 0)[0]? = some (.string s) by rw [HRC.out]; rfl)
        refine wp_region_K (fun W => Blk W w.heap.size 84 (rC l 0)) [0, 1, 2, 3, 4, 5, 6, 7] (by kernel_rfl) ?_
        rw [← hwd]
        clear hwd
        refine wpK_quiet (f := 1) (by kernel_rfl) (fun _ x _ _ _ h => by cases x <;> exact h) hAd.k1 [0, 1, 2, 3, 4, 5, 6, 7] _ _ (by kernel_rfl) (by kernel_rfl) (by kernel_rfl) ?_
        have ne : Nonempty (WorldIn (fun W => Blk W w.heap.size 84 (rC l 0))) := ⟨⟨_, hAd.k1⟩⟩
        conv => arg 5; simp [pick]
        iterate 6 go_big_quiet_step (fail)
        refine wpQuiet_build rfl _ _ rfl #[(0, .string t)] rfl (v := .agg (rC (l.drop (k + 1)) 0)) (fun W => hbt W) ?_
        conv => arg 6; simp only [Act.put, List.setIfInBounds_toArray, List.set_cons_zero, List.set_cons_succ]
        go_big_quiet_step (fail)
        refine wpQuiet_nil ?_
        clear ne c0
        refine wpK_step 8 (by kernel_rfl) rfl ?_
        go_wp2_with (refine wpList_store_row rfl _ _ _ rfl (w.heap.size + 1) (rC (l.drop (k + 1)) 0) rfl rfl _ _ hAd.k2 (qrInfo _ _) rfl (rC_ones _ _) ?_)
        refine stepQ.mk ⟨fun _ => hst _ _ hAd, ?_⟩
        refine wpK_seq [] _ _ _ (by kernel_rfl) ?_
        conv => arg 4; simp [pick]
        go_wp2_with fail
        (try simp only [Exit.inBlock, Exit.then, Act.put])
        refine bodyPost_ret (v := .tuple #[.int .i64 (v : Int), .agg (rC (l.drop (k + 1)) 0)]) (results_rowS rfl _ _ (w.heap.size + 1) rfl (.int .i64 (v : Int)) rfl _ (rC (l.drop (k + 1)) 0) _ _ (blk_setRow hAd.k2) Try.underlying84 rfl (qrInfo _ _)) rfl ?_
        exact hret _ hAd
      · have e64 : ((d : Int) == 64) = false := by simp; omega
        clear hk88 hd64
        go_upto_region 17 with fail
        clear c0
        have hAd := HA.out.below (Below.refl _ w0).drew
        obtain ⟨wd, hwd⟩ : ∃ wd, wd = w0.drew := ⟨_, rfl⟩
        rw [← hwd] at hAd
        have c0 : ∀ y : WorldIn (fun W => Blk W w.heap.size 84 (rC l 0)), y.w.cell? ⟨w.heap.size, 0, none⟩ = some (.string s) := fun y => (y.h.cell 0).trans (show (rC l 0)[0]? = some (.string s) by rw [HRC.out]; rfl)
        refine wp_region_K (fun W => Blk W w.heap.size 84 (rC l 0)) [0, 1, 2, 3, 4, 5, 6, 7] (by kernel_rfl) ?_
        rw [← hwd]
        clear hwd
        refine wpK_quiet (f := 1) (by kernel_rfl) (fun _ x _ _ _ h => by cases x <;> exact h) hAd.k1 [0, 1, 2, 3, 4, 5, 6, 7] _ _ (by kernel_rfl) (by kernel_rfl) (by kernel_rfl) ?_
        have ne : Nonempty (WorldIn (fun W => Blk W w.heap.size 84 (rC l 0))) := ⟨⟨_, hAd.k1⟩⟩
        conv => arg 5; simp [pick]
        iterate 6 go_big_quiet_step (fail)
        refine wpQuiet_build rfl _ _ rfl #[(0, .string t)] rfl (v := .agg (rC (l.drop (k + 1)) 0)) (fun W => hbt W) ?_
        conv => arg 6; simp only [Act.put, List.setIfInBounds_toArray, List.set_cons_zero, List.set_cons_succ]
        go_big_quiet_step (fail)
        refine wpQuiet_nil ?_
        clear ne c0
        refine wpK_step 8 (by kernel_rfl) rfl ?_
        go_wp2_with (refine wpList_store_row rfl _ _ _ rfl (w.heap.size + 1) (rC (l.drop (k + 1)) 0) rfl rfl _ _ hAd.k2 (qrInfo _ _) rfl (rC_ones _ _) ?_)
        refine stepQ.mk ⟨fun _ => hst _ _ hAd, ?_⟩
        refine wpK_seq [] _ _ _ (by kernel_rfl) ?_
        conv => arg 4; simp [pick]
        go_wp2_with fail
        (try simp only [Exit.inBlock, Exit.then, Act.put])
        refine bodyPost_ret (v := .tuple #[.int .i64 (v : Int), .agg (rC (l.drop (k + 1)) 0)]) (results_rowS rfl _ _ (w.heap.size + 1) rfl (.int .i64 (v : Int)) rfl _ (rC (l.drop (k + 1)) 0) _ _ (blk_setRow hAd.k2) Try.underlying84 rfl (qrInfo _ _)) rfl ?_
        exact hret _ hAd
    · have e8 : ((k : Int) == 8) = false := by simp; omega
      clear hk88
      go_upto_region 17 with fail
      clear c0
      have hAd := HA.out.below (Below.refl _ w0).drew
      obtain ⟨wd, hwd⟩ : ∃ wd, wd = w0.drew := ⟨_, rfl⟩
      rw [← hwd] at hAd
      have c0 : ∀ y : WorldIn (fun W => Blk W w.heap.size 84 (rC l 0)), y.w.cell? ⟨w.heap.size, 0, none⟩ = some (.string s) := fun y => (y.h.cell 0).trans (show (rC l 0)[0]? = some (.string s) by rw [HRC.out]; rfl)
      refine wp_region_K (fun W => Blk W w.heap.size 84 (rC l 0)) [0, 1, 2, 3, 4, 5, 6, 7] (by kernel_rfl) ?_
      rw [← hwd]
      clear hwd
      refine wpK_quiet (f := 1) (by kernel_rfl) (fun _ x _ _ _ h => by cases x <;> exact h) hAd.k1 [0, 1, 2, 3, 4, 5, 6, 7] _ _ (by kernel_rfl) (by kernel_rfl) (by kernel_rfl) ?_
      have ne : Nonempty (WorldIn (fun W => Blk W w.heap.size 84 (rC l 0))) := ⟨⟨_, hAd.k1⟩⟩
      conv => arg 5; simp [pick]
      iterate 6 go_big_quiet_step (fail)
      refine wpQuiet_build rfl _ _ rfl #[(0, .string t)] rfl (v := .agg (rC (l.drop (k + 1)) 0)) (fun W => hbt W) ?_
      conv => arg 6; simp only [Act.put, List.setIfInBounds_toArray, List.set_cons_zero, List.set_cons_succ]
      go_big_quiet_step (fail)
      refine wpQuiet_nil ?_
      clear ne c0
      refine wpK_step 8 (by kernel_rfl) rfl ?_
      go_wp2_with (refine wpList_store_row rfl _ _ _ rfl (w.heap.size + 1) (rC (l.drop (k + 1)) 0) rfl rfl _ _ hAd.k2 (qrInfo _ _) rfl (rC_ones _ _) ?_)
      refine stepQ.mk ⟨fun _ => hst _ _ hAd, ?_⟩
      refine wpK_seq [] _ _ _ (by kernel_rfl) ?_
      conv => arg 4; simp [pick]
      go_wp2_with fail
      (try simp only [Exit.inBlock, Exit.then, Act.put])
      refine bodyPost_ret (v := .tuple #[.int .i64 (v : Int), .agg (rC (l.drop (k + 1)) 0)]) (results_rowS rfl _ _ (w.heap.size + 1) rfl (.int .i64 (v : Int)) rfl _ (rC (l.drop (k + 1)) 0) _ _ (blk_setRow hAd.k2) Try.underlying84 rfl (qrInfo _ _)) rfl ?_
      exact hret _ hAd
/-- The next number of a reader, whatever is left of its bytes. -/
theorem qnum_any (p : List UInt8 × Int) (E : Int) (w : World) (h : okE E p) : Calls Try.prog 39 #[.agg (rC p.1 E)] w (numP p w) := by
  by_cases he : E = 0
  · obtain ⟨l, e⟩ := p
    have h0 : e = 0 := h.alive he
    subst h0
    subst he
    exact qnum_alive l w h.2.2
  · exact qnum_dead p E w h he
end Go.Proofs.Ythhjdielananeaa
