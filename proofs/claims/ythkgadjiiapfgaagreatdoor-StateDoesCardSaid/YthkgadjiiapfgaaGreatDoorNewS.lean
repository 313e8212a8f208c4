/-
  A state made of accounts.
-/
import Derived.Test.YthkgadjiiapfgaaGreatDoorOpen
set_option linter.unusedSimpArgs false
set_option linter.unusedVariables false
set_option maxRecDepth 10000
namespace Go.Proofs.YthkgadjiiapfgaaGreatDoor
open Go.RowKit Go.Maps Go.Lib
open L3 (Blk)
open L6 (Turn moreB fresh From In)
open L2 (chk)

theorem block_of_add (a : Addr) (i : Nat) : (a.add i).block = a.block := by unfold Addr.add; split <;> rfl
/-- In w a slice of n accounts at A. -/
def Ams (w : World) (A : Option Addr) (n : Nat) (D : Nat → Am) : Prop :=
  ∀ i, i < n → ∃ ad, A = some ad ∧ ad.block < w.heap.size ∧ w.cell? (ad.add (i * 2)) = some (.string (str (D i).nm)) ∧ w.cell? (ad.add (i * 2 + 1)) = some (.int .i64 (D i).am) ∧ (D i).nm.length ≤ maxLen ∧ inI (D i).am
theorem Ams.kept {S : Nat → Prop} {w w' : World} {A : Option Addr} {n : Nat} {D : Nat → Am} (h : Ams w A n D) (ht : Turn S w w') (hs : ∀ ad, A = some ad → ¬ S ad.block) : Ams w' A n D := by
  intro i hi
  obtain ⟨ad, hA, hl, h0, h1, hf⟩ := h i hi
  have hk : ∀ j v, w.cell? (ad.add j) = some v → w'.cell? (ad.add j) = some v := fun j v hv => ht.cell hv (by rw [block_of_add]; exact hs ad hA)
  exact ⟨ad, hA, Nat.lt_of_lt_of_le hl ht.size, hk _ _ h0, hk _ _ h1, hf⟩
theorem Ams.below {w w' : World} {A : Option Addr} {n : Nat} {D : Nat → Am} (h : Ams w A n D) (hb : Below w.heap.size w w') : Ams w' A n D := h.kept (S := fun _ => False) (L6.Turn.of_keep hb) (fun _ _ h => h)
/-- As a list. -/
def amsL (n : Nat) (D : Nat → Am) : List Am := (List.range n).map D
theorem amsL_len (n : Nat) (D : Nat → Am) : (amsL n D).length = n := by simp [amsL]
theorem amsL_step {n : Nat} (D : Nat → Am) {k : Nat} (h : k < n) : (amsL n D).take (k + 1) = (amsL n D).take k ++ [D k] ∧ (amsL n D).drop k = D k :: (amsL n D).drop (k + 1) := by
  have hl : k < (amsL n D).length := by rw [amsL_len]; exact h
  have hg : (amsL n D)[k] = D k := by simp [amsL]
  exact ⟨by rw [List.take_succ_eq_append_getElem hl, hg], by rw [List.drop_eq_getElem_cons hl, hg]⟩
theorem newE_cons {P : List Am} {p : Am} {l : List Am} : newE P (p :: l) = if oneE P p ≠ 0 then oneE P p else newE (P ++ [p]) l := rfl
/-- What New tells and leaves. -/
def newPost (n : Nat) (L : List Am) (w : World) (e : Ending) (w' : World) : Prop :=
  ((newE [] L = 0 → ∃ g, e = .returned (.tuple #[.pointer (some ⟨g, 0, none⟩), .int .i64 0]) ∧ St w' (fresh w w') g (fA ⟨L.map acc0, []⟩) (fV ⟨L.map acc0, []⟩) n) ∧ (newE [] L ≠ 0 → e = .returned (.tuple #[.pointer none, .int .i64 (newE [] L)]))) ∧ Below w.heap.size w w'
theorem newPost.err {n : Nat} {L : List Am} {w w' : World} {k : Int} (h : k = newE [] L) (h0 : k ≠ 0) (hb : Below w.heap.size w w') : newPost n L w (.returned (.tuple #[.pointer none, .int .i64 k])) w' := by
  subst h
  exact ⟨⟨fun h => absurd h h0, fun _ => rfl⟩, hb⟩
theorem newPost.ok {n g : Nat} {L : List Am} {w w' : World} (h : newE [] L = 0) (hs : St w' (fresh w w') g (fA ⟨L.map acc0, []⟩) (fV ⟨L.map acc0, []⟩) n) (hb : Below w.heap.size w w') : newPost n L w (.returned (.tuple #[.pointer (some ⟨g, 0, none⟩), .int .i64 0])) w' :=
  ⟨⟨fun _ => ⟨g, rfl, hs⟩, fun h0 => absurd h h0⟩, hb⟩
theorem fV_none (L : List Am) : (fun _ => none : FV) = fV ⟨L.map acc0, []⟩ := by funext p; simp [fV, getV]
theorem add_field (a : Addr) (i f : Nat) (hf : 0 < f) : a.add (i + f) = ⟨(a.add i).block, (a.add i).off + f, none⟩ := by
  unfold Addr.add
  rw [if_neg (by omega)]
  split
  · rename_i h; subst h; simp
  · simp; omega
theorem build_state (a b : Nat) (w : World) : (Instr.build 52 #[(0, .map (some a)), (1, .map (some b))]).run Tryz.prog w = .ok (.agg #[.map (some a), .map (some b)]) w := run_build w _ _ _ (by kernel_rfl)
set_option maxHeartbeats 4000000 in
set_option maxRecDepth 100000 in
theorem new_any (A : Option Addr) (n c : Nat) (D : Nat → Am) (w : World) (h : Ams w A n D) (hn : n ≤ maxLen) :
    Calls Tryz.prog 7 #[.slice A n c] w (newPost n (amsL n D) w) := by
  unfold maxLen at hn
  have hmm := @run_makeMap Tryz.prog
  have hbd := fun a b => build_state a b
  go_enter Tryz.func7, Tryz.ntmps7
  have hB1 : Blk (((w.alloc (.map #[] 0)).alloc (.map #[] 0)).alloc (.cells #[.map (some w.heap.size), .map (some (w.heap.size + 1))] 52)) (w.heap.size + 2) 52 #[.map (some w.heap.size), .map (some (w.heap.size + 1))] := by
    have := Blk.new ((w.alloc (.map #[] 0)).alloc (.map #[] 0)) 52 #[.map (some w.heap.size), .map (some (w.heap.size + 1))]
    simpa using this
  have hb1 : Below w.heap.size w (((w.alloc (.map #[] 0)).alloc (.map #[] 0)).alloc (.cells #[.map (some w.heap.size), .map (some (w.heap.size + 1))] 52)) := (((Below.refl _ _).alloc (Nat.le_refl _) _).alloc (by simp) _).alloc (by simp; omega) _
  have hs1 : (((w.alloc (.map #[] 0)).alloc (.map #[] 0)).alloc (.cells #[.map (some w.heap.size), .map (some (w.heap.size + 1))] 52)).heap.size = w.heap.size + 3 := by simp
  have hmA : (((w.alloc (.map #[] 0)).alloc (.map #[] 0)).alloc (.cells #[.map (some w.heap.size), .map (some (w.heap.size + 1))] 52)).ownsMap Tryz.prog 9 accElem w.heap.size 0 (.map []) := ((World.ownsMap_made w _ _ _).alloc _).alloc _
  have hmV : (((w.alloc (.map #[] 0)).alloc (.map #[] 0)).alloc (.cells #[.map (some w.heap.size), .map (some (w.heap.size + 1))] 52)).ownsMap Tryz.prog 68 entElem (w.heap.size + 1) 0 (.map []) := by
    have := (World.ownsMap_made (w.alloc (.map #[] 0)) Tryz.prog 68 entElem).alloc (.cells #[.map (some w.heap.size), .map (some (w.heap.size + 1))] 52)
    simpa using this
  go_wp2
  obtain ⟨W, hW⟩ : ∃ W, W = ((w.alloc (.map #[] 0)).alloc (.map #[] 0)).alloc (.cells #[.map (some w.heap.size), .map (some (w.heap.size + 1))] 52) := ⟨_, rfl⟩
  rw [← hW] at hB1 hb1 hs1 hmA hmV ⊢
  have hst : St W (fresh w W) (w.heap.size + 2) (fM []) (fun _ => none) 0 :=
    ⟨w.heap.size, w.heap.size + 1, .map [], .map [], hB1, hmA, hmV, by rw [fM_nil]; exact Fits.nil, Fits.nil, ⟨by omega, by omega⟩, ⟨by omega, by omega⟩, ⟨by omega, by omega⟩, by omega⟩
  clear hW hB1 hmA hmV hs1
  go_loopw [5, 16] (fun t i wr => ∃ k : Nat, i = .int .i64 k ∧ k ≤ n ∧ t = .int .i64 (totM ((amsL n D).take k)) ∧ Hid (Good ((amsL n D).take k)) ∧ Hid (newE ((amsL n D).take k) ((amsL n D).drop k) = newE [] (amsL n D)) ∧ St wr (fresh w wr) (w.heap.size + 2) (fM ((amsL n D).take k)) (fun _ => none) k ∧ Below w.heap.size w wr)
    (fun _ i _ => n - (RowKit.intOf i).toNat)
  case atStart => exact ⟨0, rfl, Nat.zero_le _, by rw [List.take_zero]; rfl, Lib.hid (by rw [List.take_zero]; exact good_nil), Lib.hid (by rw [List.take_zero, List.drop_zero]), by rw [List.take_zero]; exact hst, hb1⟩
  case round =>
    obtain ⟨k, rfl, hk, rfl, hg, he, hs, hbw⟩ := hrel
    by_cases hlt : k < n
    · obtain ⟨ad, rfl, hadl, c0, c1, hpl, hpi⟩ := (h.below hbw) k hlt
      obtain ⟨e1, e2⟩ := amsL_step D hlt
      have he' := he.out
      rw [e2, newE_cons] at he'
      obtain ⟨p, hp⟩ : ∃ p, p = D k := ⟨_, rfl⟩
      rw [← hp] at c0 c1 hpl hpi e1 he'
      obtain ⟨P, hP⟩ : ∃ P, P = (amsL n D).take k := ⟨_, rfl⟩
      rw [← hP] at hg hs e1 he' ⊢
      rw [add_field _ _ _ (by decide)] at c1
      have HP := Lib.hid (show (amsL n D).take (k + 1) = P ++ [p] from e1)
      have hfr : In wr (fresh w wr) := L6.In.fresh _ _
      have hpm := hpi.2
      clear e1 e2 hP he hp
      by_cases hbad : chk p.nm = false ∨ p.am < 0
      · have h1 := oneE_named (P := P) hbad
        rw [h1, if_pos (by omega)] at he'
        have HE := Lib.hid he'
        have hop := fun W => open_no (g := w.heap.size + 2) (w := W) p (totM P) hpl hbad
        obtain ⟨tt, htt⟩ : ∃ tt, tt = totM P := ⟨_, rfl⟩
        rw [← htt] at hop ⊢
        clear htt he' h1 hbad
        go_wp2_with (first
          | (go_at_call 16; refine (hop _).mono ?_; rintro e w2 ⟨rfl, hb2⟩)
          | go_in)
        go_ret2
        exact newPost.err HE.out (by decide) (L6.nxt (hbw.alloc hbw.size _) hb2 (by have := hbw.size; simp; omega))
      · have hcn : chk p.nm = true := by cases hx : chk p.nm with
          | true => rfl
          | false => exact absurd (.inl hx) hbad
        rcases Bool.eq_false_or_eq_true (inM P p.nm) with hi | hi
        · have h1 := oneE_there hbad hi
          rw [h1, if_pos (by omega)] at he'
          have HE := Lib.hid he'
          have hop := fun W (hb : Below wr.heap.size wr W) => open_there (hs.below hb) p (totM P) hpl hbad hi
          obtain ⟨tt, htt⟩ : ∃ tt, tt = totM P := ⟨_, rfl⟩
          rw [← htt] at hop ⊢
          clear htt he' h1 hbad hi hcn
          have HO := Lib.hid hop
          clear hop
          go_wp2_with (first
            | (go_at_call 16; refine (HO.out _ ((Below.refl _ wr).alloc (Nat.le_refl _) _)).mono ?_; rintro e w2 ⟨rfl, hb2⟩)
            | go_in)
          go_ret2
          exact newPost.err HE.out (by decide) (L6.nxt (hbw.alloc hbw.size _) hb2 (by have := hbw.size; simp; omega))
        · have hop := fun W (hb : Below wr.heap.size wr W) => open_new (hs.below hb) (hfr.le hb.size) hg.out p hpl hpm hbad hi (by unfold maxLen; omega)
          have HG := Lib.hid (fun h0 => hg.out.snoc (p := p) h0)
          have HT := Lib.hid (totM_snoc P p)
          obtain ⟨q, hq⟩ : ∃ q, q = oneE P p := ⟨_, rfl⟩
          obtain ⟨r, hr⟩ : ∃ r, r = if oneE P p = 0 then totM P + p.am else 0 := ⟨_, rfl⟩
          obtain ⟨tt, htt⟩ : ∃ tt, tt = totM P := ⟨_, rfl⟩
          have HR := Lib.hid hr
          have HQ := Lib.hid hq
          rw [← hr, ← hq, ← htt] at hop
          rw [← hq] at he'
          rw [← htt]
          have HO := Lib.hid hop
          have HE := Lib.hid he'
          clear hr hq htt hop he' hbad hi hcn hg
          by_cases hq0 : q = 0
          · subst hq0
            go_wp2_with (first
              | (go_at_call 16; refine (HO.out _ ((Below.refl _ wr).alloc (Nat.le_refl _) _)).mono ?_; rintro e w2 ⟨rfl, hst2, ht2⟩)
              | go_in)
            have HE2 := Lib.hid (by have := HE.out; rwa [if_neg (by simp)] at this : newE (P ++ [p]) ((amsL n D).drop (k + 1)) = newE [] (amsL n D))
            have hb2 : Below w.heap.size w w2 := L6.nxtT (hbw.alloc hbw.size _) ht2 (fun k hk => hk.1)
            have hst3 : St w2 (fresh w w2) (w.heap.size + 2) (fM (P ++ [p])) (fun _ => none) (k + 1) := hst2.mono (fun j hj h => ⟨by
              rcases h with h | h
              · exact h.1
              · have := h.1; have := hbw.size; simp at *; omega, hj⟩)
            go_roundw
            case rel => exact ⟨k + 1, by go_num, by omega, by rw [HP.out, HT.out, HR.out, if_pos HQ.out.symm], by rw [HP.out]; exact Lib.hid (HG.out HQ.out.symm), by rw [HP.out]; exact HE2, by rw [HP.out]; exact hst3, hb2⟩
            case measure => simp [RowKit.intOf]; omega
          · have hq1 : (q == 0) = false := by rw [beq_eq_false_iff_ne]; exact hq0
            have hq2 : (q != 0) = true := by rw [bne_iff_ne]; exact hq0
            have HQ0 := Lib.hid hq0
            clear hq0
            go_wp2_with (first
              | (go_at_call 16; refine (HO.out _ ((Below.refl _ wr).alloc (Nat.le_refl _) _)).mono ?_; rintro e w2 ⟨rfl, hst2, ht2⟩)
              | go_in)
            go_ret2
            exact newPost.err (by have := HE.out; rwa [if_pos HQ0.out] at this) HQ0.out (L6.nxtT (hbw.alloc hbw.size _) ht2 (fun k hk => hk.1))
    · obtain rfl : k = n := by omega
      have ht : (amsL k D).take k = amsL k D := List.take_of_length_le (by rw [amsL_len]; omega)
      have hd : (amsL k D).drop k = [] := List.drop_of_length_le (by rw [amsL_len]; omega)
      rw [ht] at hg hs he ⊢
      have he' := he.out
      rw [hd] at he'
      have HE := Lib.hid (he'.symm.trans rfl : newE [] (amsL k D) = 0)
      obtain ⟨ba, bv, DA, DV, hblk, hA, hV, h1, h2, h3, h4, h5, h6⟩ := hs
      obtain ⟨es0, rfl, hap, hkeys⟩ := hA.entries kdN
      have hdel := fun W (hm : W.ownsMap Tryz.prog 9 accElem ba k (.map es0)) => strike_any ba k es0 W hm
      have q0 := hblk.cell 0
      obtain ⟨tt, htt⟩ : ∃ tt, tt = totM (amsL k D) := ⟨_, rfl⟩
      rw [← htt]
      have HF := Lib.hid h1
      clear htt he' ht hd h1 he hg
      go_wp2_with (first
        | (go_at_call 17; refine (hdel _ hA).mono ?_; rintro e w2 ⟨rfl, hm2, hg2⟩)
        | go_in)
      go_ret2
      have hgb : w.heap.size + 2 ≠ ba := L6.blk_ne_map hblk hA
      have hs2 := hg2.size
      have hin : ∀ j, fresh w wr j → fresh w w2 j := fun j h => ⟨h.1, Nat.lt_of_lt_of_le h.2 hs2⟩
      have hst : St w2 (fresh w w2) (w.heap.size + 2) (fA ⟨(amsL k D).map acc0, []⟩) (fV ⟨(amsL k D).map acc0, []⟩) k := by
        refine ⟨ba, bv, _, DV, hblk.grown hg2 (fun e => hgb (by simpa using e)), hm2, hV.kept hg2 (fun e => h6 (by simpa using e.symm)), ?_, ?_, hin _ h3, hin _ h4, hin _ h5, h6⟩
        · have := HF.out.strike hap (fun _ => noneD) (fun y : Int × Int => decide (y.1 = 0)) (fun x y _ => noneD_acc y)
          rw [strike_fM] at this
          exact this
        · rw [← fV_none]; exact h2
      exact newPost.ok HE.out hst (hbw.grown hg2 hbw.size (fun j e => by cases e; exact h4.1))
end Go.Proofs.YthkgadjiiapfgaaGreatDoor
