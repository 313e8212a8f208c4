/-
  The walk of the law on what goes on counting.
-/
import Derived.Test.YtonnenbiihfboaaDoorKeeps
set_option linter.unusedSimpArgs false
set_option linter.unusedVariables false
namespace Go.Proofs.YtonnenbiihfboaaDoor
open Go.RowKit Go.Maps Go.Lib

/-- An operation that its guard passes over. -/
theorem wpList_skip {P : Program} {ops : Array Oper} {Q : Exit → Act → World → Prop} {o : Oper} {rest : List Oper} {a : Act} {w : World} (d : Nat) (hd : o.dst = some d) (hw : Region.wanted o (yielded ops a.tmps) = false) (h : wpList P ops Q rest { a with tmps := a.tmps.setIfInBounds d undef } w) : wpList P ops Q (o :: rest) a w :=
  wpList_step fun K hK => by
    rw [if_neg (by simp [hw]), hd]
    exact hK _ _ h
/-- What the reads of a round meet. -/
def holdK (b : Addr) (m : Nat) (a : Actx) (s : Stm) (W : World) : Prop :=
  W.cell? ⟨b.block, b.off + 1, none⟩ = some (.int .i64 a.signer) ∧ (∀ j u, (stmL a.s)[j]? = some u → W.cell? ((⟨b.block, b.off + 4, none⟩ : Addr).add j) = some u) ∧ Blk W m 33 (stmC s)
/-- Behind k calls: the register, in its own blocks. -/
def Kept (w w0 : World) (g : Nat) (f : Int) (bad : Nat) (D : Nat → Actx) (k : Nat) (wr : World) : Prop :=
  ∃ S, Sg wr S g f bad (iss f D k) ∧ From w0.heap.size S ∧ Below w0.heap.size w0 wr
set_option maxHeartbeats 4000000 in
set_option maxRecDepth 100000 in
theorem keeps_walk (f : Int) (bad : Nat) (A : Option Addr) (n c : Nat) (D : Nat → Actx) (s : Stm) (set : Nat) (w : World) (hf : inI f) (hbad : bad < 4294967296) (h0 : Acts w A n D) (hs : s.wf) (hset : set < 4294967296) (hT : Tab w) :
    Calls Tryd.prog 4 #[.int .i64 f, .int .u32 bad, .slice A n c, .agg (stmC s), .int .u32 set] w (alivePost w) := by
  have hb0 : Below w.heap.size w (w.alloc (.cells (stmC s) 33)) := (Below.refl _ _).alloc (Nat.le_refl _) _
  obtain ⟨w0, hw0⟩ : ∃ w0, w0 = w.alloc (.cells (stmC s) 33) := ⟨_, rfl⟩
  have hx0 : Blk w0 w.heap.size 33 (stmC s) := by rw [hw0]; exact Blk.new _ _ _
  have hal := alive_any _ (hT.kept hb0)
  have HT := Lib.hid (hT.kept hb0)
  have HA := Lib.hid hal
  have HACT := Lib.hid (h0.below hb0)
  clear hal hT h0
  by_cases he : newE f bad = 0
  · have hnew := fun w => new_ok f bad w hbad he
    have HN := Lib.hid hnew
    have HE := Lib.hid he
    clear hnew he
    by_cases hn : 100 < n
    · go_enter Tryd.func4, Tryd.ntmps4
      go_wp2_with (first
        | (go_at_call 6; refine HA.out.mono ?_; unfold alivePost; rintro e w1 ⟨rfl, hb1⟩)
        | (go_at_call 7; refine (HN.out _).mono ?_; rintro e w2 ⟨g, rfl, hS2, hb2⟩))
      go_ret
      exact ⟨rfl, hb0.trans ((nxt hb1 hb2 hb1.size).mono hb0.size)⟩
    · have hn' : decide ((100 : Int) < (n : Int)) = false := by simp; omega
      go_enter Tryd.func4, Tryd.ntmps4
      rw [← hw0] at HA HT HACT hb0
      go_wp2_with (first
        | (go_at_call 6; rw [← hw0]; refine HA.out.mono ?_; unfold alivePost; rintro e w1 ⟨rfl, hb1⟩)
        | (go_at_call 7; refine (HN.out _).mono ?_; rintro e w2 ⟨g, rfl, hS2, hb2⟩; have hb02 := nxt hb1 hb2 hb1.size; have hx2 := hx0.below hb02 hx0.lt)
        | (refine wpList_row_at rfl _ _ rfl w.heap.size rfl _ (stmC s) _ _ hx2 Tryd.underlying33 rfl (by kernel_rfl) ?_)
        | (go_at_call 13; refine (sall_any _ g f bad [] s set _ hS2 hs hbad hset (HT.out.kept hb02)).mono ?_; rintro e w3 ⟨rfl, hb3⟩))
      have hb03 : Below w0.heap.size w0 w3 := nxt hb02 hb3 hb02.size
      have hK3 : Kept w w0 g f bad D 0 w3 := ⟨moreB (fresh w1 w2) w2 w3, (hS2.below hb3).mono (fun _ _ h => .inl h), fun j hj => by
        rcases hj with h | h
        · exact Nat.le_trans hb1.size h.1
        · exact Nat.le_trans hb02.size h.1, hb03⟩
      obtain ⟨r0, hr0⟩ : ∃ r0, r0 = allE f bad [] s set := ⟨_, rfl⟩
      rw [← hr0]
      have HR0 := Lib.hid hr0
      clear hr0 hb3 hS2 hx2 hb2 hb02 hb1
      go_loopw [14, 15] (fun o i wr => ∃ k : Nat, i = .int .i64 k ∧ o = .bool (onlyB bad s D k) ∧ k ≤ n ∧ Kept w w0 g f bad D k wr) (fun _ i _ => n - (intOf i).toNat)
      case atStart => exact ⟨0, rfl, rfl, Nat.zero_le _, hK3⟩
      case round =>
        obtain ⟨k, rfl, rfl, hk, S, hS, hfS, hbr⟩ := hrel
        obtain ⟨o, ho⟩ : ∃ o, o = onlyB bad s D k := ⟨_, rfl⟩
        have HOK := Lib.hid ho
        rw [← ho]
        clear ho hK3 hb03
        by_cases hlt : k < n
        · obtain ⟨ad, rfl, had, hcell, hfit⟩ := HACT.out k hlt
          obtain ⟨a, ha⟩ : ∃ a, a = D k := ⟨_, rfl⟩
          have hfin : ∀ W, Below w0.heap.size w0 W → W.cell? ⟨(ad.add (k * 14)).block, (ad.add (k * 14)).off + 1, none⟩ = some (.int .i64 a.signer) ∧ (∀ j u, (stmL a.s)[j]? = some u → W.cell? ((⟨(ad.add (k * 14)).block, (ad.add (k * 14)).off + 4, none⟩ : Addr).add j) = some u) := fun W hW => by
            have h := act_parts (a := a) (W := W) (b := ad.add (k * 14)) fun j u hj => (hW.cell (by rw [block_of_add, block_of_add]; exact had)).trans (hcell j u (by rw [← ha]; exact hj))
            exact ⟨h.2.1, h.2.2.2.2⟩
          have haw : Shr.wf ⟨a.signer, a.s⟩ := by rw [ha]; exact hfit.shr
          have hlen : (iss f D k).length ≤ 1000000000 := Nat.le_trans (iss_len f D k) (by omega)
          have hiss : ∀ W, Sg W S g f bad (iss f D k) → Calls Tryd.prog 9 #[.pointer (some ⟨g, 0, none⟩), .agg (shrC ⟨a.signer, a.s⟩)] W fun e w' => e = .returned (.int .i64 (repE f a.signer)) ∧ Sg w' (moreB S W w') g f bad (iss f D (k + 1)) ∧ Turn S W w' := fun W hW => by
            have h := issue_any S g f bad (iss f D k) ⟨a.signer, a.s⟩ W hW haw hlen
            have e : iss f D (k + 1) = issL f (iss f D k) ⟨a.signer, a.s⟩ := by rw [iss, ← ha]; rfl
            rw [e]
            exact h
          have hon : onlyB bad s D (k + 1) = (o && (!decide (a.s = s) || hasV bad a.signer)) := by rw [onlyB, ← HOK.out, ← ha]
          obtain ⟨q1, q4⟩ := hfin wr hbr
          have hxr := hx0.below hbr hx0.lt
          have hw' : IntKind.i64.wrap (k : Int) = (k : Int) := IntWalk.i64_in _ (by omega)
          have HI := Lib.hid hiss
          have HB := Lib.hid hfin
          have hne := neqM haw.2 hs
          have hhas : ∀ W, Calls Tryd.prog 19 #[.int .u32 bad, .int .i64 a.signer] W fun e w'' => e = .returned (.bool (hasV bad a.signer)) ∧ W = w'' := fun W => has_any bad a.signer W hbad
          have HQ := Lib.hid hhas
          clear ha hcell hfit hiss hfin hhas hlen
          have ne : Nonempty (WorldIn (holdK (ad.add (k * 14)) w.heap.size a s)) := ⟨⟨wr, q1, q4, hxr⟩⟩
          have p1 := fun y : WorldIn (holdK (ad.add (k * 14)) w.heap.size a s) => y.h.1
          have p4 := fun y : WorldIn (holdK (ad.add (k * 14)) w.heap.size a s) => y.h.2.1
          have pb := fun y : WorldIn (holdK (ad.add (k * 14)) w.heap.size a s) => y.h.2.2
          go_wp2
          refine wp_region_K (holdK (ad.add (k * 14)) w.heap.size a s) [0, 1, 2, 3, 4, 5, 6, 7, 8, 9, 10, 11] (by kernel_rfl) ?_
          refine wpK_quiet (f := 1) (by kernel_rfl) (fun _ x _ _ _ h => by cases x <;> exact h) (⟨q1, q4, hxr⟩ : holdK (ad.add (k * 14)) w.heap.size a s wr.drew) [0, 1, 2, 3, 4, 5, 6, 7, 8, 9, 10, 11] _ _ (by kernel_rfl) (by kernel_rfl) (by kernel_rfl) ?_
          conv => arg 5; simp [pick]
          go_big_quiet_step (fail)
          go_big_quiet_step (fail)
          go_big_quiet_step (fail)
          go_big_quiet_step (fail)
          go_big_quiet_step (fail)
          go_big_quiet_step (fail)
          go_big_quiet_step (fail)
          go_big_quiet_step (fail)
          go_big_quiet_step (fail)
          go_big_quiet_step (fail)
          refine wpQuiet_cells rfl _ _ rfl _ rfl (stmL a.s) _ p4 Tryd.underlying33 rfl (by kernel_rfl) ?_
          conv => arg 6; simp only [Act.put, List.setIfInBounds_toArray, List.set_cons_zero, List.set_cons_succ]
          refine wpQuiet_build rfl _ _ rfl #[(0, .int .i64 a.signer), (1, .agg (stmC a.s))] rfl (build_shr _ a.s) ?_
          conv => arg 6; simp only [Act.put, List.setIfInBounds_toArray, List.set_cons_zero, List.set_cons_succ]
          refine wpQuiet_nil ?_
          refine wpK_step 12 (by kernel_rfl) rfl ?_
          go_wp2_with (go_at_call 9; refine (HI.out _ (hS.below (below_drew (Below.refl _ _)))).mono ?_; rintro e w4 ⟨rfl, hS4, ht4'⟩)
          have ht4 : Turn S wr w4 := undrewT ht4'
          have hb4 : Below w0.heap.size w0 w4 := hbr.trans (ht4.below hfS hbr.size)
          obtain ⟨d1, d4⟩ := (HB.out w4 hb4)
          have hx4 := hx0.below hb4 hx0.lt
          refine stepQ.mk ⟨fun _ => ⟨d1, d4, hx4⟩, ?_⟩
          refine wpK_seq [] _ _ _ (by kernel_rfl) ?_
          conv => arg 4; simp [pick]
          go_wp2
          rcases Bool.eq_false_or_eq_true o with ho | ho
          · subst ho
            rw [Bool.true_and] at hon
            by_cases hss : a.s = s
            · rw [decide_eq_true hss, Bool.not_true] at hne
              rw [decide_eq_true hss, Bool.not_true, Bool.false_or] at hon
              have HNE := Lib.hid hne
              have HO := Lib.hid hon
              clear hne hon hss
              refine wp_region_K (holdK (ad.add (k * 14)) w.heap.size a s) [0, 1, 2, 3, 4, 5, 6, 7, 8, 9, 10, 11, 12, 13, 14, 15, 17, 18, 19] (by kernel_rfl) ?_
              refine wpK_quiet (f := 4) (by kernel_rfl) (fun _ x _ _ _ h => by cases x <;> exact h) (⟨d1, d4, hx4⟩ : holdK (ad.add (k * 14)) w.heap.size a s w4.drew) [0, 1, 2, 3, 4, 5, 6, 7, 8, 9, 10, 11, 12, 13, 14, 15] _ _ (by kernel_rfl) (by kernel_rfl) (by kernel_rfl) ?_
              conv => arg 5; simp [pick]
              go_big_quiet_step (fail)
              go_big_quiet_step (fail)
              go_big_quiet_step (fail)
              go_big_quiet_step (fail)
              go_big_quiet_step (fail)
              go_big_quiet_step (fail)
              refine wpQuiet_cells rfl _ _ rfl _ rfl (stmL a.s) _ p4 Tryd.underlying33 rfl (by kernel_rfl) ?_
              conv => arg 6; simp only [Act.put, List.setIfInBounds_toArray, List.set_cons_zero, List.set_cons_succ]
              refine wpQuiet_row rfl _ _ rfl _ rfl _ _ _ _ pb Tryd.underlying33 rfl (by kernel_rfl) ?_
              conv => arg 6; simp only [Act.put, List.setIfInBounds_toArray, List.set_cons_zero, List.set_cons_succ]
              refine wpQuiet_binop rfl _ _ _ _ _ rfl (stmC a.s) (stmC s) rfl rfl (by kernel_rfl) HNE.out ?_
              conv => arg 6; simp only [Act.put, List.setIfInBounds_toArray, List.set_cons_zero, List.set_cons_succ]
              go_big_quiet_step (fail)
              go_big_quiet_step (fail)
              go_big_quiet_step (fail)
              go_big_quiet_step (fail)
              go_big_quiet_step (fail)
              go_big_quiet_step (fail)
              go_big_quiet_step (fail)
              refine wpQuiet_nil ?_
              refine wpK_step 16 (by kernel_rfl) rfl ?_
              go_wp2_with (go_at_call 19; refine (HQ.out _).mono ?_; rintro e w5 ⟨rfl, rfl⟩)
              refine stepQ.mk ⟨fun _ => ⟨d1, d4, hx4⟩, ?_⟩
              refine wpK_quiet (f := 0) (by kernel_rfl) (fun _ x _ _ _ h => by cases x <;> exact h) (⟨d1, d4, hx4⟩ : holdK (ad.add (k * 14)) w.heap.size a s w4.drew) [17, 18, 19] _ _ (by kernel_rfl) (by kernel_rfl) (by kernel_rfl) ?_
              conv => arg 5; simp [pick]
              go_big_quiet_step (fail)
              go_big_quiet_step (fail)
              go_big_quiet_step (fail)
              refine wpQuiet_nil ?_
              refine wpK_seq [] _ _ _ (by kernel_rfl) ?_
              conv => arg 4; simp [pick]
              go_wp2
              go_roundw
              case rel => exact ⟨k + 1, by go_num, by rw [HO.out], by omega, ⟨moreB S wr w4, hS4.below (below_drew (Below.refl _ _)), hfS.more hbr.size, below_drew hb4⟩⟩
              case measure => simp [intOf]; omega
            · rw [decide_eq_false hss, Bool.not_false] at hne
              rw [decide_eq_false hss, Bool.not_false, Bool.true_or] at hon
              have HNE := Lib.hid hne
              have HO := Lib.hid hon
              clear hne hon hss
              refine wp_region_K (holdK (ad.add (k * 14)) w.heap.size a s) [0, 1, 2, 3, 4, 5, 6, 7, 8, 9, 10, 11, 12, 13, 14, 15, 17, 18, 19] (by kernel_rfl) ?_
              refine wpK_quiet (f := 4) (by kernel_rfl) (fun _ x _ _ _ h => by cases x <;> exact h) (⟨d1, d4, hx4⟩ : holdK (ad.add (k * 14)) w.heap.size a s w4.drew) [0, 1, 2, 3, 4, 5, 6, 7, 8, 9, 10, 11, 12, 13, 14, 15] _ _ (by kernel_rfl) (by kernel_rfl) (by kernel_rfl) ?_
              conv => arg 5; simp [pick]
              go_big_quiet_step (fail)
              go_big_quiet_step (fail)
              go_big_quiet_step (fail)
              go_big_quiet_step (fail)
              go_big_quiet_step (fail)
              go_big_quiet_step (fail)
              refine wpQuiet_cells rfl _ _ rfl _ rfl (stmL a.s) _ p4 Tryd.underlying33 rfl (by kernel_rfl) ?_
              conv => arg 6; simp only [Act.put, List.setIfInBounds_toArray, List.set_cons_zero, List.set_cons_succ]
              refine wpQuiet_row rfl _ _ rfl _ rfl _ _ _ _ pb Tryd.underlying33 rfl (by kernel_rfl) ?_
              conv => arg 6; simp only [Act.put, List.setIfInBounds_toArray, List.set_cons_zero, List.set_cons_succ]
              refine wpQuiet_binop rfl _ _ _ _ _ rfl (stmC a.s) (stmC s) rfl rfl (by kernel_rfl) HNE.out ?_
              conv => arg 6; simp only [Act.put, List.setIfInBounds_toArray, List.set_cons_zero, List.set_cons_succ]
              go_big_quiet_step (fail)
              go_big_quiet_step (fail)
              go_big_quiet_step (fail)
              go_big_quiet_step (fail)
              go_big_quiet_step (fail)
              go_big_quiet_step (fail)
              go_big_quiet_step (fail)
              refine wpQuiet_nil ?_
              refine wpK_step 16 (by kernel_rfl) rfl ?_
              go_wp2
              refine stepQ.mk ⟨fun _ => ⟨d1, d4, hx4⟩, ?_⟩
              refine wpK_quiet (f := 0) (by kernel_rfl) (fun _ x _ _ _ h => by cases x <;> exact h) (⟨d1, d4, hx4⟩ : holdK (ad.add (k * 14)) w.heap.size a s w4.drew) [17, 18, 19] _ _ (by kernel_rfl) (by kernel_rfl) (by kernel_rfl) ?_
              conv => arg 5; simp [pick]
              go_big_quiet_step (fail)
              go_big_quiet_step (fail)
              go_big_quiet_step (fail)
              refine wpQuiet_nil ?_
              refine wpK_seq [] _ _ _ (by kernel_rfl) ?_
              conv => arg 4; simp [pick]
              go_wp2
              go_roundw
              case rel => exact ⟨k + 1, by go_num, by rw [HO.out], by omega, ⟨moreB S wr w4, hS4.below (below_drew (Below.refl _ _)), hfS.more hbr.size, below_drew hb4⟩⟩
              case measure => simp [intOf]; omega
          · subst ho
            rw [Bool.false_and] at hon
            have HO := Lib.hid hon
            clear hne hon
            refine wp_region_K (holdK (ad.add (k * 14)) w.heap.size a s) [0, 1, 2, 3, 4, 5, 6, 7, 8, 9, 10, 11, 12, 13, 14, 15, 17, 18, 19] (by kernel_rfl) ?_
            refine wpK_quiet (f := 4) (by kernel_rfl) (fun _ x _ _ _ h => by cases x <;> exact h) (⟨d1, d4, hx4⟩ : holdK (ad.add (k * 14)) w.heap.size a s w4.drew) [0, 1, 2, 3, 4, 5, 6, 7, 8, 9, 10, 11, 12, 13, 14, 15] _ _ (by kernel_rfl) (by kernel_rfl) (by kernel_rfl) ?_
            conv => arg 5; simp [pick]
            go_big_quiet_step (fail)
            go_big_quiet_step (fail)
            go_big_quiet_step (fail)
            go_big_quiet_step (fail)
            go_big_quiet_step (fail)
            go_big_quiet_step (fail)
            go_big_quiet_step (fail)
            go_big_quiet_step (fail)
            go_big_quiet_step (fail)
            go_big_quiet_step (fail)
            go_big_quiet_step (fail)
            go_big_quiet_step (fail)
            go_big_quiet_step (fail)
            go_big_quiet_step (fail)
            go_big_quiet_step (fail)
            go_big_quiet_step (fail)
            refine wpQuiet_nil ?_
            refine wpK_step 16 (by kernel_rfl) rfl ?_
            refine wpList_skip 70 rfl (by kernel_rfl) ?_
            conv => arg 5; simp only [List.setIfInBounds_toArray, List.set_cons_zero, List.set_cons_succ]
            unfold wpList
            refine stepQ.mk ⟨fun _ => ⟨d1, d4, hx4⟩, ?_⟩
            refine wpK_quiet (f := 0) (by kernel_rfl) (fun _ x _ _ _ h => by cases x <;> exact h) (⟨d1, d4, hx4⟩ : holdK (ad.add (k * 14)) w.heap.size a s w4.drew) [17, 18, 19] _ _ (by kernel_rfl) (by kernel_rfl) (by kernel_rfl) ?_
            conv => arg 5; simp [pick]
            go_big_quiet_step (fail)
            go_big_quiet_step (fail)
            go_big_quiet_step (fail)
            refine wpQuiet_nil ?_
            refine wpK_seq [] _ _ _ (by kernel_rfl) ?_
            conv => arg 4; simp [pick]
            go_wp2
            go_roundw
            case rel => exact ⟨k + 1, by go_num, by rw [HO.out], by omega, ⟨moreB S wr w4, hS4.below (below_drew (Below.refl _ _)), hfS.more hbr.size, below_drew hb4⟩⟩
            case measure => simp [intOf]; omega
        · have hkn : k = n := by omega
          have hxr := hx0.below hbr hx0.lt
          have hb0r := hb0.trans (hbr.mono hb0.size)
          have hTr := HT.out.kept hbr
          have hallr := sall_any S g f bad (iss f D k) s set wr hS hs hbad hset hTr
          have hcount := fun w => count_any set w hset
          have hmono : r0 = 0 → allE f bad (iss f D k) s set = 0 := fun h => allE_mono (L := []) (fun y hy => by cases hy) (by rw [← HR0.out]; exact h)
          have hfew : o = true → ¬ (cnt set : Int) ≤ f → enoughE f bad (iss f D k) s set 0 ≠ 0 := fun h1 h2 => too_few HE.out (by rw [← HOK.out]; exact h1) h2
          have hen := fun W (hW : Below wr.heap.size wr W) => enough_any S g f bad (iss f D k) s set 0 W (hS.below hW) hs hbad hset (hTr.kept hW)
          obtain ⟨m, hm⟩ : ∃ m, m = cnt set := ⟨_, rfl⟩
          obtain ⟨q, hq⟩ : ∃ q, q = enoughE f bad (iss f D k) s set 0 := ⟨_, rfl⟩
          simp only [← hm, ← hq] at hcount hfew hen
          have HC := Lib.hid hcount
          have HN2 := Lib.hid hen
          clear hm hq hcount hen hkn
          by_cases hr : r0 = 0
          · rw [hmono hr] at hallr
            have HAL := Lib.hid hallr
            subst hr
            clear hallr hmono
            rcases Bool.eq_false_or_eq_true o with ho | ho
            · by_cases hc : (m : Int) ≤ f
              · clear hfew
                rw [ho]
                go_wp2_with (first
                  | (refine wpList_row_at rfl _ _ rfl w.heap.size rfl _ (stmC s) _ _ hxr Tryd.underlying33 rfl (by kernel_rfl) ?_)
                  | (refine wpList_row_at rfl _ _ rfl w.heap.size rfl _ (stmC s) _ _ hx5 Tryd.underlying33 rfl (by kernel_rfl) ?_)
                  | (go_at_call 13; refine HAL.out.mono ?_; rintro e w5 ⟨rfl, hb5⟩; have hx5 := hxr.below hb5 hxr.lt)
                  | (go_at_call 20; refine (HC.out _).mono ?_; rintro e w6 ⟨rfl, rfl⟩)
                  | (go_at_call 15; refine (HN2.out _ hb5).mono ?_; rintro e w7 ⟨rfl, hb7⟩))
                go_ret
                exact ⟨rfl, by first | exact nxt hb0r hb5 hb0r.size | exact nxt (nxt hb0r hb5 hb0r.size) hb7 (nxt hb0r hb5 hb0r.size).size⟩
              · have hq0 := hfew ho hc
                have hq1 : (q == 0) = false := by simpa using hq0
                have hq2 : (q != 0) = true := by simpa using hq0
                have hc' : decide ((m : Int) ≤ f) = false := by simpa using hc
                rw [ho]
                clear hfew hq0 hc
                go_wp2_with (first
                  | (refine wpList_row_at rfl _ _ rfl w.heap.size rfl _ (stmC s) _ _ hxr Tryd.underlying33 rfl (by kernel_rfl) ?_)
                  | (refine wpList_row_at rfl _ _ rfl w.heap.size rfl _ (stmC s) _ _ hx5 Tryd.underlying33 rfl (by kernel_rfl) ?_)
                  | (go_at_call 13; refine HAL.out.mono ?_; rintro e w5 ⟨rfl, hb5⟩; have hx5 := hxr.below hb5 hxr.lt)
                  | (go_at_call 20; refine (HC.out _).mono ?_; rintro e w6 ⟨rfl, rfl⟩)
                  | (go_at_call 15; refine (HN2.out _ hb5).mono ?_; rintro e w7 ⟨rfl, hb7⟩))
                go_ret
                exact ⟨rfl, by first | exact nxt hb0r hb5 hb0r.size | exact nxt (nxt hb0r hb5 hb0r.size) hb7 (nxt hb0r hb5 hb0r.size).size⟩
            · rw [ho]
              clear hfew
              go_wp2_with (first
                | (refine wpList_row_at rfl _ _ rfl w.heap.size rfl _ (stmC s) _ _ hxr Tryd.underlying33 rfl (by kernel_rfl) ?_)
                | (refine wpList_row_at rfl _ _ rfl w.heap.size rfl _ (stmC s) _ _ hx5 Tryd.underlying33 rfl (by kernel_rfl) ?_)
                | (go_at_call 13; refine HAL.out.mono ?_; rintro e w5 ⟨rfl, hb5⟩; have hx5 := hxr.below hb5 hxr.lt)
                | (go_at_call 20; refine (HC.out _).mono ?_; rintro e w6 ⟨rfl, rfl⟩)
                | (go_at_call 15; refine (HN2.out _ hb5).mono ?_; rintro e w7 ⟨rfl, hb7⟩))
              go_ret
              exact ⟨rfl, by first | exact nxt hb0r hb5 hb0r.size | exact nxt (nxt hb0r hb5 hb0r.size) hb7 (nxt hb0r hb5 hb0r.size).size⟩
          · have hr1 : (r0 == 0) = false := by simpa using hr
            have hr2 : (r0 != 0) = true := by simpa using hr
            clear hallr hmono hr
            rcases Bool.eq_false_or_eq_true o with ho | ho
            · by_cases hc : (m : Int) ≤ f
              · clear hfew
                rw [ho]
                go_wp2_with (first
                  | (refine wpList_row_at rfl _ _ rfl w.heap.size rfl _ (stmC s) _ _ hxr Tryd.underlying33 rfl (by kernel_rfl) ?_)
                  | (refine wpList_row_at rfl _ _ rfl w.heap.size rfl _ (stmC s) _ _ hx5 Tryd.underlying33 rfl (by kernel_rfl) ?_)
                  | (go_at_call 13; refine HAL.out.mono ?_; rintro e w5 ⟨rfl, hb5⟩; have hx5 := hxr.below hb5 hxr.lt)
                  | (go_at_call 20; refine (HC.out _).mono ?_; rintro e w6 ⟨rfl, rfl⟩)
                  | (go_at_call 15; refine (HN2.out _ (Below.refl _ _)).mono ?_; rintro e w7 ⟨rfl, hb7⟩))
                go_ret
                exact ⟨rfl, by first | exact hb0r | exact nxt hb0r hb7 hb0r.size⟩
              · have hq0 := hfew ho hc
                have hq1 : (q == 0) = false := by simpa using hq0
                have hq2 : (q != 0) = true := by simpa using hq0
                have hc' : decide ((m : Int) ≤ f) = false := by simpa using hc
                rw [ho]
                clear hfew hq0 hc
                go_wp2_with (first
                  | (refine wpList_row_at rfl _ _ rfl w.heap.size rfl _ (stmC s) _ _ hxr Tryd.underlying33 rfl (by kernel_rfl) ?_)
                  | (refine wpList_row_at rfl _ _ rfl w.heap.size rfl _ (stmC s) _ _ hx5 Tryd.underlying33 rfl (by kernel_rfl) ?_)
                  | (go_at_call 13; refine HAL.out.mono ?_; rintro e w5 ⟨rfl, hb5⟩; have hx5 := hxr.below hb5 hxr.lt)
                  | (go_at_call 20; refine (HC.out _).mono ?_; rintro e w6 ⟨rfl, rfl⟩)
                  | (go_at_call 15; refine (HN2.out _ (Below.refl _ _)).mono ?_; rintro e w7 ⟨rfl, hb7⟩))
                go_ret
                exact ⟨rfl, by first | exact hb0r | exact nxt hb0r hb7 hb0r.size⟩
            · rw [ho]
              clear hfew
              go_wp2_with (first
                | (refine wpList_row_at rfl _ _ rfl w.heap.size rfl _ (stmC s) _ _ hxr Tryd.underlying33 rfl (by kernel_rfl) ?_)
                | (refine wpList_row_at rfl _ _ rfl w.heap.size rfl _ (stmC s) _ _ hx5 Tryd.underlying33 rfl (by kernel_rfl) ?_)
                | (go_at_call 13; refine HAL.out.mono ?_; rintro e w5 ⟨rfl, hb5⟩; have hx5 := hxr.below hb5 hxr.lt)
                | (go_at_call 20; refine (HC.out _).mono ?_; rintro e w6 ⟨rfl, rfl⟩)
                | (go_at_call 15; refine (HN2.out _ (Below.refl _ _)).mono ?_; rintro e w7 ⟨rfl, hb7⟩))
              go_ret
              exact ⟨rfl, by first | exact hb0r | exact nxt hb0r hb7 hb0r.size⟩
  · have hnew := fun w => new_not f bad w hbad he
    obtain ⟨e, hq⟩ : ∃ e, e = newE f bad := ⟨_, rfl⟩
    rw [← hq] at he
    simp only [← hq] at hnew
    have h0' : (e == 0) = false := by simpa using he
    have h1' : (e != 0) = true := by simpa using he
    have HN := Lib.hid hnew
    clear hnew he hq
    go_enter Tryd.func4, Tryd.ntmps4
    go_wp2_with (first
      | (go_at_call 6; refine HA.out.mono ?_; unfold alivePost; rintro e w1 ⟨rfl, hb1⟩)
      | (go_at_call 7; refine (HN.out _).mono ?_; rintro e w2 ⟨rfl, rfl⟩))
    go_ret
    exact ⟨rfl, hb0.trans (hb1.mono hb0.size)⟩
end Go.Proofs.YtonnenbiihfboaaDoor
