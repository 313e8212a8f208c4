/-
  Numbers struck out of a row by a function: slices.DeleteFunc, at this struct.
-/
import Derived.Test.YtglnocclhhdbbaaIdx
set_option linter.unusedSimpArgs false
set_option linter.unusedVariables false
set_option maxRecDepth 10000
namespace Go.Proofs.Ytglnocclhhdbbaa
open Go.RowKit Go.Lib
open L3 (Blk Reads block_of_add add_of_add)
open L6 (Turn moreB fresh From In)

theorem first_cut {L : List Wnt} {p : Wnt → Bool} {k : Nat} (hk : k < L.length) (ht : p L[k] = true) (hall : ∀ j (h : j < k), p (L[j]'(by omega)) = false) : (L.take (k + 1)).filter (fun t => !p t) = L.take k := by
  rw [filter_snoc hk, if_neg (by simp [ht]), List.append_nil, List.filter_eq_self]
  intro t ht2
  obtain ⟨j, hj, rfl⟩ := List.getElem_of_mem ht2
  rw [List.length_take] at hj
  rw [List.getElem_take, hall j (by omega)]
  rfl
/-- What is kept of the first ones, and the rest as it was. -/
def mixed (L : List Wnt) (p : Wnt → Bool) (j : Nat) : List Wnt := (L.take j).filter (fun t => !p t) ++ L.drop ((L.take j).filter fun t => !p t).length
theorem kept_le (L : List Wnt) (p : Wnt → Bool) (j : Nat) : ((L.take j).filter fun t => !p t).length ≤ min j L.length := by
  have := List.length_filter_le (fun t => !p t) (L.take j)
  rw [List.length_take] at this
  exact this
theorem mixed_len {L : List Wnt} {p : Wnt → Bool} {j : Nat} : (mixed L p j).length = L.length := by
  have := kept_le L p j
  unfold mixed
  rw [List.length_append, List.length_drop]
  omega
theorem mixed_get {L : List Wnt} {p : Wnt → Bool} {j : Nat} (h : j < L.length) : (mixed L p j)[j]'(by rw [mixed_len]; exact h) = L[j] := by
  have := kept_le L p j
  unfold mixed
  rw [List.getElem_append_right (by omega), List.getElem_drop]
  congr 1
  omega
theorem mixed_skip {L : List Wnt} {p : Wnt → Bool} {j : Nat} (h : j < L.length) (hp : p L[j] = true) : mixed L p (j + 1) = mixed L p j := by
  unfold mixed
  rw [filter_snoc h, if_neg (by simp [hp]), List.append_nil]
theorem mixed_keep {L : List Wnt} {p : Wnt → Bool} {j : Nat} (h : j < L.length) (hp : p L[j] = false) : mixed L p (j + 1) = (mixed L p j).set ((L.take j).filter fun t => !p t).length L[j] := by
  have hl := kept_le L p j
  unfold mixed
  rw [filter_snoc h, if_pos (by simp [hp])]
  generalize hF : (L.take j).filter (fun t => !p t) = F at hl ⊢
  rw [List.set_append_right _ _ (Nat.le_refl _), Nat.sub_self, List.length_append, List.length_singleton, List.append_assoc]
  congr 1
  rw [List.drop_eq_getElem_cons (show F.length < L.length by omega)]
  rfl
set_option maxHeartbeats 4000000 in
set_option maxRecDepth 100000 in
theorem delete_any (v : Value) (L : List Wnt) (w : World) (g : Nat) (lb : Array Value) (eg : ∀ args w, (callFunc g args).run Try.prog w = .ok (.enter g args) w) (p : Wnt → Bool) (hn : L.length ≤ 1000)
    (hrow : w.ownsRow 0 63 2 v L.length (L.flatMap wnL)) (hp : Asks g lb p (fun k => v.ownBlock = some k) w) :
    Calls Try.prog 27 #[v, .func (.func g) #[] lb] w fun e w' =>
      ∃ v', e = .returned v' ∧ w'.ownsRow 0 63 2 v' (L.filter fun t => !p t).length ((L.filter fun t => !p t).flatMap wnL) ∧ (∀ k, v'.ownBlock = some k → v.ownBlock = some k) ∧ Turn (fun k => v.ownBlock = some k) w w' := by
  obtain ⟨A, c, rfl, hrd⟩ : ∃ A c, v = .slice A L.length c ∧ Rd wnL 2 w A L := by
    obtain ⟨A, c, hv, hr, _⟩ := Rd.of_row (f := wnL) (k := 2) (fun _ => rfl) hrow
    exact ⟨A, c, hv, hr⟩
  obtain ⟨kf, hkf⟩ := first_ex L p
  have hidx := idx_any A c g lb p L w eg (hp.mono fun k h => h.elim) hrd hn hkf
  rcases hkf with ⟨rfl, hall⟩ | ⟨k0, hk0, rfl, ht, hall'⟩
  · have HE := Lib.hid (show L.filter (fun t => !p t) = L from List.filter_eq_self.2 fun t ht => by rw [hall t ht]; rfl)
    have HR := Lib.hid hrow
    obtain ⟨n, hn2⟩ : ∃ n, n = L.length := ⟨_, rfl⟩
    rw [← hn2] at hidx
    rw [← hn2]
    have HN := Lib.hid hn2
    clear hrow hp hrd hall hn2 hn
    go_enter Try.func27, Try.ntmps27
    go_wp2_with (first
      | (go_at_call 39; (with_reducible refine hidx.mono ?_); unfold gives; rintro e w1 ⟨rfl, hb1⟩)
      | go_in)
    go_ret
    refine ⟨_, rfl, ?_, fun k hk => hk, L6.Turn.of_keep hb1⟩
    rw [HE.out]
    have ht : Turn (fun _ => False) w w1 := L6.Turn.of_keep hb1
    have := ht.row HR.out (fun k _ h => h)
    rw [← HN.out] at this ⊢
    exact this
  · have hfc := first_cut hk0 ht hall'
    have hne1 : ((k0 : Int) == -1) = false := beq_eq_false_iff_ne.2 (by omega)
    obtain ⟨b, cap, hv, hbb, hX⟩ := row_of hrow (fun e => by rw [e] at hk0; exact absurd hk0 (by simp))
    injection hv with hv1 hv2 hv3
    subst hv1 hv3
    have HFC := Lib.hid hfc
    have h0 : RowW w b c (mixed L p (k0 + 1)) := by
      unfold mixed
      rw [hfc, List.length_take, Nat.min_eq_left (by omega), List.take_append_drop]
      exact hX
    have hcl : c ≤ maxLen ∧ L.length ≤ c := by obtain ⟨_, _, _, h1, h2, _⟩ := hX; exact ⟨h1, h2⟩
    obtain ⟨hcm, hcl⟩ := hcl
    obtain ⟨n, hn2⟩ : ∃ n, n = L.length := ⟨_, rfl⟩
    have hp' : Asks g lb p (fun k => k = b) w := hp.mono fun i hi => by subst hi; rfl
    have HP := Lib.hid hp'
    rw [← hn2] at hidx hk0 hn
    have HN := Lib.hid hn2
    rw [← hn2]
    unfold maxLen at hcm
    rw [← hn2] at hcl
    clear hrow hrd hp hp' hall' ht hfc hX hn2 hv2
    go_enter Try.func27, Try.ntmps27
    go_wp2_with (first
      | (go_at_call 39; (with_reducible refine hidx.mono ?_); unfold gives; rintro e w1 ⟨rfl, hb1⟩)
      | go_in)
    go_loopw [5, 6, 7] (fun s5 s6 s7 wr => ∃ j i : Nat, s6 = .int .i64 j ∧ s5 = .int .i64 i ∧ k0 < j ∧ j ≤ n ∧ i < j ∧ Hid (i = ((L.take j).filter fun t => !p t).length) ∧ RowW wr b c (mixed L p j) ∧ Turn (fun k => k = b) w wr)
      (fun _ s6 _ _ => n - (RowKit.intOf s6).toNat)
    case atStart => exact ⟨k0 + 1, k0, by go_num, rfl, by omega, by omega, by omega, Lib.hid (by rw [HFC.out, List.length_take, Nat.min_eq_left (by have := HN.out; omega)]), h0.below hb1, L6.Turn.of_keep hb1⟩
    case round =>
      obtain ⟨j, i, rfl, rfl, hkj, hjn, hij, hi, hX, hT⟩ := hrel
      by_cases hlt : j < n
      · have hjL : j < L.length := by have := HN.out; omega
        have hcs := hX.cells (i := j) (by rw [mixed_len]; exact hjL)
        rw [mixed_get hjL] at hcs
        have hk := fun h => mixed_keep (p := p) hjL h
        have hs := fun h => mixed_skip (p := p) hjL h
        have hf := filter_snoc hjL (fun t => !p t)
        have hbl := hX.lt
        obtain ⟨x, hxe⟩ : ∃ x, x = L[j] := ⟨_, rfl⟩
        rw [← hxe] at hcs hk hs hf
        have hcall := fun W (hW : Turn (fun k => k = b) w W) => (show Calls Try.prog g (#[.agg (wnC x)] ++ lb) W (gives (.bool (p x)) W) from HP.out W x hW)
        have HS := Lib.hid (And.intro hk (And.intro hs hf))
        have hyb : Blk (wr.alloc (.cells (wnC x) 63)) wr.heap.size 63 (wnC x) := wbox_new wr _ x
        have hTa := hT.alloc (.cells (wnC x) 63)
        have hXa := hX.below (below_new wr (.cells (wnC x) 63))
        clear hk hs hf hxe hX hjL
        rcases Bool.eq_false_or_eq_true (p x) with hq | hq
        · rw [hq] at hcall
          have HQ := Lib.hid hq
          clear hq
          have HC := Lib.hid hcall
          clear hcall
          go_upto_region 8 with (first
            | (refine wpList_load_mid rfl _ _ rfl b (j * 2) rfl (wnL x) _ hcs Try.underlying63 rfl wnInfo ?_)
            | (refine wpList_store_new rfl _ _ _ rfl wr (wnC x) rfl rfl _ _ wnInfo rfl (wnC_ones _) ?_)
            | go_in)
          clear h0 hcs
          go_wp2_with (first
            | (refine wpList_row_at rfl _ _ rfl wr.heap.size rfl _ _ _ _ hyb Try.underlying63 rfl (by kernel_rfl) ?_)
            | (go_at_fn g; refine (HC.out _ hTa).mono ?_; unfold gives; rintro e w2 ⟨rfl, hb2⟩)
            | go_in)
          go_roundw
          case rel =>
            refine ⟨j + 1, i, by go_num, rfl, by omega, by omega, by omega, Lib.hid ?_, ?_, hTa.kept hb2⟩
            · rw [HS.out.2.2, if_neg (by simp [HQ.out]), List.append_nil]; exact hi.out
            · rw [HS.out.2.1 HQ.out]; exact hXa.below hb2
          case measure => simp [RowKit.intOf]; omega
        · rw [hq] at hcall
          have HQ := Lib.hid hq
          clear hq
          have HC := Lib.hid hcall
          clear hcall
          have hlen : i < (mixed L p j).length := by rw [mixed_len]; have := HN.out; omega
          go_upto_region 8 with (first
            | (refine wpList_load_mid rfl _ _ rfl b (j * 2) rfl (wnL x) _ hcs Try.underlying63 rfl wnInfo ?_)
            | (refine wpList_store_new rfl _ _ _ rfl wr (wnC x) rfl rfl _ _ wnInfo rfl (wnC_ones _) ?_)
            | go_in)
          clear h0 hcs
          go_upto_region 9 with (first
            | (refine wpList_row_at rfl _ _ rfl wr.heap.size rfl _ _ _ _ hyb Try.underlying63 rfl (by kernel_rfl) ?_)
            | (go_at_fn g; refine (HC.out _ hTa).mono ?_; unfold gives; rintro e w2 ⟨rfl, hb2⟩
               have hyc := hyb.below hb2 hyb.lt
               have hXc := hXa.below hb2
               have hth := hXc.there (i := i) (n := 2) (by omega))
            | go_in)
          go_upto_region 10 with (first
            | (refine wpList_row_at rfl _ _ rfl wr.heap.size rfl _ _ _ _ hyc Try.underlying63 rfl (by kernel_rfl) ?_)
            | (refine wpList_store_mid rfl _ _ _ rfl b (i * 2) (wnC x) rfl rfl hth (by kernel_rfl) (wnC_ones _) ?_))
          have hXd : RowW (w2.setCells b (i * 2) (wnC x).toList) b c ((mixed L p j).set i x) := hXc.store hlen x
          have hTd : Turn (fun k => k = b) w (w2.setCells b (i * 2) (wnC x).toList) := (hTa.kept hb2).trans (turn_cells b (wnL x) (i * 2) w2) (fun k hk => .inl hk)
          refine name_world (fun w3 hw3 => ?_)
          rw [← hw3] at hXd hTd
          clear hw3 hXc hTa hyc hth hb2 hyb hXa hT
          go_wp2
          go_roundw
          case rel =>
            refine ⟨j + 1, i + 1, by go_num, by go_num, by omega, by omega, by omega, Lib.hid ?_, ?_, ?_⟩
            · rw [HS.out.2.2, if_pos (by simp [HQ.out]), List.length_append, ← hi.out]; rfl
            · rw [HS.out.1 HQ.out, ← hi.out]; exact hXd
            · exact hTd
          case measure => simp [RowKit.intOf]; omega
      · obtain rfl : j = n := by omega
        have hln : j = L.length := HN.out
        have HF := Lib.hid (show mixed L p j = (L.filter fun t => !p t) ++ L.drop i by unfold mixed; rw [hi.out, hln, List.take_length])
        have hil : i = (L.filter fun t => !p t).length := by rw [hi.out, hln, List.take_length]
        have hth := hX.there (i := i) (n := (j - i) * 2) (by omega)
        obtain ⟨vs, hvs⟩ := run_clear_wn wr 0 b (i * 2) (j - i) (c - i) (by omega) hth
        have HIL := Lib.hid hil
        clear h0 hln hil hth
        go_wp2
        go_ret
        have hcut := hX.cut i vs
        rw [HF.out, HIL.out, List.take_left] at hcut
        have hr := hcut.row (base := 0) (Nat.zero_le _)
        rw [← HIL.out] at hr ⊢
        exact ⟨_, rfl, hr, fun k hk => hk, (hT.trans (turn_cells b vs (i * 2) wr) (fun k hk => .inl hk)).mono fun k _ hk => by rw [hk]; rfl⟩
end Go.Proofs.Ytglnocclhhdbbaa
