/-
  Transactions struck out of a row by a function: slices.DeleteFunc, at this struct.
-/
import Derived.Test.YtohkjleppohinaaDoorRow
import Derived.Shelf.SlicesE.DeleteFunc
set_option linter.unusedSimpArgs false
set_option linter.unusedVariables false
set_option maxRecDepth 10000
namespace Go.Proofs.YtohkjleppohinaaDoor
open Go.RowKit Go.Lib
open L3 (Blk Reads block_of_add add_of_add)
open L6 (Turn moreB fresh From In)

theorem RowX.rd {w : World} {b cap : Nat} {M : List Txx} (h : RowX w b cap M) : Rd txL 7 w (some ⟨b, 0, none⟩) M := fun i hi => by
  refine ⟨_, rfl, h.lt, fun j u hj => ?_⟩
  rw [Addr.add_lit, Addr.add_lit, Nat.zero_add]
  exact h.cells hi j u hj
/-- What a function that is asked about transactions answers, whatever has turned in these blocks. -/
def Asks (g : Nat) (lb : Array Value) (p : Txx → Bool) (S : Nat → Prop) (w : World) : Prop :=
  ∀ W x, x.wf 1000 → Turn S w W → Calls Tryd.prog g (#[.agg (txC x)] ++ lb) W (gives (.bool (p x)) W)
theorem Asks.below {g : Nat} {lb : Array Value} {p : Txx → Bool} {S : Nat → Prop} {w : World} (h : Asks g lb p S w) : PredBelow Tryd.prog g lb encF (fun x => p x.1) w := fun W x hb => by
  refine (h W x.1 x.2 (L6.Turn.of_keep hb)).mono ?_
  rintro e w' ⟨rfl, hb'⟩
  exact ⟨rfl, nxt hb hb'⟩
theorem Asks.later {g : Nat} {lb : Array Value} {p : Txx → Bool} {S : Nat → Prop} {w w1 : World} (h : Asks g lb p S w) (ht : Turn S w w1) : Asks g lb p S w1 := fun W x hx hW => h W x hx (ht.trans hW fun i hi => .inl hi)
theorem first_cut {L : List Txx} {p : Txx → Bool} {k : Nat} (hk : k < L.length) (ht : p L[k] = true) (hall : ∀ j (h : j < k), p (L[j]'(by omega)) = false) : (L.take (k + 1)).filter (fun t => !p t) = L.take k := by
  rw [filter_snoc hk, if_neg (by simp [ht]), List.append_nil, List.filter_eq_self]
  intro t ht2
  obtain ⟨j, hj, rfl⟩ := List.getElem_of_mem ht2
  rw [List.length_take] at hj
  rw [List.getElem_take, hall j (by omega)]
  rfl
/-- What is kept of the first ones, and the rest as it was. -/
def mixed (L : List Txx) (p : Txx → Bool) (j : Nat) : List Txx := (L.take j).filter (fun t => !p t) ++ L.drop ((L.take j).filter fun t => !p t).length
theorem kept_le (L : List Txx) (p : Txx → Bool) (j : Nat) : ((L.take j).filter fun t => !p t).length ≤ min j L.length := by
  have := List.length_filter_le (fun t => !p t) (L.take j)
  rw [List.length_take] at this
  exact this
theorem mixed_len {L : List Txx} {p : Txx → Bool} {j : Nat} : (mixed L p j).length = L.length := by
  have := kept_le L p j
  unfold mixed
  rw [List.length_append, List.length_drop]
  omega
theorem mixed_get {L : List Txx} {p : Txx → Bool} {j : Nat} (h : j < L.length) : (mixed L p j)[j]'(by rw [mixed_len]; exact h) = L[j] := by
  have := kept_le L p j
  unfold mixed
  rw [List.getElem_append_right (by omega), List.getElem_drop]
  congr 1
  omega
theorem mixed_skip {L : List Txx} {p : Txx → Bool} {j : Nat} (h : j < L.length) (hp : p L[j] = true) : mixed L p (j + 1) = mixed L p j := by
  unfold mixed
  rw [filter_snoc h, if_neg (by simp [hp]), List.append_nil]
theorem mixed_keep {L : List Txx} {p : Txx → Bool} {j : Nat} (h : j < L.length) (hp : p L[j] = false) : mixed L p (j + 1) = (mixed L p j).set ((L.take j).filter fun t => !p t).length L[j] := by
  have hl := kept_le L p j
  unfold mixed
  rw [filter_snoc h, if_pos (by simp [hp])]
  generalize hF : (L.take j).filter (fun t => !p t) = F at hl ⊢
  rw [List.set_append_right _ _ (Nat.le_refl _), Nat.sub_self, List.length_append, List.length_singleton, List.append_assoc]
  congr 1
  rw [List.drop_eq_getElem_cons (show F.length < L.length by omega)]
  rfl
theorem tx_info : (Tryd.prog.info? 35).map (·.size) = some (txC zeroX).size := by kernel_rfl
set_option maxHeartbeats 4000000 in
set_option maxRecDepth 100000 in
theorem delete_any (base : Nat) (v : Value) (L : List Txx) (w : World) (g : Nat) (lb : Array Value) (eg : ∀ args w, (callFunc g args).run Tryd.prog w = .ok (.enter g args) w) (p : Txx → Bool) (hl : ∀ t ∈ L, t.wf 1000) (hn : L.length ≤ 1000000)
    (hrow : w.ownsRow base 35 7 v L.length (L.flatMap txL)) (hp : Asks g lb p (fun k => v.ownBlock = some k) w) :
    Calls Tryd.prog 39 #[v, .func (.func g) #[] lb] w fun e w' =>
      ∃ v', e = .returned v' ∧ w'.ownsRow base 35 7 v' (L.filter fun t => !p t).length ((L.filter fun t => !p t).flatMap txL) ∧ (∀ k, v'.ownBlock = some k → v.ownBlock = some k) ∧ Turn (fun k => v.ownBlock = some k) w w' := by
  obtain ⟨A, c, rfl, hrd⟩ : ∃ A c, v = .slice A L.length c ∧ Rd txL 7 w A L := by
    obtain ⟨A, c, hv, hr, _⟩ := Rd.of_row (f := txL) (k := 7) (fun _ => rfl) hrow
    exact ⟨A, c, hv, hr⟩
  have hidx := idxL_any A c g lb eg p L w hl hp.below hrd hn
  rcases idxByFrom_spec (fun _ y => p y.1) default (fitX L hl) 0 with ⟨e1, hall⟩ | ⟨k0, hk0, e1, ht, hall⟩
  · have e2 : Lib.idxBy (fun _ y => p y.1) (fitX L hl) default = -1 := e1
    rw [e2] at hidx
    have HE := Lib.hid (show L.filter (fun t => !p t) = L from List.filter_eq_self.2 fun t ht => by
      obtain ⟨j, hj, rfl⟩ := List.getElem_of_mem ht
      have := hall j (by rw [fitX_len]; exact hj)
      rw [fitX_get L hl j hj] at this
      rw [this]; rfl)
    have HR := Lib.hid hrow
    obtain ⟨n, hn2⟩ : ∃ n, n = L.length := ⟨_, rfl⟩
    rw [← hn2] at hidx
    rw [← hn2]
    have HN := Lib.hid hn2
    clear hrow hp hrd hall e1 e2 hn2 hn hl
    go_enter Tryd.func39, Tryd.ntmps39
    go_wp2_with (first
      | (go_at_call 37; (with_reducible refine hidx.mono ?_); unfold gives; rintro e w1 ⟨rfl, hb1⟩)
      | go_in)
    go_ret
    refine ⟨_, rfl, ?_, fun k hk => hk, L6.Turn.of_keep hb1⟩
    rw [HE.out]
    have ht : Turn (fun _ => False) w w1 := L6.Turn.of_keep hb1
    have := ht.row HR.out (fun k _ h => h)
    rw [← HN.out] at this ⊢
    exact this
  · rw [fitX_len] at hk0
    rw [fitX_get L hl k0 hk0] at ht
    have hall' : ∀ j (h : j < k0), p (L[j]'(by omega)) = false := fun j hj => by
      have := hall j hj
      rwa [fitX_get L hl j (by omega)] at this
    have hfc := first_cut hk0 ht hall'
    have e2 : Lib.idxBy (fun _ y => p y.1) (fitX L hl) default = (k0 : Int) := by unfold Lib.idxBy; rw [e1]; simp
    rw [e2] at hidx
    have hne1 : ((k0 : Int) == -1) = false := beq_eq_false_iff_ne.2 (by omega)
    obtain ⟨b, cap, hv, hbb, hX⟩ := row_of hrow (fun e => by rw [e] at hk0; exact absurd hk0 (by simp))
    injection hv with hv1 hv2 hv3
    subst hv1 hv3
    have HFC := Lib.hid hfc
    have h0 : RowX w b c (mixed L p (k0 + 1)) := by
      unfold mixed
      rw [hfc, List.length_take, Nat.min_eq_left (by omega), List.take_append_drop]
      exact hX
    have hcl : c ≤ maxLen ∧ L.length ≤ c := by obtain ⟨_, _, _, h1, h2, _⟩ := hX; exact ⟨h1, h2⟩
    obtain ⟨hcm, hcl⟩ := hcl
    obtain ⟨n, hn2⟩ : ∃ n, n = L.length := ⟨_, rfl⟩
    have hp' : Asks g lb p (fun k => k = b) w := fun W x hx ht => hp W x hx (ht.mono fun i _ hi => by subst hi; rfl)
    have HP := Lib.hid hp'
    rw [← hn2] at hidx hk0 hn
    have HL := Lib.hid hl
    have HN := Lib.hid hn2
    rw [← hn2]
    unfold maxLen at hcm
    rw [← hn2] at hcl
    clear hrow hrd hp hp' hall hall' e1 e2 ht hfc hX hn2 hl hv2
    go_enter Tryd.func39, Tryd.ntmps39
    go_wp2_with (first
      | (go_at_call 37; (with_reducible refine hidx.mono ?_); unfold gives; rintro e w1 ⟨rfl, hb1⟩)
      | go_in)
    go_loopw [5, 6, 7] (fun s5 s6 s7 wr => ∃ j i : Nat, s6 = .int .i64 j ∧ s5 = .int .i64 i ∧ k0 < j ∧ j ≤ n ∧ i < j ∧ Hid (i = ((L.take j).filter fun t => !p t).length) ∧ RowX wr b c (mixed L p j) ∧ Turn (fun k => k = b) w wr)
      (fun _ s6 _ _ => n - (RowKit.intOf s6).toNat)
    case atStart => exact ⟨k0 + 1, k0, by go_num, rfl, by omega, by omega, by omega, Lib.hid (by rw [HFC.out, List.length_take, Nat.min_eq_left (by have := HN.out; omega)]), h0.below hb1, L6.Turn.of_keep hb1⟩
    case round =>
      obtain ⟨j, i, rfl, rfl, hkj, hjn, hij, hi, hX, hT⟩ := hrel
      by_cases hlt : j < n
      · have hjL : j < L.length := by have := HN.out; omega
        have hcs := hX.cells (i := j) (by rw [mixed_len]; exact hjL)
        rw [mixed_get hjL] at hcs
        have hx := HL.out _ (List.getElem_mem hjL)
        have hk := fun h => mixed_keep (p := p) hjL h
        have hs := fun h => mixed_skip (p := p) hjL h
        have hf := filter_snoc hjL (fun t => !p t)
        have hbl := hX.lt
        obtain ⟨x, hxe⟩ : ∃ x, x = L[j] := ⟨_, rfl⟩
        rw [← hxe] at hcs hx hk hs hf
        have hcall := fun W (hW : Turn (fun k => k = b) w W) => HP.out W x hx hW
        have HS := Lib.hid (And.intro hk (And.intro hs hf))
        have hyb : Blk (wr.alloc (.cells (txC x) 35)) wr.heap.size 35 (txC x) := box_new wr _ x
        have hTa := hT.alloc (.cells (txC x) 35)
        have hXa := hX.below (below_box 35 x)
        clear hk hs hf hxe hX hjL
        rcases Bool.eq_false_or_eq_true (p x) with hq | hq
        · rw [hq] at hcall
          have HQ := Lib.hid hq
          clear hq
          have HC := Lib.hid hcall
          clear hcall
          go_upto_region 8 with (first
            | (refine wpList_load_mid rfl _ _ rfl b (j * 7) rfl (txL x) _ hcs Tryd.underlying35 rfl txInfo ?_)
            | (refine wpList_store_new rfl _ _ _ rfl wr (txC x) rfl rfl _ _ tx_info rfl (txC_ones _) ?_)
            | go_in)
          clear h0 hcs
          go_wp2_with (first
            | (refine wpList_row_at rfl _ _ rfl wr.heap.size rfl _ _ _ _ hyb Tryd.underlying35 rfl (by kernel_rfl) ?_)
            | (go_at_fn g; refine (HC.out _ hTa).mono ?_; unfold gives; rintro e w2 ⟨rfl, hb2⟩)
            | go_in)
          go_roundw
          case rel =>
            refine ⟨j + 1, i, by go_num, rfl, by omega, by omega, by omega, Lib.hid ?_, ?_, hTa.kept hb2⟩
            · rw [HS.out.2.2, if_neg (by simp [HQ.out]), List.append_nil]; exact hi.out
            · rw [HS.out.2.1 HQ.out]; exact hXa.below hb2
          case measure => simp [RowKit.intOf]; omega
        · rw [hq] at hcall
          have HQ := Lib.hid hq
          clear hq
          have HC := Lib.hid hcall
          clear hcall
          have hlen : i < (mixed L p j).length := by rw [mixed_len]; have := HN.out; omega
          go_upto_region 8 with (first
            | (refine wpList_load_mid rfl _ _ rfl b (j * 7) rfl (txL x) _ hcs Tryd.underlying35 rfl txInfo ?_)
            | (refine wpList_store_new rfl _ _ _ rfl wr (txC x) rfl rfl _ _ tx_info rfl (txC_ones _) ?_)
            | go_in)
          clear h0 hcs
          go_upto_region 9 with (first
            | (refine wpList_row_at rfl _ _ rfl wr.heap.size rfl _ _ _ _ hyb Tryd.underlying35 rfl (by kernel_rfl) ?_)
            | (go_at_fn g; refine (HC.out _ hTa).mono ?_; unfold gives; rintro e w2 ⟨rfl, hb2⟩
               have hyc := hyb.below hb2 hyb.lt
               have hXc := hXa.below hb2
               have hth := hXc.there (i := i) (n := 7) (by omega))
            | go_in)
          go_upto_region 10 with (first
            | (refine wpList_row_at rfl _ _ rfl wr.heap.size rfl _ _ _ _ hyc Tryd.underlying35 rfl (by kernel_rfl) ?_)
            | (refine wpList_store_mid rfl _ _ _ rfl b (i * 7) (txC x) rfl rfl hth (by kernel_rfl) (txC_ones _) ?_))
          have hXd : RowX (w2.setCells b (i * 7) (txC x).toList) b c ((mixed L p j).set i x) := hXc.store hlen x
          have hTd : Turn (fun k => k = b) w (w2.setCells b (i * 7) (txC x).toList) := (hTa.kept hb2).trans (turn_cells b (txL x) (i * 7) w2) (fun k hk => .inl hk)
          refine name_world (fun w3 hw3 => ?_)
          rw [← hw3] at hXd hTd
          clear hw3 hXc hTa hyc hth hb2 hyb hXa hT
          go_wp2
          go_roundw
          case rel =>
            refine ⟨j + 1, i + 1, by go_num, by go_num, by omega, by omega, by omega, Lib.hid ?_, ?_, ?_⟩
            · rw [HS.out.2.2, if_pos (by simp [HQ.out]), List.length_append, ← hi.out]; rfl
            · rw [HS.out.1 HQ.out, ← hi.out]; exact hXd
            · exact hTd
          case measure => simp [RowKit.intOf]; omega
      · obtain rfl : j = n := by omega
        have hln : j = L.length := HN.out
        have HF := Lib.hid (show mixed L p j = (L.filter fun t => !p t) ++ L.drop i by unfold mixed; rw [hi.out, hln, List.take_length])
        have hil : i = (L.filter fun t => !p t).length := by rw [hi.out, hln, List.take_length]
        have hth := hX.there (i := i) (n := (j - i) * 7) (by omega)
        obtain ⟨vs, hvs⟩ := run_clear_txs wr 0 b (i * 7) (j - i) (c - i) (by omega) hth
        have HIL := Lib.hid hil
        clear h0 hln hil hth
        go_wp2
        go_ret
        have hcut := hX.cut i vs
        rw [HF.out, HIL.out, List.take_left] at hcut
        have hr := hcut.row (base := base) hbb
        rw [← HIL.out] at hr ⊢
        exact ⟨_, rfl, hr, fun k hk => hk, (hT.trans (turn_cells b vs (i * 7) wr) (fun k hk => .inl hk)).mono fun k _ hk => by rw [hk]; rfl⟩
end Go.Proofs.YtohkjleppohinaaDoor
