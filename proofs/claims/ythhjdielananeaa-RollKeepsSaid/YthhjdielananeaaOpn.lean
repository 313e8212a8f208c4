/-
  A roll opened on a tape that holds lines of entries and a torn end.
-/
import Derived.Test.YthhjdielananeaaEns
import Derived.Test.YthhjdielananeaaPut2
set_option linter.unusedSimpArgs false
set_option linter.unusedVariables false
set_option maxRecDepth 10000
namespace Go.Proofs.Ythhjdielananeaa
open Go.RowKit Go.Lib
open L3 (Blk Reads block_of_add add_of_add)
open L6 (Turn moreB fresh From In Apart)

/-- The tape behind it: without the torn end. -/
def openT (t : Tp) (n : Nat) : Tp := if n = 0 then t else backT t ((t.stop : Int) - (n : Int))
theorem may_take {L : List Ent} (h : risesE L) (k : Nat) (x : Ent) (hx : L[k]? = some x) : mayE x = 0 := rises_may h x (List.mem_of_getElem? hx)
theorem rl_snoc {L : List Ent} {k : Nat} {x : Ent} (h : L[k]? = some x) : cntR (rlOf (L.take k)) x = rlOf (L.take (k + 1)) := by
  rw [cnt_snoc, List.take_add_one, h]
  rfl
theorem recs_len (L : List Ent) : (recsE L).length ≤ L.length := by
  have : ∀ (M : List Ent) (a : List (List UInt8)), (M.foldl (fun a x => if x.kind = 2 then [] else a ++ [x.b]) a).length ≤ a.length + M.length := by
    intro M
    induction M with
    | nil => intro a; exact Nat.le_refl _
    | cons x M ih =>
      intro a
      rw [List.foldl_cons]
      refine Nat.le_trans (ih _) ?_
      split
      · simp; omega
      · simp; omega
  have h := this L []
  cases L with
  | nil => exact Nat.zero_le _
  | cons x L =>
    rw [List.length_nil, Nat.zero_add] at h
    exact h
theorem build_rl (p : Nat) (w : World) : (Instr.build 94 #[(0, .pointer (some ⟨p, 0, none⟩)), (1, .int .i64 1)]).run Try.prog w = .ok (.agg (rlC p (rlOf []) (.slice none 0 0))) w := run_build w _ _ _ (by kernel_rfl)
theorem fit_none : (rlOf []).fit := ⟨⟨by decide, by decide⟩, Nat.zero_le _, Nat.zero_le _, fun b hb => by cases hb⟩
/-- A round of counting: k entries count. -/
structure OpAt (w6 : World) (g gt : Nat) (L : List Ent) (k : Nat) (R : Nat → Prop) (W : World) : Prop where
  rl : Rll W R g gt (rlOf (L.take k))
  new : ∀ q, R q → w6.heap.size ≤ q
  inn : In W R
  bw : Below w6.heap.size w6 W
theorem OpAt.next {w6 W W1 W' : World} {g gt : Nat} {L : List Ent} {k : Nat} {R : Nat → Prop} {x : Ent} (h : OpAt w6 g gt L k R W) (hx : L[k]? = some x) (hb : Below W.heap.size W W1) (hR : Rll W' (moreB R W1 W') g gt (cntR (rlOf (L.take k)) x)) (hU : Turn R W1 W') : OpAt w6 g gt L (k + 1) (moreB R W1 W') W' := by
  have hs := hb.size
  have hs6 := h.bw.size
  rw [rl_snoc hx] at hR
  refine ⟨hR, fun q hq => ?_, (h.inn.le hs).more hU.size, (h.bw.trans (hb.mono hs6)).trans (hU.below h.new (by omega))⟩
  rcases hq with hq | hq
  · exact h.new q hq
  · have := hq.1; omega
/-- What Open leaves. -/
structure OpenR (T : Nat → Prop) (gt : Nat) (L : List Ent) (t' : Tp) (w : World) (g : Nat) (w' : World) : Prop where
  rol : Rol w' (moreB T w w') g gt (rlOf L) t'
  turn : Turn T w w'
def OpenPost (T : Nat → Prop) (gt : Nat) (L : List Ent) (t' : Tp) (w : World) (e : Ending) (w' : World) : Prop := ∃ g, e = .returned (.tuple #[.pointer (some ⟨g, 0, none⟩), .int .i64 0]) ∧ OpenR T gt L t' w g w'
theorem OpAt.done {w w6 W : World} {g gt : Nat} {L : List Ent} {R T T6 : Nat → Prop} {t' : Tp} (h : OpAt w6 g gt L L.length R W) (hT6 : Tpe w6 T6 gt t') (i6 : In w6 T6) (h6 : ∀ k, T6 k → T k ∨ fresh w w6 k) (hU : Turn T w w6) : OpenR T gt L t' w g W := by
  have hs := h.bw.size
  have hs0 := hU.size
  have hr := h.rl
  rw [List.take_length] at hr
  refine ⟨⟨R, T6, hr, hT6.below h.bw, h.inn, i6.le hs, fun k hk ht => ?_, fun k hk => ?_, fun k hk => ?_⟩, hU.kept h.bw⟩
  · have := h.new k hk; have := i6 k ht; omega
  · exact .inr ⟨by have := h.new k hk; omega, h.inn k hk⟩
  · rcases h6 k hk with h | h
    · exact .inl h
    · exact .inr ⟨h.1, by have := h.2; omega⟩
set_option maxHeartbeats 4000000 in
set_option maxRecDepth 100000 in
theorem open_any {w : World} {T : Nat → Prop} {gt : Nat} {t : Tp} (hT : Tpe w T gt t) (iT : In w T) (ho : t.on = true) (L : List Ent) (tn : List UInt8) (hh : t.held = leftT L tn 0) (ht : (0 : UInt8) ∉ tn) (hr : risesE L) (hf : tn = [] ∨ t.fuse = none) (hl : t.held.length ≤ 10000000) :
    Calls Try.prog 19 #[.pointer (some ⟨gt, 0, none⟩)] w (OpenPost T gt L (openT t tn.length) w) := by
  have hok := hT.ok
  have HR := Lib.hid (read_on hT ho)
  have hLl : L.length ≤ 10000000 := by
    have h0 := hl
    rw [hh] at h0
    unfold leftT flatE at h0
    rw [List.length_append, List.drop_zero] at h0
    have : ∀ M : List Ent, M.length ≤ (M.flatMap lineE).length := by
      intro M
      induction M with
      | nil => exact Nat.le_refl _
      | cons a M ih => rw [List.flatMap_cons, List.length_append, List.length_cons]; have := line_pos a; omega
    have := this L
    omega
  have htl : tn.length ≤ t.held.length := by rw [hh]; unfold leftT; rw [List.length_append]; omega
  have HEN := Lib.hid (fun W => entries_any L tn ht hr (by rw [← hh]; omega) W)
  rw [← hh] at HEN
  have HTT := Lib.hid (And.intro hT iT)
  have HM := Lib.hid (fun k x hx => may_take hr k x hx)
  have HLL := Lib.hid hLl
  have hst : t.first + t.held.length ≤ 1000000000 := hok.2.stop
  have HS := Lib.hid (show (t.stop : Int) = (t.first : Int) + (t.held.length : Int) by unfold Tp.stop; push_cast; rfl)
  have HBE := Lib.hid (show tn ≠ [] → backE t ((t.stop : Int) - (tn.length : Int)) = 0 from fun hne => by
    have hfn : t.fuse = none := hf.resolve_left hne
    have h1 := HS.out
    have hcan : t.can 1 = 1 := by unfold Tp.can; rw [hfn]
    unfold backE strokeE
    rw [if_neg (by rw [ho]; decide), if_neg (by omega), if_neg (by rw [ho]; decide), if_neg (by rw [hcan]; decide)])
  obtain ⟨b, hb⟩ : ∃ b, b = t.held := ⟨_, rfl⟩
  obtain ⟨f, hff⟩ : ∃ f, f = t.first := ⟨_, rfl⟩
  obtain ⟨n, hn⟩ : ∃ n, n = L.length := ⟨_, rfl⟩
  have HBN := Lib.hid (And.intro hb hff)
  have HN := Lib.hid hn
  have HRR : ReadPost t w = fun e w' => ∃ A c, e = .returned (.tuple #[.int .i64 f, .slice A b.length c, .int .i64 0]) ∧ Told w w' A c b := by rw [hb, hff]; rfl
  rw [HRR] at HR
  rw [← hb] at HEN hst htl hl HS
  rw [← hff] at hst HS
  rw [← hn] at HEN hLl
  clear hT iT ho hh ht hr hf hok hb hff hn HRR
  by_cases hne : tn = []
  · subst hne
    go_enter Try.func19, Try.ntmps19
    go_upto_region 4 with (first
      | (go_at_call 28; refine HR.out.mono ?_; rintro e w1 ⟨A1, c1, rfl, hT1⟩)
      | go_in)
    have hcv : (convert 53 9 (.slice A1 b.length c1)).run Try.prog w1 = .ok (.string (str b)) w1 := by
      have := conv_reads (c := c1) hT1.rd (Nat.le_refl _)
      rw [List.take_length] at this
      exact this
    have hb1 := hT1.bw
    obtain ⟨bl, hbl⟩ : ∃ bl, bl = b.length := ⟨_, rfl⟩
    rw [← hbl] at hcv hst htl hl HS
    rw [← hbl]
    clear hT1 hbl
    go_upto_region 5 with (first
      | (go_at_call 40; refine (HEN.out _).mono ?_; rintro e w2 ⟨A2, c2, rfl, hD2, hn2, hb2⟩)
      | go_in)
    have hbw2 : Below w.heap.size w w2 := nxt hb1 hb2
    have HOFF := Lib.hid (show ∀ ad, A2 = some ad → w.heap.size ≤ ad.block from fun ad e => Nat.le_trans hb1.size (hn2 ad e))
    clear hcv hb1 hb2 hn2 HEN HR
    have hT2 := HTT.out.1.below hbw2
    have iT2 := HTT.out.2.le hbw2.size
    go_upto_region 11 with fail
    have HW6 := Lib.hid (show Tpe w2 T gt (openT t 0) ∧ In w2 T ∧ (∀ k, T k → T k ∨ fresh w w2 k) ∧ Turn T w w2 from ⟨hT2, iT2, fun k h => .inl h, L6.Turn.of_keep hbw2⟩)
    obtain ⟨T6, hT6⟩ : ∃ T6, T6 = T := ⟨_, rfl⟩
    have hD6 : Rd enL 3 w2 A2 L := hD2
    obtain ⟨w6, hw6⟩ : ∃ w6, w6 = w2 := ⟨_, rfl⟩
    rw [← hw6] at HW6 hD6 ⊢
    have HX6 := Lib.hid (show ∃ T6, Tpe w6 T6 gt (openT t 0) ∧ In w6 T6 ∧ (∀ k, T6 k → T k ∨ fresh w w6 k) ∧ Turn T w w6 from ⟨T, HW6.out⟩)
    obtain ⟨q, hq⟩ : ∃ q, q = 0 := ⟨_, rfl⟩
    clear hT2 iT2 hD2 hw6 hT6 HW6 hbw2
    have hb7 := below_new w6 (.cells (rlC gt (rlOf []) (.slice none 0 0)) 94)
    have hk7 := Blk.new w6 94 (rlC gt (rlOf []) (.slice none 0 0))
    have hO := Lib.hid (show OpAt w6 w6.heap.size gt L 0 (fun k => k = w6.heap.size) (w6.alloc (.cells (rlC gt (rlOf []) (.slice none 0 0)) 94)) from
      ⟨⟨.slice none 0 0, hk7, World.ownsRow_nil _ _ _ _, fit_none, rfl, fun k e => by simp [Value.ownBlock] at e⟩, fun k e => by rw [e]; exact Nat.le_refl _, fun k e => by rw [e]; exact hk7.lt, hb7⟩)
    have hrun := build_rl gt w6
    obtain ⟨w7, hw7⟩ : ∃ w7, w6.alloc (.cells (rlC gt (rlOf []) (.slice none 0 0)) 94) = w7 := ⟨_, rfl⟩
    rw [hw7] at hO
    have HD6 := Lib.hid hD6
    clear hb7 hk7 hD6
    go_upto_region 12 with (first
      | (refine wpList_build rfl _ _ rfl #[(0, .pointer (some ⟨gt, 0, none⟩)), (1, .int .i64 1)] rfl hrun ?_)
      | go_in)
    clear hw7 hrun
    obtain ⟨g, hg⟩ : ∃ g, g = w6.heap.size := ⟨_, rfl⟩
    rw [← hg] at hO ⊢
    clear hg
    go_wp2
    go_loopw [50] (fun i wr => ∃ (k : Nat) (R : Nat → Prop), i = .int .i64 k ∧ k ≤ n ∧ OpAt w6 g gt L k R wr) (fun i _ => n - (RowKit.intOf i).toNat)
    case atStart => exact ⟨0, _, rfl, Nat.zero_le _, hO.out⟩
    case round =>
      obtain ⟨k, R, rfl, hk, hE⟩ := hrel
      have HE := Lib.hid hE
      clear hO
      by_cases hlt : k < n
      · have hkl : k < L.length := by have := HN.out; omega
        obtain ⟨x, hxk⟩ : ∃ x, L[k]? = some x := ⟨_, List.getElem?_eq_getElem hkl⟩
        obtain ⟨_, hxe⟩ := List.getElem?_eq_some_iff.1 hxk
        obtain ⟨ad, hAd, _, hcs⟩ := (HD6.out.below hE.bw) k hkl
        rw [hxe] at hcs
        have hm := HM.out k x hxk
        have hbn := below_new wr (.cells (enC x) 31)
        have hyb := Blk.new wr 31 (enC x)
        have hrl : (rlOf (L.take k)).recs.length + 1 ≤ 10000000 := by
          have h1 := recs_len (L.take k)
          rw [List.length_take_of_le (by omega)] at h1
          have h2 : (rlOf (L.take k)).recs = recsE (L.take k) := rfl
          rw [h2]
          omega
        have HC := Lib.hid (count_any (hE.rl.below hbn) x hm hrl)
        have HNX := Lib.hid (fun W' hR hU => hE.next (W' := W') hxk hbn hR hU)
        subst hAd
        clear hE hm hrl hxe hkl hbn
        go_wp2_with (first
          | (refine wpList_cells_at rfl _ _ rfl (ad.add (k * 3)) rfl (enL x) _ hcs Try.underlying31 rfl enInfo ?_)
          | (refine wpList_store_new rfl _ _ _ rfl wr (enC x) rfl rfl _ _ enInfo rfl (enC_ones _) ?_)
          | (refine wpList_row_at rfl _ _ rfl wr.heap.size rfl _ _ _ _ hyb Try.underlying31 rfl enInfo ?_)
          | (go_at_call 42; refine HC.out.mono ?_; rintro e w9 hp; obtain ⟨rfl, hR9, hU9⟩ := hp)
          | go_in)
        go_roundw
        case rel => exact ⟨k + 1, _, by go_num, by omega, HNX.out _ hR9 hU9⟩
        case measure => simp [RowKit.intOf]; omega
      · have hke : k = L.length := by have := HN.out; omega
        have HK := Lib.hid hke
        clear hE hke
        go_wp2_with fail
        go_ret2
        obtain ⟨T6, a1, a2, a3, a4⟩ := HX6.out
        have hE := HE.out
        have hke := HK.out
        subst hke
        exact ⟨g, rfl, hE.done a1 a2 a3 a4⟩
  ·
    go_enter Try.func19, Try.ntmps19
    go_upto_region 4 with (first
      | (go_at_call 28; refine HR.out.mono ?_; rintro e w1 ⟨A1, c1, rfl, hT1⟩)
      | go_in)
    have hcv : (convert 53 9 (.slice A1 b.length c1)).run Try.prog w1 = .ok (.string (str b)) w1 := by
      have := conv_reads (c := c1) hT1.rd (Nat.le_refl _)
      rw [List.take_length] at this
      exact this
    have hb1 := hT1.bw
    obtain ⟨bl, hbl⟩ : ∃ bl, bl = b.length := ⟨_, rfl⟩
    rw [← hbl] at hcv hst htl hl HS
    rw [← hbl]
    clear hT1 hbl
    go_upto_region 5 with (first
      | (go_at_call 40; refine (HEN.out _).mono ?_; rintro e w2 ⟨A2, c2, rfl, hD2, hn2, hb2⟩)
      | go_in)
    have hbw2 : Below w.heap.size w w2 := nxt hb1 hb2
    have HOFF := Lib.hid (show ∀ ad, A2 = some ad → w.heap.size ≤ ad.block from fun ad e => Nat.le_trans hb1.size (hn2 ad e))
    clear hcv hb1 hb2 hn2 HEN HR
    have hT2 := HTT.out.1.below hbw2
    have iT2 := HTT.out.2.le hbw2.size
    obtain ⟨q, hq⟩ : ∃ q, q = tn.length := ⟨_, rfl⟩
    have hq0 : 0 < q := by rw [hq]; exact List.length_pos_iff.2 hne
    have HBK := Lib.hid (back_any hT2 iT2 ((t.stop : Int) - (tn.length : Int)))
    have HE0 := HBE.out hne
    rw [HE0, ← hq] at HBK
    have HOT := Lib.hid (show openT t q = backT t ((t.stop : Int) - (q : Int)) by unfold openT; rw [if_neg (by omega)])
    rw [← hq] at htl
    have HQ := Lib.hid hq
    rw [HS.out] at HBK
    rw [← hq]
    clear hT2 iT2 HE0 hq
    go_upto_region 11 with (first
      | (go_at_call 41; refine HBK.out.mono ?_; rintro e w6 hp; obtain ⟨rfl, hT6, hU6⟩ := hp)
      | go_in)
    have hs6 := hU6.size
    have hs2 := hbw2.size
    have hoff : ∀ ad, A2 = some ad → ¬ T ad.block := fun ad e hk => by
      have h1 := HOFF.out ad e
      have h2 := HTT.out.2 _ hk
      omega
    have hD6 : Rd enL 3 w6 A2 L := hD2.kept hU6 hoff
    have HX6 := Lib.hid (show ∃ T6, Tpe w6 T6 gt (openT t q) ∧ In w6 T6 ∧ (∀ k, T6 k → T k ∨ fresh w w6 k) ∧ Turn T w w6 from ⟨_, by rw [HOT.out, HS.out]; exact hT6, (HTT.out.2.le hs2).more hs6, fun k h => h.imp id fun h => ⟨by have := h.1; omega, h.2⟩, (L6.Turn.of_keep hbw2).trans hU6 (fun i h => .inl h)⟩)
    clear hD2 hT6 hU6 hs6 hs2 hoff hbw2 HBK
    have hb7 := below_new w6 (.cells (rlC gt (rlOf []) (.slice none 0 0)) 94)
    have hk7 := Blk.new w6 94 (rlC gt (rlOf []) (.slice none 0 0))
    have hO := Lib.hid (show OpAt w6 w6.heap.size gt L 0 (fun k => k = w6.heap.size) (w6.alloc (.cells (rlC gt (rlOf []) (.slice none 0 0)) 94)) from
      ⟨⟨.slice none 0 0, hk7, World.ownsRow_nil _ _ _ _, fit_none, rfl, fun k e => by simp [Value.ownBlock] at e⟩, fun k e => by rw [e]; exact Nat.le_refl _, fun k e => by rw [e]; exact hk7.lt, hb7⟩)
    have hrun := build_rl gt w6
    obtain ⟨w7, hw7⟩ : ∃ w7, w6.alloc (.cells (rlC gt (rlOf []) (.slice none 0 0)) 94) = w7 := ⟨_, rfl⟩
    rw [hw7] at hO
    have HD6 := Lib.hid hD6
    clear hb7 hk7 hD6
    go_upto_region 12 with (first
      | (refine wpList_build rfl _ _ rfl #[(0, .pointer (some ⟨gt, 0, none⟩)), (1, .int .i64 1)] rfl hrun ?_)
      | go_in)
    clear hw7 hrun
    obtain ⟨g, hg⟩ : ∃ g, g = w6.heap.size := ⟨_, rfl⟩
    rw [← hg] at hO ⊢
    clear hg
    go_wp2
    go_loopw [50] (fun i wr => ∃ (k : Nat) (R : Nat → Prop), i = .int .i64 k ∧ k ≤ n ∧ OpAt w6 g gt L k R wr) (fun i _ => n - (RowKit.intOf i).toNat)
    case atStart => exact ⟨0, _, rfl, Nat.zero_le _, hO.out⟩
    case round =>
      obtain ⟨k, R, rfl, hk, hE⟩ := hrel
      have HE := Lib.hid hE
      clear hO
      by_cases hlt : k < n
      · have hkl : k < L.length := by have := HN.out; omega
        obtain ⟨x, hxk⟩ : ∃ x, L[k]? = some x := ⟨_, List.getElem?_eq_getElem hkl⟩
        obtain ⟨_, hxe⟩ := List.getElem?_eq_some_iff.1 hxk
        obtain ⟨ad, hAd, _, hcs⟩ := (HD6.out.below hE.bw) k hkl
        rw [hxe] at hcs
        have hm := HM.out k x hxk
        have hbn := below_new wr (.cells (enC x) 31)
        have hyb := Blk.new wr 31 (enC x)
        have hrl : (rlOf (L.take k)).recs.length + 1 ≤ 10000000 := by
          have h1 := recs_len (L.take k)
          rw [List.length_take_of_le (by omega)] at h1
          have h2 : (rlOf (L.take k)).recs = recsE (L.take k) := rfl
          rw [h2]
          omega
        have HC := Lib.hid (count_any (hE.rl.below hbn) x hm hrl)
        have HNX := Lib.hid (fun W' hR hU => hE.next (W' := W') hxk hbn hR hU)
        subst hAd
        clear hE hm hrl hxe hkl hbn
        go_wp2_with (first
          | (refine wpList_cells_at rfl _ _ rfl (ad.add (k * 3)) rfl (enL x) _ hcs Try.underlying31 rfl enInfo ?_)
          | (refine wpList_store_new rfl _ _ _ rfl wr (enC x) rfl rfl _ _ enInfo rfl (enC_ones _) ?_)
          | (refine wpList_row_at rfl _ _ rfl wr.heap.size rfl _ _ _ _ hyb Try.underlying31 rfl enInfo ?_)
          | (go_at_call 42; refine HC.out.mono ?_; rintro e w9 hp; obtain ⟨rfl, hR9, hU9⟩ := hp)
          | go_in)
        go_roundw
        case rel => exact ⟨k + 1, _, by go_num, by omega, HNX.out _ hR9 hU9⟩
        case measure => simp [RowKit.intOf]; omega
      · have hke : k = L.length := by have := HN.out; omega
        have HK := Lib.hid hke
        clear hE hke
        go_wp2_with fail
        go_ret2
        obtain ⟨T6, a1, a2, a3, a4⟩ := HX6.out
        rw [HQ.out] at a1
        have hE := HE.out
        have hke := HK.out
        subst hke
        exact ⟨g, rfl, hE.done a1 a2 a3 a4⟩
end Go.Proofs.Ythhjdielananeaa
