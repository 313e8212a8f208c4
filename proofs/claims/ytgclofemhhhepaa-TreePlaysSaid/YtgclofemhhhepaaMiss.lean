/-
  Two lists of numbers compared; what is missing.
-/
import Derived.Test.YtgclofemhhhepaaAlive
set_option linter.unusedSimpArgs false
set_option linter.unusedVariables false
set_option maxRecDepth 10000
namespace Go.Proofs.Ytgclofemhhhepaa
open Go.RowKit Go.Maps Go.Lib
open L3 (Blk Reads)
open L6 (Turn moreB fresh From In)

/-- In w the slice v is read as these numbers. -/
def SeeI (w : World) (v : Value) (l : List Int) : Prop := ∃ A c, v = .slice A l.length c ∧ l.length ≤ c ∧ Reads w w.heap.size 1 A l.length (l.map (Value.int .i64))
theorem OwnI.see {w : World} {base : Nat} {v : Value} {l : List Int} (h : OwnI w base v l) : SeeI w v l := by
  obtain ⟨A, c, rfl, hc, hr⟩ := L6.row_reads h
  exact ⟨A, c, rfl, hc, hr⟩
theorem see_nil (w : World) : SeeI w (.slice none 0 0) [] := ⟨none, 0, rfl, Nat.le_refl _, Reads.none_⟩
theorem SeeI.below {w w' : World} {v : Value} {l : List Int} (h : SeeI w v l) (hb : Below w.heap.size w w') : SeeI w' v l := by
  obtain ⟨A, c, rfl, hc, hr⟩ := h
  exact ⟨A, c, rfl, hc, (hr.below hb).more hb.size⟩
theorem take_eq {l m : List Int} {k : Nat} (h1 : k < l.length) (h2 : k < m.length) (h : l.take k = m.take k) : l.take (k + 1) = m.take (k + 1) ↔ l[k] = m[k] := by
  rw [List.take_succ_eq_append_getElem h1, List.take_succ_eq_append_getElem h2, h]
  constructor
  · intro e
    have := (List.append_right_inj _).1 e
    simpa using this
  · intro e; rw [e]
set_option maxHeartbeats 1000000 in
set_option maxRecDepth 100000 in
theorem ints_any {w : World} {u v : Value} {l m : List Int} (h1 : SeeI w u l) (h2 : SeeI w v m) (hl : l.length ≤ 1000000000) : Calls Try.prog 18 #[u, v] w (gives (.bool (decide (l = m))) w) := by
  obtain ⟨A, c, rfl, hc, hr⟩ := h1
  obtain ⟨B, d, rfl, hd, hs⟩ := h2
  obtain ⟨q, hq⟩ : ∃ q, q = decide (l = m) := ⟨_, rfl⟩
  rw [← hq]
  have HQ := Lib.hid hq
  clear hq
  by_cases hlen : l.length = m.length
  · obtain ⟨n, hn⟩ : ∃ n, n = m.length := ⟨_, rfl⟩
    rw [hlen] at hr hl hc ⊢
    have HL := Lib.hid hlen
    rw [← hn] at hr hs hl hc hd HL ⊢
    have HN := Lib.hid hn
    clear hn hlen
    have hnq : ((n : Int) != n) = false := by simp
    go_enter Try.func18, Try.ntmps18
    go_wp2
    go_loopw [5] (fun i wr => ∃ k : Nat, i = .int .i64 k ∧ k ≤ n ∧ Hid (l.take k = m.take k) ∧ Below w.heap.size w wr) (fun i _ => n - (RowKit.intOf i).toNat)
    case atStart => exact ⟨0, rfl, Nat.zero_le _, Lib.hid (by simp), Below.refl _ _⟩
    case round =>
      obtain ⟨k, rfl, hk, hT, hbw⟩ := hrel
      by_cases hlt : k < n
      · obtain ⟨a1, u1, rfl, hb1, e1, f1⟩ := (hr.below hbw).at_ hlt
        obtain ⟨a2, u2, rfl, hb2, e2, f2⟩ := (hs.below hbw).at_ hlt
        have k1 : k < l.length := by rw [HL.out]; exact hlt
        have k2 : k < m.length := by rw [← HN.out]; exact hlt
        have g1 : u1 = .int .i64 l[k] := by rw [List.getElem?_map, List.getElem?_eq_getElem k1] at e1; exact (Option.some.inj e1).symm
        have g2 : u2 = .int .i64 m[k] := by rw [List.getElem?_map, List.getElem?_eq_getElem k2] at e2; exact (Option.some.inj e2).symm
        have HK := Lib.hid (take_eq k1 k2 hT.out)
        obtain ⟨x, hx⟩ : ∃ x, x = l[k] := ⟨_, rfl⟩
        obtain ⟨y, hy⟩ : ∃ y, y = m[k] := ⟨_, rfl⟩
        rw [← hx] at g1 HK
        rw [← hy] at g2 HK
        subst g1 g2
        clear e1 e2 hx hy k1 k2
        by_cases hxy : x = y
        · have hxq : (x != y) = false := by simpa using hxy
          have HT := Lib.hid (HK.out.2 hxy)
          clear HK hT
          go_wp2
          go_quiet (fail)
          go_wp2
          go_roundw
          case rel => exact ⟨k + 1, by go_num, by omega, HT, L6.below_drewN hbw _⟩
          case measure => simp [RowKit.intOf]; omega
        · have hxq : (x != y) = true := by simpa using hxy
          have HE : Hid (q = false) := Lib.hid (by
            rw [HQ.out, decide_eq_false_iff_not]
            intro e
            exact hxy (HK.out.1 (by rw [e])))
          clear HK hT HQ
          go_wp2
          go_quiet (fail)
          go_wp2
          go_ret
          exact ⟨by rw [HE.out]; rfl, L6.below_drewN hbw _⟩
      · have hkn : k = n := by omega
        have HE : Hid (q = true) := Lib.hid (by
          have := hT.out
          rw [hkn, List.take_of_length_le (by rw [HL.out]; exact Nat.le_refl _), List.take_of_length_le (by rw [← HN.out]; exact Nat.le_refl _)] at this
          rw [HQ.out, decide_eq_true_eq]
          exact this)
        clear HQ hT hkn
        go_wp2
        go_ret
        exact ⟨by rw [HE.out]; rfl, hbw⟩
  · have hlq : ((l.length : Int) != m.length) = true := by rw [bne_iff_ne]; omega
    have HE : Hid (q = false) := Lib.hid (by rw [HQ.out, decide_eq_false_iff_not]; intro e; rw [e] at hlen; exact hlen rfl)
    clear HQ
    go_enter Try.func18, Try.ntmps18
    go_wp2
    go_ret
    exact ⟨by rw [HE.out]; rfl, Below.refl _ _⟩

/-! What is missing -/
/-- The keys of a map by numbers, each once: by what it has. -/
theorem keys_has {w : World} {R : Value → Option (DataW Unit × List MemPlace)} {b n : Nat} {D : DataW Unit} (hown : w.ownsMap Try.prog 3 R b n D) :
    (intKeys D).Nodup ∧ (∀ x ∈ intKeys D, inI x) ∧ (intKeys D).length = Maps.size D ∧ ∀ x, x ∈ intKeys D ↔ Maps.has D (keyI x) = true := by
  obtain ⟨es, rfl, hap, hkeys⟩ := hown.entries kdI
  obtain ⟨es', he, hk⟩ := hown.keysOf
  obtain rfl : es = es' := by injection he
  have hint : ∀ p ∈ es, ∃ x, p.1 = keyI x ∧ inI x := fun p hp => by
    obtain ⟨key, hkey⟩ := hk p hp
    obtain ⟨x, hx, e, hw⟩ := Maps.keyOf_int_inv Try.underlying3 hkey
    exact ⟨x, e, wf_inI hw⟩
  have hnd : (intKeys (.map es)).Nodup := by
    show (es.map _).Nodup
    refine List.pairwise_map.2 (hap.imp_of_mem fun {p q} hp hq hne e => hne ?_)
    obtain ⟨a, ha, _⟩ := hint p hp
    obtain ⟨c, hc, _⟩ := hint q hq
    rw [ha, hc] at e ⊢
    exact congrArg keyI e
  refine ⟨hnd, fun x hx => ?_, by show (es.map _).length = _; rw [List.length_map]; rfl, fun x => ?_⟩
  · obtain ⟨p, hp, rfl⟩ := List.mem_map.1 (show x ∈ es.map _ from hx)
    obtain ⟨a, ha, hi⟩ := hint p hp
    rw [ha]; exact hi
  · rw [has_eq, List.any_eq_true]
    show x ∈ es.map _ ↔ _
    rw [List.mem_map]
    constructor
    · rintro ⟨p, hp, rfl⟩
      obtain ⟨a, ha, _⟩ := hint p hp
      refine ⟨p, hp, ?_⟩
      rw [ha, sameKey_ii]
      exact decide_eq_true rfl
    · rintro ⟨p, hp, hs⟩
      obtain ⟨a, ha, _⟩ := hint p hp
      refine ⟨p, hp, ?_⟩
      rw [ha, sameKey_ii, decide_eq_true_eq] at hs
      rw [ha, hs]; rfl
/-- Of those gone through, which parents are missing. -/
def MsL (L : List Ent) (left : Lit → Bool) (k : Int) : Prop := ∃ x y, inI x ∧ outF L x = some y ∧ left (keyI x) = false ∧ y.p = k ∧ ¬ outs L k
/-- Parents of orphans that are no orphans. -/
def MissC (L : List Ent) (k : Int) : Prop := ∃ e ∈ L, e.isin = false ∧ e.p = k ∧ ¬ outs L k
theorem msl_start {L : List Ent} {D : DataW Unit} (h : FitsI blD D (outF L)) {k : Int} : ¬ MsL L (Maps.has D) k := by
  rintro ⟨x, y, hx, ho, hl, _⟩
  rw [(h x hx).1, ho] at hl
  cases hl
theorem left_step {left : Lit → Bool} {x z : Int} : (left (keyI z) && !(keyI z).sameKey (keyI x)) = false ↔ left (keyI z) = false ∨ z = x := by
  rw [sameKey_ii]
  cases left (keyI z) <;> simp
theorem msl_step {L : List Ent} {left : Lit → Bool} {x : Int} {c : Bl} (hx : inI x) (ho : outF L x = some c) {k : Int} :
    MsL L (fun z => left z && !z.sameKey (keyI x)) k ↔ MsL L left k ∨ (c.p = k ∧ ¬ outs L k) := by
  constructor
  · rintro ⟨z, y, hz, hy, hl, hp, hn⟩
    rcases left_step.1 hl with hl | rfl
    · exact .inl ⟨z, y, hz, hy, hl, hp, hn⟩
    · rw [ho] at hy
      injection hy with hy
      exact .inr ⟨by rw [hy]; exact hp, hn⟩
  · rintro (⟨z, y, hz, hy, hl, hp, hn⟩ | ⟨hp, hn⟩)
    · exact ⟨z, y, hz, hy, left_step.2 (.inl hl), hp, hn⟩
    · exact ⟨x, c, hx, ho, left_step.2 (.inr rfl), hp, hn⟩
theorem msl_end {L : List Ent} {left : Lit → Bool} (h1 : (L.map (·.n)).Nodup) (hn : ∀ e ∈ L, inI e.n) (hl : ∀ kl, left kl = false) {k : Int} : MsL L left k ↔ MissC L k := by
  constructor
  · rintro ⟨x, y, hx, ho, _, hp, hn⟩
    obtain ⟨e, he, h2, h3, h4⟩ := outF_is ho
    exact ⟨e, he, h3, by rw [← hp, ← h4], hn⟩
  · rintro ⟨e, he, hi, hp, ho⟩
    exact ⟨e.n, e.b, hn e he, outF_some h1 he hi, hl _, hp, ho⟩
theorem missC_iff {r : Int} {L : List Ent} (h1 : OneN r L) (h : InOk r L) {k : Int} : MissC L k ↔ Miss L k := by
  constructor
  · rintro ⟨e, he, hi, hp, ho⟩
    refine ⟨e, he, hi, hp, fun f hf hn => ?_⟩
    cases hfi : f.isin with
    | true => exact no_in h1 h e he hi (.inr ⟨f, hf, hn.trans hp.symm, hfi⟩)
    | false => exact ho ⟨f, hf, hn, hfi⟩
  · rintro ⟨e, he, hi, hp, ho⟩
    exact ⟨e, he, hi, hp, fun ⟨f, hf, hn, _⟩ => ho f hf hn⟩
theorem exec_look_ok {n : Nat} {ev : Operand → Value} {o : Oper} {W : World} (m x : Operand) (hop : o.op = Op.lookup 64 m x true) (b : Nat) (D : DataW Unit) (hm : ev m = .map (some b)) (hown : W.ownsMap Try.prog 3 blElem b n D)
    (k : Int) (hx : ev x = .int .i64 k) (hk : inI k) (y : Bl) (r : Bool) (hat : D.atKey (keyI k) (blD zeroBl) = blD y) (hh : Maps.has D (keyI k) = r) :
    (execOp ev o).run Try.prog W = .ok (.value (.tuple #[.agg (blC y), .bool r])) W := by
  obtain ⟨v, ps, hrun, hv⟩ := hown.look_ok kdI Try.underlying64 (zeroBlk W) (blElem_mk zeroBl) (key_at hk)
  obtain rfl := bl_is hv hat
  simp [execOp, hop, hm, hx, hrun, hh, Result.andThen]
theorem grown_of_below {w w' : World} (h : Below w.heap.size w w') : w.grownBy w' none := ⟨h.os, h.tape, h.output, h.size, fun i hi _ => h.block i hi⟩
/-- What Missing tells. -/
def MissPost (L : List Ent) (w : World) (e : Ending) (w' : World) : Prop := ∃ (v : Value) (l : List Int), e = .returned v ∧ l.Pairwise (· < ·) ∧ (∀ k, k ∈ l ↔ MissC L k) ∧ OwnI w' w.heap.size v l ∧ Below w.heap.size w w'
/-- What the question within a round meets. -/
def AskAt (w0 : World) (g bo x n : Nat) (c : Bl) (DO : DataW Unit) (W : World) : Prop := W.cell? ⟨g, 4, none⟩ = some (.map (some bo)) ∧ W.cell? ⟨x, 5, none⟩ = some (.int .i64 c.p) ∧ W.ownsMap Try.prog 3 blElem bo n DO ∧ Below w0.heap.size w0 W
theorem AskAt.below {w0 W W' : World} {g bo x n : Nat} {c : Bl} {DO : DataW Unit} (h : AskAt w0 g bo x n c DO W) (hb : Below W.heap.size W W') : AskAt w0 g bo x n c DO W' :=
  ⟨(hb.cell (p := ⟨g, 4, none⟩) (World.block_lt_of_cell? _ _ h.1)).trans h.1, (hb.cell (p := ⟨x, 5, none⟩) (World.block_lt_of_cell? _ _ h.2.1)).trans h.2.1, L6.Turn.map (S := fun _ => False) (L6.Turn.of_keep hb) h.2.2.1 (fun h => h), nxt h.2.2.2 hb⟩
theorem AskAt.drew {w0 W : World} {g bo x n : Nat} {c : Bl} {DO : DataW Unit} (h : AskAt w0 g bo x n c DO W) : AskAt w0 g bo x n c DO W.drew := ⟨h.1, h.2.1, h.2.2.1.drew, h.2.2.2.drew⟩
/-- What holds of a round: what is still to come, what was gathered. -/
def MissAt (L : List Ent) (bo bu r N : Nat) (DO : DataW Unit) (w : World) (wr : World) : Prop :=
  ∃ left cnt m DU, wr.ranges Try.prog 3 blElem bo r N DO left cnt ∧ wr.ownsMap Try.prog 3 (unitElem (H := Unit)) bu m DU ∧ m + cnt ≤ N ∧ (∀ k, inI k → (Maps.has DU (keyI k) = true ↔ MsL L left k)) ∧ Below w.heap.size w wr
set_option maxHeartbeats 4000000 in
set_option maxRecDepth 100000 in
theorem missing_any {w : World} {S : Nat → Prop} {g : Nat} {s : TS} (h : Tr w S g s) (h1 : (s.L.map (·.n)).Nodup) (hn : ∀ e ∈ s.L, inI e.n) (hb : ∀ e ∈ s.L, e.b.wf) (hl : s.L.length ≤ 100000) :
    Calls Try.prog 16 #[.pointer (some ⟨g, 0, none⟩)] w (MissPost s.L w) := by
  have hmm := @run_makeMap Try.prog
  have hb1 : Below w.heap.size w (w.alloc (.map #[] 0)) := (Below.refl _ _).alloc (Nat.le_refl _) _
  have hu1 : (w.alloc (.map #[] 0)).ownsMap Try.prog 3 (unitElem (H := Unit)) w.heap.size 0 (.map []) := World.ownsMap_made w _ _ _
  obtain ⟨bb, bo, DB, DO, hbg, o1, o2, f1, f2, _⟩ := h
  have hcells := Lib.hid (fun W (hq : Below w.heap.size w W) => hbg.below hq hbg.lt)
  have F2 := Lib.hid f2
  have hbo := o2.lt
  have o2' := L6.Turn.map (S := fun _ => False) (L6.Turn.of_keep hb1) o2 (fun h => h)
  obtain ⟨w1, hw1⟩ : ∃ w1, w1 = w.alloc (.map #[] 0) := ⟨_, rfl⟩
  have hs1 : w1.heap.size = w.heap.size + 1 := by rw [hw1]; simp
  have HS1 := Lib.hid hs1
  rw [← hw1] at hb1 hu1 o2'
  have c4 : w1.cell? ⟨g, 4, none⟩ = some (.map (some bo)) := (hcells.out _ hb1).cell 4
  clear o1 o2 f1 f2 hbg
  go_enter Try.func16, Try.ntmps16
  go_upto_region 4 with fail
  rw [← hw1]
  clear hw1 hs1
  go_wp2_with (first
    | (at_range; refine wpList_range_own _ rfl _ 64 rfl 3 39 kdI Try.underlying64 blElem bo s.L.length DO rfl o2' ?_; intro w2 hrg2 hg2 hs2)
    | go_in)
  go_frame
  have hsz := o2'.size_le
  have hstart : MissAt s.L bo w.heap.size w1.heap.size s.L.length DO w w2 := ⟨_, _, 0, .map [], hrg2, hu1.kept hg2 (by simp), by omega, fun k hk => ⟨fun h => by simp [Maps.has] at h, fun h => absurd h (msl_start F2.out)⟩, hb1.grown hg2 hb1.size (fun j hj => by cases hj)⟩
  clear hrg2 hg2 hs2 hu1 c4 o2'
  go_loopw [5] (fun _ wr => MissAt s.L bo w.heap.size w1.heap.size s.L.length DO w wr) (fun _ wr => wr.rangeLeft bo w1.heap.size)
  case atStart => exact hstart
  case round =>
    clear hstart hsz
    obtain ⟨left, cnt, m, DU, hrg, hU, hm, hD, hbw⟩ := hrel
    go_wp2_with (first
      | (at_next; refine wpList_next_ranges _ rfl _ rfl 3 kdI blElem (Value.int .i64) (fun b : Bl => .agg (blC b)) (fun key kl h => by obtain ⟨x, hx, _⟩ := Maps.keyOf_int_inv Try.underlying3 h; exact ⟨x, hx⟩) (fun v y h => by obtain ⟨b, hb, _⟩ := blElem_inv h; exact ⟨b, hb⟩) bo w1.heap.size _ _ _ _ rfl hrg ?_ ?_)
      | go_in)
    · intro hc0 hl0
      obtain ⟨q1, q2, q3, q4⟩ := keys_has hU
      have hsz := hU.size_le
      have HK := Lib.hid (keysU_any w.heap.size wr)
      have HS := Lib.hid (sortedU_any hU q1 (by omega))
      have HM := Lib.hid (fun k (hk : inI k) => (hD k hk).trans (msl_end (k := k) h1 hn hl0))
      have Q2 := Lib.hid q2
      have Q4 := Lib.hid q4
      clear hD q1 q2 q3 q4 hsz hl0 hrg hU
      go_wp2_with (first
        | (go_at_call 36; refine HK.out.mono ?_; rintro e w' ⟨rfl, rfl⟩)
        | (go_at_call 35; refine HS.out.mono ?_; unfold Sorted; rintro e w3 ⟨v, Z, rfl, hZ1, hZ2, hrow, hb3⟩)
        | go_in)
      go_ret
      refine ⟨v, Z, rfl, hZ1, fun k => ?_, ownsRow_base_a hrow hbw.size, hbw.trans (hb3.mono hbw.size)⟩
      rw [hZ2, Q4.out]
      constructor
      · intro hk
        exact (HM.out k (Q2.out k ((Q4.out k).2 hk))).1 hk
      · rintro ⟨e, he, hi, hp, ho⟩
        exact (HM.out k (by rw [← hp]; exact (hb e he).p)).2 ⟨e, he, hi, hp, ho⟩
    · intro x c kl yd yl w3 cnt3 hkey hlk hR hat hrg3 hlt hg3 hs3 hen
      obtain ⟨x', ex, rfl, hwx⟩ := Maps.keyOf_int_inv Try.underlying3 hkey
      obtain rfl : x = x' := by injection ex
      have hxi : inI x := wf_inI hwx
      obtain rfl : yd = blD c := by rw [blElem_mk] at hR; exact (congrArg Prod.fst (Option.some.inj hR)).symm
      have hoc : outF s.L x = some c := by
        have hh : Maps.has DO (keyI x) = true := has_true_of_atKey hat
        rw [(F2.out x hxi).1] at hh
        obtain ⟨y, hy⟩ := Option.isSome_iff_exists.1 hh
        have := (F2.out x hxi).2 y hy (.map [])
        rw [hy, blD_inj (this.symm.trans (hat (.map [])))]
      have hpi : inI c.p := by
        obtain ⟨e, he, _, _, h4⟩ := outF_is hoc
        rw [← h4]; exact (hb e he).p
      have hu3 := hU.kept hg3 (by rw [HS1.out]; simp)
      have hb3 : Below w.heap.size w w3 := hbw.grown hg3 hbw.size (fun j hj => by cases hj; rw [HS1.out]; omega)
      have hb4 : Below w3.heap.size w3 (w3.alloc (.cells (blC c) 39)) := below_box _ c
      have k4 := box_new w3 39 c
      obtain ⟨w4, hw4⟩ : ∃ w4, w4 = w3.alloc (.cells (blC c) 39) := ⟨_, rfl⟩
      have hrg4 := hrg3.alloc (.cells (blC c) 39)
      have hu4 := hu3.alloc (.cells (blC c) 39)
      rw [← hw4] at hb4 k4 hrg4 hu4
      have hr2 : w3.heap.size ≠ w.heap.size := by have := hu3.lt; omega
      have HRO := Lib.hid hrg.left_eq
      clear hkey hR hrg3 hu3 hU hrg hbw hs3
      go_upto_region 7 with (first
        | (refine wpList_store_new rfl _ _ _ rfl w3 (blC c) rfl rfl 39 _ blInfo rfl (blC_ones _) ?_)
        | go_in)
      rw [← hw4]
      clear hw4 hen
      obtain ⟨hatp, hhp⟩ := look_out F2.out hpi
      obtain ⟨y, hy⟩ : ∃ y, y = (outF s.L c.p).getD zeroBl := ⟨_, rfl⟩
      rw [← hy] at hatp
      clear hy
      have hbw4 : Below w.heap.size w w4 := hb3.trans (hb4.mono hb3.size)
      have hS0 : AskAt w4 g bo w3.heap.size s.L.length c DO w4 := ⟨(hcells.out _ hbw4).cell 4, k4.cell 5, hrg4.owns, Below.refl _ _⟩
      have hS := hS0.drew
      obtain ⟨r, hr⟩ : ∃ r, r = decide (outs s.L c.p) := ⟨_, rfl⟩
      rw [← hr] at hhp
      have HR := Lib.hid hr
      clear hr
      (try simp only [Act.put])
      refine wp_region_K (AskAt w4 g bo w3.heap.size s.L.length c DO) [0, 1, 2, 3, 4, 5, 6, 7, 8, 9, 10] (by kernel_rfl) ?_
      refine wpK_quiet (f := 3) (by kernel_rfl) (fun _ x _ _ _ h => by cases x <;> exact h) hS [0, 1, 2, 3, 4, 5, 6, 7, 8, 9, 10] _ _ (by kernel_rfl) (by kernel_rfl) (by kernel_rfl) ?_
      have ne : Nonempty (WorldIn (AskAt w4 g bo w3.heap.size s.L.length c DO)) := ⟨⟨_, hS⟩⟩
      have r0 := fun z : WorldIn (AskAt w4 g bo w3.heap.size s.L.length c DO) => z.h.1
      have r1 := fun z : WorldIn (AskAt w4 g bo w3.heap.size s.L.length c DO) => z.h.2.1
      conv => arg 5; simp [pick]
      iterate 7 go_big_quiet_step (fail)
      refine wpQuiet_value rfl (fun z => exec_look_ok _ _ rfl bo DO rfl z.h.2.2.1 c.p rfl hpi y r hatp hhp) ?_
      conv => arg 6; simp only [Act.put, List.setIfInBounds_toArray, List.set_cons_zero, List.set_cons_succ]
      iterate 3 go_big_quiet_step (fail)
      refine wpQuiet_nil ?_
      refine wpK_step 11 (by kernel_rfl) rfl ?_
      go_wp2
      refine stepQ.mk ⟨fun _ => ?_, ?_⟩
      · exact (AskAt.below hS0 ((Below.refl _ w4).alloc (Nat.le_refl _) _)).drew
      have k6 : Blk (w4.alloc (.cells (blC zeroBl) 39)).drew w4.heap.size 39 (blC zeroBl) := box_new w4 39 zeroBl
      have hb6 : Below w4.heap.size w4 (w4.alloc (.cells (blC zeroBl) 39)).drew := ((Below.refl _ w4).alloc (Nat.le_refl _) _).drew
      have hb7 : Below w4.heap.size w4 ((w4.alloc (.cells (blC zeroBl) 39)).drew.setRow w4.heap.size (blC y)) := below_setRow hb6 (Nat.le_refl _)
      have hS7 := AskAt.below hS0 hb7
      refine wpK_step 12 (by kernel_rfl) rfl ?_
      go_wp2_with (refine wpList_store_row rfl _ _ _ rfl w4.heap.size (blC y) rfl rfl _ _ k6 blInfo rfl (blC_ones _) ?_)
      refine stepQ.mk ⟨fun _ => ?_, ?_⟩
      · exact hS7
      refine wpK_step 13 (by kernel_rfl) rfl ?_
      go_wp2
      refine stepQ.mk ⟨fun _ => ?_, ?_⟩
      · exact hS7
      refine wpK_seq [] _ _ _ (by kernel_rfl) ?_
      conv => arg 4; simp [pick]
      clear k6 hb6 hS7
      go_upto_region 8 with fail
      refine name_world (fun w5 hw5 => ?_)
      have hb5 : Below w4.heap.size w4 w5 := by rw [hw5]; exact hb7
      have hrg5 := hrg4.kept (grown_of_below hb5) (by simp) (by simp)
      have hu5 := hu4.kept (grown_of_below hb5) (by simp)
      clear hw5 hS hS0 ne r0 r1 hb7
      have hbw5 : Below w.heap.size w w5 := hbw4.trans (hb5.mono hbw4.size)
      have q5 : w5.cell? ⟨w3.heap.size, 5, none⟩ = some (.int .i64 c.p) := (k4.below hb5 k4.lt).cell 5
      have HD := Lib.hid (fun k (hk : inI k) => (hD k hk))
      have HST := Lib.hid (fun k => msl_step (L := s.L) (left := left) hxi hoc (k := k))
      have HRL := Lib.hid (hrg5.left_eq)
      have HLT := Lib.hid hlt
      clear hD hrg4 hu4 k4 hat hatp hhp hlk
      cases r with
      | true =>
        have HO : Hid (outs s.L c.p) := Lib.hid (of_decide_eq_true HR.out.symm)
        have HRel := Lib.hid (show MissAt s.L bo w.heap.size w1.heap.size s.L.length DO w w5 from
          ⟨_, cnt3, m, DU, hrg5, hu5, by omega, fun k hk =>
            (HD.out k hk).trans ⟨fun h => (HST.out k).2 (.inl h), fun h => ((HST.out k).1 h).elim id fun ⟨h1, h2⟩ => absurd (h1 ▸ HO.out) h2⟩, hbw5⟩)
        clear hu5 q5 hg3
        go_wp2
        go_roundw
        case rel => exact HRel.out
        case measure =>
          rw [HRL.out, HRO.out]
          exact HLT.out
      | false =>
        have HO : Hid (¬ outs s.L c.p) := Lib.hid (of_decide_eq_false HR.out.symm)
        go_wp2_with (first
          | (at_mapUpdate; refine wpList_mapUpdate_own _ rfl _ _ _ 79 rfl 3 81 kdI Try.underlying79 (unitElem (H := Unit)) w.heap.size m DU rfl hu5 (by unfold maxLen; omega) _ _ (keyI c.p) rfl rfl (key_at hpi) _ [] unitElem_mk ?_; intro w6 hown6 hg6)
          | go_in)
        have hrg6 := hrg5.kept hg6 (by simp; omega) (by simp; have := HS1.out; omega)
        have hm6 := hown6.isMap
        have HRel := Lib.hid (show MissAt s.L bo w.heap.size w1.heap.size s.L.length DO w w6 from
          ⟨_, cnt3, m + 1, _, hrg6, hown6, by omega, fun k hk => by
            by_cases hkc : k = c.p
            · subst hkc
              rw [has_put_same hu5.isMap (keyI_key hpi)]
              exact ⟨fun _ => (HST.out _).2 (.inr ⟨rfl, HO.out⟩), fun _ => rfl⟩
            · rw [has_put_other (keyI_ne hkc)]
              exact (HD.out k hk).trans ⟨fun h => (HST.out k).2 (.inl h), fun h => ((HST.out k).1 h).elim id fun ⟨h1, _⟩ => absurd h1.symm hkc⟩,
            hbw5.grown hg6 hbw5.size (fun j hj => by cases hj; exact Nat.le_refl _)⟩)
        have HRL6 := Lib.hid (hrg6.left_eq)
        clear hown6 hg6 hm6 hrg6 hu5 q5
        go_frame
        go_roundw
        case rel => exact HRel.out
        case measure =>
          rw [HRL6.out, HRO.out]
          exact HLT.out
end Go.Proofs.Ytgclofemhhhepaa
