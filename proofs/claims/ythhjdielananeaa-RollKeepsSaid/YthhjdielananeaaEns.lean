/-
  The entries of a text of lines, and how long its torn end is, by the code, where the text is a right roll.
-/
import Derived.Test.YthhjdielananeaaUnl
import Derived.Test.YthhjdielananeaaRol
set_option linter.unusedSimpArgs false
set_option linter.unusedVariables false
set_option maxRecDepth 10000
namespace Go.Proofs.Ythhjdielananeaa
open Go.RowKit Go.Lib
open L3 (Blk Reads block_of_add add_of_add)
open L6 (Turn moreB fresh From In)

theorem ib_free : ∀ l : List UInt8, (0 : UInt8) ∉ l → Lib.indexByte l 0 = -1
  | [], _ => rfl
  | c :: l, h => by
    have hc : (c == 0) = false := by rw [beq_eq_false_iff_ne]; exact fun e => h (e ▸ List.mem_cons_self)
    rw [Lib.indexByte, hc, ib_free l (fun e => h (List.mem_cons_of_mem _ e))]
    rfl
theorem ib_mark : ∀ (l r : List UInt8), (0 : UInt8) ∉ l → Lib.indexByte (l ++ 0 :: r) 0 = l.length
  | [], r, _ => rfl
  | c :: l, r, h => by
    have hc : (c == 0) = false := by rw [beq_eq_false_iff_ne]; exact fun e => h (e ▸ List.mem_cons_self)
    rw [List.cons_append, Lib.indexByte, hc, ib_mark l r (fun e => h (List.mem_cons_of_mem _ e))]
    have : ((l.length : Int) == -1) = false := by rw [beq_eq_false_iff_ne]; omega
    rw [this]
    simp
theorem rises_may : ∀ {L : List Ent}, risesE L → ∀ x ∈ L, mayE x = 0
  | [], _, x, hx => by cases hx
  | [y], h, x, hx => by
    rw [List.mem_singleton] at hx
    subst hx
    exact h
  | y :: z :: L, h, x, hx => by
    obtain ⟨h1, h2, h3⟩ := h
    rcases List.mem_cons.1 hx with h' | h'
    · rw [h']; exact h1
    · exact rises_may h3 x h'
theorem rises_get : ∀ {L : List Ent}, risesE L → ∀ (j : Nat) (x y : Ent), L[j]? = some x → L[j + 1]? = some y → y.num = x.num + 1
  | [], _, j, x, y, hx, _ => by cases hx
  | [z], _, j, x, y, hx, hy => by cases hy
  | z :: u :: L, h, 0, x, y, hx, hy => by
    injection hx with hx
    injection hy with hy
    rw [← hx, ← hy]
    exact h.2.1
  | z :: u :: L, h, j + 1, x, y, hx, hy => rises_get h.2.2 j x y hx hy
theorem str_take (l : List UInt8) (k : Nat) (h : k ≤ l.length) : (str l).extract 0 k = str (l.take k) := by
  apply ByteArray.ext
  rw [ByteArray.data_extract]
  apply Array.toList_inj.1
  rw [Array.toList_extract]
  show (l.drop 0).take (k - 0) = l.take k
  rw [List.drop_zero, Nat.sub_zero]
/-- How long a text is. -/
def szV : Value → Nat | .string x => x.size | _ => 0
theorem enS_info : ∃ i, Try.prog.info? 31 = some i ∧ i.zero = some (.agg #[.int .i64 0, .int .i64 0, .string ⟨#[]⟩]) ∧ i.size = 3 ∧ i.bytes = 32 := by
  have h : (Try.prog.info? 31).map (fun i => (i.zero, i.size, i.bytes)) = some (some (.agg #[.int .i64 0, .int .i64 0, .string ⟨#[]⟩]), 3, 32) := by kernel_rfl
  obtain ⟨i, hi, hii⟩ := Option.map_eq_some_iff.1 h
  simp only [Prod.mk.injEq] at hii
  exact ⟨i, hi, hii⟩
theorem en_row (x : Ent) (w : World) : (Instr.buildSlice 89 1 #[(0, .agg (enC x))]).run Try.prog w = .ok (.slice (some ⟨w.heap.size, 0, none⟩) 1 1) (w.alloc (.cells (enC x) 31)) := by kernel_rfl
/-- What is left of the text ahead of the k-th line. -/
def leftT (L : List Ent) (tn : List UInt8) (k : Nat) : List UInt8 := flatE (L.drop k) ++ tn
theorem left_cons {L : List Ent} {tn : List UInt8} {k : Nat} {x : Ent} (h : L[k]? = some x) : leftT L tn k = lineE x ++ leftT L tn (k + 1) := by
  obtain ⟨hk, hx⟩ := List.getElem?_eq_some_iff.1 h
  unfold leftT flatE
  rw [List.drop_eq_getElem_cons hk, hx, List.flatMap_cons, List.append_assoc]
theorem left_end (L : List Ent) (tn : List UInt8) : leftT L tn L.length = tn := by
  unfold leftT
  rw [List.drop_length]
  rfl
structure EnAt (w : World) (L : List Ent) (tn : List UInt8) (k : Nat) (s : ByteArray) (v : Value) (W : World) : Prop where
  txt : s = str (leftT L tn k)
  le : k ≤ L.length
  own : W.ownsRow w.heap.size 31 3 v k ((L.take k).flatMap enL)
  bw : Below w.heap.size w W
theorem en_snoc {L : List Ent} {k : Nat} {x : Ent} (h : L[k]? = some x) : (L.take (k + 1)).flatMap enL = (L.take k).flatMap enL ++ enL x := by
  rw [List.take_add_one, h, List.flatMap_append]
  simp
theorem en_reads (w : World) (x : Ent) : Reads (w.alloc (.cells (enC x) 31)) (w.alloc (.cells (enC x) 31)).heap.size 3 (some ⟨w.heap.size, 0, none⟩) 1 (enL x) := by
  refine ⟨rfl, fun _ => ⟨_, rfl, by simp, fun j u hj => ?_⟩⟩
  rw [Addr.add_lit, Nat.zero_add, World.cell?_alloc_new]
  match j, hj with
  | 0, hj => exact hj
  | 1, hj => exact hj
  | 2, hj => exact hj
set_option maxHeartbeats 4000000 in
set_option maxRecDepth 100000 in
theorem entries_any (L : List Ent) (tn : List UInt8) (ht : (0 : UInt8) ∉ tn) (hr : risesE L) (hlen : (leftT L tn 0).length ≤ 100000000) (w : World) :
    Calls Try.prog 40 #[.string (str (leftT L tn 0))] w fun e w' => ∃ A c, e = .returned (.tuple #[.slice A L.length c, .int .i64 tn.length, .int .i64 0]) ∧ Rd enL 3 w' A L ∧ (∀ ad, A = some ad → w.heap.size ≤ ad.block) ∧ Below w.heap.size w w' := by
  obtain ⟨i0, hi, hz0, hz1, hz2⟩ := enS_info
  have hE0 : EnAt w L tn 0 (str (leftT L tn 0)) (.slice none 0 0) w := ⟨rfl, Nat.zero_le _, World.ownsRow_nil _ _ _ _, Below.refl _ _⟩
  have hbound : ∀ k, (leftT L tn k).length ≤ 100000000 := by
    intro k
    refine Nat.le_trans ?_ hlen
    unfold leftT flatE
    rw [List.length_append, List.length_append, List.drop_zero]
    have : L.flatMap lineE = (L.take k).flatMap lineE ++ (L.drop k).flatMap lineE := by rw [← List.flatMap_append, List.take_append_drop]
    rw [this, List.length_append]
    omega
  have HB := Lib.hid hbound
  have HM := Lib.hid (fun x hx => rises_may hr x hx)
  have HG := Lib.hid (rises_get hr)
  have HT := Lib.hid ht
  have HLN : L.length ≤ 100000000 := by
    have h0 := hlen
    unfold leftT flatE at h0
    rw [List.length_append, List.drop_zero] at h0
    have : ∀ M : List Ent, M.length ≤ (M.flatMap lineE).length := by
      intro M
      induction M with
      | nil => exact Nat.le_refl _
      | cons a M ih => rw [List.flatMap_cons, List.length_append, List.length_cons]; have := line_pos a; omega
    have := this L
    omega
  obtain ⟨s0, hs0⟩ : ∃ s0, s0 = str (leftT L tn 0) := ⟨_, rfl⟩
  rw [← hs0] at hE0 ⊢
  have H0 := Lib.hid hE0
  clear hbound hr ht hlen hE0 hs0
  go_enter Try.func40, Try.ntmps40
  go_wp2
  go_loopw [0, 5] (fun s0 v wr => ∃ (k : Nat) (s : ByteArray), s0 = .string s ∧ EnAt w L tn k s v wr) (fun s0 _ _ => szV s0)
  case atStart => exact ⟨0, s0, rfl, H0.out⟩
  case round =>
    obtain ⟨k, s, rfl, hE⟩ := hrel
    have HE := Lib.hid hE
    have hx := hE.txt
    have hbk := HB.out k
    have hsz : s.size = (leftT L tn k).length := by rw [hx, str_size]
    have hib := Try.strings_IndexByte s 0 wr
    rw [show s.data.toList = leftT L tn k by rw [hx]] at hib
    by_cases hlt : k < L.length
    · obtain ⟨x, hxk⟩ : ∃ x, L[k]? = some x := ⟨_, List.getElem?_eq_getElem hlt⟩
      have hm : mayE x = 0 := HM.out x (List.mem_of_getElem? hxk)
      have hlc := left_cons (tn := tn) hxk
      have hline : lineE x = dress (bodyE x) ++ [0] := rfl
      have hi1 : Lib.indexByte (leftT L tn k) ((0 : Int).toNat.toUInt8) = ((dress (bodyE x)).length : Int) := by
        rw [hlc, hline, List.append_assoc]
        exact ib_mark _ _ (dress_mark _)
      rw [hi1] at hib
      have hll : (lineE x).length = (dress (bodyE x)).length + 1 := by rw [hline]; simp
      obtain ⟨m, hmm⟩ : ∃ m, m = (dress (bodyE x)).length := ⟨_, rfl⟩
      rw [← hmm] at hib hll
      have hsl : m + 1 ≤ s.size := by rw [hsz, hlc, List.length_append]; omega
      have hs9 : s.size ≤ 100000000 := by rw [hsz]; exact hbk
      have e1 : s.extract 0 (m + 1) = str (lineE x) := by rw [hx, str_take _ _ (by rw [← hsz]; exact hsl), hlc, List.take_left' hll]
      have e2 : s.extract (m + 1) s.size = str (leftT L tn (k + 1)) := by rw [hx, str_drop _ _ (by rw [← hsz]; exact hsl), hlc, List.drop_left' hll]
      have HU := Lib.hid (unline_any (lineE x) wr (by rw [hll]; omega))
      rw [ul_line hm, show unR (some x) = .tuple #[.agg (enC x), .int .i64 0] from rfl, ← e1] at HU
      have HE2 := Lib.hid e2
      have HI := Lib.hid hib
      clear hx hbk hsz hm hlc hline hi1 hll hmm e1 e2 hib
      have hbw := hE.bw
      have hown := hE.own
      clear hE
      go_upto_region 6 with (first
        | (go_at_call 58; refine HI.out.mono ?_; rintro e w1 ⟨rfl, hw1⟩; rw [hw1]; clear hw1)
        | (go_at_call 15; refine HU.out.mono ?_; unfold gives; rintro e w1 ⟨rfl, hb1⟩)
        | (refine wpList_store_new rfl _ _ _ rfl w1 (enC x) rfl rfl _ _ enInfo rfl (enC_ones _) ?_)
        | go_in)
      have hb2 := below_new w1 (.cells (enC x) 31)
      have hkP := Blk.new w1 31 (enC x)
      obtain ⟨w2, hw2⟩ : ∃ w2, w1.alloc (.cells (enC x) 31) = w2 := ⟨_, rfl⟩
      obtain ⟨P, hP⟩ : ∃ P, P = w1.heap.size := ⟨_, rfl⟩
      rw [hw2] at hb2 hkP ⊢
      rw [← hP] at hkP ⊢
      have hbr2 : Below wr.heap.size wr w2 := nxt hb1 hb2
      have hown2 := (L6.Turn.of_keep (S := fun _ => False) hbr2).row hown (fun _ _ h => h)
      have HBW := Lib.hid (hbw.trans (hbr2.mono hbw.size))
      obtain ⟨Af, cf, hv, hrdf, -⟩ := Rd.of_row (f := enL) (k := 3) (L := L.take k) (fun _ => rfl) (by rw [List.length_take_of_le (by omega)]; exact hown2)
      rw [List.length_take_of_le (by omega)] at hv
      subst hv
      have cp0 : w2.cell? ⟨P, 0, none⟩ = some (.int .i64 x.num) := hkP.cell 0
      have HOW := Lib.hid hown2
      clear hw2 hP hb2 hb1 hbw hown hbr2 hown2 HU HI
      obtain ⟨z, hz⟩ : ∃ z, z = x.num := ⟨_, rfl⟩
      have hzb : 1 ≤ z ∧ z ≤ 4611686018427387904 := by
        have := may_ok (HM.out x (List.mem_of_getElem? hxk))
        rw [hz]
        exact ⟨this.1, this.2.1⟩
      rw [← hz] at cp0
      rcases Nat.eq_zero_or_pos k with h0 | h0
      · subst h0
        have HXK := Lib.hid hxk
        clear hrdf hz hxk
        go_quiet (fail)
        have hkQ := hkP.drewN nq
        have hown3 := ((L6.Turn.of_keep (S := fun _ => False) (L6.below_drewN (Below.refl w2.heap.size w2) nq)).kept (below_new (w2.drewN nq) (.cells (enC x) 31))).row HOW.out (fun _ _ h => h)
        have hrow := en_row x (w2.drewN nq)
        have hnew := en_reads (w2.drewN nq) x
        have hbs : w.heap.size ≤ ((w2.drewN nq).alloc (.cells (enC x) 31)).heap.size := by
          have h1 := HBW.out.size
          have h2 := (below_new (w2.drewN nq) (.cells (enC x) 31)).size
          have h3 : (w2.drewN nq).heap.size = w2.heap.size := rfl
          omega
        clear hkP cp0
        go_wp2_with (first
          | (refine wpList_row_at rfl _ _ rfl P rfl _ _ _ _ hkQ Try.underlying31 rfl enInfo ?_)
          | (refine wpList_buildSlice rfl _ _ _ rfl #[(0, .agg (enC x))] rfl hrow ?_)
          | (at_builtin; refine L3.wpList_append_any _ rfl _ _ 89 rfl w.heap.size 31 i0 _ 3 32 Try.underlying89 hi hz0 hz1 hz2 rfl (by decide) (.slice Af 0 cf) 0 ((L.take 0).flatMap enL) rfl hown3 _ (some ⟨(w2.drewN nq).heap.size, 0, none⟩) 1 1 (enL x) rfl hnew (fun u hu => by simp [enL] at hu; rcases hu with rfl | rfl | rfl <;> rfl) (by unfold maxLen; omega) (by omega) hbs ?_
             intro v4 w4 ho4 hg4 hat4
             obtain ⟨A4, c4, rfl, _, _⟩ := L6.row_reads ho4)
          | go_in)
        go_roundw
        case rel =>
          refine ⟨0 + 1, s.extract (m + 1) s.size, rfl, ⟨HE2.out, by omega, ?_, ?_⟩⟩
          · rw [en_snoc HXK.out]
            exact ho4
          · have h1 : Below w.heap.size w (w2.drewN nq) := L6.below_drewN HBW.out nq
            exact (h1.alloc h1.size _).grown hg4 hbs (fun q e => (HOW.out.lt q e).1)
        case measure => simp [szV, ByteArray.size_extract]; omega
      · obtain ⟨j, rfl⟩ : ∃ j, k = j + 1 := ⟨k - 1, by omega⟩
        obtain ⟨y, hyj⟩ : ∃ y, L[j]? = some y := ⟨_, List.getElem?_eq_getElem (by omega)⟩
        have hyj' : (L.take (j + 1))[j]? = some y := by rw [List.getElem?_take_of_lt (by omega)]; exact hyj
        obtain ⟨hjl, hye⟩ := List.getElem?_eq_some_iff.1 hyj'
        obtain ⟨ad, rfl, _, hcc⟩ := hrdf j hjl
        have cy : w2.cell? (ad.add (j * 3)) = some (.int .i64 y.num) := by
          have := hcc 0 _ rfl
          rw [add_of_add, hye] at this
          exact this
        have hzy : y.num = z - 1 := by have := HG.out j y x hyj hxk; omega
        rw [hzy] at cy
        have HXK := Lib.hid hxk
        clear hrdf hz hxk hyj hyj' hye hzy hcc hjl
        go_quiet (fail)
        have hkQ := hkP.drewN nq
        have hown3 := ((L6.Turn.of_keep (S := fun _ => False) (L6.below_drewN (Below.refl w2.heap.size w2) nq)).kept (below_new (w2.drewN nq) (.cells (enC x) 31))).row HOW.out (fun _ _ h => h)
        have hrow := en_row x (w2.drewN nq)
        have hnew := en_reads (w2.drewN nq) x
        have hbs : w.heap.size ≤ ((w2.drewN nq).alloc (.cells (enC x) 31)).heap.size := by
          have h1 := HBW.out.size
          have h2 := (below_new (w2.drewN nq) (.cells (enC x) 31)).size
          have h3 : (w2.drewN nq).heap.size = w2.heap.size := rfl
          omega
        clear hkP cp0 cy
        go_wp2_with (first
          | (refine wpList_row_at rfl _ _ rfl P rfl _ _ _ _ hkQ Try.underlying31 rfl enInfo ?_)
          | (refine wpList_buildSlice rfl _ _ _ rfl #[(0, .agg (enC x))] rfl hrow ?_)
          | (at_builtin; refine L3.wpList_append_any _ rfl _ _ 89 rfl w.heap.size 31 i0 _ 3 32 Try.underlying89 hi hz0 hz1 hz2 rfl (by decide) (.slice (some ad) (j + 1) cf) (j + 1) ((L.take (j + 1)).flatMap enL) rfl hown3 _ (some ⟨(w2.drewN nq).heap.size, 0, none⟩) 1 1 (enL x) rfl hnew (fun u hu => by simp [enL] at hu; rcases hu with rfl | rfl | rfl <;> rfl) (by unfold maxLen; omega) (by omega) hbs ?_
             intro v4 w4 ho4 hg4 hat4
             obtain ⟨A4, c4, rfl, _, _⟩ := L6.row_reads ho4)
          | go_in)
        go_roundw
        case rel =>
          refine ⟨(j + 1) + 1, s.extract (m + 1) s.size, rfl, ⟨HE2.out, by omega, ?_, ?_⟩⟩
          · rw [en_snoc HXK.out]
            exact ho4
          · have h1 : Below w.heap.size w (w2.drewN nq) := L6.below_drewN HBW.out nq
            exact (h1.alloc h1.size _).grown hg4 hbs (fun q e => (HOW.out.lt q e).1)
        case measure => simp [szV, ByteArray.size_extract]; omega
    · have hke : k = L.length := by have := hE.le; omega
      have htn : leftT L tn k = tn := by rw [hke]; exact left_end L tn
      have hi1 : Lib.indexByte (leftT L tn k) ((0 : Int).toNat.toUInt8) = -1 := by rw [htn]; exact ib_free tn HT.out
      rw [hi1] at hib
      rw [htn] at hsz
      have hsn : s.size = tn.length := hsz
      obtain ⟨Af, cf, rfl, hrdf, hnew⟩ := Rd.of_row (f := enL) (k := 3) (L := L) (fun _ => rfl) (by have := hE.own; rw [hke, List.take_length] at this; exact this)
      have HD := Lib.hid (And.intro hrdf (fun ad e => (hnew ad e).1))
      have HSN := Lib.hid (show (tn.length : Int) = (s.size : Int) by rw [hsn])
      have HI := Lib.hid hib
      have HBW := Lib.hid hE.bw
      clear hE hx hbk hsz hib hke htn hi1 hsn hrdf hnew HE
      go_wp2_with (first
        | (go_at_call 58; refine HI.out.mono ?_; rintro e w1 ⟨rfl, hw1⟩; rw [hw1]; clear hw1)
        | go_in)
      go_ret3
      exact ⟨Af, cf, by rw [HSN.out]; rfl, HD.out.1, HD.out.2, HBW.out⟩
end Go.Proofs.Ythhjdielananeaa
