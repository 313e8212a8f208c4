/-
  A state's text, by the code.
-/
import Derived.Test.YthkgadjiiapfgaaGreatDoorKeys
import Derived.Test.YthkgadjiiapfgaaGreatDoorWrite
import Derived.Test.YthkgadjiiapfgaaGreatDoorL1
import Derived.Lib.ItoaLen
set_option linter.unusedSimpArgs false
set_option linter.unusedVariables false
set_option maxRecDepth 10000
namespace Go.Proofs.YthkgadjiiapfgaaGreatDoor
open Go.RowKit Go.Maps Go.Lib
open L2 (less nums chk vlu Tab)
open L3 (Blk)
open L6 (Turn moreB fresh From In)

/-! Plainly -/
theorem names_sorted {s : Stt} (h : Sane s) {ss : List (List UInt8)} (hl : Listed okN (fA s) ss) : isort less id ss = (isort less Acc.nm (s.A.filter someA)).map Acc.nm := by
  have hn := names_listed h
  have e : isort less id ss = isort less id (namesOf s) := isort_same lessOrd hl.1 hn.1 fun x => (hl.same hn).mem_iff
  rw [e]
  exact (isort_map less id Acc.nm (s.A.filter someA)).symm
theorem flat_congr {α β : Type} {f g : α → List β} {L : List α} (h : ∀ x ∈ L, f x = g x) : L.flatMap f = L.flatMap g := by
  induction L with
  | nil => rfl
  | cons a L ih => rw [List.flatMap_cons, List.flatMap_cons, h a (List.mem_cons_self ..), ih fun x hx => h x (List.mem_cons_of_mem _ hx)]
theorem name_line {s : Stt} (h : Sane s) : ((isort less Acc.nm (s.A.filter someA)).map Acc.nm).flatMap (fun x => lineA (ofA s.A x)) = (isort less Acc.nm (s.A.filter someA)).flatMap lineA := by
  rw [List.flatMap_map]
  refine flat_congr fun a ha => ?_
  rw [ofA_mem h.ok.1 (List.mem_filter.1 ((isort_mem a _).1 ha)).1]
/-- The places where something stands. -/
def placesOf (s : Stt) : List Plc := (s.V.filter someV).map keyV
theorem places_listed {s : Stt} (h : Sane s) : Listed okP (fV s) (placesOf s) := by
  have hap := h.ok.2
  refine ⟨List.pairwise_map.2 (hap.filter _), fun x hx => ?_, fun x _ => ?_⟩
  · obtain ⟨v, hv, rfl⟩ := List.mem_map.1 hx
    have := h.keyed v (List.mem_filter.1 hv).1
    have h1 := name_size this.1
    have h2 := name_size this.2.1
    unfold okP keyV maxLen; dsimp only; omega
  · unfold fV
    constructor
    · intro hx
      obtain ⟨v, hv, rfl⟩ := List.mem_map.1 hx
      obtain ⟨h1, h2⟩ := List.mem_filter.1 hv
      unfold keyV
      dsimp only
      rw [getV_mem hap h1, if_neg (by unfold someV at h2; intro e; rw [e] at h2; cases h2)]; rfl
    · intro hx
      split at hx
      · cases hx
      · next hs => exact List.mem_map.2 ⟨⟨x.1, x.2, getV s.V x.1 x.2⟩, List.mem_filter.2 ⟨getV_there hs, by unfold someV; cases hg : getV s.V x.1 x.2 with
          | nil => exact absurd hg hs
          | cons => rfl⟩, rfl⟩
theorem places_sorted {s : Stt} (h : Sane s) {ss : List Plc} (hl : Listed okP (fV s) ss) : isort (lt2 less) id ss = (isort (lt2 less) keyV (s.V.filter someV)).map keyV := by
  have hn := places_listed h
  have e : isort (lt2 less) id ss = isort (lt2 less) id (placesOf s) := isort_same (ordered2 lessOrd) hl.1 hn.1 fun x => (hl.same hn).mem_iff
  rw [e]
  exact (isort_map (lt2 less) id keyV (s.V.filter someV)).symm
/-- What stands at a place. -/
def lineP (s : Stt) (p : Plc) : List UInt8 := lineV ⟨p.1, p.2, getV s.V p.1 p.2⟩
theorem place_line {s : Stt} (h : Sane s) : ((isort (lt2 less) keyV (s.V.filter someV)).map keyV).flatMap (lineP s) = (isort (lt2 less) keyV (s.V.filter someV)).flatMap lineV := by
  rw [List.flatMap_map]
  refine flat_congr fun v hv => ?_
  unfold lineP keyV
  dsimp only
  rw [getV_mem h.ok.2 (List.mem_filter.1 ((isort_mem v _).1 hv)).1]
theorem fA_named {s : Stt} (h : Sane s) : ∀ x, okN x → (fA s x).isSome = true → chk x = true := fun x _ hx => by
  unfold fA at hx
  split at hx
  · next hs =>
    have : ofA s.A x ∈ s.A := ofA_there (fun e => by rw [e] at hs; simp [someA] at hs)
    have := h.named _ this
    rwa [ofA_nm] at this
  · cases hx
theorem fV_named {s : Stt} (h : Sane s) : ∀ x, okP x → (fV s x).isSome = true → chk x.1 = true ∧ chk x.2 = true := fun x _ hx => by
  unfold fV at hx
  split at hx
  · cases hx
  · next hs =>
    have := h.keyed _ (getV_there hs)
    exact ⟨this.1, this.2.1⟩
theorem listed_size {w : World} {b n : Nat} {D : DataW Unit} {f : FA} (hown : w.ownsMap Tryz.prog 9 accElem b n D) (hf : Fits okN id accD D f) {ss : List (List UInt8)} (hl : Listed okN f ss) : ss.length ≤ Maps.size D := by
  obtain ⟨es, rfl, hap, hkeys⟩ := hown.entries kdN
  have hk := listed_names hown hf (List.Perm.refl _)
  have := listed_len hl hk
  rw [this]
  show (es.map fun p => strOf p.1).length ≤ _
  simp [Maps.size]
theorem itoa_small {n : Int} (h0 : -9223372036854775808 ≤ n) (h1 : n ≤ 9223372036854775807) : (itoa n).length ≤ 21 := Lib.itoa_length_le n h0 h1
theorem flat_le {α : Type} (f : α → List UInt8) (c : Nat) (L : List α) (h : ∀ x ∈ L, (f x).length ≤ c) : (L.flatMap f).length ≤ L.length * c := by
  induction L with
  | nil => simp
  | cons a L ih =>
    rw [List.flatMap_cons, List.length_append, List.length_cons, Nat.add_mul]
    have h1 := h a (List.mem_cons_self ..)
    have h2 := ih fun x hx => h x (List.mem_cons_of_mem _ hx)
    omega
theorem lineA_len {s : Stt} (h : Sane s) {x : List UInt8} (hx : chk x = true) : (lineA (ofA s.A x)).length ≤ 400 := by
  have h1 := name_size hx
  have h2 := h.full.of x
  have h3 := h.full.of_le x
  have h4 := h.low
  have h5 := nonce_of h.nonce x
  have h6 := Lib.itoa_length_le (ofA s.A x).am (by omega) (by omega)
  have h7 := Lib.itoa_length_le (ofA s.A x).no (by omega) (by omega)
  unfold lineA
  rw [ofA_nm]
  simp only [List.length_append, List.length_cons, List.length_nil]
  omega
/-- Two texts, one behind the other. -/
theorem exec_cat {ev : Operand → Value} {o : Oper} {W : World} (x y : Operand) (hop : o.op = Op.binOp .add 9 x y 9) (a b : List UInt8) {c : List UInt8} (hc : Hid (c = a ++ b)) (hx : ev x = .string (str a)) (hy : ev y = .string (str b)) (hl : a.length + b.length ≤ 1000000000000) :
    (execOp ev o).run Tryz.prog W = .ok (.value (.string (str c))) W := by
  have hc' := hc.out
  subst hc'
  have h1 : ¬ 9223372036854775807 < (str a).size + (str b).size := by rw [str_size, str_size]; omega
  have h2 : (str a ++ str b) = str (a ++ b) := str_app a b
  simp [execOp, hop, hx, hy, eqGuard, binOp, Op.stringOp, h1, h2]
  omega
theorem BdK.of_below {B b : Nat} {w w' : World} (h : Below w.heap.size w w') (hB : B ≤ w.heap.size) : BdK B b w w' :=
  ⟨h.mono hB, fun k o hk _ _ => (h.block k (Array.getElem?_eq_some_iff.1 hk).1).trans hk⟩
theorem itoa_any (n : Int) (w : World) (h0 : 0 ≤ n) (h1 : n ≤ 4611686018427387904) (hT : Tabs w) : Calls Tryz.prog 39 #[.int .i64 n] w (gives (.string (str (itoa n))) w) :=
  (L1.print_any n w (by omega) (by omega) hT.1).mono fun _ _ h => h
/-- What the reads of a name's line meet. -/
def holdL (m : Nat) (i j : Int) (W : World) : Prop := W.cell? ⟨m, 0, none⟩ = some (.int .i64 i) ∧ W.cell? ⟨m, 1, none⟩ = some (.int .i64 j)
theorem holdL.below {m : Nat} {i j : Int} {W W' : World} (h : holdL m i j W) (hb : Below W.heap.size W W') : holdL m i j W' :=
  ⟨(hb.cell (p := ⟨m, 0, none⟩) (L2.cell_in h.1)).trans h.1, (hb.cell (p := ⟨m, 1, none⟩) (L2.cell_in h.2)).trans h.2⟩
theorem keysA_box (b : Nat) (w : World) : Calls Tryz.prog 36 #[.map (some b)] w fun e w' =>
    e = .returned (.func (.func 57) #[] #[.pointer (some ⟨w.heap.size, 0, none⟩)]) ∧ Below w.heap.size w w' ∧ w.heap.size < w'.heap.size ∧ w'.cell? ⟨w.heap.size, 0, none⟩ = some (.map (some b)) :=
  (keysA_any b w).mono fun _ _ ⟨he, hw⟩ => ⟨he, by rw [hw]; exact (Below.refl _ _).alloc (Nat.le_refl _) _, by rw [hw]; simp, by rw [hw]; exact (Blk.new _ _ _).cell 0⟩
theorem keysV_box (b : Nat) (w : World) : Calls Tryz.prog 41 #[.map (some b)] w fun e w' =>
    e = .returned (.func (.func 63) #[] #[.pointer (some ⟨w.heap.size, 0, none⟩)]) ∧ Below w.heap.size w w' ∧ w.heap.size < w'.heap.size ∧ w'.cell? ⟨w.heap.size, 0, none⟩ = some (.map (some b)) :=
  (keysV_any b w).mono fun _ _ ⟨he, hw⟩ => ⟨he, by rw [hw]; exact (Below.refl _ _).alloc (Nat.le_refl _) _, by rw [hw]; simp, by rw [hw]; exact (Blk.new _ _ _).cell 0⟩
theorem exec_lookE {n : Nat} {ev : Operand → Value} {o : Oper} {W : World} (m x : Operand) (hop : o.op = Op.lookup 50 m x false) (b : Nat) (D : DataW Unit) (hm : ev m = .map (some b)) (hown : W.ownsMap Tryz.prog 68 entElem b n D)
    (p : Plc) (hx : ev x = .agg (plcC p)) (hp : okP p) (l : List UInt8) (hat : D.atKey (.string (kbP p)) (entD []) = entD l) :
    (execOp ev o).run Tryz.prog W = .ok (.value (.agg #[.string (str l)])) W := by
  obtain ⟨v, ps, hrun, hv⟩ := hown.lookup kdP Tryz.underlying50 (zeroEnt W) (show entElem (.agg #[.string ⟨#[]⟩]) = some (entD [], []) from rfl) (keyP hp)
  obtain rfl := ent_is hv hat
  simp [execOp, hop, hm, hx, hrun, Result.andThen]
theorem exec_fieldE {ev : Operand → Value} {o : Oper} {W : World} (x : Operand) (hop : o.op = Op.field 70 x 0) (l : List UInt8) (hx : ev x = .agg #[.string (str l)]) : (execOp ev o).run Tryz.prog W = .ok (.value (.string (str l))) W := by
  simp [execOp, hop, hx, field_ent, Result.andThen]
/-- What the reads of a place's line meet. -/
def holdP (g bv m : Nat) (p : Plc) (D : DataW Unit) (n : Nat) (W : World) : Prop := W.cell? ⟨g, 1, none⟩ = some (.map (some bv)) ∧ Blk W m 68 (plcC p) ∧ W.ownsMap Tryz.prog 68 entElem bv n D
section
variable {S : Nat → Prop} {g n : Nat} {s : Stt} {w : World}
/-- What stands ahead of the names' loop. -/
structure MidN (w : World) (s : Stt) (l : List UInt8) (wr : World) : Prop where
  bd : Bd wr w.heap.size w.heap.size l
  below : Below w.heap.size w wr
set_option maxHeartbeats 4000000 in
set_option maxRecDepth 100000 in
theorem digest_any (h : Sx w S g s n) (hT : Tabs w) (hn : n ≤ 1000000) :
    Calls Tryz.prog 14 #[.pointer (some ⟨g, 0, none⟩)] w (gives (.string (str (digT less s))) w) := by
  obtain ⟨hst, hs⟩ := h
  have hst0 := hst
  obtain ⟨ba, bv, DA, DV, hblk, hA, hV, h1, h2, h3, h4, h5, h6⟩ := hst
  go_enter Tryz.func14, Tryz.ntmps14
  go_upto_region 4 with (fail)
  obtain ⟨W1, hW1⟩ : ∃ W1, W1 = w.alloc (.cells #[.pointer none, .slice none 0 0] 82) := ⟨_, rfl⟩
  have hbd1 : Bd W1 w.heap.size w.heap.size [] := by rw [hW1]; exact Bd.fresh w
  have hbW1 : Below w.heap.size w W1 := by rw [hW1]; exact (Below.refl _ _).alloc (Nat.le_refl _) _
  have hs1 : W1.heap.size = w.heap.size + 1 := by rw [hW1]; simp
  rw [← hW1]
  clear hW1
  have c0 : W1.cell? ⟨g, 0, none⟩ = some (.map (some ba)) := (hbW1.cell (p := ⟨g, 0, none⟩) hblk.lt).trans (hblk.cell 0)
  have hT1 := hT.kept hbW1
  have hA1 := L6.Turn.map (S := fun _ => False) (L6.Turn.of_keep hbW1) hA (fun h => h)
  have HS := Lib.hid (fun W2 (hb12 : Below W1.heap.size W1 W2) (hl2 : W1.heap.size < W2.heap.size) (hm2 : W2.cell? ⟨W1.heap.size, 0, none⟩ = some (.map (some ba))) => sortedA hb12 hT1.2 hl2 hm2 (L6.Turn.map (S := fun _ => False) (L6.Turn.of_keep hb12) hA1 (fun h => h)) h1 (fA_named hs) (by have := hA.size_le; omega))
  have HK := Lib.hid (keysA_box ba W1)
  have H0 := Lib.hid hs
  have H1 := Lib.hid h1
  have H2 := Lib.hid h2
  have HZ := Lib.hid hs1
  clear h1 h2 hs hT1 hs1
  go_wp2_with (first
    | (go_at_call 36; refine HK.out.mono ?_; rintro e w2 ⟨rfl, hb12, hl2, hm2⟩)
    | (go_at_call 35; refine (HS.out _ hb12 hl2 hm2).mono ?_; rintro e w3 ⟨v, ss, rfl, hL, hrow, hb13⟩
       obtain ⟨A, c, rfl, hc, hrr⟩ := L6.row_reads hrow
       clear hrr)
    | go_in)
  have hbw3 : Below w.heap.size w w3 := hbW1.trans (hb13.mono hbW1.size)
  have hbd3 := hbd1.below hb13
  have hne : ∀ k, (Value.slice A ss.length c).ownBlock = some k → k ≠ w.heap.size := fun k e => by have := (hrow.lt k e).1; have := HZ.out; omega
  have hns := names_sorted H0.out hL
  obtain ⟨LN, hLN⟩ : ∃ LN, LN = isort less id ss := ⟨_, rfl⟩
  have hmem : ∀ x ∈ LN, okN x ∧ chk x = true := fun x hx => by
    rw [hLN, isort_mem] at hx
    exact ⟨hL.2.1 x hx, fA_named H0.out x (hL.2.1 x hx) ((hL.2.2 x (hL.2.1 x hx)).1 hx)⟩
  rw [← hLN] at hrow hns
  have hlen : ss.length = LN.length := by have := hrow.1; simpa using this.symm
  rw [hlen] at hrow hne ⊢
  have hLb : LN.length ≤ 1000000 := by
    have := (hL.same (names_listed H0.out)).length_eq
    have h1 := hA.size_le
    rw [← hlen]
    exact Nat.le_trans (listed_size hA H1.out hL) (Nat.le_trans h1 hn)
  have HM := Lib.hid hmem
  have HN := Lib.hid hns
  have HNE := Lib.hid hne
  have hsz1 := hbW1.size
  clear hmem hns hne hLN hlen hL hc hsz1
  clear ss
  go_loopw [18] (fun i wr => ∃ k : Nat, i = .int .i64 k ∧ k ≤ LN.length ∧ Hid (Bd wr w.heap.size w.heap.size ((LN.take k).flatMap (fun x => lineA (ofA s.A x)))) ∧ wr.ownsRow W1.heap.size 9 1 (.slice A LN.length c) LN.length (LN.map encStr) ∧ Below w.heap.size w wr)
    (fun i _ => LN.length - (intOf i).toNat)
  case atStart => exact ⟨0, rfl, Nat.zero_le _, Lib.hid (by simpa using hbd3), hrow, hbw3⟩
  case round =>
    obtain ⟨k, rfl, hk, hbd, hr, hbw⟩ := hrel
    by_cases hlt : k < LN.length
    · obtain ⟨x, hx⟩ : ∃ x, x = LN[k] := ⟨_, rfl⟩
      obtain ⟨hxo, hxc⟩ := HM.out x (by rw [hx]; exact List.getElem_mem hlt)
      have htk : LN.take (k + 1) = LN.take k ++ [x] := by rw [hx, List.take_succ_eq_append_getElem hlt]
      obtain ⟨ad, rfl, _, hcell⟩ := (L3.Reads.of_own hr).2 (by omega)
      have hcx := hcell k (.string (str x)) (by rw [List.getElem?_map, List.getElem?_eq_getElem hlt, hx]; rfl)
      have q0 : wr.cell? ⟨g, 0, none⟩ = some (.map (some ba)) := (hbw.cell (p := ⟨g, 0, none⟩) hblk.lt).trans (hblk.cell 0)
      have hAr := L6.Turn.map (S := fun _ => False) (L6.Turn.of_keep hbw) hA (fun h => h)
      have hat := H1.out.acc hxo
      rw [amt_fA, nnc_fA] at hat
      have hfu := H0.out.full.of x
      have hlo := H0.out.full.of_le x
      have hlw := H0.out.low
      have hno := nonce_of H0.out.nonce x
      have hln : lineA (ofA s.A x) = ((((x ++ [32]) ++ itoa (ofA s.A x).am) ++ [32]) ++ itoa (ofA s.A x).no) ++ [10] := by unfold lineA; rw [ofA_nm]; simp
      obtain ⟨i, hi⟩ : ∃ i, i = (ofA s.A x).am := ⟨_, rfl⟩
      obtain ⟨j, hj⟩ : ∃ j, j = (ofA s.A x).no := ⟨_, rfl⟩
      rw [← hi] at hat hfu hlo hln
      rw [← hj] at hat hfu hno hln
      have hxl := name_size hxc
      have HX := Lib.hid hln
      have HT := Lib.hid htk
      have hii := Lib.itoa_length_le i (by omega) (by omega)
      have hjj := Lib.itoa_length_le j (by omega) (by omega)
      have hll : ((LN.take k).flatMap (fun x => lineA (ofA s.A x))).length ≤ 1000000 * 400 := by
        refine Nat.le_trans (flat_le _ 400 _ fun y hy => lineA_len H0.out (HM.out y (List.mem_of_mem_take hy)).2) ?_
        rw [List.length_take]
        exact Nat.mul_le_mul_right _ (by omega)
      obtain ⟨pre, hpre⟩ : ∃ pre, pre = (LN.take k).flatMap (fun x => lineA (ofA s.A x)) := ⟨_, rfl⟩
      rw [← hpre] at hbd hll
      have HP := Lib.hid hpre
      have hI := fun W (hb : Below w.heap.size w W) => itoa_any i W (by omega) (by omega) (hT.kept hb)
      have hJ := fun W (hb : Below w.heap.size w W) => itoa_any j W (by omega) (by omega) (hT.kept hb)
      obtain ⟨ti, hti⟩ : ∃ ti, ti = itoa i := ⟨_, rfl⟩
      obtain ⟨tj, htj⟩ : ∃ tj, tj = itoa j := ⟨_, rfl⟩
      rw [← hti] at hI hii
      rw [← htj] at hJ hjj
      have HTI := Lib.hid hti
      have HTJ := Lib.hid htj
      have HI := Lib.hid hI
      have HJ := Lib.hid hJ
      obtain ⟨z1, hz1⟩ : ∃ z1, z1 = x ++ [32] := ⟨_, rfl⟩
      obtain ⟨z2, hz2⟩ : ∃ z2, z2 = z1 ++ ti := ⟨_, rfl⟩
      obtain ⟨z3, hz3⟩ : ∃ z3, z3 = z2 ++ [32] := ⟨_, rfl⟩
      obtain ⟨z4, hz4⟩ : ∃ z4, z4 = z3 ++ tj := ⟨_, rfl⟩
      obtain ⟨z5, hz5⟩ : ∃ z5, z5 = z4 ++ [10] := ⟨_, rfl⟩
      have l1 : z1.length ≤ 200 := by rw [hz1]; simp; omega
      have l2 : z2.length ≤ 300 := by rw [hz2]; simp; omega
      have l3 : z3.length ≤ 400 := by rw [hz3]; simp; omega
      have l4 : z4.length ≤ 500 := by rw [hz4]; simp; omega
      have l5 : z5.length ≤ 600 := by rw [hz5]; simp; omega
      have HZ5 : Hid (z5 = lineA (ofA s.A x)) := Lib.hid (by rw [hz5, hz4, hz3, hz2, hz1, hti, htj]; exact hln.symm)
      have Z1 := Lib.hid hz1
      have Z2 := Lib.hid hz2
      have Z3 := Lib.hid hz3
      have Z4 := Lib.hid hz4
      have Z5 := Lib.hid hz5
      clear hz1 hz2 hz3 hz4 hz5
      clear hi hj hln htk hpre hx hcell hfu hlo hlw hno hI hJ hti htj
      go_wp2_with (first
        | (at_lookup; refine wpList_look_acc _ rfl _ _ rfl ba n DA rfl hAr x rfl hxo i j hat ?_)
        | go_in)
      obtain ⟨wB, hwB⟩ : ∃ wB, wB = wr.alloc (.cells #[.int .i64 i, .int .i64 j] 57) := ⟨_, rfl⟩
      have hbn : Blk wB wr.heap.size 57 #[.int .i64 i, .int .i64 j] := by rw [hwB]; exact Blk.new _ _ _
      have hbB : Below wr.heap.size wr wB := by rw [hwB]; exact (Below.refl _ _).alloc (Nat.le_refl _) _
      rw [← hwB]
      clear hwB
      have hS : holdL wr.heap.size i j wB.drew := ⟨hbn.cell 0, hbn.cell 1⟩
      have hb0 : Below w.heap.size w wB.drew := (hbw.trans (hbB.mono hbw.size)).drew
      refine wp_region_K (holdL wr.heap.size i j) [0, 1, 2, 3, 5, 6, 7, 8, 10, 11] (by kernel_rfl) ?_
      refine wpK_quiet (f := 7) (by kernel_rfl) (fun _ x _ _ _ h => by cases x <;> exact h) hS [0, 1, 2, 3, 7, 8] _ _ (by kernel_rfl) (by kernel_rfl) (by kernel_rfl) ?_
      have ne : Nonempty (WorldIn (holdL wr.heap.size i j)) := ⟨⟨_, hS⟩⟩
      have p0 := fun y : WorldIn (holdL wr.heap.size i j) => y.h.1
      have p1 := fun y : WorldIn (holdL wr.heap.size i j) => y.h.2
      conv => arg 5; simp [pick]
      go_big_quiet_step (fail)
      refine wpQuiet_value rfl (fun y => exec_cat _ _ rfl x [32] Z1 rfl rfl (by simp; omega)) ?_
      conv => arg 6; simp only [Act.put, List.setIfInBounds_toArray, List.set_cons_zero, List.set_cons_succ]
      iterate 4 go_big_quiet_step (fail)
      refine wpQuiet_nil ?_
      refine wpK_step 4 (by kernel_rfl) rfl ?_
      go_wp2_with (go_at_call 39; refine (HI.out _ hb0).mono ?_; rintro e w5 ⟨rfl, hb5⟩)
      have hb5' := nxt hb0 hb5
      refine stepQ.mk ⟨fun _ => hS.below hb5, ?_⟩
      refine wpK_quiet (f := 4) (by kernel_rfl) (fun _ x _ _ _ h => by cases x <;> exact h) (hS.below hb5) [5, 6] _ _ (by kernel_rfl) (by kernel_rfl) (by kernel_rfl) ?_
      conv => arg 5; simp [pick]
      refine wpQuiet_value rfl (fun y => exec_cat _ _ rfl z1 ti Z2 rfl rfl (by omega)) ?_
      conv => arg 6; simp only [Act.put, List.setIfInBounds_toArray, List.set_cons_zero, List.set_cons_succ]
      refine wpQuiet_value rfl (fun y => exec_cat _ _ rfl z2 [32] Z3 rfl rfl (by simp; omega)) ?_
      conv => arg 6; simp only [Act.put, List.setIfInBounds_toArray, List.set_cons_zero, List.set_cons_succ]
      refine wpQuiet_nil ?_
      refine wpK_step 9 (by kernel_rfl) rfl ?_
      go_wp2_with (go_at_call 39; refine (HJ.out _ hb5').mono ?_; rintro e w6 ⟨rfl, hb6⟩)
      have hb6' := nxt hb5' hb6
      refine stepQ.mk ⟨fun _ => (hS.below hb5).below hb6, ?_⟩
      refine wpK_quiet (f := 1) (by kernel_rfl) (fun _ x _ _ _ h => by cases x <;> exact h) ((hS.below hb5).below hb6) [10, 11] _ _ (by kernel_rfl) (by kernel_rfl) (by kernel_rfl) ?_
      conv => arg 5; simp [pick]
      refine wpQuiet_value rfl (fun y => exec_cat _ _ rfl z3 tj Z4 rfl rfl (by omega)) ?_
      conv => arg 6; simp only [Act.put, List.setIfInBounds_toArray, List.set_cons_zero, List.set_cons_succ]
      refine wpQuiet_value rfl (fun y => exec_cat _ _ rfl z4 [10] Z5 rfl rfl (by simp; omega)) ?_
      conv => arg 6; simp only [Act.put, List.setIfInBounds_toArray, List.set_cons_zero, List.set_cons_succ]
      refine wpQuiet_nil ?_
      have hbdW : Bd w6 w.heap.size w.heap.size pre := ((hbd.out.below hbB).below (L6.undrew hb5)).below hb6
      have hwr := write_any w.heap.size w.heap.size pre z5 w6 hbdW (by omega) hb6'.size
      have hbn6 : Blk w6 wr.heap.size 57 #[.int .i64 i, .int .i64 j] := ((hbn.below (L6.undrew hb5) hbn.lt).below hb6 (Nat.lt_of_lt_of_le hbn.lt (L6.undrew hb5).size))
      have hmb : wr.heap.size ≠ w.heap.size := fun e => by have := hbd.out.lt; omega
      refine wpK_step 12 (by kernel_rfl) rfl ?_
      go_wp2_with (go_at_call 38; refine hwr.mono ?_; rintro e w7 ⟨rfl, hbd7, hk7⟩)
      have hbn7 : Blk w7 wr.heap.size 57 #[.int .i64 i, .int .i64 j] := hk7.cells hbn6 hmb (by decide)
      refine stepQ.mk ⟨fun _ => ⟨hbn7.cell 0, hbn7.cell 1⟩, ?_⟩
      refine wpK_seq [] _ _ _ (by kernel_rfl) ?_
      conv => arg 4; simp [pick]
      go_wp2
      go_roundw
      have hpre2 : pre ++ z5 = (LN.take (k + 1)).flatMap (fun x => lineA (ofA s.A x)) := by rw [HT.out, List.flatMap_append, ← HP.out, HZ5.out]; simp
      case rel => exact ⟨k + 1, by go_num, by omega, Lib.hid (hpre2 ▸ hbd7), hk7.row ((L6.Turn.row (S := fun _ => False) (L6.Turn.of_keep ((hbB.trans ((L6.undrew hb5).mono hbB.size)).trans (hb6.mono (Nat.le_trans hbB.size (L6.undrew hb5).size)))) hr (fun _ _ h => h))) HNE.out (by decide), hb6'.trans hk7.1⟩
      case measure => simp [intOf]; omega
    · obtain rfl : k = LN.length := by omega
      obtain ⟨wo, hwo⟩ : ∃ wo, wo = wr := ⟨_, rfl⟩
      subst hwo
      have hdone := hbd.out
      rw [List.take_length, HN.out, name_line H0.out] at hdone
      obtain ⟨T1, hT1'⟩ : ∃ T1, T1 = (isort less Acc.nm (s.A.filter someA)).flatMap lineA := ⟨_, rfl⟩
      have hT1l : T1.length ≤ 1000000 * 400 := by
        have h1 : T1 = (LN.take LN.length).flatMap (fun x => lineA (ofA s.A x)) := by rw [List.take_length, HN.out, name_line H0.out]; exact hT1'
        rw [h1]
        refine Nat.le_trans (flat_le _ 400 _ fun y hy => lineA_len H0.out (HM.out y (List.mem_of_mem_take hy)).2) ?_
        rw [List.length_take]
        exact Nat.mul_le_mul_right _ (by omega)
      rw [← hT1'] at hdone
      have HD := Lib.hid hdone
      have HE := Lib.hid hT1'
      have c1 : wo.cell? ⟨g, 1, none⟩ = some (.map (some bv)) := (hbw.cell (p := ⟨g, 1, none⟩) hblk.lt).trans (hblk.cell 1)
      have hVr := L6.Turn.map (S := fun _ => False) (L6.Turn.of_keep hbw) hV (fun h => h)
      have HSV := Lib.hid (fun W2 (hb12 : Below wo.heap.size wo W2) (hl2 : wo.heap.size < W2.heap.size) (hm2 : W2.cell? ⟨wo.heap.size, 0, none⟩ = some (.map (some bv))) => sortedV hb12 (hT.kept hbw).2 hl2 hm2 (L6.Turn.map (S := fun _ => False) (L6.Turn.of_keep hb12) hVr (fun h => h)) H2.out (fV_named H0.out) (by have := hV.size_le; omega))
      have HKV := Lib.hid (keysV_box bv wo)
      clear hdone hT1' hr
      go_wp2_with (first
        | (go_at_call 41; refine HKV.out.mono ?_; rintro e v2 ⟨rfl, vb12, vl2, vm2⟩)
        | (go_at_call 40; refine (HSV.out _ vb12 vl2 vm2).mono ?_; rintro e v3 ⟨u, ss, rfl, ⟨hL, hss⟩, hrow, vb13⟩
           obtain ⟨A2, c2, rfl, hc2, hrr⟩ := L6.row_reads hrow
           clear hrr)
        | go_in)
      have hbv3 : Below w.heap.size w v3 := hbw.trans (vb13.mono hbw.size)
      have hbd3 := HD.out.below vb13
      have hne : ∀ k, (Value.slice A2 ss.length c2).ownBlock = some k → k ≠ w.heap.size := fun k e => by have := (hrow.lt k e).1; have := HD.out.lt; omega
      have hns := places_sorted H0.out hL
      obtain ⟨LP, hLP⟩ : ∃ LP, LP = isort (lt2 less) id ss := ⟨_, rfl⟩
      have hmem : ∀ x ∈ LP, okP x ∧ (chk x.1 = true ∧ chk x.2 = true) ∧ (getV s.V x.1 x.2).length ≤ 128 := fun x hx => by
        rw [hLP, isort_mem] at hx
        have hso := (hL.2.2 x (hL.2.1 x hx)).1 hx
        refine ⟨hL.2.1 x hx, fV_named H0.out x (hL.2.1 x hx) hso, ?_⟩
        unfold fV at hso
        split at hso
        · cases hso
        · next hs' => exact value_size (H0.out.keyed _ (getV_there hs')).2.2
      rw [← hLP] at hrow hns
      have hlen : ss.length = LP.length := by have := hrow.1; rw [flat_len (f := plcL) (k := 2) (fun _ => rfl) LP] at this; omega
      rw [hlen] at hrow hne hss ⊢
      have hLPb : LP.length ≤ 1000000 := Nat.le_trans hss (Nat.le_trans hV.size_le hn)
      have HMP := Lib.hid hmem
      have HNP := Lib.hid hns
      have HNEP := Lib.hid hne
      clear hmem hns hne hLP hlen hL hc2 hss
      clear ss
      go_loopw [49] (fun i wr => ∃ k : Nat, i = .int .i64 k ∧ k ≤ LP.length ∧ Hid (Bd wr w.heap.size w.heap.size (T1 ++ (LP.take k).flatMap (lineP s))) ∧ wr.ownsRow wo.heap.size 68 2 (.slice A2 LP.length c2) LP.length (LP.flatMap plcL) ∧ Below w.heap.size w wr)
        (fun i _ => LP.length - (intOf i).toNat)
      case atStart => exact ⟨0, rfl, Nat.zero_le _, Lib.hid (by simpa using hbd3), hrow, hbv3⟩
      case round =>
        obtain ⟨k, rfl, hkq, hbdq, hrq, hbq⟩ := hrel
        by_cases hlt : k < LP.length
        · obtain ⟨p, hp⟩ : ∃ p, p = LP[k] := ⟨_, rfl⟩
          obtain ⟨hpo, ⟨hpc1, hpc2⟩, hvl⟩ := HMP.out p (by rw [hp]; exact List.getElem_mem hlt)
          have htk : LP.take (k + 1) = LP.take k ++ [p] := by rw [hp, List.take_succ_eq_append_getElem hlt]
          obtain ⟨ad, rfl, _, hcell⟩ := (L3.Reads.of_own hrq).2 (by omega)
          have hcs : ∀ j v, (plcL p)[j]? = some v → wr.cell? ((ad.add (k * 2)).add j) = some v := fun j v hj => by
            have hj2 : j < 2 := by
              rcases Nat.lt_or_ge j 2 with h | h
              · exact h
              · rw [List.getElem?_eq_none (by simp [plcL]; omega)] at hj; cases hj
            rw [L3.add_of_add]
            exact hcell _ v (by rw [flat_get (f := plcL) (k := 2) (fun _ => rfl) hlt hj2, ← hp]; exact hj)
          have q1 : wr.cell? ⟨g, 1, none⟩ = some (.map (some bv)) := (hbq.cell (p := ⟨g, 1, none⟩) hblk.lt).trans (hblk.cell 1)
          have hVq := L6.Turn.map (S := fun _ => False) (L6.Turn.of_keep hbq) hV (fun h => h)
          have hat := H2.out.ent hpo
          rw [show vlv (fV s) p = getV s.V p.1 p.2 from fV_get s p] at hat
          have hln : lineP s p = ((((p.1 ++ [9]) ++ p.2) ++ [9]) ++ getV s.V p.1 p.2) ++ [10] := by unfold lineP lineV; simp
          obtain ⟨va, hva⟩ : ∃ va, va = getV s.V p.1 p.2 := ⟨_, rfl⟩
          rw [← hva] at hat hvl hln
          have hp1 := name_size hpc1
          have hp2 := name_size hpc2
          have HTK := Lib.hid htk
          have hll : (T1 ++ (LP.take k).flatMap (lineP s)).length ≤ 2000000 * 400 := by
            have h1 : ((LP.take k).flatMap (lineP s)).length ≤ 1000000 * 400 := by
              refine Nat.le_trans (flat_le _ 400 _ fun y hy => ?_) (by rw [List.length_take]; exact Nat.mul_le_mul_right _ (by omega))
              obtain ⟨_, ⟨a1, a2⟩, a3⟩ := HMP.out y (List.mem_of_mem_take hy)
              have b1 := name_size a1
              have b2 := name_size a2
              unfold lineP lineV
              simp only [List.length_append, List.length_cons, List.length_nil]
              omega
            rw [List.length_append]; omega
          obtain ⟨pre, hpre⟩ : ∃ pre, pre = T1 ++ (LP.take k).flatMap (lineP s) := ⟨_, rfl⟩
          rw [← hpre] at hbdq hll
          have HP := Lib.hid hpre
          obtain ⟨z1, hz1⟩ : ∃ z1, z1 = p.1 ++ [9] := ⟨_, rfl⟩
          obtain ⟨z2, hz2⟩ : ∃ z2, z2 = z1 ++ p.2 := ⟨_, rfl⟩
          obtain ⟨z3, hz3⟩ : ∃ z3, z3 = z2 ++ [9] := ⟨_, rfl⟩
          obtain ⟨z4, hz4⟩ : ∃ z4, z4 = z3 ++ va := ⟨_, rfl⟩
          obtain ⟨z5, hz5⟩ : ∃ z5, z5 = z4 ++ [10] := ⟨_, rfl⟩
          have l1 : z1.length ≤ 200 := by rw [hz1]; simp; omega
          have l2 : z2.length ≤ 400 := by rw [hz2]; simp; omega
          have l3 : z3.length ≤ 500 := by rw [hz3]; simp; omega
          have l4 : z4.length ≤ 700 := by rw [hz4]; simp; omega
          have l5 : z5.length ≤ 800 := by rw [hz5]; simp; omega
          have HZ5 : Hid (z5 = lineP s p) := Lib.hid (by rw [hz5, hz4, hz3, hz2, hz1]; exact hln.symm)
          have Z1 := Lib.hid hz1
          have Z2 := Lib.hid hz2
          have Z3 := Lib.hid hz3
          have Z4 := Lib.hid hz4
          have Z5 := Lib.hid hz5
          clear hz1 hz2 hz3 hz4 hz5 hva hln htk hpre hp hcell
          go_wp2_with (first
            | (refine wpList_cells_at rfl _ _ rfl (ad.add (k * 2)) rfl (plcL p) _ hcs Tryz.underlying68 rfl info_plc ?_)
            | (refine wpList_store_new rfl _ _ _ rfl _ (plcC p) rfl rfl _ _ info_plc rfl (by kernel_rfl) ?_)
            | go_in)
          obtain ⟨wB, hwB⟩ : ∃ wB, wB = wr.alloc (.cells (plcC p) 68) := ⟨_, rfl⟩
          have hbn : Blk wB wr.heap.size 68 (plcC p) := by rw [hwB]; exact Blk.new _ _ _
          have hbB : Below wr.heap.size wr wB := by rw [hwB]; exact (Below.refl _ _).alloc (Nat.le_refl _) _
          simp only [Act.put]
          rw [← hwB]
          clear hwB
          have hS : holdP g bv wr.heap.size p DV n wB.drew := ⟨(hbB.cell (p := ⟨g, 1, none⟩) (L2.cell_in q1)).trans q1, hbn, L6.Turn.map (S := fun _ => False) (L6.Turn.of_keep hbB).drew hVq (fun h => h)⟩
          have hb0 : Below w.heap.size w wB.drew := (hbq.trans (hbB.mono hbq.size)).drew
          refine wp_region_K (holdP g bv wr.heap.size p DV n) [0, 1, 2, 3, 4, 5, 6, 7, 8, 9, 10, 11, 12, 13, 14, 15] (by kernel_rfl) ?_
          refine wpK_quiet (f := 1) (by kernel_rfl) (fun _ x _ _ _ h => by cases x <;> exact h) hS [0, 1, 2, 3, 4, 5, 6, 7, 8, 9, 10, 11, 12, 13, 14, 15] _ _ (by kernel_rfl) (by kernel_rfl) (by kernel_rfl) ?_
          have ne : Nonempty (WorldIn (holdP g bv wr.heap.size p DV n)) := ⟨⟨_, hS⟩⟩
          have r0 : ∀ y : WorldIn (holdP g bv wr.heap.size p DV n), y.w.cell? ⟨g, 1, none⟩ = some (.map (some bv)) := fun y => y.h.1
          have r1 : ∀ y : WorldIn (holdP g bv wr.heap.size p DV n), y.w.cell? ⟨wr.heap.size, 0, none⟩ = some (.string (str p.1)) := fun y => y.h.2.1.cell 0
          have r2 : ∀ y : WorldIn (holdP g bv wr.heap.size p DV n), y.w.cell? ⟨wr.heap.size, 1, none⟩ = some (.string (str p.2)) := fun y => y.h.2.1.cell 1
          conv => arg 5; simp [pick]
          iterate 2 go_big_quiet_step (fail)
          refine wpQuiet_value rfl (fun y => exec_cat _ _ rfl p.1 [9] Z1 rfl rfl (by simp; omega)) ?_
          conv => arg 6; simp only [Act.put, List.setIfInBounds_toArray, List.set_cons_zero, List.set_cons_succ]
          iterate 2 go_big_quiet_step (fail)
          refine wpQuiet_value rfl (fun y => exec_cat _ _ rfl z1 p.2 Z2 rfl rfl (by omega)) ?_
          conv => arg 6; simp only [Act.put, List.setIfInBounds_toArray, List.set_cons_zero, List.set_cons_succ]
          refine wpQuiet_value rfl (fun y => exec_cat _ _ rfl z2 [9] Z3 rfl rfl (by simp; omega)) ?_
          conv => arg 6; simp only [Act.put, List.setIfInBounds_toArray, List.set_cons_zero, List.set_cons_succ]
          iterate 4 go_big_quiet_step (fail)
          refine wpQuiet_row rfl _ _ rfl wr.heap.size rfl _ _ _ _ (fun y => y.h.2.1) Tryz.underlying68 rfl info_plc ?_
          conv => arg 6; simp only [Act.put, List.setIfInBounds_toArray, List.set_cons_zero, List.set_cons_succ]
          refine wpQuiet_value rfl (fun y => exec_lookE _ _ rfl bv DV rfl y.h.2.2 p rfl hpo va hat) ?_
          conv => arg 6; simp only [Act.put, List.setIfInBounds_toArray, List.set_cons_zero, List.set_cons_succ]
          refine wpQuiet_value rfl (fun y => exec_fieldE _ rfl va rfl) ?_
          conv => arg 6; simp only [Act.put, List.setIfInBounds_toArray, List.set_cons_zero, List.set_cons_succ]
          refine wpQuiet_value rfl (fun y => exec_cat _ _ rfl z3 va Z4 rfl rfl (by omega)) ?_
          conv => arg 6; simp only [Act.put, List.setIfInBounds_toArray, List.set_cons_zero, List.set_cons_succ]
          refine wpQuiet_value rfl (fun y => exec_cat _ _ rfl z4 [10] Z5 rfl rfl (by simp; omega)) ?_
          conv => arg 6; simp only [Act.put, List.setIfInBounds_toArray, List.set_cons_zero, List.set_cons_succ]
          refine wpQuiet_nil ?_
          have hbdW : Bd wB.drew w.heap.size w.heap.size pre := hbdq.out.below (L6.below_drew hbB)
          have hwrt := write_any w.heap.size w.heap.size pre z5 wB.drew hbdW (by omega) hb0.size
          have hmb : wr.heap.size ≠ w.heap.size := fun e => by have := hbdq.out.lt; omega
          refine wpK_step 16 (by kernel_rfl) rfl ?_
          go_wp2_with (go_at_call 38; refine hwrt.mono ?_; rintro e w7 ⟨rfl, hbd7, hk7⟩)
          have hbn7 : Blk w7 wr.heap.size 68 (plcC p) := hk7.cells hbn hmb (by decide)
          have hb7 := hb0.trans hk7.1
          refine stepQ.mk ⟨fun _ => ⟨(hb7.cell (p := ⟨g, 1, none⟩) hblk.lt).trans (hblk.cell 1), hbn7, L6.Turn.map (S := fun _ => False) (L6.Turn.of_keep hb7) hV (fun h => h)⟩, ?_⟩
          refine wpK_seq [] _ _ _ (by kernel_rfl) ?_
          conv => arg 4; simp [pick]
          go_wp2
          go_roundw
          have hpre2 : pre ++ z5 = T1 ++ (LP.take (k + 1)).flatMap (lineP s) := by rw [HTK.out, List.flatMap_append, ← List.append_assoc, ← HP.out, HZ5.out]; simp
          case rel => exact ⟨k + 1, by go_num, by omega, Lib.hid (hpre2 ▸ hbd7), hk7.row (L6.Turn.row (S := fun _ => False) (L6.Turn.of_keep (L6.below_drew hbB)) hrq (fun _ _ h => h)) HNEP.out (by decide), hb7⟩
          case measure => simp [intOf]; omega
        · obtain rfl : k = LP.length := by omega
          have hfin := hbdq.out
          rw [List.take_length, HNP.out, place_line H0.out, HE.out] at hfin
          have hstr := string_any w.heap.size w.heap.size _ wr hfin hbq.size
          change Calls _ _ _ _ (fun e w' => e = .returned (.string (str (digT less s))) ∧ _) at hstr
          have HSTR := Lib.hid hstr
          clear hfin hstr
          go_wp2_with (go_at_call 43; refine HSTR.out.mono ?_; rintro e w9 ⟨rfl, hb9⟩)
          go_ret
          exact ⟨rfl, hbq.trans hb9⟩
end
end Go.Proofs.YthkgadjiiapfgaaGreatDoor
