/-
  A tree's questions: Has, Get, Root, Len; why a block is refused, why no path leads to a number.
-/
import Derived.Test.YtgclofemhhhepaaSmall
set_option linter.unusedSimpArgs false
set_option linter.unusedVariables false
set_option maxRecDepth 10000
namespace Go.Proofs.Ytgclofemhhhepaa
open Go.RowKit Go.Maps Go.Lib
open L3 (Blk Reads)
open L6 (Turn moreB fresh From In)

/-! What look-ups tell -/
theorem hasV_iff {r : Int} {L : List Ent} {n : Int} : hasV r L n ↔ n = r ∨ ins L n := Iff.rfl
theorem inF_none {L : List Ent} {x : Int} (h : ¬ ins L x) : inF L x = none := by
  cases hf : inF L x with
  | none => rfl
  | some b => obtain ⟨e, he, h1, h2, _⟩ := inF_is hf; exact absurd ⟨e, he, h1, h2⟩ h
theorem outF_none {L : List Ent} {x : Int} (h : ¬ ∃ e ∈ L, e.n = x ∧ e.isin = false) : outF L x = none := by
  cases hf : outF L x with
  | none => rfl
  | some b => obtain ⟨e, he, h1, h2, _⟩ := outF_is hf; exact absurd ⟨e, he, h1, h2⟩ h
section
variable {w : World} {S : Nat → Prop} {g : Nat} {s : TS}
set_option maxHeartbeats 1000000 in
theorem has_any (h : Tr w S g s) (n : Int) (hn : inI n) : Calls Try.prog 19 #[.pointer (some ⟨g, 0, none⟩), .int .i64 n] w (gives (.bool (decide (hasV s.root s.L n))) w) := by
  obtain ⟨bb, bo, DB, DO, hb, h1, h2, h3, h4, h5, h6, h7, h8⟩ := h
  have c1 := hb.cell 1
  have c3 := hb.cell 3
  obtain ⟨y, hy⟩ : ∃ y, y = (inF s.L n).getD zeroBl := ⟨_, rfl⟩
  have hat : DB.atKey (keyI n) (blD zeroBl) = blD y := by rw [h3.look hn zeroBl, hy]
  obtain ⟨r, hr⟩ : ∃ r, r = Maps.has DB (keyI n) := ⟨_, rfl⟩
  have hh := (h3 n hn).1
  have HV : Hid (hasV s.root s.L n ↔ n = s.root ∨ r = true) := Lib.hid (by
    rw [hasV_iff, hr, hh]
    constructor
    · rintro (h | ⟨e, he, h1, h2⟩)
      · exact .inl h
      · right
        cases hf : inF s.L n with
        | some b => rfl
        | none =>
          exfalso
          unfold inF at hf
          rw [Option.map_eq_none_iff, List.find?_eq_none] at hf
          have := hf e he
          simp [h1, h2] at this
    · rintro (h | h)
      · exact .inl h
      · obtain ⟨b, hb⟩ := Option.isSome_iff_exists.1 h
        obtain ⟨e, he, h1, h2, _⟩ := inF_is hb
        exact .inr ⟨e, he, h1, h2⟩)
  have hq2 : decide (hasV s.root s.L n) = decide (n = s.root ∨ r = true) := decide_eq_decide.2 HV.out
  rw [hq2]
  have hk := hr.symm
  obtain ⟨rt, hrt⟩ : ∃ rt, rt = s.root := ⟨_, rfl⟩
  rw [← hrt] at c1 ⊢
  obtain ⟨q, hq⟩ : ∃ q, q = decide (n = rt ∨ r = true) := ⟨_, rfl⟩
  rw [← hq]
  have HQ := Lib.hid hq
  clear hy hh h3 h4 hr hq hrt hq2 HV
  have hb0 : Below w.heap.size w (w.alloc (.cells (blC y) 39)) := below_box _ y
  have c1' : (w.alloc (.cells (blC y) 39)).cell? ⟨g, 1, none⟩ = some (.int .i64 rt) := (hb0.cell (p := ⟨g, 1, none⟩) hb.lt).trans c1
  cases r with
  | true =>
    go_enter Try.func19, Try.ntmps19
    go_wp2_with (first
      | (at_lookup; refine wpList_look_bl_ok _ rfl _ _ rfl bb _ DB rfl h1 n rfl hn y true hat hk ?_)
      | (refine wpList_store_new rfl _ _ _ rfl w (blC y) rfl rfl 39 _ blInfo rfl (blC_ones _) ?_)
      | go_in)
    go_ret
    refine ⟨?_, hb0⟩
    rw [HQ.out]; simp
  | false =>
    by_cases c : n = rt
    · have c' : (n == rt) = true := by simpa using c
      go_enter Try.func19, Try.ntmps19
      go_wp2_with (first
        | (at_lookup; refine wpList_look_bl_ok _ rfl _ _ rfl bb _ DB rfl h1 n rfl hn y false hat hk ?_)
        | (refine wpList_store_new rfl _ _ _ rfl w (blC y) rfl rfl 39 _ blInfo rfl (blC_ones _) ?_)
        | go_in)
      go_ret
      refine ⟨?_, hb0⟩
      rw [HQ.out]; simp [c]
    · have c' : (n == rt) = false := by simpa using c
      go_enter Try.func19, Try.ntmps19
      go_wp2_with (first
        | (at_lookup; refine wpList_look_bl_ok _ rfl _ _ rfl bb _ DB rfl h1 n rfl hn y false hat hk ?_)
        | (refine wpList_store_new rfl _ _ _ rfl w (blC y) rfl rfl 39 _ blInfo rfl (blC_ones _) ?_)
        | go_in)
      go_ret
      refine ⟨?_, hb0⟩
      rw [HQ.out]; simp [c]
theorem has_is (h : Tr w S g s) (n : Int) (b : Bool) (hn : inI n) (hb : decide (hasV s.root s.L n) = b) : Calls Try.prog 19 #[.pointer (some ⟨g, 0, none⟩), .int .i64 n] w (gives (.bool b) w) := by
  have := has_any h n hn; rw [hb] at this; exact this
end

/-! Look-ups, as numbers tell -/
def outs (L : List Ent) (n : Int) : Prop := ∃ e ∈ L, e.n = n ∧ e.isin = false
instance (L : List Ent) (n : Int) : Decidable (ins L n) := by unfold ins; infer_instance
instance (L : List Ent) (n : Int) : Decidable (outs L n) := by unfold outs; infer_instance
theorem known_iff {L : List Ent} {n : Int} : known L n ↔ ins L n ∨ outs L n := by
  constructor
  · rintro ⟨e, he, hn⟩
    cases hi : e.isin with
    | true => exact .inl ⟨e, he, hn, hi⟩
    | false => exact .inr ⟨e, he, hn, hi⟩
  · rintro (⟨e, he, hn, _⟩ | ⟨e, he, hn, _⟩) <;> exact ⟨e, he, hn⟩
theorem look_in {L : List Ent} {D : DataW Unit} (h : FitsI blD D (inF L)) {n : Int} (hn : inI n) : D.atKey (keyI n) (blD zeroBl) = blD ((inF L n).getD zeroBl) ∧ Maps.has D (keyI n) = decide (ins L n) := by
  refine ⟨h.look hn zeroBl, ?_⟩
  rw [(h n hn).1, Bool.eq_iff_iff, decide_eq_true_eq]
  constructor
  · intro hs
    obtain ⟨b, hb⟩ := Option.isSome_iff_exists.1 hs
    obtain ⟨e, he, h1, h2, _⟩ := inF_is hb
    exact ⟨e, he, h1, h2⟩
  · intro hi
    cases hf : inF L n with
    | some b => rfl
    | none =>
      obtain ⟨e, he, h1, h2⟩ := hi
      unfold inF at hf
      rw [Option.map_eq_none_iff, List.find?_eq_none] at hf
      have := hf e he
      simp [h1, h2] at this
theorem look_out {L : List Ent} {D : DataW Unit} (h : FitsI blD D (outF L)) {n : Int} (hn : inI n) : D.atKey (keyI n) (blD zeroBl) = blD ((outF L n).getD zeroBl) ∧ Maps.has D (keyI n) = decide (outs L n) := by
  refine ⟨h.look hn zeroBl, ?_⟩
  rw [(h n hn).1, Bool.eq_iff_iff, decide_eq_true_eq]
  constructor
  · intro hs
    obtain ⟨b, hb⟩ := Option.isSome_iff_exists.1 hs
    obtain ⟨e, he, h1, h2, _⟩ := outF_is hb
    exact ⟨e, he, h1, h2⟩
  · intro hi
    cases hf : outF L n with
    | some b => rfl
    | none =>
      obtain ⟨e, he, h1, h2⟩ := hi
      unfold outF at hf
      rw [Option.map_eq_none_iff, List.find?_eq_none] at hf
      have := hf e he
      simp [h1, h2] at this
/-- Why a block is refused. -/
def refE (s : TS) (n : Int) (b : Bl) : Int := if n < 1 then 1 else if n = s.root ∨ known s.L n then 100 else if b.rd ≤ s.round then 151 else 0
theorem err_eq {a b : Int} (h : a = b) : Ending.returned (.int .i64 a) = .returned (.int .i64 b) := by rw [h]
section
variable {w : World} {S : Nat → Prop} {g : Nat} {s : TS}
set_option maxHeartbeats 2000000 in
set_option maxRecDepth 100000 in
theorem refuses_any (h : Tr w S g s) (n : Int) (b : Bl) (hn : inI n) : Calls Try.prog 25 #[.pointer (some ⟨g, 0, none⟩), .int .i64 n, .agg (blC b)] w (gives (.int .i64 (refE s n b)) w) := by
  have hb0 : Below w.heap.size w (w.alloc (.cells (blC b) 39)) := below_box _ b
  have k0 := box_new w 39 b
  have hT := h.below hb0
  obtain ⟨w1, hw1⟩ : ∃ w1, w1 = w.alloc (.cells (blC b) 39) := ⟨_, rfl⟩
  rw [← hw1] at hT k0
  obtain ⟨bb, bo, DB, DO, hb, h1, h2, h3, h4, h5, h6, h7, h8⟩ := hT
  have hTT : Tr w1 S g s := ⟨bb, bo, DB, DO, hb, h1, h2, h3, h4, h5, h6, h7, h8⟩
  have c4 : w1.cell? ⟨g, 4, none⟩ = some (.map (some bo)) := hb.cell 4
  obtain ⟨hat, hh⟩ := look_out h4 hn
  obtain ⟨y, hy⟩ : ∃ y, y = (outF s.L n).getD zeroBl := ⟨_, rfl⟩
  rw [← hy] at hat
  have HH := fun (x : Bool) (hx : decide (hasV s.root s.L n) = x) => Lib.hid (fun W (hb : Below w1.heap.size w1 W) => has_is (hTT.below hb) n x hn hx)
  have E := Lib.hid (show refE s n b = if n < 1 then 1 else if outs s.L n ∨ hasV s.root s.L n then 100 else if b.rd ≤ s.round then 151 else 0 by
    unfold refE
    have e : (n = s.root ∨ known s.L n) ↔ (outs s.L n ∨ hasV s.root s.L n) := ?_
    · simp only [e]
    rw [known_iff, hasV_iff]
    constructor
    · rintro (h | h | h)
      · exact .inr (.inl h)
      · exact .inr (.inr h)
      · exact .inl h
    · rintro (h | h | h)
      · exact .inr (.inr h)
      · exact .inl h
      · exact .inr (.inl h))
  have hB1 : Below w1.heap.size w1 (w1.alloc (.cells (blC y) 39)) := below_box _ y
  have d0 := fun W (hb : Below w1.heap.size w1 W) => k0.below hb k0.lt
  have d1 := fun W (hq : Below w1.heap.size w1 W) => hb.below hq hb.lt
  have D0 := Lib.hid d0
  have D1 := Lib.hid d1
  rw [← hw1] at hb0
  clear h1 h3 h4 hy d0 d1 hTT hb k0
  by_cases ho : outs s.L n
  · rw [decide_eq_true ho] at hh
    by_cases h0 : n < 1
    all_goals
      go_enter Try.func25, Try.ntmps25
      go_upto_region 3 with fail
      rw [← hw1]
      clear hw1
      go_wp2_with (first
        | (at_lookup; refine wpList_look_bl_ok _ rfl _ _ rfl bo _ DO rfl h2 n rfl hn y true hat hh ?_)
        | (refine wpList_store_new rfl _ _ _ rfl w1 (blC y) rfl rfl 39 _ blInfo rfl (blC_ones _) ?_)
        | go_in)
      go_ret
      exact ⟨err_eq (by rw [E.out]; simp [h0, ho]), nxt hb0 hB1⟩
  · rw [decide_eq_false ho] at hh
    by_cases h0 : n < 1
    · go_enter Try.func25, Try.ntmps25
      go_upto_region 3 with fail
      rw [← hw1]
      clear hw1
      go_wp2_with (first
        | (at_lookup; refine wpList_look_bl_ok _ rfl _ _ rfl bo _ DO rfl h2 n rfl hn y false hat hh ?_)
        | (refine wpList_store_new rfl _ _ _ rfl w1 (blC y) rfl rfl 39 _ blInfo rfl (blC_ones _) ?_)
        | go_in)
      go_ret
      exact ⟨err_eq (by rw [E.out]; simp [h0]), nxt hb0 hB1⟩
    · by_cases hv : hasV s.root s.L n
      · have H1 := HH true (decide_eq_true hv)
        clear HH
        go_enter Try.func25, Try.ntmps25
        go_upto_region 3 with fail
        rw [← hw1]
        clear hw1
        go_wp2_with (first
          | (at_lookup; refine wpList_look_bl_ok _ rfl _ _ rfl bo _ DO rfl h2 n rfl hn y false hat hh ?_)
          | (refine wpList_store_new rfl _ _ _ rfl w1 (blC y) rfl rfl 39 _ blInfo rfl (blC_ones _) ?_)
          | (go_at_call 19; refine (H1.out _ hB1).mono ?_; unfold gives; rintro e w2 ⟨rfl, hb2⟩)
          | go_in)
        go_ret
        exact ⟨err_eq (by rw [E.out]; simp [h0, hv]), nxt (nxt hb0 hB1) hb2⟩
      · have H1 := HH false (decide_eq_false hv)
        have E2 : Hid (refE s n b = if b.rd ≤ s.round then 151 else 0) := Lib.hid (by rw [E.out, if_neg h0, if_neg (by simp [ho, hv])])
        clear HH E
        by_cases hr : b.rd ≤ s.round
        all_goals
          go_enter Try.func25, Try.ntmps25
          go_upto_region 3 with fail
          rw [← hw1]
          clear hw1
          go_wp2_with (first
            | (at_lookup; refine wpList_look_bl_ok _ rfl _ _ rfl bo _ DO rfl h2 n rfl hn y false hat hh ?_)
            | (refine wpList_store_new rfl _ _ _ rfl w1 (blC y) rfl rfl 39 _ blInfo rfl (blC_ones _) ?_)
            | (go_at_call 19; refine (H1.out _ hB1).mono ?_; unfold gives; rintro e w2 ⟨rfl, hb2⟩
               have q0 : w2.cell? ⟨w.heap.size, 1, none⟩ = some (.int .i64 b.rd) := (D0.out _ (nxt hB1 hb2)).cell 1
               have q1 : w2.cell? ⟨g, 2, none⟩ = some (.int .i64 s.round) := (D1.out _ (nxt hB1 hb2)).cell 2)
            | go_in)
          go_quiet (fail)
          go_wp2
          go_ret
          exact ⟨err_eq (by rw [E2.out]; first | rw [if_pos hr] | rw [if_neg (by omega)]), L6.below_drewN (nxt (nxt hb0 hB1) hb2) _⟩
/-- Why no path leads there. -/
def lackE (s : TS) (n : Int) : Int := if hasV s.root s.L n then 0 else if outs s.L n then 150 else 50
set_option maxHeartbeats 2000000 in
set_option maxRecDepth 100000 in
theorem lacks_any (h : Tr w S g s) (n : Int) (hn : inI n) : Calls Try.prog 29 #[.pointer (some ⟨g, 0, none⟩), .int .i64 n] w (gives (.int .i64 (lackE s n)) w) := by
  have HH := fun (x : Bool) (hx : decide (hasV s.root s.L n) = x) => Lib.hid (fun W (hb : Below w.heap.size w W) => has_is (h.below hb) n x hn hx)
  by_cases hv : hasV s.root s.L n
  · have H1 := HH true (decide_eq_true hv)
    have E := Lib.hid (show lackE s n = 0 from if_pos hv)
    clear HH
    go_enter Try.func29, Try.ntmps29
    go_wp2_with (first
      | (go_at_call 19; refine (H1.out _ (Below.refl _ _)).mono ?_; unfold gives; rintro e w2 ⟨rfl, hb2⟩)
      | go_in)
    go_ret
    exact ⟨err_eq E.out.symm, hb2⟩
  · have H1 := HH false (decide_eq_false hv)
    clear HH
    by_cases ho : outs s.L n
    all_goals
      have E := Lib.hid (show lackE s n = if outs s.L n then 150 else 50 from if_neg hv)
      first
        | (have E2 := Lib.hid (E.out.trans (if_pos ho)); have hd := decide_eq_true ho)
        | (have E2 := Lib.hid (E.out.trans (if_neg ho)); have hd := decide_eq_false ho)
      have hdd := Lib.hid hd
      clear E hv ho hd
      go_enter Try.func29, Try.ntmps29
      go_upto_region 5 with (first
        | (go_at_call 19; refine (H1.out _ (Below.refl _ _)).mono ?_; unfold gives; rintro e w2 ⟨rfl, hb2⟩)
        | go_in)
      obtain ⟨bb, bo, DB, DO, hb, h1, h2, h3, h4, h5, h6, h7, h8⟩ := h.below hb2
      have c4 : w2.cell? ⟨g, 4, none⟩ = some (.map (some bo)) := hb.cell 4
      obtain ⟨hat, hh⟩ := look_out h4 hn
      rw [hdd.out] at hh
      obtain ⟨y, hy⟩ : ∃ y, y = (outF s.L n).getD zeroBl := ⟨_, rfl⟩
      rw [← hy] at hat
      clear hy h1 h3 h4 hb hdd
      go_wp2_with (first
        | (at_lookup; refine wpList_look_bl_ok _ rfl _ _ rfl bo _ DO rfl h2 n rfl hn y _ hat hh ?_)
        | (refine wpList_store_new rfl _ _ _ rfl w2 (blC y) rfl rfl 39 _ blInfo rfl (blC_ones _) ?_)
        | go_in)
      go_ret
      exact ⟨err_eq E2.out.symm, nxt hb2 (below_box _ y)⟩
theorem build_zero (w : World) : (Instr.build 39 #[]).run Try.prog w = .ok (.agg (blC zeroBl)) w := run_build w _ _ _ (by kernel_rfl)
/-- A block of a number. -/
def getV (L : List Ent) (n : Int) : Option Bl := match inF L n with | some b => some b | none => outF L n
def getE (L : List Ent) (n : Int) : Int := if (getV L n).isSome then 0 else 50
set_option maxHeartbeats 4000000 in
set_option maxRecDepth 100000 in
theorem get_any (h : Tr w S g s) (n : Int) (hn : inI n) : Calls Try.prog 21 #[.pointer (some ⟨g, 0, none⟩), .int .i64 n] w (gives (.tuple #[.agg (blC ((getV s.L n).getD zeroBl)), .int .i64 (getE s.L n)]) w) := by
  go_enter Try.func21, Try.ntmps21
  go_upto_region 3 with fail
  refine name_world (fun w1 hw1 => ?_)
  have k0 : Blk w1 w.heap.size 39 (blC zeroBl) := by rw [hw1]; exact box_new w 39 zeroBl
  have hb1 : Below w.heap.size w w1 := by rw [hw1]; exact below_box 39 zeroBl
  clear hw1
  have ho := fun b W => own_any b W
  have hT := h.below hb1
  obtain ⟨bb, bo, DB, DO, hb, h1, h2, h3, h4, h5, h6, h7, h8⟩ := h.below hb1
  have c3 : w1.cell? ⟨g, 3, none⟩ = some (.map (some bb)) := hb.cell 3
  obtain ⟨hat, hh⟩ := look_in h3 hn
  have hI := (h3 n hn).1
  cases hf : inF s.L n with
  | some y =>
    have hE : Hid (getE s.L n = 0 ∧ (getV s.L n).getD zeroBl = y) := Lib.hid (by unfold getE getV; rw [hf]; exact ⟨rfl, rfl⟩)
    rw [hf] at hat hI
    replace hat : DB.atKey (keyI n) (blD zeroBl) = blD y := hat
    replace hI : Maps.has DB (keyI n) = true := hI
    have hb2 : Below w1.heap.size w1 (w1.alloc (.cells (blC y) 39)) := below_box _ y
    have k2 := box_new w1 39 y
    have K0 := Lib.hid (fun W (hb : Below w1.heap.size w1 W) => k0.below hb k0.lt)
    clear hb h2 h3 h4 hh hf hT h k0
    go_wp2_with (first
      | (at_lookup; refine wpList_look_bl_ok _ rfl _ _ rfl bb _ DB rfl h1 n rfl hn y true hat hI ?_)
      | (refine wpList_store_new rfl _ _ _ rfl w1 (blC y) rfl rfl 39 _ blInfo rfl (blC_ones _) ?_)
      | (refine wpList_row_at rfl _ _ rfl w1.heap.size rfl _ _ _ _ k2 Try.underlying39 rfl blInfo ?_)
      | (go_at_call 26; refine (ho y _).mono ?_; unfold gives; rintro e w3 ⟨rfl, hb3⟩
         have k3 := K0.out _ (nxt hb2 hb3))
      | (refine wpList_store_row rfl _ _ _ rfl w.heap.size (blC y) rfl rfl _ _ k3 blInfo rfl (blC_ones _) ?_)
      | go_in)
    (try simp only [Exit.inBlock, Exit.then])
    refine bodyPost_ret (v := .tuple #[.agg (blC y), .int .i64 0]) (results_row2 rfl _ _ w.heap.size rfl (.int .i64 0) rfl _ _ _ _ (blk_setRow k3) Try.underlying39 rfl (by kernel_rfl)) rfl ?_
    refine ⟨?_, below_setRow (nxt (nxt hb1 hb2) hb3) (Nat.le_refl _)⟩
    rw [hE.out.1, hE.out.2]
  | none =>
    rw [hf] at hat hI
    replace hat : DB.atKey (keyI n) (blD zeroBl) = blD zeroBl := hat
    replace hI : Maps.has DB (keyI n) = false := hI
    have hb2 : Below w1.heap.size w1 (w1.alloc (.cells (blC zeroBl) 39)) := below_box _ zeroBl
    obtain ⟨hat2, hh2⟩ := look_out h4 hn
    have hI2 := (h4 n hn).1
    have h2' := L6.Turn.map (S := fun _ => False) (L6.Turn.of_keep hb2) h2 (fun h => h)
    have c4 : (w1.alloc (.cells (blC zeroBl) 39)).cell? ⟨g, 4, none⟩ = some (.map (some bo)) := (hb.below hb2 hb.lt).cell 4
    have K0 := Lib.hid (fun W (hb : Below w1.heap.size w1 W) => k0.below hb k0.lt)
    cases hf2 : outF s.L n with
    | some y =>
      have hE : Hid (getE s.L n = 0 ∧ (getV s.L n).getD zeroBl = y) := Lib.hid (by unfold getE getV; rw [hf, hf2]; exact ⟨rfl, rfl⟩)
      rw [hf2] at hat2 hI2
      replace hat2 : DO.atKey (keyI n) (blD zeroBl) = blD y := hat2
      replace hI2 : Maps.has DO (keyI n) = true := hI2
      obtain ⟨w2, hw2⟩ : ∃ w2, w2 = w1.alloc (.cells (blC zeroBl) 39) := ⟨_, rfl⟩
      rw [← hw2] at hb2 h2' c4
      have hb3 : Below w2.heap.size w2 (w2.alloc (.cells (blC y) 39)) := below_box _ y
      have k2 := box_new w2 39 y
      clear hb h2 h3 h4 hh hh2 hf hf2 hT h k0
      go_upto_region 6 with (first
        | (at_lookup; refine wpList_look_bl_ok _ rfl _ _ rfl bb _ DB rfl h1 n rfl hn zeroBl false hat hI ?_)
        | (refine wpList_store_new rfl _ _ _ rfl w1 (blC zeroBl) rfl rfl 39 _ blInfo rfl (blC_ones _) ?_)
        | go_in)
      rw [← hw2]
      clear hw2 h1 hat hI c3
      go_wp2_with (first
        | (at_lookup; refine wpList_look_bl_ok _ rfl _ _ rfl bo _ DO rfl h2' n rfl hn y true hat2 hI2 ?_)
        | (refine wpList_store_new rfl _ _ _ rfl w2 (blC y) rfl rfl 39 _ blInfo rfl (blC_ones _) ?_)
        | (refine wpList_row_at rfl _ _ rfl w2.heap.size rfl _ _ _ _ k2 Try.underlying39 rfl blInfo ?_)
        | (go_at_call 26; refine (ho y _).mono ?_; unfold gives; rintro e w3 ⟨rfl, hb4⟩
           have k3 := K0.out _ (nxt (nxt hb2 hb3) hb4))
        | (refine wpList_store_row rfl _ _ _ rfl w.heap.size (blC y) rfl rfl _ _ k3 blInfo rfl (blC_ones _) ?_)
        | go_in)
      (try simp only [Exit.inBlock, Exit.then])
      refine bodyPost_ret (v := .tuple #[.agg (blC y), .int .i64 0]) (results_row2 rfl _ _ w.heap.size rfl (.int .i64 0) rfl _ _ _ _ (blk_setRow k3) Try.underlying39 rfl (by kernel_rfl)) rfl ?_
      refine ⟨?_, below_setRow (nxt (nxt (nxt hb1 hb2) hb3) hb4) (Nat.le_refl _)⟩
      rw [hE.out.1, hE.out.2]
    | none =>
      have hE : Hid (getE s.L n = 50 ∧ (getV s.L n).getD zeroBl = zeroBl) := Lib.hid (by unfold getE getV; rw [hf, hf2]; exact ⟨rfl, rfl⟩)
      rw [hf2] at hat2 hI2
      replace hat2 : DO.atKey (keyI n) (blD zeroBl) = blD zeroBl := hat2
      replace hI2 : Maps.has DO (keyI n) = false := hI2
      obtain ⟨w2, hw2⟩ : ∃ w2, w2 = w1.alloc (.cells (blC zeroBl) 39) := ⟨_, rfl⟩
      rw [← hw2] at hb2 h2' c4
      have hb3 : Below w2.heap.size w2 (w2.alloc (.cells (blC zeroBl) 39)) := below_box _ zeroBl
      have k3 := K0.out _ (nxt hb2 hb3)
      have hbd := fun W => build_zero W
      clear hb h2 h3 h4 hh hh2 hf hf2 hT h k0
      go_upto_region 6 with (first
        | (at_lookup; refine wpList_look_bl_ok _ rfl _ _ rfl bb _ DB rfl h1 n rfl hn zeroBl false hat hI ?_)
        | (refine wpList_store_new rfl _ _ _ rfl w1 (blC zeroBl) rfl rfl 39 _ blInfo rfl (blC_ones _) ?_)
        | go_in)
      rw [← hw2]
      clear hw2 h1 hat hI c3
      go_wp2_with (first
        | (at_lookup; refine wpList_look_bl_ok _ rfl _ _ rfl bo _ DO rfl h2' n rfl hn zeroBl false hat2 hI2 ?_)
        | (refine wpList_store_new rfl _ _ _ rfl w2 (blC zeroBl) rfl rfl 39 _ blInfo rfl (blC_ones _) ?_)
        | (refine wpList_build rfl _ _ rfl #[] rfl (hbd _) ?_)
        | (refine wpList_store_row rfl _ _ _ rfl w.heap.size (blC zeroBl) rfl rfl _ _ k3 blInfo rfl (blC_ones _) ?_)
        | go_in)
      (try simp only [Exit.inBlock, Exit.then])
      refine bodyPost_ret (v := .tuple #[.agg (blC zeroBl), .int .i64 50]) (results_row2 rfl _ _ w.heap.size rfl (.int .i64 50) rfl _ _ _ _ (blk_setRow k3) Try.underlying39 rfl (by kernel_rfl)) rfl ?_
      refine ⟨?_, below_setRow (nxt (nxt hb1 hb2) hb3) (Nat.le_refl _)⟩
      rw [hE.out.1, hE.out.2]
set_option maxHeartbeats 1000000 in
theorem root_any (h : Tr w S g s) : Calls Try.prog 20 #[.pointer (some ⟨g, 0, none⟩)] w (gives (.tuple #[.int .i64 s.root, .int .i64 s.round]) w) := by
  obtain ⟨bb, bo, DB, DO, hb, h1, h2, h3, h4, h5, h6, h7, h8⟩ := h
  have c1 := hb.cell 1
  have c2 := hb.cell 2
  clear h1 h2 h3 h4 hb
  go_enter Try.func20, Try.ntmps20
  go_wp2
  go_quiet (fail)
  go_wp2
  go_ret2
  exact ⟨rfl, L6.below_drewN (Below.refl _ _) _⟩
/-- What the reads of Len meet. -/
def LenAt (w : World) (g bb bo n m : Nat) (DB DO : DataW Unit) (W : World) : Prop := W.cell? ⟨g, 3, none⟩ = some (.map (some bb)) ∧ W.cell? ⟨g, 4, none⟩ = some (.map (some bo)) ∧ W.ownsMap Try.prog 3 blElem bb n DB ∧ W.ownsMap Try.prog 3 blElem bo m DO ∧ Below w.heap.size w W
theorem exec_len {n : Nat} {ev : Operand → Value} {o : Oper} {W : World} (m : Operand) (hop : o.op = Op.call { callee := Callee.builtin Builtin.len, args := #[m], argTypes := #[64] }) (b : Nat) (D : DataW Unit) (hm : ev m = .map (some b)) (hown : W.ownsMap Try.prog 3 blElem b n D) {k : Int} (hk : ((Maps.size D : Nat) : Int) = k) :
    (execOp ev o).run Try.prog W = .ok (.value (.int .i64 k)) W := by
  have := hown.len (t := 64) Try.underlying64 o.type
  rw [hk] at this
  simp [execOp, hop, resolve, invoke, builtin, hm, this, Result.andThen]
set_option maxHeartbeats 1000000 in
theorem len_any (h : Tr w S g s) (ho : OneN s.root s.L) (hn : ∀ e ∈ s.L, inI e.n) : Calls Try.prog 15 #[.pointer (some ⟨g, 0, none⟩)] w (gives (.tuple #[.int .i64 ((inN s.L).length : Nat), .int .i64 (orph s.L : Nat)]) w) := by
  obtain ⟨bb, bo, DB, DO, hb, h1, h2, h3, h4, h5, h6, h7, h8⟩ := h
  have c3 := hb.cell 3
  have c4 := hb.cell 4
  have s1 : Maps.size DB = (inN s.L).length := map_size h1 h3 (nodup_sub ho.1 _) (fun x hx => by obtain ⟨e, he, rfl, _⟩ := inN_mem.1 hx; exact hn e he) (fun x _ => by rw [inF_isSome ho.1, inN_mem])
  have s2 : Maps.size DO = orph s.L := by
    rw [← orph_len]
    exact map_size h2 h4 (nodup_sub ho.1 _) (fun x hx => by obtain ⟨e, he, rfl, _⟩ := outN_mem.1 hx; exact hn e he) (fun x _ => by rw [outF_isSome ho.1, outN_mem])
  obtain ⟨a1, ha1⟩ : ∃ a1 : Int, a1 = ((inN s.L).length : Nat) := ⟨_, rfl⟩
  obtain ⟨a2, ha2⟩ : ∃ a2 : Int, a2 = (orph s.L : Nat) := ⟨_, rfl⟩
  rw [← ha1, ← ha2]
  have t1 : ((Maps.size DB : Nat) : Int) = a1 := by rw [s1, ha1]
  have t2 : ((Maps.size DO : Nat) : Int) = a2 := by rw [s2, ha2]
  have hS : LenAt w g bb bo s.L.length s.L.length DB DO w.drew := ⟨c3, c4, h1, h2, (Below.refl _ _).drew⟩
  have T1 := Lib.hid t1
  have T2 := Lib.hid t2
  clear s1 s2 h1 h2 h3 h4 hb ha1 ha2 t1 t2
  go_enter Try.func15, Try.ntmps15
  go_wp2
  refine wp_region_S (LenAt w g bb bo s.L.length s.L.length DB DO) (by kernel_rfl) (by kernel_rfl) hS ?_
  have ne : Nonempty (WorldIn (LenAt w g bb bo s.L.length s.L.length DB DO)) := ⟨⟨_, hS⟩⟩
  have r0 := fun y : WorldIn (LenAt w g bb bo s.L.length s.L.length DB DO) => y.h.1
  have r1 := fun y : WorldIn (LenAt w g bb bo s.L.length s.L.length DB DO) => y.h.2.1
  iterate 4 go_big_quiet_step (fail)
  refine wpQuiet_value rfl (fun y => exec_len _ rfl bb DB rfl y.h.2.2.1 T1.out) ?_
  conv => arg 6; simp only [Act.put, List.setIfInBounds_toArray, List.set_cons_zero, List.set_cons_succ]
  iterate 4 go_big_quiet_step (fail)
  refine wpQuiet_value rfl (fun y => exec_len _ rfl bo DO rfl y.h.2.2.2.1 T2.out) ?_
  conv => arg 6; simp only [Act.put, List.setIfInBounds_toArray, List.set_cons_zero, List.set_cons_succ]
  iterate 2 go_big_quiet_step (fail)
  refine wpQuiet_nil ?_
  intro y
  go_wp2
  go_ret2
  exact ⟨rfl, y.h.2.2.2.2⟩
end
end Go.Proofs.Ytgclofemhhhepaa
