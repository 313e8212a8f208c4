/-
  The document's tree: a list of entries; which one has a number, is it there, how many orphans.
-/
import Derived.Test.YtgclofemhhhepaaCalls
set_option linter.unusedSimpArgs false
set_option linter.unusedVariables false
set_option maxRecDepth 10000
namespace Go.Proofs.Ytgclofemhhhepaa
open Go.RowKit Go.Maps Go.Lib
open L3 (Blk Reads block_of_add add_of_add)
open L6 (Turn moreB fresh From In)

/-! Entries and trees as values -/
def enL (e : Ent) : List Value := [.int .i64 e.n, .int .i64 e.b.v, .int .i64 e.b.rd, .int .i64 0, .int .i64 0, .int .i64 0, .int .i64 e.b.p, .int .i64 0, .int .i64 e.b.pr, .int .i64 0, .int .i64 0, .int .u32 0, .int .u32 0, .slice none 0 0, .slice none 0 0, .bool e.isin]
def enC (e : Ent) : Array Value := #[.int .i64 e.n, .int .i64 e.b.v, .int .i64 e.b.rd, .int .i64 0, .int .i64 0, .int .i64 0, .int .i64 e.b.p, .int .i64 0, .int .i64 e.b.pr, .int .i64 0, .int .i64 0, .int .u32 0, .int .u32 0, .slice none 0 0, .slice none 0 0, .bool e.isin]
theorem enL_len (e : Ent) : (enL e).length = 16 := rfl
theorem enC_ones (e : Ent) : (enC e).all (·.oneCell') = true := by kernel_rfl
theorem one_enL (e : Ent) : ∀ u ∈ enL e, u.oneCell' = true := by
  intro u hu
  unfold enL at hu
  simp only [List.mem_cons, List.not_mem_nil, or_false] at hu
  rcases hu with rfl | rfl | rfl | rfl | rfl | rfl | rfl | rfl | rfl | rfl | rfl | rfl | rfl | rfl | rfl | rfl <;> rfl
theorem enInfo : (Try.prog.info? 68).map (·.size) = some 16 := by kernel_rfl
def zeroEn : Ent := ⟨0, zeroBl, false⟩
theorem build_en0 (w : World) : (Instr.build 68 #[]).run Try.prog w = .ok (.agg (enC zeroEn)) w := run_build w _ _ _ (by kernel_rfl)
def rtC (m r rd : Int) (A : Option Addr) (n c : Nat) : Array Value := #[.int .i64 m, .int .i64 r, .int .i64 rd, .slice A n c]
theorem rtC_ones (m r rd : Int) (A : Option Addr) (n c : Nat) : (rtC m r rd A n c).all (·.oneCell') = true := by kernel_rfl
theorem rtInfo : (Try.prog.info? 30).map (·.size) = some 4 := by kernel_rfl
theorem build_rt (m r rd : Int) (A : Option Addr) (n c : Nat) (w : World) : (Instr.build 30 #[(0, .int .i64 m), (1, .int .i64 r), (2, .int .i64 rd), (3, .slice A n c)]).run Try.prog w = .ok (.agg (rtC m r rd A n c)) w := run_build w _ _ _ (by kernel_rfl)
theorem add_posR (a : Addr) (f : Nat) (hf : 0 < f) : a.add f = ⟨a.block, a.off + f, none⟩ := by
  unfold Addr.add
  split
  · next h => omega
  · rfl
/-- One entry of a list: its cells. -/
theorem Rd.entry {w : World} {A : Option Addr} {L : List Ent} (h : Rd enL 16 w A L) {j : Nat} (hj : j < L.length) : ∃ ad, A = some ad ∧ ad.block < w.heap.size ∧ w.cell? (ad.add (j * 16)) = some (.int .i64 L[j].n) ∧ w.cell? ⟨(ad.add (j * 16)).block, (ad.add (j * 16)).off + 6, none⟩ = some (.int .i64 L[j].b.p) ∧ w.cell? ⟨(ad.add (j * 16)).block, (ad.add (j * 16)).off + 15, none⟩ = some (.bool L[j].isin) ∧ ∀ i u, (enL L[j])[i]? = some u → w.cell? ((ad.add (j * 16)).add i) = some u := by
  obtain ⟨ad, hA, hl, hc⟩ := h j hj
  refine ⟨ad, hA, hl, ?_, ?_, ?_, hc⟩
  · have := hc 0 _ rfl
    rw [add_of_add] at this
    simpa using this
  · have := hc 6 _ rfl
    rwa [add_posR _ _ (by decide)] at this
  · have := hc 15 _ rfl
    rwa [add_posR _ _ (by decide)] at this

/-! At -/
def atV (L : List Ent) (n : Int) : Option Ent := L.find? fun e => decide (e.n = n)
theorem atV_none {L : List Ent} {n : Int} (h : ∀ j (hj : j < L.length), L[j].n ≠ n) : atV L n = none := by
  refine List.find?_eq_none.2 fun e he => ?_
  obtain ⟨j, hj, rfl⟩ := List.getElem_of_mem he
  simpa using h j hj
theorem atV_here {L : List Ent} {n : Int} {k : Nat} (hk : k < L.length) (h : ∀ j (hj : j < L.length), j < k → L[j].n ≠ n) (he : L[k].n = n) : atV L n = some L[k] := by
  unfold atV
  induction L generalizing k with
  | nil => simp at hk
  | cons x L ih =>
    cases k with
    | zero => rw [List.find?_cons_of_pos (by simpa using he)]; rfl
    | succ k =>
      have h0 := h 0 (by simp) (by omega)
      rw [List.find?_cons_of_neg (by simpa using h0)]
      exact ih (by simpa using hk) (fun j hj hjk => h (j + 1) (by simpa using hj) (by omega)) he
set_option maxHeartbeats 4000000 in
set_option maxRecDepth 100000 in
theorem rat_any (m r rd : Int) (A : Option Addr) (c : Nat) (L : List Ent) (n : Int) (w : World) (hr : Rd enL 16 w A L) (hl : L.length ≤ 1000000) :
    Calls Try.prog 22 #[.agg (rtC m r rd A L.length c), .int .i64 n] w (gives (.tuple #[.agg (enC ((atV L n).getD zeroEn)), .bool (atV L n).isSome]) w) := by
  have HR := Lib.hid hr
  obtain ⟨z, hz⟩ : ∃ z, z = L.length := ⟨_, rfl⟩
  obtain ⟨q, hq⟩ : ∃ q, q = atV L n := ⟨_, rfl⟩
  rw [← hz, ← hq]
  rw [← hz] at hl
  have HZ := Lib.hid hz
  have HQ := Lib.hid hq
  have k0 : Blk ((w.alloc (.cells (rtC m r rd A z c) 30)).alloc (.cells (enC zeroEn) 68)) w.heap.size 30 (rtC m r rd A z c) := (Blk.new _ _ _).alloc _
  have k1 : Blk ((w.alloc (.cells (rtC m r rd A z c) 30)).alloc (.cells (enC zeroEn) 68)) (w.heap.size + 1) 68 (enC zeroEn) := by simpa using Blk.new (w.alloc (.cells (rtC m r rd A z c) 30)) 68 (enC zeroEn)
  have hb0 : Below w.heap.size w ((w.alloc (.cells (rtC m r rd A z c) 30)).alloc (.cells (enC zeroEn) 68)) := ((Below.refl _ _).alloc (Nat.le_refl _) _).alloc (by simp) _
  obtain ⟨W0, hW0⟩ : ∃ W0, W0 = (w.alloc (.cells (rtC m r rd A z c) 30)).alloc (.cells (enC zeroEn) 68) := ⟨_, rfl⟩
  rw [← hW0] at k0 k1 hb0
  have hE : (w.alloc (.cells (rtC m r rd A z c) 30)).alloc (.cells #[.int .i64 0, .int .i64 0, .int .i64 0, .int .i64 0, .int .i64 0, .int .i64 0, .int .i64 0, .int .i64 0, .int .i64 0, .int .i64 0, .int .i64 0, .int .u32 0, .int .u32 0, .slice none 0 0, .slice none 0 0, .bool false] 68) = W0 := hW0.symm
  clear hr hz hq hW0
  go_enter Try.func22, Try.ntmps22
  go_upto_region 1 with fail
  clear hE
  go_wp2
  go_loopw [6] (fun i wr => ∃ k : Nat, i = .int .i64 k ∧ k ≤ z ∧ Hid (∀ j (hj : j < L.length), j < k → L[j].n ≠ n) ∧ Below W0.heap.size W0 wr) (fun i _ => z - (RowKit.intOf i).toNat)
  case atStart => exact ⟨0, rfl, Nat.zero_le _, Lib.hid (fun j _ hj => absurd hj (by omega)), Below.refl _ _⟩
  case round =>
    obtain ⟨k, rfl, hk, hno, hbw⟩ := hrel
    have hbw2 := nxt hb0 hbw
    have kt := k0.below hbw k0.lt
    have ke := k1.below hbw k1.lt
    have ct : wr.cell? ⟨w.heap.size, 3, none⟩ = some (.slice A z c) := kt.cell 3
    by_cases hlt : k < z
    · have hkL : k < L.length := by have := HZ.out; omega
      obtain ⟨ad, rfl, hadl, c0, c6, c15, hcs⟩ := (HR.out.below hbw2).entry hkL
      have hfnd := fun e => atV_here (n := n) hkL hno.out e
      obtain ⟨y, hye⟩ : ∃ y, y = L[k] := ⟨_, rfl⟩
      rw [← hye] at c0 hcs hfnd
      have hcs1 : ∀ j u, (enL y)[j]? = some u → wr.cell? ((ad.add (k * 16)).add j) = some u := hcs
      have HF := Lib.hid hfnd
      have HYE : Hid (∃ h : k < L.length, y = L[k]) := Lib.hid ⟨hkL, hye⟩
      clear c6 c15 hye hkL hfnd hcs
      by_cases he : y.n = n
      · have hq : (y.n == n) = true := by simpa using he
        have HE := Lib.hid (HQ.out.trans (HF.out he))
        clear he
        go_upto_region 5 with fail
        clear c0
        go_wp2_with (first
          | (refine wpList_cells_at rfl _ _ rfl (ad.add (k * 16)) rfl (enL y) _ hcs1 Try.underlying68 rfl enInfo ?_)
          | (refine wpList_store_row rfl _ _ _ rfl (w.heap.size + 1) (enC y) rfl rfl _ _ ke enInfo rfl (enC_ones _) ?_)
          | go_in)
        (try simp only [Exit.inBlock, Exit.then])
        refine bodyPost_ret (results_row2 rfl _ _ (w.heap.size + 1) rfl _ rfl _ (enC y) _ _ (blk_setRow ke) Try.underlying68 rfl enInfo) rfl ?_
        exact ⟨by rw [HE.out]; rfl, below_setRow hbw2 (by omega)⟩
      · have hq : (y.n == n) = false := by simpa using he
        have HE : Hid (∀ j (hj : j < L.length), j < k + 1 → L[j].n ≠ n) := Lib.hid (fun j hj hjk => by
          by_cases c : j < k
          · exact hno.out j hj c
          · obtain rfl : j = k := by omega
            obtain ⟨_, e⟩ := HYE.out
            rw [← e]; exact he)
        clear he
        go_wp2
        go_roundw
        case rel => exact ⟨k + 1, by go_num, by omega, HE, hbw⟩
        case measure => simp [RowKit.intOf]; omega
    · obtain rfl : k = z := by omega
      have HE : Hid (q = none) := Lib.hid (HQ.out.trans (atV_none fun j hj => hno.out j hj (by have := HZ.out; omega)))
      go_wp2_with (first
        | (refine wpList_build rfl _ _ rfl #[] rfl (build_en0 _) ?_)
        | (refine wpList_store_row rfl _ _ _ rfl (w.heap.size + 1) (enC zeroEn) rfl rfl _ _ ke enInfo rfl (enC_ones _) ?_)
        | go_in)
      (try simp only [Exit.inBlock, Exit.then])
      refine bodyPost_ret (results_row2 rfl _ _ (w.heap.size + 1) rfl _ rfl _ (enC zeroEn) _ _ (blk_setRow ke) Try.underlying68 rfl enInfo) rfl ?_
      exact ⟨by rw [HE.out]; rfl, below_setRow hbw2 (by omega)⟩
theorem atV_some {L : List Ent} (h1 : (L.map (·.n)).Nodup) {n : Int} {e : Ent} : atV L n = some e ↔ e ∈ L ∧ e.n = n := by
  unfold atV
  constructor
  · intro h
    exact ⟨List.mem_of_find?_eq_some h, by simpa using List.find?_some h⟩
  · rintro ⟨he, rfl⟩
    have := find_one (q := fun _ => true) h1 he rfl
    simpa using this
theorem atV_known {L : List Ent} {n : Int} : (atV L n).isSome = true ↔ known L n := by
  unfold atV known
  rw [List.find?_isSome]
  simp
theorem hasV_at {r : Int} {L : List Ent} (h1 : (L.map (·.n)).Nodup) {n : Int} : decide (hasV r L n) = if n = r then true else if (atV L n).isSome then ((atV L n).getD zeroEn).isin else false := by
  by_cases h : n = r
  · rw [if_pos h]; exact decide_eq_true (.inl h)
  · rw [if_neg h]
    cases hf : atV L n with
    | none =>
      refine decide_eq_false ?_
      rintro (g | ⟨e, he, hn, hi⟩)
      · exact h g
      · have := (atV_some h1).2 ⟨he, hn⟩
        rw [hf] at this; cases this
    | some e =>
      obtain ⟨he, hn⟩ := (atV_some h1).1 hf
      show _ = e.isin
      rw [Bool.eq_iff_iff, decide_eq_true_eq]
      constructor
      · rintro (g | ⟨f, hf2, hn2, hi⟩)
        · exact absurd g h
        · rw [one_eq h1 he hf2 (hn.trans hn2.symm)]; exact hi
      · exact fun hi => .inr ⟨e, he, hn, hi⟩
theorem blk_new1 {w w' : World} (h : w' = w) (t : TypeId) (cs : Array Value) : Blk (w'.alloc (.cells cs t)) w.heap.size t cs := by subst h; exact Blk.new _ _ _
theorem below_new (w : World) (o : Obj) : Below w.heap.size w (w.alloc o) := (Below.refl _ _).alloc (Nat.le_refl _) o
set_option maxHeartbeats 4000000 in
set_option maxRecDepth 100000 in
theorem rhas_any (m r rd : Int) (A : Option Addr) (c : Nat) (L : List Ent) (n : Int) (w : World) (hr : Rd enL 16 w A L) (h1 : (L.map (·.n)).Nodup) (hl : L.length ≤ 1000000) :
    Calls Try.prog 23 #[.agg (rtC m r rd A L.length c), .int .i64 n] w (gives (.bool (decide (hasV r L n))) w) := by
  have hv := hasV_at (r := r) h1 (n := n)
  obtain ⟨q, hq⟩ : ∃ q, q = decide (hasV r L n) := ⟨_, rfl⟩
  rw [← hq] at hv ⊢
  have HA := Lib.hid (fun W (hb : Below w.heap.size w W) => rat_any m r rd A c L n W (hr.below hb) hl)
  obtain ⟨z, hz⟩ : ∃ z, z = L.length := ⟨_, rfl⟩
  obtain ⟨y, hy⟩ : ∃ y, y = (atV L n).getD zeroEn := ⟨_, rfl⟩
  obtain ⟨b, hbb⟩ : ∃ b, b = (atV L n).isSome := ⟨_, rfl⟩
  rw [← hz, ← hy, ← hbb] at HA
  rw [← hy, ← hbb] at hv
  rw [← hz]
  have k0 : Blk (w.alloc (.cells (rtC m r rd A z c) 30)) w.heap.size 30 (rtC m r rd A z c) := Blk.new _ _ _
  have hb0 := below_new w (.cells (rtC m r rd A z c) 30)
  obtain ⟨W0, hW0⟩ : ∃ W0, W0 = w.alloc (.cells (rtC m r rd A z c) 30) := ⟨_, rfl⟩
  rw [← hW0] at k0 hb0
  have hE := hW0.symm
  have HH := Lib.hid (HA.out W0 hb0)
  have HV := Lib.hid hv
  clear hr h1 hl hz hy hbb hW0 HA hv hq
  go_enter Try.func23, Try.ntmps23
  go_upto_region 1 with fail
  clear hE
  go_upto_region 2 with (first
    | (refine wpList_row_at rfl _ _ rfl w.heap.size rfl _ _ _ _ k0 Try.underlying30 rfl rtInfo ?_)
    | (go_at_call 22; refine HH.out.mono ?_; unfold gives; rintro e w2 ⟨rfl, hb2⟩)
    | (refine wpList_store_new rfl _ _ _ rfl w2 (enC y) rfl rfl 68 _ enInfo rfl (enC_ones _) ?_)
    | go_in)
  have k2 := (k0.below hb2 k0.lt).alloc (.cells (enC y) 68)
  have ke : Blk (w2.alloc (.cells (enC y) 68)) w2.heap.size 68 (enC y) := Blk.new _ _ _
  have hbz := nxt (nxt hb0 hb2) (below_new w2 (.cells (enC y) 68))
  obtain ⟨w3, hw3⟩ : ∃ w3, w3 = w2.alloc (.cells (enC y) 68) := ⟨_, rfl⟩
  rw [← hw3] at k2 ke hbz
  rw [← hw3]
  have c1 : w3.cell? ⟨w.heap.size, 1, none⟩ = some (.int .i64 r) := k2.cell 1
  have c15 : w3.cell? ⟨w2.heap.size, 15, none⟩ = some (.bool y.isin) := ke.cell 15
  clear hw3 k2 ke k0 hb2 HH
  by_cases h : n = r
  · have hn : (n == r) = true := by simpa using h
    have HE : Hid (q = true) := Lib.hid (HV.out.trans (if_pos h))
    clear h
    go_wp2
    go_ret
    exact ⟨by rw [HE.out]; rfl, hbz⟩
  · have hn : (n == r) = false := by simpa using h
    have HE := Lib.hid (HV.out.trans (if_neg h))
    clear h HV
    cases b with
    | true =>
      have HE2 : Hid (q = y.isin) := Lib.hid HE.out
      clear HE
      go_wp2
      go_ret
      exact ⟨by rw [HE2.out]; rfl, hbz⟩
    | false =>
      have HE2 : Hid (q = false) := Lib.hid HE.out
      clear HE
      go_wp2
      go_ret
      exact ⟨by rw [HE2.out]; rfl, hbz⟩
/-! Orphans -/
theorem orph_snoc {L : List Ent} {k : Nat} (h : k < L.length) : orph (L.take (k + 1)) = orph (L.take k) + if L[k].isin then 0 else 1 := by
  unfold orph
  rw [filter_snoc h, List.length_append]
  cases L[k].isin <;> rfl
theorem orph_le (L : List Ent) : orph L ≤ L.length := List.length_filter_le _ _
set_option maxHeartbeats 4000000 in
set_option maxRecDepth 100000 in
theorem rorph_any (m r rd : Int) (A : Option Addr) (c : Nat) (L : List Ent) (w : World) (hr : Rd enL 16 w A L) (hl : L.length ≤ 1000000) :
    Calls Try.prog 24 #[.agg (rtC m r rd A L.length c)] w (gives (.int .i64 (orph L)) w) := by
  have HR := Lib.hid hr
  obtain ⟨z, hz⟩ : ∃ z, z = L.length := ⟨_, rfl⟩
  obtain ⟨q, hq⟩ : ∃ q, q = orph L := ⟨_, rfl⟩
  rw [← hz, ← hq]
  rw [← hz] at hl
  have HZ := Lib.hid hz
  have HQ := Lib.hid hq
  have k0 : Blk (w.alloc (.cells (rtC m r rd A z c) 30)) w.heap.size 30 (rtC m r rd A z c) := Blk.new _ _ _
  have hb0 := below_new w (.cells (rtC m r rd A z c) 30)
  obtain ⟨W0, hW0⟩ : ∃ W0, W0 = w.alloc (.cells (rtC m r rd A z c) 30) := ⟨_, rfl⟩
  rw [← hW0] at k0 hb0
  have hE := hW0.symm
  clear hr hz hq hW0
  go_enter Try.func24, Try.ntmps24
  go_upto_region 1 with fail
  clear hE
  go_wp2
  go_loopw [3, 4] (fun s i wr => ∃ k o : Nat, i = .int .i64 k ∧ s = .int .i64 o ∧ k ≤ z ∧ o ≤ k ∧ Hid (o = orph (L.take k)) ∧ Below W0.heap.size W0 wr) (fun _ i _ => z - (RowKit.intOf i).toNat)
  case atStart => exact ⟨0, 0, rfl, rfl, Nat.zero_le _, Nat.le_refl _, Lib.hid rfl, Below.refl _ _⟩
  case round =>
    obtain ⟨k, o, rfl, rfl, hk, hok, ho, hbw⟩ := hrel
    have hbw2 := nxt hb0 hbw
    have kt := k0.below hbw k0.lt
    have ct : wr.cell? ⟨w.heap.size, 3, none⟩ = some (.slice A z c) := kt.cell 3
    by_cases hlt : k < z
    · have hkL : k < L.length := by have := HZ.out; omega
      obtain ⟨ad, rfl, hadl, c0, c6, c15, hcs⟩ := (HR.out.below hbw2).entry hkL
      have hsn := orph_snoc hkL
      obtain ⟨b, hb⟩ : ∃ b, b = L[k].isin := ⟨_, rfl⟩
      rw [← hb] at c15 hsn
      rw [← ho.out] at hsn
      clear hb c0 c6 hcs hkL kt
      cases b with
      | true =>
        have HS : Hid (o = orph (L.take (k + 1))) := Lib.hid (by rw [hsn]; rfl)
        clear hsn
        go_wp2
        go_roundw
        case rel => exact ⟨k + 1, o, by go_num, rfl, by omega, by omega, HS, hbw⟩
        case measure => simp [RowKit.intOf]; omega
      | false =>
        have HS : Hid (o + 1 = orph (L.take (k + 1))) := Lib.hid (by rw [hsn]; rfl)
        clear hsn
        go_wp2
        go_roundw
        case rel => exact ⟨k + 1, o + 1, by go_num, by go_num, by omega, by omega, HS, hbw⟩
        case measure => simp [RowKit.intOf]; omega
    · obtain rfl : k = z := by omega
      have HE : Hid (o = q) := Lib.hid (by rw [ho.out, HQ.out, HZ.out, List.take_length])
      go_wp2
      go_ret
      exact ⟨by rw [HE.out]; rfl, hbw2⟩
end Go.Proofs.Ytgclofemhhhepaa
