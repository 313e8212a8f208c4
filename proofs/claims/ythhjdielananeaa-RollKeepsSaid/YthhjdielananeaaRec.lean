/-
  The records that a roll tells.
-/
import Derived.Test.YthhjdielananeaaAdd
set_option linter.unusedSimpArgs false
set_option linter.unusedVariables false
set_option maxRecDepth 10000
namespace Go.Proofs.Ythhjdielananeaa
open Go.RowKit Go.Lib
open L3 (Blk Reads block_of_add add_of_add)
open L6 (Turn moreB fresh From In Apart)

/-- In w a slice of bytes' slices, in blocks from B on. -/
def RcR (w : World) (B : Nat) (A : Option Addr) (L : List (List UInt8)) : Prop :=
  ∀ i b, L[i]? = some b → ∃ ad Ai ci, A = some ad ∧ ad.block < w.heap.size ∧ B ≤ ad.block ∧ w.cell? (ad.add i) = some (.slice Ai b.length ci) ∧ Reads w w.heap.size 1 Ai b.length (bcs b) ∧ (0 < b.length → ∀ a, Ai = some a → B ≤ a.block)
theorem reads_kept {w w' : World} {B n : Nat} {A : Option Addr} {xs : List Value} {T : Nat → Prop} (h : Reads w B 1 A n xs) (ht : Turn T w w') (hB : B ≤ w'.heap.size) (hn : 0 < n → ∀ ad, A = some ad → ¬ T ad.block) : Reads w' w'.heap.size 1 A n xs :=
  ⟨h.1, fun h0 => by
    obtain ⟨ad, e, hb, hc⟩ := h.2 h0
    exact ⟨ad, e, Nat.lt_of_lt_of_le hb hB, fun j u hu => ht.cell (hc j u hu) (by rw [block_of_add]; exact hn h0 ad e)⟩⟩
theorem RcR.turn {w w' : World} {B : Nat} {A : Option Addr} {L : List (List UInt8)} {U : Nat → Prop} (h : RcR w B A L) (ht : Turn U w w') (hU : ∀ k, U k → k < B) : RcR w' B A L := by
  intro i b hi
  obtain ⟨ad, Ai, ci, e, h1, h2, h3, h4, h5⟩ := h i b hi
  have hs := ht.size
  exact ⟨ad, Ai, ci, e, by omega, h2, ht.cell h3 (by rw [block_of_add]; intro hu; have := hU _ hu; omega), reads_kept h4 ht hs (fun h0 a ea hu => by have := hU _ hu; have := h5 h0 a ea; omega), h5⟩
theorem RcR.below {w w' : World} {B : Nat} {A : Option Addr} {L : List (List UInt8)} (h : RcR w B A L) (hb : Below w.heap.size w w') : RcR w' B A L := h.turn (U := fun _ => False) (L6.Turn.of_keep hb) (fun _ h => h.elim)
/-- A round. -/
structure RcAt (w : World) (L : List (List UInt8)) (k : Nat) (v : Value) (xs : List Value) (W : World) : Prop where
  own : W.ownsRow w.heap.size 53 1 v k xs
  each : ∀ j b, j < k → L[j]? = some b → ∃ Aj cj, xs[j]? = some (.slice Aj b.length cj) ∧ Reads W W.heap.size 1 Aj b.length (bcs b) ∧ (0 < b.length → ∀ a, Aj = some a → w.heap.size ≤ a.block ∧ v.ownBlock ≠ some a.block)
  bw : Below w.heap.size w W
theorem RcAt.len {w W : World} {L : List (List UInt8)} {k : Nat} {v : Value} {xs : List Value} (h : RcAt w L k v xs W) : xs.length = k := by have := h.own.1; omega
theorem RcAt.step {w W w1 w2 w4 : World} {L : List (List UInt8)} {k c : Nat} {v v' : Value} {xs : List Value} {b : List UInt8} (h : RcAt w L k v xs W) (hb : L[k]? = some b) (hr1 : Reads w1 w1.heap.size 1 (some ⟨W.heap.size, 0, none⟩) b.length (bcs b)) (hb1 : Below W.heap.size W w1) (hb2 : Below w1.heap.size w1 w2)
    (ho4 : w4.ownsRow w.heap.size 53 1 v' (k + 1) (xs ++ [.slice (some ⟨W.heap.size, 0, none⟩) b.length c])) (hg4 : w2.grownBy w4 v.ownBlock) (hat : v'.ownBlock = v.ownBlock ∨ v'.ownBlock = some w2.heap.size) :
    RcAt w L (k + 1) v' (xs ++ [.slice (some ⟨W.heap.size, 0, none⟩) b.length c]) w4 := by
  have hs0 := h.bw.size
  have hs1 := hb1.size
  have hs2 := hb2.size
  have hs4 : w2.heap.size ≤ w4.heap.size := hg4.size
  have hlen := h.len
  have hlt : ∀ q, v.ownBlock = some q → w.heap.size ≤ q ∧ q < W.heap.size := fun q e => h.own.lt q e
  have ht : Turn (fun q => v.ownBlock = some q) W w4 := ((L6.Turn.of_keep hb1).kept hb2).grown hg4 (fun i e => .inl e)
  have ht1 : Turn (fun q => v.ownBlock = some q) w1 w4 := (L6.Turn.of_keep hb2).grown hg4 (fun i e => .inl e)
  refine ⟨ho4, fun j d hj hd => ?_, ?_⟩
  · rcases Nat.lt_or_ge j k with hjk | hjk
    · obtain ⟨Aj, cj, e1, e2, e3⟩ := h.each j d hjk hd
      refine ⟨Aj, cj, by rw [List.getElem?_append_left (by omega)]; exact e1, reads_kept e2 ht (by omega) (fun h0 a ea hu => (e3 h0 a ea).2 hu), fun h0 a ea => ⟨(e3 h0 a ea).1, ?_⟩⟩
      rcases hat with hv | hv
      · rw [hv]; exact (e3 h0 a ea).2
      · rw [hv]
        intro e
        injection e with e
        obtain ⟨ad, ea', hlt', _⟩ := e2.2 h0
        rw [ea] at ea'
        injection ea' with ea'
        subst ea'
        omega
    · obtain rfl : j = k := by omega
      rw [hb] at hd
      injection hd with hd
      subst hd
      refine ⟨_, c, by rw [List.getElem?_append_right (by omega), hlen, Nat.sub_self]; rfl, reads_kept hr1 ht1 (by omega) (fun h0 a ea hu => ?_), fun h0 a ea => ⟨?_, ?_⟩⟩
      · injection ea with ea
        subst ea
        exact absurd (hlt _ hu).2 (Nat.lt_irrefl _)
      · injection ea with ea
        subst ea
        exact hs0
      · injection ea with ea
        subst ea
        obtain ⟨ad, ea', hlt', _⟩ := hr1.2 h0
        injection ea' with ea'
        subst ea'
        have hlt'' : W.heap.size < w1.heap.size := hlt'
        rcases hat with hv | hv
        · rw [hv]
          intro e
          exact absurd (hlt _ e).2 (Nat.lt_irrefl _)
        · rw [hv]
          intro e
          injection e with e
          have e' : w2.heap.size = W.heap.size := e
          omega
  · exact (h.bw.trans ((hb1.trans (hb2.mono hs1)).mono hs0)).grown hg4 (by omega) (fun q e => (hlt q e).1)
theorem byInfo : (Try.prog.info? 53).map (fun i => (i.zero, i.size, i.bytes)) = some (some (.slice none 0 0), 1, 24) := by kernel_rfl
theorem by_info : ∃ i, Try.prog.info? 53 = some i ∧ i.zero = some (.slice none 0 0) ∧ i.size = 1 ∧ i.bytes = 24 := by
  obtain ⟨i, hi, hii⟩ := Option.map_eq_some_iff.1 byInfo
  simp only [Prod.mk.injEq] at hii
  exact ⟨i, hi, hii⟩
theorem by_row (A : Option Addr) (n c : Nat) (w : World) : (Instr.buildSlice 55 1 #[(0, .slice A n c)]).run Try.prog w = .ok (.slice (some ⟨w.heap.size, 0, none⟩) 1 1) (w.alloc (.cells #[.slice A n c] 53)) := by kernel_rfl
set_option maxHeartbeats 2000000 in
set_option maxRecDepth 100000 in
theorem records_any {w : World} {U : Nat → Prop} {g gt : Nat} {r : Rl} {t : Tp} (h : Rol w U g gt r t) : Calls Try.prog 22 #[.pointer (some ⟨g, 0, none⟩)] w fun e w' => ∃ A c, e = .returned (.slice A r.recs.length c) ∧ RcR w' w.heap.size A r.recs ∧ Below w.heap.size w w' := by
  have hfl := h.fit.l
  obtain ⟨R, T, ⟨v, hb, hr, hf, hg, hk⟩, -⟩ := h
  obtain ⟨A, c, rfl, hlc, hrd⟩ := L6.row_reads hr
  have c3 : w.cell? ⟨g, 3, none⟩ = some (.slice A r.recs.length c) := hb.cell 3
  have HR := Lib.hid (fun W (hW : Below w.heap.size w W) => hrd.below hW)
  obtain ⟨L, hL⟩ : ∃ L, L = r.recs := ⟨_, rfl⟩
  obtain ⟨n, hn⟩ : ∃ n, n = L.length := ⟨_, rfl⟩
  have HN := Lib.hid hn
  rw [← hL, ← hn] at c3 HR hfl
  rw [← hL, ← hn]
  obtain ⟨i0, hi, hz0, hz1, hz2⟩ := by_info
  clear hb hr hf hg hk hrd hlc hL hn
  go_enter Try.func22, Try.ntmps22
  go_wp2
  go_loopw [3, 13] (fun v i wr => ∃ (k : Nat) (xs : List Value), i = .int .i64 k ∧ k ≤ n ∧ RcAt w L k v xs wr) (fun _ i _ => n - (RowKit.intOf i).toNat)
  case atStart => exact ⟨0, [], rfl, Nat.zero_le _, World.ownsRow_nil _ _ _ _, fun j b hj _ => absurd hj (Nat.not_lt_zero _), Below.refl _ _⟩
  case round =>
    obtain ⟨k, xs, rfl, hk, hE⟩ := hrel
    have HE := Lib.hid hE
    by_cases hlt : k < n
    · have hkl : k < L.length := by have := HN.out; omega
      obtain ⟨ad, u, rfl, _, hx, hc⟩ := (HR.out wr hE.bw).at_ hlt
      have hbk : L[k]? = some L[k] := List.getElem?_eq_getElem hkl
      have hu : u = .string (str L[k]) := by
        simp only [txs, List.getElem?_map, hbk, Option.map_some, Option.some.injEq] at hx
        exact hx.symm
      subst hu
      obtain ⟨b, hbb⟩ : ∃ b, b = L[k] := ⟨_, rfl⟩
      rw [← hbb] at hc hbk
      obtain ⟨c1, w1, hcv, hr1, hb1⟩ := str_bytes wr b
      have hb2 := below_new w1 (.cells #[.slice (some ⟨wr.heap.size, 0, none⟩) b.length c1] 53)
      have hrw := by_row (some ⟨wr.heap.size, 0, none⟩) b.length c1 w1
      have hown2 := ((L6.Turn.of_keep (S := fun _ => False) hb1).kept hb2).row hE.own (fun _ _ h => h)
      have hnew := row_read w1 #[.slice (some ⟨wr.heap.size, 0, none⟩) b.length c1] 53 (Nat.zero_lt_succ 0)
      have hbs : w.heap.size ≤ (w1.alloc (.cells #[.slice (some ⟨wr.heap.size, 0, none⟩) b.length c1] 53)).heap.size := by have := hE.bw.size; have := hb1.size; have := hb2.size; omega
      obtain ⟨Af, cf, rfl, _, _⟩ := L6.row_reads hE.own
      obtain ⟨m, hm⟩ : ∃ m, m = b.length := ⟨_, rfl⟩
      have HST := Lib.hid (fun w4 v' ho4 hg4 hat => hE.step (w2 := w1.alloc (.cells #[.slice (some ⟨wr.heap.size, 0, none⟩) b.length c1] 53)) (w4 := w4) (v' := v') (c := c1) hbk hr1 hb1 hb2 ho4 hg4 hat)
      have HM := Lib.hid hm
      obtain ⟨s, hs⟩ : ∃ s, s = str b := ⟨_, rfl⟩
      rw [← hs] at hc hcv
      rw [← hm] at hcv hrw hown2 hnew hbs HST
      clear hx hE hr1 hb1 hb2 hbb hs hm HE hbk
      go_wp2_with (first
        | (refine wpList_buildSlice rfl _ _ _ rfl #[(0, .slice (some ⟨wr.heap.size, 0, none⟩) m c1)] rfl hrw ?_)
        | (at_builtin; refine L3.wpList_append_any _ rfl _ _ 55 rfl w.heap.size 53 i0 _ 1 24 Try.underlying55 hi hz0 hz1 hz2 rfl (by decide) (.slice Af k cf) k xs rfl hown2 _ (some ⟨w1.heap.size, 0, none⟩) 1 1 [.slice (some ⟨wr.heap.size, 0, none⟩) m c1] rfl hnew (by intro u hu; simp at hu; subst hu; rfl) (by unfold maxLen; omega) (by omega) hbs ?_
           intro v4 w4 ho4 hg4 hat4)
        | go_in)
      go_roundw
      case rel => exact ⟨k + 1, _, by go_num, by omega, HST.out _ _ ho4 hg4 hat4⟩
      case measure => simp [RowKit.intOf]; omega
    · obtain rfl : k = n := by omega
      have hke : k = L.length := HN.out
      obtain ⟨Af, cf, rfl, _, _⟩ := L6.row_reads hE.own
      clear hE hke
      go_wp2_with fail
      go_ret
      have hE := HE.out
      refine ⟨Af, cf, rfl, fun i b hib => ?_, hE.bw⟩
      have hil : i < k := by have := (List.getElem?_eq_some_iff.1 hib).1; have := HN.out; omega
      obtain ⟨Aj, cj, e1, e2, e3⟩ := hE.each i b hil hib
      obtain ⟨ad, u, hAd, hbd, hx, hc⟩ := (L3.Reads.of_own hE.own).at_ hil
      rw [e1] at hx
      injection hx with hx
      subst hx
      exact ⟨ad, Aj, cj, hAd, hbd, by subst hAd; exact (hE.own.lt ad.block rfl).1, hc, e2, fun h0 a ea => (e3 h0 a ea).1⟩
end Go.Proofs.Ythhjdielananeaa
