/-
  A text's words, by the code: a slice that the call made.
-/
import Derived.Test.YtfoabgjcndgflaaDoorCall
import Derived.Test.YtfoabgjcndgflaaDoorWords8
import Derived.Lib.OthersKept
set_option linter.unusedSimpArgs false
set_option linter.unusedVariables false
namespace Go.Proofs.YtfoabgjcndgflaaDoor
open Go.RowKit Go.Lib
open L2 (dec)
open L3 (Reads)

theorem strInfo : (Tryd.prog.info? 9).map (fun i => (i.zero, i.size, i.bytes)) = some (some (.string ⟨#[]⟩), 1, 16) := by kernel_rfl
def sv (l : List UInt8) : Value := .string (str l)
/-- Words as a slice's cells. -/
def svs (L : List (List UInt8)) : List Value := L.map sv
theorem svs_snoc (L : List (List UInt8)) (x : List UInt8) : svs (L ++ [x]) = svs L ++ [sv x] := by simp [svs]
theorem iterAt_grown (w : World) (k : Nat) (s : ByteArray) (pos : Nat) : w.grownBy (w.iterAt k s pos) (some k) :=
  ⟨rfl, rfl, rfl, by rw [iterAt_size]; exact Nat.le_refl _, fun i _ h => iterAt_other w k i s pos (fun e => h (by rw [e]))⟩
theorem extract_seg (l : List UInt8) (a b : Nat) : (str l).extract a b = str (seg l a b) := by
  apply ByteArray.ext
  apply Array.ext'
  unfold seg str
  simp [List.extract_eq_take_drop]
/-- A slice of one text of its own. -/
theorem reads_one (w : World) (u : Value) (ty : TypeId) : Reads (w.alloc (.cells #[u] ty)) (w.heap.size + 1) 1 (some ⟨w.heap.size, 0, none⟩) 1 [u] := by
  refine ⟨rfl, fun _ => ⟨_, rfl, by simp, fun j v hj => ?_⟩⟩
  match j, hj with
  | 0, hj => simp at hj; subst hj; simp [Addr.add]
theorem own_iter {w : World} {base k : Nat} {e : TypeId} {v : Value} {n : Nat} {xs : List Value} (h : w.ownsRow base e 1 v n xs) (hk : k < base) (s : ByteArray) (pos : Nat) : (w.iterAt k s pos).ownsRow base e 1 v n xs := by
  refine h.kept (iterAt_grown w k s pos) ?_
  cases hv : v.ownBlock with
  | none => exact .inl rfl
  | some j => exact .inr (fun e => by injection e with e; have := (h.lt j hv).1; omega)
theorem own_form {w : World} {base : Nat} {e : TypeId} {v : Value} {n : Nat} {xs : List Value} (h : w.ownsRow base e 1 v n xs) : ∃ A c, v = .slice A n c := by
  rcases h.2 with ⟨rfl, h0⟩ | ⟨g, cap, cur, rfl, _⟩
  · exact ⟨none, 0, by rw [h0]⟩
  · exact ⟨_, _, rfl⟩
theorem own_ne {w : World} {base k : Nat} {e : TypeId} {v : Value} {n : Nat} {xs : List Value} (h : w.ownsRow base e 1 v n xs) (hk : k < base) : some k ≠ v.ownBlock := fun e => by have := (h.lt k e.symm).1; omega
theorem below_own {B : Nat} {W w w' : World} {base : Nat} {e : TypeId} {v : Value} {n : Nat} {xs : List Value} (hb : Below B W w) (h : w.ownsRow base e 1 v n xs) (hg : w.grownBy w' v.ownBlock) (hB : B ≤ base) (hs : B ≤ w.heap.size) : Below B W w' :=
  hb.grown hg hs (fun k hk => by have := (h.lt k hk).1; omega)
/-- What holds of the world while words are cut. -/
def cutRel (l : List UInt8) (w : World) (v f : Value) (wr : World) : Prop :=
  ∃ (pos a : Nat) (done : List (List UInt8)), f = .int .i64 a ∧ pos ≤ l.length ∧ a ≤ pos ∧ wr.heap[w.heap.size]? = some (.stringIter (str l) pos) ∧ Below w.heap.size w wr ∧
    wr.ownsRow (w.heap.size + 1) 9 1 v done.length (svs done) ∧ Hid (Cut l done a) ∧ Hid (Clear l a pos)
/-- In w block g holds these words. -/
def RowW (w : World) (g : Nat) (L : List (List UInt8)) : Prop := g < w.heap.size ∧ ∀ j x, L[j]? = some x → w.cell? ⟨g, j, none⟩ = some (sv x)
theorem RowW.below {w w' : World} {g : Nat} {L : List (List UInt8)} (h : RowW w g L) (hb : Below w.heap.size w w') : RowW w' g L :=
  ⟨Nat.lt_of_lt_of_le h.1 hb.size, fun j x hj => (hb.cell (p := ⟨g, j, none⟩) h.1).trans (h.2 j x hj)⟩
/-- Words that a call made. -/
def worded (L : List (List UInt8)) (w : World) (e : Ending) (w' : World) : Prop :=
  ∃ g c, e = .returned (.slice (some ⟨g, 0, none⟩) L.length c) ∧ RowW w' g L ∧ Below w.heap.size w w'
theorem worded_of {L : List (List UInt8)} {w w' : World} {base : Nat} {v : Value} (hL : L ≠ []) (h : w'.ownsRow base 9 1 v L.length (svs L)) (hb : Below w.heap.size w w') : worded L w (.returned v) w' := by
  have hlt := h.lt
  have hce := fun g hg => h.cells (g := g) hg
  rcases h.2 with ⟨rfl, h0⟩ | ⟨g, cap, cur, rfl, _⟩
  · exact absurd (List.eq_nil_of_length_eq_zero h0) hL
  · refine ⟨g, cap, rfl, ⟨(hlt g rfl).2, fun j x hj => ?_⟩, hb⟩
    have := hce g rfl j (sv x) (by simp [svs, hj])
    have ha : (⟨g, 0, none⟩ : Addr).add j = ⟨g, j, none⟩ := by unfold Addr.add; split <;> simp_all
    rwa [ha] at this
set_option maxHeartbeats 2000000 in
set_option maxRecDepth 100000 in
theorem cut_any (l : List UInt8) (w : World) (hl : l.length ≤ 1000000) : Calls Tryd.prog 32 #[.string (str l)] w (worded (cutsL 6 l) w) := by
  obtain ⟨i0, hi, hz0, hz1, hz2⟩ := info_parts strInfo
  have hsz0 := str_size l
  obtain ⟨s, hs⟩ : ∃ s, s = str l := ⟨_, rfl⟩
  have hsl : s.data.toList = l := by rw [hs]; rfl
  rw [← hs] at hsz0
  have HS := Lib.hid hs
  rw [← hs]
  clear hs
  go_enter Tryd.func32, Tryd.ntmps32
  go_wp2
  go_loopw [3, 4] (fun v f wr => cutRel l w v f wr) (fun _ _ wr => s.size - wr.iterPos w.heap.size)
  case atStart =>
    refine ⟨0, 0, [], rfl, Nat.zero_le _, Nat.le_refl _, ?_, (Below.refl _ w).alloc (Nat.le_refl _) _, World.ownsRow_nil _ _ _ _, Lib.hid (Cut.nil l), Lib.hid (Clear.refl l 0)⟩
    rw [← HS.out]; exact World.iter_heap w s 0
  case round =>
    obtain ⟨pos, a, done, rfl, hp, hap, hit, hbw, hown, hcut, hclr⟩ := hrel
    rw [← HS.out] at hit
    have hwsz : w.heap.size < wr.heap.size := (Array.getElem?_eq_some_iff.1 hit).1
    have hd6 := hcut.out.1
    by_cases hlt : pos < s.size
    · have hne : l.drop pos ≠ [] := by rw [← hsl]; exact L2.drop_ne hlt
      have hf := L2.dec_facts _ hne
      have hda := L2.dec_at s pos
      rw [hsl] at hda
      rw [List.length_drop, ← hsz0] at hf
      obtain ⟨f1, f2, f3, _⟩ := hf
      have hnx : ∀ ty, (Instr.next (.pointer (some ⟨w.heap.size, 0, none⟩)) true ty).run Tryd.prog wr = _ := fun ty => (Lib.run_next_any_at wr w.heap.size s pos ty hit hlt).trans (by rw [hda])
      have hit2 := Lib.iterAt_heap wr w.heap.size s pos (pos + (dec (l.drop pos)).2) hit
      have hbw2 := Lib.below_iterAt hbw (k := w.heap.size) (Nat.le_refl _) s (pos + (dec (l.drop pos)).2)
      have hown2 := own_iter hown (Nat.lt_succ_self _) s (pos + (dec (l.drop pos)).2)
      have HP : Hid (wr.iterPos w.heap.size = pos) := Lib.hid (by simp [World.iterPos, hit])
      have HST := Lib.hid (fun h => hclr.out.step hap hne h)
      have HBL := Lib.hid (fun h => hclr.out.blank hne h)
      obtain ⟨A3, c3, rfl⟩ := own_form hown
      obtain ⟨x, hx⟩ : ∃ x, x = dec (l.drop pos) := ⟨_, rfl⟩
      rw [← hx] at hnx hit2 hbw2 hown2 f1 f2 f3 HST HBL
      have HI2 := Lib.hid hit2
      have HB2 := Lib.hid hbw2
      have HO2 := Lib.hid hown2
      obtain ⟨c, wd⟩ := x
      dsimp only at hnx f1 f2 f3 HI2 HB2 HO2 HST HBL
      clear hda hit hbw hown hit2 hbw2 hown2 hx hne
      have i1 : (0 : Int) ≤ (a : Int) := by omega
      have i2 : (a : Int) ≤ (pos : Int) := by omega
      have i3 : (pos : Int) ≤ (s.size : Int) := by omega
      have hsz2 : w.heap.size + 1 ≤ (wr.iterAt w.heap.size s (pos + wd)).heap.size := by rw [iterAt_size]; omega
      have KK : Hid (∀ (u : Value) (w4 : World), ((wr.iterAt w.heap.size s (pos + wd)).alloc (.cells #[u] 9)).grownBy w4 (Value.slice A3 done.length c3).ownBlock →
          w4.heap[w.heap.size]? = some (.stringIter s (pos + wd)) ∧ Below w.heap.size w w4) := Lib.hid fun u w4 hg => by
        have ho := HO2.out.alloc (.cells #[u] 9)
        have h1 := HB2.out.alloc (B := w.heap.size) (by rw [iterAt_size]; omega) (.cells #[u] 9)
        refine ⟨?_, below_own h1 ho hg (Nat.le_succ _) (by simp [iterAt_size]; omega)⟩
        rw [hg.block _ (by simp [iterAt_size]; omega) (own_ne ho (Nat.lt_succ_self _))]
        exact (Below.heap_alloc _ _ _ (by rw [iterAt_size]; omega)).trans HI2.out
      by_cases h6 : done.length = 6
      · have h6' : ((done.length : Int) == 6) = true := by simp; omega
        have HF := Lib.hid (hcut.out.fin (.inl h6))
        go_wp2_with (at_builtin; refine L3.wpList_append_any _ rfl _ _ _ rfl (w.heap.size + 1) 9 i0 (.string ⟨#[]⟩) 1 16 Tryd.underlying54 hi hz0 hz1 hz2 rfl (by decide) (.slice A3 done.length c3) done.length (svs done) rfl (HO2.out.alloc _) _ (some ⟨_, 0, none⟩) 1 1 [_] rfl (reads_one _ _ _) (fun u hu => by simp at hu; rw [hu]; rfl) (by unfold maxLen; omega) (by omega) (by simp [iterAt_size]; omega) ?_; intro v4 w4 ho4 hg4 _)
        go_ret
        rw [HF.out]
        have e : s.extract a l.length = str (l.drop a) := by
          rw [HS.out, extract_seg]; congr 1; unfold seg; exact List.take_of_length_le (by simp)
        rw [e] at ho4 hg4
        refine worded_of (base := w.heap.size + 1) (by simp) ?_ (KK.out _ _ hg4).2
        rw [svs_snoc, List.length_append]
        exact ho4
      · have h6' : ((done.length : Int) == 6) = false := by simp; omega
        by_cases hc : c = 32
        · have hc' : ((c : Int) == 32) = true := by simp; omega
          have HC := Lib.hid hc
          clear hc
          go_wp2_with (at_builtin; refine L3.wpList_append_any _ rfl _ _ _ rfl (w.heap.size + 1) 9 i0 (.string ⟨#[]⟩) 1 16 Tryd.underlying54 hi hz0 hz1 hz2 rfl (by decide) (.slice A3 done.length c3) done.length (svs done) rfl (HO2.out.alloc _) _ (some ⟨_, 0, none⟩) 1 1 [_] rfl (reads_one _ _ _) (fun u hu => by simp at hu; rw [hu]; rfl) (by unfold maxLen; omega) (by omega) (by simp [iterAt_size]; omega) ?_; intro v4 w4 ho4 hg4 _)
          go_roundw
          case rel =>
            obtain ⟨b1, b2⟩ := HBL.out HC.out
            subst b2
            have e : s.extract a pos = str (seg l a pos) := by rw [HS.out, extract_seg]
            rw [e] at ho4 hg4
            obtain ⟨k1, k2⟩ := KK.out _ _ hg4
            refine ⟨pos + 1, pos + 1, done ++ [seg l a pos], by go_num, by omega, Nat.le_refl _, by rw [← HS.out]; exact k1, k2, ?_, Lib.hid (hcut.out.next h6 b1), Lib.hid (Clear.refl _ _)⟩
            rw [svs_snoc, List.length_append]
            exact ho4
          case measure =>
            obtain ⟨k1, k2⟩ := KK.out _ _ hg4
            have e3 : w4.iterPos w.heap.size = pos + wd := by simp [World.iterPos, k1]
            show s.size - w4.iterPos w.heap.size < s.size - wr.iterPos w.heap.size
            rw [e3, HP.out]; omega
        · have hc' : ((c : Int) == 32) = false := by simp; omega
          have HC := Lib.hid hc
          clear hc
          go_wp2
          go_roundw
          case rel => exact ⟨pos + wd, a, done, rfl, by omega, by omega, by rw [← HS.out]; exact HI2.out, HB2.out, HO2.out, hcut, Lib.hid (HST.out HC.out)⟩
          case measure =>
            have e3 : (wr.iterAt w.heap.size s (pos + wd)).iterPos w.heap.size = pos + wd := by simp [World.iterPos, HI2.out]
            show s.size - (wr.iterAt w.heap.size s (pos + wd)).iterPos w.heap.size < s.size - wr.iterPos w.heap.size
            rw [e3, HP.out]; omega
    · have hnx : ∀ ty, (Instr.next (.pointer (some ⟨w.heap.size, 0, none⟩)) true ty).run Tryd.prog wr = _ := fun ty => Lib.run_next_end_at wr w.heap.size s pos ty hit hlt
      have hdn : l.drop pos = [] := by rw [← hsl]; exact L2.drop_nil hlt
      have HF := Lib.hid (hcut.out.fin (.inr (hclr.out.fin hdn)))
      obtain ⟨A3, c3, rfl⟩ := own_form hown
      have i1 : (0 : Int) ≤ (a : Int) := by omega
      have i3 : (a : Int) ≤ (s.size : Int) := by omega
      have HO := Lib.hid hown
      clear hit hown hdn
      go_wp2_with (at_builtin; refine L3.wpList_append_any _ rfl _ _ _ rfl (w.heap.size + 1) 9 i0 (.string ⟨#[]⟩) 1 16 Tryd.underlying54 hi hz0 hz1 hz2 rfl (by decide) (.slice A3 done.length c3) done.length (svs done) rfl (HO.out.alloc _) _ (some ⟨_, 0, none⟩) 1 1 [_] rfl (reads_one _ _ _) (fun u hu => by simp at hu; rw [hu]; rfl) (by unfold maxLen; omega) (by omega) (by simp ; omega) ?_; intro v4 w4 ho4 hg4 _)
      go_ret
      rw [HF.out]
      have e : s.extract a l.length = str (l.drop a) := by
        rw [HS.out, extract_seg]; congr 1; unfold seg; exact List.take_of_length_le (by simp)
      rw [e] at ho4 hg4
      refine worded_of (base := w.heap.size + 1) (by simp) ?_ (below_own (hbw.alloc hbw.size _) (HO.out.alloc _) hg4 (Nat.le_succ _) (by simp; omega))
      rw [svs_snoc, List.length_append]
      exact ho4
end Go.Proofs.YtfoabgjcndgflaaDoor
