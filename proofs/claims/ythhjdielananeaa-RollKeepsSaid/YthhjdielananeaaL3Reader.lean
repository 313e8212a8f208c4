/-
  What a reader holds, and what each of its calls tells and leaves.
-/
import Derived.Test.YthhjdielananeaaL3Number
import Derived.Deep.RegionWith
set_option linter.unusedSimpArgs false
set_option linter.unusedVariables false
namespace Go.Proofs.Ythhjdielananeaa.L3
open Go.RowKit Go.Lib

/-- In w the struct in block g is a reader: l is left, e is its error. -/
def Rdr (w : World) (g : Nat) (p : List UInt8 × Int) : Prop :=
  ∃ A c, Blk w g 121 #[.slice A p.1.length c, .int .i64 p.2] ∧ Reads w g 1 A p.1.length (byteCells p.1) ∧ p.1.length ≤ c ∧ p.1.length ≤ 1000000000 ∧ (p.2 ≠ 0 → p.1 = [])
theorem grown_set {w : World} {g i : Nat} (u : Value) : w.grownBy (w.setCell ⟨g, i, none⟩ u) (some g) :=
  ⟨rfl, rfl, rfl, by simp [World.setCell], fun k _ hk => Below.heap_setCell w ⟨g, i, none⟩ u k (fun e => hk (by rw [e]))⟩
theorem grown_trans {a b c : World} {r : Option Nat} (h : a.grownBy b r) (k : b.grownBy c r) : a.grownBy c r :=
  ⟨k.os.trans h.os, k.tape.trans h.tape, k.output.trans h.output, Nat.le_trans h.size k.size, fun i hi hne => (k.block i (Nat.lt_of_lt_of_le hi h.size) hne).trans (h.block i hi hne)⟩

/-- Fail's outcome. -/
def failS (e2 : Int) (p : List UInt8 × Int) : List UInt8 × Int := if p.2 ≠ 0 ∨ e2 = 0 then p else ([], e2)
def leaves (g : Nat) (p : List UInt8 × Int) (w w' : World) : Prop := Rdr w' g p ∧ w.grownBy w' (some g)
theorem Rdr.lt {w : World} {g : Nat} {p : List UInt8 × Int} (h : Rdr w g p) : g < w.heap.size := by obtain ⟨_, _, hb, _⟩ := h; exact hb.lt
theorem leaves.refl {g : Nat} {p : List UInt8 × Int} {w : World} (h : Rdr w g p) : leaves g p w w := ⟨h, World.grownBy.refl w _⟩
theorem leaves.trans {g : Nat} {p q : List UInt8 × Int} {w w1 w2 : World} (h : leaves g p w w1) (k : leaves g q w1 w2) : leaves g q w w2 := ⟨k.1, grown_trans h.2 k.2⟩
theorem rdr_failed {g : Nat} {p : List UInt8 × Int} {w : World} (e2 : Int) (h : Rdr w g p) : leaves g ([], e2) w ((w.setCell ⟨g, 0, none⟩ (.slice none 0 0)).setCell ⟨g, 1, none⟩ (.int .i64 e2)) := by
  obtain ⟨A, c, hb, _⟩ := h
  exact ⟨⟨none, 0, (hb.set_ 0 _).set_ 1 _, Reads.none_, Nat.le_refl _, Nat.zero_le _, fun _ => rfl⟩, grown_trans (grown_set _) (grown_set _)⟩

set_option maxHeartbeats 1000000 in
set_option maxRecDepth 100000 in
theorem fail_any (g : Nat) (p : List UInt8 × Int) (e2 : Int) (w : World) (h : Rdr w g p) :
    Calls Try.prog 68 #[.pointer (some ⟨g, 0, none⟩), .int .i64 e2] w fun e w' => e = .returned (.tuple #[]) ∧ leaves g (failS e2 p) w w' := by
  have HR := Lib.hid h
  obtain ⟨l, e1⟩ := p
  obtain ⟨A, c, hb, hr, hc, hl, he⟩ := h
  have c0 : w.cell? ⟨g, 0, none⟩ = some (.slice A l.length c) := hb.cell 0
  have c1 : w.cell? ⟨g, 1, none⟩ = some (.int .i64 e1) := hb.cell 1
  have f0 := hb.frozen 0
  have f1 := hb.frozen 1
  clear he
  by_cases h1 : e1 = 0
  · subst h1
    by_cases h2 : e2 = 0
    · subst h2
      go_enter Try.func68, Try.ntmps68
      go_wp2
      refine bodyPost_ret (v := .tuple #[]) (results_none rfl _ _ _) rfl ?_
      exact ⟨rfl, leaves.refl HR.out⟩
    · have h2' : (e2 == 0) = false := by simpa using h2
      have HF := Lib.hid h2
      clear h2
      go_enter Try.func68, Try.ntmps68
      go_wp2
      go_end0
      exact ⟨rfl, by rw [failS, if_neg (by simp; exact HF.out)]; exact rdr_failed e2 HR.out⟩
  · have h1' : (e1 == 0) = false := by simpa using h1
    have h1'' : (e1 != 0) = true := by simpa using h1
    have HF := Lib.hid h1
    clear h1
    go_enter Try.func68, Try.ntmps68
    go_wp2
    refine bodyPost_ret (v := .tuple #[]) (results_none rfl _ _ _) rfl ?_
    exact ⟨rfl, by rw [failS, if_pos (Or.inl HF.out)]; exact leaves.refl HR.out⟩

/-- What is left behind Num, and the error. -/
def numS (p : List UInt8 × Int) : List UInt8 × Int := if (rdN 0 0 p.1).2.2 = 0 then (p.1.drop (rdN 0 0 p.1).2.1, p.2) else failS (rdN 0 0 p.1).2.2 p
theorem rdr_put {g : Nat} {l l' : List UInt8} {w : World} {A A' : Option Addr} {c c' m : Nat} {e1 : Int} (hb : Blk w g 121 #[.slice A l.length c, .int .i64 e1]) (hr : Reads w g 1 A' m (byteCells l')) (hm : m = l'.length) (hc : l'.length ≤ c') (hl : l'.length ≤ 1000000000) (he : e1 ≠ 0 → l' = []) :
    leaves g (l', e1) w (w.setCell ⟨g, 0, none⟩ (.slice A' m c')) := by
  subst hm
  exact ⟨⟨A', c', hb.set_ 0 _, hr.setCell (Nat.le_refl _) _, hc, hl, he⟩, grown_set _⟩
theorem cut_reads {w : World} {g c s : Nat} {A : Option Addr} {l : List UInt8} (hr : Reads w g 1 A l.length (byteCells l)) (hs : s ≤ l.length) (hc : l.length ≤ c) : Reads w g 1 (if c = s then A else A.map (·.add s)) (l.length - s) (byteCells (l.drop s)) := by
  have := hr.cut hs hc
  simpa [byteCells, List.map_drop] using this
set_option maxHeartbeats 1000000 in
set_option maxRecDepth 100000 in
theorem rnum_any (g : Nat) (p : List UInt8 × Int) (w : World) (h : Rdr w g p) :
    Calls Try.prog 55 #[.pointer (some ⟨g, 0, none⟩)] w fun e w' => e = .returned (.int .i64 (rdN 0 0 p.1).1) ∧ leaves g (numS p) w w' := by
  have HR := Lib.hid h
  obtain ⟨l, e1⟩ := p
  obtain ⟨A, c, hb, hr, hc, hl, he⟩ := h
  have c0 : w.cell? ⟨g, 0, none⟩ = some (.slice A l.length c) := hb.cell 0
  have c1 : w.cell? ⟨g, 1, none⟩ = some (.int .i64 e1) := hb.cell 1
  have f0 := hb.frozen 0
  have HE := Lib.hid he
  clear he
  obtain ⟨k, s, e2, hq⟩ : ∃ k s e2, rdN 0 0 l = (k, s, e2) := ⟨_, _, _, rfl⟩
  have hs := rd_len hq
  have hbad := (rd_err _ _ _ _ _ _ hq).2
  have HQ := Lib.hid hq
  have HB := Lib.hid hbad
  have HN : Hid (numS (l, e1) = if e2 = 0 then (l.drop s, e1) else failS e2 (l, e1)) := by show _ = _; unfold numS; rw [hq]
  have hnum := number_any g A l.length c l w hr (by omega)
  rw [hq] at hnum ⊢
  have hnum' := Lib.hid hnum
  clear hq hbad hnum
  have hcut := cut_reads hr hs hc
  have HC := Lib.hid hcut
  clear hcut
  by_cases h2 : e2 = 0
  · subst h2
    have hN : numS (l, e1) = (l.drop s, e1) := by rw [HN.out]; simp
    have HN2 := Lib.hid hN
    clear hN
    by_cases hcs : c = s
    · have hc2 := HC.out
      rw [if_pos hcs] at hc2
      have HC2 := Lib.hid hc2
      clear hc2 HC HN
      subst hcs
      go_enter Try.func55, Try.ntmps55
      go_wp2_with (go_at_call 67; refine hnum'.out.mono ?_; unfold numberPost; rintro e w1 ⟨rfl, rfl⟩)
      go_ret
      have e0 : l.length - c = 0 := by omega
      have hc3 := HC2.out
      rw [e0] at hc3
      exact ⟨rfl, by rw [HN2.out]; exact rdr_put hb hc3 (by simp; omega) (by simp; omega) (by simp; omega) (fun h => by simp [HE.out h])⟩
    · have hc2 := HC.out
      rw [if_neg hcs] at hc2
      have HC2 := Lib.hid hc2
      clear hc2 HC HN
      go_enter Try.func55, Try.ntmps55
      go_wp2_with (go_at_call 67; refine hnum'.out.mono ?_; unfold numberPost; rintro e w1 ⟨rfl, rfl⟩)
      go_ret
      exact ⟨rfl, by rw [HN2.out]; exact rdr_put hb HC2.out (by simp) (by simp; omega) (by simp; omega) (fun h => by simp [HE.out h])⟩
  · have hk := (HB.out h2).1
    have h2' : ((e2 : Int) == 0) = false := by simp; omega
    have h2'' : ((e2 : Int) != 0) = true := by simp; omega
    have H2 := Lib.hid h2
    subst hk
    clear h2
    go_enter Try.func55, Try.ntmps55
    go_wp2_with (first
      | (go_at_call 67; refine hnum'.out.mono ?_; unfold numberPost; rintro e w1 ⟨rfl, rfl⟩)
      | (go_at_call 68; refine (fail_any g (l, e1) _ _ HR.out).mono ?_; rintro e w2 ⟨rfl, hlv⟩))
    go_ret
    refine ⟨rfl, ?_⟩
    rw [HN.out, if_neg H2.out]
    exact hlv

/-- Most's outcome. -/
def mostV (most : Int) (p : List UInt8 × Int) : Int := if most < ((rdN 0 0 p.1).1 : Int) then 0 else (rdN 0 0 p.1).1
def mostS (most : Int) (p : List UInt8 × Int) : List UInt8 × Int := if most < ((rdN 0 0 p.1).1 : Int) then failS 33 (numS p) else numS p
set_option maxHeartbeats 1000000 in
set_option maxRecDepth 100000 in
theorem rrest_any (g : Nat) (p : List UInt8 × Int) (w : World) (h : Rdr w g p) :
    Calls Try.prog 56 #[.pointer (some ⟨g, 0, none⟩)] w fun e w' => e = .returned (.int .i64 p.1.length) ∧ w = w' := by
  obtain ⟨A, c, hb, _⟩ := h
  have c0 : w.cell? ⟨g, 0, none⟩ = some (.slice A p.1.length c) := hb.cell 0
  go_enter Try.func56, Try.ntmps56
  go_wp2
  go_ret
  exact ⟨rfl, rfl⟩
/-- Done's answer. -/
def doneV (p : List UInt8 × Int) : Int := if p.2 ≠ 0 then p.2 else if 0 < p.1.length then 32 else 0
/-- Text's outcome. -/
def textV (p : List UInt8 × Int) : List UInt8 :=
  if ((mostS 65536 p).1.length : Int) < mostV 65536 p then [] else (mostS 65536 p).1.take (mostV 65536 p).toNat
def textS (p : List UInt8 × Int) : List UInt8 × Int :=
  if ((mostS 65536 p).1.length : Int) < mostV 65536 p then failS 30 (mostS 65536 p) else ((mostS 65536 p).1.drop (mostV 65536 p).toNat, (mostS 65536 p).2)
theorem conv_reads {w : World} {B n c k : Nat} {A : Option Addr} {l : List UInt8} (h : Reads w B 1 A n (byteCells l)) (hk : k ≤ n) :
    (convert 53 9 (.slice A k c)).run Try.prog w = .ok (.string ⟨(l.take k).toArray⟩) w := by
  have hn : l.length = n := by have := h.1; simpa [byteCells] using this
  rcases A with _ | ad
  · have hn0 : n = 0 := by
      rcases Nat.eq_zero_or_pos n with h0 | h0
      · exact h0
      · obtain ⟨ad, h', _⟩ := h.2 h0
        cases h'
    obtain rfl : k = 0 := by omega
    rw [run_convert_bytes_string w 53 9 5 none 0 c Try.underlying53 Try.underlying5 Try.underlying9]
    rfl
  · have hl : (l.take k).length = k := by simp; omega
    have := run_convert_bytes_back (P := Try.prog) w 53 9 5 ad c (l.take k) Try.underlying53 Try.underlying5 Try.underlying9 (fun j hj => by
      rw [hl] at hj
      obtain ⟨ad', u, e, _, hx, hc⟩ := h.at_ (k := j) (by omega)
      injection e with e
      subst e
      rw [hc]
      simp only [byteCells, List.getElem?_map, List.getElem?_eq_getElem (show j < l.length by omega), Option.map_some, Option.some.injEq] at hx
      simp [← hx])
    rw [hl] at this
    exact this

/-- A new reader of bytes. -/
def made (l : List UInt8) (w : World) (e : Ending) (w' : World) : Prop := ∃ g, e = .returned (.pointer (some ⟨g, 0, none⟩)) ∧ w.heap.size ≤ g ∧ Rdr w' g (l, 0) ∧ Below w.heap.size w w'
set_option maxHeartbeats 1000000 in
set_option maxRecDepth 100000 in
theorem new_any (B : Nat) (A : Option Addr) (n c : Nat) (l : List UInt8) (w : World) (h : Reads w B 1 A n (byteCells l)) (hl : n ≤ 100000000) (hB : B ≤ w.heap.size) :
    Calls Try.prog 54 #[.slice A n c] w (made l w) := by
  have hn : l.length = n := by have := h.1; simpa [byteCells] using this
  go_enter Try.func54, Try.ntmps54
  go_wp2_with (go_at_call 49; refine (clone_any B A n c l _ h (by omega) hB).mono ?_; rintro e w2 ⟨v2, rfl, ho2⟩; obtain ⟨A2, c2, rfl, hr2, hc2⟩ := ho2.form)
  go_ret
  refine ⟨w2.heap.size, rfl, ho2.2.2, ⟨A2, c2, by rw [show (l, (0 : Int)).1.length = n from hn]; exact Blk.new _ _ _, hr2.alloc (Nat.le_refl _) _, hc2, by simp; omega, fun h => absurd rfl h⟩, ho2.2.1.alloc ho2.2.2 _⟩
end Go.Proofs.Ythhjdielananeaa.L3
