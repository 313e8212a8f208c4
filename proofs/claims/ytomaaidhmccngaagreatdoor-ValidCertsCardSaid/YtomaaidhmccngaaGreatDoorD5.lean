import Derived.Test.YtomaaidhmccngaaGreatDoorD4
set_option linter.unusedSimpArgs false
set_option linter.unusedVariables false
set_option maxRecDepth 100000
set_option maxHeartbeats 16000000
namespace Go.Proofs.YtomaaidhmccngaaGreatDoor
open Go.RowKit Go.Maps Go.Lib
open L3 (Blk Reads)
open L6 (Turn moreB)
open L4 (more leadV)
open L7 (Shr shrC inN)
open L11 (Crt zeroC crtC crtL stmC cmpV qaj wpList_store_row qac below_setRow qah)
theorem qlv (R : Regs) (p : List Tmo) : ∀ N : List Int, (eachN R N p).length <= N.length + p.length := by
 induction p with
 | nil => intro N; exact Nat.le_refl _
 | cons t p ih =>
   intro N
   rw [qeq]
   have h1 := qgP R N t
   have h2 := ih (timN R N t)
   simp only [List.length_cons]
   split <;> omega
theorem proN_len (R : Regs) (N : List Int) (v : Int) (p : List Tmo) : (proN R N v p).length <= N.length + p.length := by
 unfold proN
 split
 ·omega
 ·exact qlv R p N
section
variable {w W W' : World} {V : Nat -> Prop} {b g c : Nat} {R : Regs} {N : List Int} {x : Blo} {A : Option Addr} {P T : Value}
end
end Go.Proofs.YtomaaidhmccngaaGreatDoor
namespace Go.Proofs.YtomaaidhmccngaaGreatDoor
open Go.RowKit Go.Maps Go.Lib
open L3 (Blk Reads)
open L6 (Turn)
open L11 (Crt crtC)
open L7 (Shr shrC)
section
variable {P : Nat -> Prop} {b g c b2 g2 c2 : Nat} {R R2 : Regs} {N N2 : List Int} {B : Nat} {w W W' : World}
theorem qe2 {U V : Nat -> Prop} {N' : List Int} (h1 : Trio U b g c R N B W) (h3 : L6.Apart U V) (h4 : ∀ k, U k -> ¬ P k) (h5 : ∀ k, V k -> ¬ P k) (hp : ∀ k, P k -> k < w.heap.size) (ht : Turn (fun k => ¬ P k) w W) (hR : RRch W V b2 g2 c2 R2 N' W') : Six w P b g c b2 g2 c2 R R2 N N' B W' := by
 obtain ⟨⟨V', hV', hs⟩, hT⟩ := hR
 refine ⟨⟨U, V', h1.turn hT (fun k hk hV => h3 k hk hV), hV', fun k hk hV => ?_, h4, fun k hk hP => ?_⟩, hp, qbY ht h5 hT⟩
 ·rcases hs k hV with h | h
  ·exact h3 k hk h
  ·have := h1.inU k hk; omega
 ·rcases hs k hk with h | h
  ·exact h5 k h hP
  ·have := hp k hP
   have := ht.size
   omega
theorem qmA (h : Six w P b g c b2 g2 c2 R R2 N N2 B W) (hw : R2.wf) (hN : N2.length <= 100000000) (x : Crt) (hx : x.wf) :
 Calls Tryz.prog 12 #[.agg (lawA (some ⟨b2, 0, none⟩) (some ⟨g2, 0, none⟩) (some ⟨c2, 0, none⟩)), .agg (crtC x)] W fun e W' => e = .returned (.int .i64 (certE R2 x)) /\ Six w P b g c b2 g2 c2 R R2 N (certN R2 N2 x) B W' := by
 obtain ⟨⟨U, V, h1, h2, h3, h4, h5⟩, hp, ht⟩ := h
 refine (qh8 x W h2 hw hx hN).mono ?_
 rintro e W' ⟨rfl, hR⟩
 exact ⟨rfl, qe2 h1 h3 h4 h5 hp ht hR⟩
theorem six_rtim (h : Six w P b g c b2 g2 c2 R R2 N N2 B W) (hw : R2.wf) (hN : N2.length <= 100000000) (x : Tmo) (hx : x.wf) :
 Calls Tryz.prog 14 #[.agg (lawA (some ⟨b2, 0, none⟩) (some ⟨g2, 0, none⟩) (some ⟨c2, 0, none⟩)), .agg (tmC x)] W fun e W' => e = .returned (.int .i64 (timE R2 x)) /\ Six w P b g c b2 g2 c2 R R2 N (timN R2 N2 x) B W' := by
 obtain ⟨⟨U, V, h1, h2, h3, h4, h5⟩, hp, ht⟩ := h
 refine (qj4 x W h2 hw hx hN).mono ?_
 rintro e W' ⟨rfl, hR⟩
 exact ⟨rfl, qe2 h1 h3 h4 h5 hp ht hR⟩
theorem six_rpro (h : Six w P b g c b2 g2 c2 R R2 N N2 B W) (hw : R2.wf) (v : Int) (A : Option Addr) (cp : Nat) (p : List Tmo) (hl : p.length <= 1000) (hN : N2.length <= 1000000) (hp : Rd tmL 10 W A p) (hwf : ∀ t ∈ p, t.wf) (ho : p.length ≠ 0 -> ∀ ad, A = some ad -> P ad.block) :
 Calls Tryz.prog 16 #[.agg (lawA (some ⟨b2, 0, none⟩) (some ⟨g2, 0, none⟩) (some ⟨c2, 0, none⟩)), .int .i64 v, .slice A p.length cp] W fun e W' => e = .returned (.int .i64 (proE R2 v p)) /\ Six w P b g c b2 g2 c2 R R2 N (proN R2 N2 v p) B W' := by
 obtain ⟨⟨U, V, h1, h2, h3, h4, h5⟩, hP, hTn⟩ := h
 refine (rpro_any v A cp p W h2 hw hp hwf hl hN (fun h0 ad ha hV => h5 _ hV (ho h0 ad ha))).mono ?_
 rintro e W' ⟨rfl, hR⟩
 exact ⟨rfl, qe2 h1 h3 h4 h5 hP hTn hR⟩
end
end Go.Proofs.YtomaaidhmccngaaGreatDoor
namespace Go.Proofs.YtomaaidhmccngaaGreatDoor
open Go.RowKit Go.Maps Go.Lib
open L3 (Blk Reads)
open L6 (Turn)
open L11 (Crt crtC)
section
variable {P : Nat -> Prop} {b g c b2 g2 c2 : Nat} {R R2 : Regs} {N N2 : List Int} {B : Nat} {w W W' : World}
theorem qiH (h : Six w P b g c b2 g2 c2 R R2 N N2 B W) (hT : TP P w) (hw : R.wf) (n : Int) :
 Calls Tryz.prog 19 #[.agg (lawA (some ⟨b, 0, none⟩) (some ⟨g, 0, none⟩) (some ⟨c, 0, none⟩)), .int .i64 n] W (toldB (contV R.K n) W) := by
 obtain ⟨⟨U, V, h1, h2, h3, h4, h5⟩, hp, ht⟩ := h
 exact qcE n W h1 hw (hT W ht).1
theorem qhV (h : Six w P b g c b2 g2 c2 R R2 N N2 B W) (hw : R2.wf) (n : Int) :
 Calls Tryz.prog 20 #[.agg (lawA (some ⟨b2, 0, none⟩) (some ⟨g2, 0, none⟩) (some ⟨c2, 0, none⟩)), .int .i64 n] W (toldB (contV R2.K n) W) := by
 obtain ⟨⟨U, V, h1, h2, h3, h4, h5⟩, hp, ht⟩ := h
 exact qeC n W h2 hw
theorem six_seen (h : Six w P b g c b2 g2 c2 R R2 N N2 B W) (u : Int) (hu : inI u) :
 Calls Tryz.prog 22 #[.pointer (some ⟨c, 0, none⟩), .int .i64 u] W fun e w' => e = .returned (.bool (decide (u ∈ N))) /\ W = w' := by
 obtain ⟨⟨U, V, ⟨S, T, X, m, h1, h2, h3, h4, _⟩, _⟩, hp, ht⟩ := h
 exact L7.seen_any X c R.f R.G N m u W h3 hu
theorem six_was (h : Six w P b g c b2 g2 c2 R R2 N N2 B W) (u : Int) (hN : N2.length <= 1000000000) :
 Calls Tryz.prog 23 #[.pointer (some ⟨c2, 0, none⟩), .int .i64 u] W fun e w' => e = .returned (.bool (decide (u ∈ N2))) /\ W = w' := by
 obtain ⟨⟨U, V, _, ⟨S, T, X, h1, h2, h3, _⟩, _⟩, hp, ht⟩ := h
 exact L7.qgU X c2 R2.f R2.G N2 u W h3 hN
end
theorem parse_wf (l : List UInt8) (h : (parseB l).2 = 0) : (parseB l).1.wf := by
 have h1 := (qi2 h).1
 generalize (parseB l).1 = b at h1 ⊢
 exact qhf h1
theorem contV_wf (K : List ByteArray) (n : Int) : (contV K n).1.wf := by
 unfold contV
 generalize (L5.contS K n).data.toList = l
 have hp := parse_wf l
 generalize parseB l = z at hp ⊢
 split
 ·exact qjF
 ·split
  ·exact qjF
  ·rename_i h
   exact hp (Decidable.not_not.1 h)
theorem maxV_wf {a b : Crt} (ha : a.wf) (hb : b.wf) : (maxV a b).wf := by
 unfold maxV
 split
 ·exact hb
 ·exact ha
theorem ql9 : ∀ (ts : List Tmo) (c : Crt), c.wf -> (∀ t ∈ ts, t.wf) -> (ts.foldl (fun c x => maxV c x.high) c).wf
 | [], c, hc, _ => hc
 | t :: ts, c, hc, h => ql9 ts _ (maxV_wf hc (h t (List.mem_cons_self ..)).2.2) (fun x hx => h x (List.mem_cons_of_mem _ hx))
theorem highV_wf (p : List Tmo) (h : ∀ t ∈ p, t.wf) : (highV p).wf := by
 cases p with
 | nil => exact L11.qcN
 | cons t ts => exact ql9 ts _ (h t (List.mem_cons_self ..)).2.2 (fun x hx => h x (List.mem_cons_of_mem _ hx))
