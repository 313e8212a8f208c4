import Derived.Test.YtomaaidhmccngaaGreatDoorB1
import Derived.Test.YtomaaidhmccngaaGreatDoorCheckT
import Derived.Test.YtomaaidhmccngaaGreatDoorLays
set_option linter.unusedSimpArgs false
set_option linter.unusedVariables false
set_option maxRecDepth 100000
set_option maxHeartbeats 16000000
namespace Go.Proofs.YtomaaidhmccngaaGreatDoor
open Go.RowKit Go.Lib
open L3 (Blk Reads qaz qcc)
abbrev Fit : Type := {t : Txx // t.wf 1000000}
instance : Inhabited Fit := ⟨⟨zeroX, qgW 1000000⟩⟩
def fitL (x : Fit) : List Value := txL x.1
def fitX : (L : List Txx) -> (∀ t ∈ L, t.wf 1000000) -> List Fit
 | [], _ => []
 | t :: L, h => ⟨t, h t (List.mem_cons_self ..)⟩ :: fitX L fun x hx => h x (List.mem_cons_of_mem _ hx)
theorem qeJ : ∀ (L : List Txx) (h : ∀ t ∈ L, t.wf 1000000), (fitX L h).map (·.1) = L
 | [], _ => rfl
 | t :: L, h => by unfold fitX; rw [List.map_cons, qeJ L]
theorem qeI (L : List Txx) (h : ∀ t ∈ L, t.wf 1000000) : (fitX L h).length = L.length := by rw [<- List.length_map (f := fun x : Fit => x.1), qeJ]
theorem fitX_get (L : List Txx) (h : ∀ t ∈ L, t.wf 1000000) (j : Nat) (hj : j < L.length) : ((fitX L h)[j]!).1 = L[j] := by
 have hl : j < (fitX L h).length := by rw [qeI]; exact hj
 rw [getElem!_pos _ j hl]
 have := qeJ L h
 have e : ((fitX L h).map (·.1))[j]'(by rw [List.length_map]; exact hl) = L[j] := by simp only [this]
 rw [<- e, List.getElem_map]
theorem fitX_any (L : List Txx) (h : ∀ t ∈ L, t.wf 1000000) (p : Txx -> Bool) : ((fitX L h).any fun x => p x.1) = L.any p := by
 have e : (fitX L h).any (p ∘ fun x : Fit => x.1) = L.any p := by rw [<- List.any_map, qeJ]
 exact e
theorem cell_spot {w : World} {a : Addr} {v : Value} (h : w.cell? a = some v) : a.spot = none := by
 obtain ⟨_, _, _, _, h3⟩ := World.shape?_of_cell? h
 exact h3
theorem Rd.plain {α : Type} {f : α -> List Value} {k : Nat} (hf : ∀ x, ∃ u, (f x)[0]? = some u) {w : World} {A : Option Addr} {L : List α} (h : Rd f k w A L) (h0 : L ≠ []) : ∃ b o, A = some ⟨b, o, none⟩ /\ b < w.heap.size := by
 have hl : 0 < L.length := List.length_pos_iff.2 h0
 obtain ⟨ad, hA, hb, hc⟩ := h 0 hl
 obtain ⟨u, hu⟩ := hf L[0]
 have h1 := hc 0 u hu
 rw [Nat.zero_mul, L3.qcc] at h1
 have hs := cell_spot h1
 obtain ⟨b, o, s⟩ := ad
 have h2 : (⟨b, o, s⟩ : Addr).add (0 + 0) = ⟨b, o, s⟩ := by simp [Addr.add]
 rw [h2] at hs
 cases hs
 exact ⟨b, o, hA, hb⟩
theorem txL_0 (x : Txx) : ∃ u, (txL x)[0]? = some u := ⟨_, rfl⟩
theorem Rd.lib {w : World} {b o : Nat} {L : List Txx} (h : ∀ t ∈ L, t.wf 1000000) (hr : Rd txL 7 w (some ⟨b, o, none⟩) L) : ∀ j, j < (fitX L h).length -> ∀ i v, (fitL (fitX L h)[j]!)[i]? = some v -> w.cell? ⟨b, o + j * 7 + i, none⟩ = some v := fun j hj i v hi => by
 rw [qeI] at hj
 obtain ⟨ad, hA, hb, hc⟩ := hr j hj
 injection hA with hA
 subst hA
 unfold fitL at hi
 rw [fitX_get L h j hj] at hi
 have := hc i v hi
 rw [Addr.add_lit, Addr.add_lit] at this
 exact this
abbrev encF (x : Fit) : Value := .agg (fitL x).toArray
theorem qhp : ∀ args w, (callFunc 194 args).run Tryz.prog w = .ok (.enter 194 args) w := enters_of Tryz.func194 (by kernel_rfl) rfl
theorem qne (t : Txx) (w : World) (h : t.wf 1000000) (hT : Tabs w) : Calls Tryz.prog 194 #[.agg (txC t)] w (gives (.bool (!right t)) w) := by
 have hb0 : Below w.heap.size w (w.alloc (.cells (txC t) 133)) := qa9 _ t
 have k0 := qa6 w 133 t
 have hm := qaD t (w.alloc (.cells (txC t) 133)) h (hT.kept hb0)
 rcases Bool.eq_false_or_eq_true (right t) with a | a
 all_goals
  rw [a] at hm ⊢
  have HM := hid hm
  clear hm a hT
  go_enter Tryz.func194, Tryz.ntmps194
  go_wp2_with (first
   | (refine qaa rfl _ _ rfl w.heap.size rfl _ _ _ _ k0 Tryz.underlying133 rfl (by kernel_rfl) ?_)
   | (go_at_call 176; refine HM.out.mono ?_; unfold gives errI; rintro e w1 ⟨rfl, hb1⟩))
  go_ret
  exact ⟨rfl, nxt hb0 hb1⟩
theorem qkx (w : World) (hT : Tabs w) : PredBelow Tryz.prog 194 #[] encF (fun x => !right x.1) w := fun W x hb => by
 refine (qne x.1 W x.2 (hT.kept hb)).mono ?_
 rintro e w' ⟨rfl, hb'⟩
 exact ⟨rfl, nxt hb hb'⟩
theorem qiz (A : Option Addr) (c : Nat) (f : Value) (w : World) : Calls Tryz.prog 207 #[.slice A 0 c, f] w (gives (.int .i64 (-1)) w) := by
 go_enter Tryz.func207, Tryz.ntmps207
 go_wp2
 go_loopw [8] (fun i wr => i = .int .i64 0 /\ Below w.heap.size w wr) (fun _ _ => 0)
 case atStart => exact ⟨rfl, Below.refl _ _⟩
 case round =>
  obtain ⟨rfl, hbw⟩ := hrel
  go_wp2
  go_ret
  exact ⟨rfl, hbw⟩
theorem con_none (A : Option Addr) (c : Nat) (f : Value) (w : World) : Calls Tryz.prog 193 #[.slice A 0 c, f] w (gives (.bool false) w) := by
 have hi := fun W => qiz A c f W
 go_enter Tryz.func193, Tryz.ntmps193
 go_wp2_with (first
  | (go_at_call 207; (with_reducible refine (hi _).mono ?_); unfold gives; rintro e w1 ⟨rfl, hb1⟩)
  | go_in)
 go_ret
 exact ⟨rfl, hb1⟩
theorem conL_any (A : Option Addr) (c : Nat) (L : List Txx) (w : World) (hl : ∀ t ∈ L, t.wf 1000000) (hT : Tabs w) (hr : Rd txL 7 w A L) (hn : L.length <= 1000000) :
 Calls Tryz.prog 193 #[.slice A L.length c, .func (.func 194) #[] #[]] w (gives (.bool (L.any fun x => !right x)) w) := by
 by_cases h0 : L = []
 ·subst h0
  exact con_none A c _ w
 ·obtain ⟨b, o, rfl, hb⟩ := hr.plain txL_0 h0
  have := AnyQ.slices_ContainsFunc Tryz.conL 7 Tryz.isAgg133 Tryz.sizeOf133 fitL (fun _ => rfl) (fun x => !right x.1) 194 #[] qhp b o L.length c (fitX L hl) w (qkx w hT) (by rw [qeI]; exact Nat.le_refl _) (by omega) hb (Rd.lib hl hr)
  refine Calls.mono (show Calls Tryz.prog 193 #[.slice (some ⟨b, o, none⟩) L.length c, .func (.func 194) #[] #[]] w _ from this) ?_
  rintro e w' ⟨rfl, hb'⟩
  refine ⟨?_, hb'⟩
  have e : (fitX L hl).take L.length = fitX L hl := List.take_of_length_le (by rw [qeI]; exact Nat.le_refl _)
  rw [e]
  have := fitX_any L hl (fun x => !right x)
  rw [<- this]
theorem qkU (L : List Txx) : (!(L.any fun x => !right x)) = L.all right := by induction L with
 | nil => rfl
 | cons t L ih => rw [List.any_cons, List.all_cons, <- ih]; cases right t <;> simp
theorem qmv (A : Option Addr) (c : Nat) (L : List Txx) (w : World) (hl : ∀ t ∈ L, t.wf 1000000) (hT : Tabs w) (hr : Rd txL 7 w A L) (hn : L.length <= 1000000) :
 Calls Tryz.prog 170 #[.slice A L.length c] w (gives (.bool (rightL L)) w) := by
 have hc := conL_any A c L w hl hT hr hn
 have e : rightL L = (decide (L.length <= 8) && !(L.any fun x => !right x)) := by unfold rightL; rw [qkU]
 rw [e]
 obtain ⟨b, hb⟩ := nm (L.any fun x => !right x)
 rw [<- hb] at hc ⊢
 obtain ⟨n, hN⟩ := nm (L.length)
 rw [<- hN] at hc hn ⊢
 clear e hb hN hr hl hT
 by_cases h8 : n <= 8
 ·have h8' : decide ((n : Int) <= 8) = true := by simp; omega
  have h9 : decide (n <= 8) = true := by simpa using h8
  cases b
  all_goals
   go_enter Tryz.func170, Tryz.ntmps170
   go_wp2_with (first
    | (go_at_call 193; refine hc.mono ?_; unfold gives; rintro e w1 ⟨rfl, hb1⟩))
   go_ret
   refine ⟨?_, hb1⟩
   first | rfl | simp [h8]
 ·have h9 : decide (n <= 8) = false := by simpa using h8
  clear hc
  go_enter Tryz.func170, Tryz.ntmps170
  go_wp2
  go_ret
  refine ⟨?_, Below.refl _ _⟩
  first | rfl | simp [h8]
theorem right_is (A : Option Addr) (c : Nat) (L : List Txx) (b : Bool) (w : World) (hl : ∀ t ∈ L, t.wf 1000000) (hT : Tabs w) (hr : Rd txL 7 w A L) (hn : L.length <= 1000000) (hb : rightL L = b) :
 Calls Tryz.prog 170 #[.slice A L.length c] w (gives (.bool b) w) := by have := qmv A c L w hl hT hr hn; rw [hb] at this; exact this
end Go.Proofs.YtomaaidhmccngaaGreatDoor
namespace Go.Proofs.YtomaaidhmccngaaGreatDoor
open Go.RowKit Go.Maps Go.Lib
open L3 (Blk Reads)
open L11 (Crt zeroC crtL crtC mayV okW crtInfo qal endV)
theorem deq {x y : Int} {b : Bool} (h : decide (x = y) = b) : (x == y) = b := by rw [<- h]; rfl
structure FolAt (w : World) (b : Blo) (P T : Value) (W : World) : Prop where
 bb : Blk W w.heap.size 57 (bloC b P T)
 bp : Blk W (w.heap.size + 1) 29 (crtC b.par)
 bw : Below w.heap.size w W
theorem FolAt.below {w W W' : World} {b : Blo} {P T : Value} (h : FolAt w b P T W) (hb : Below W.heap.size W W') : FolAt w b P T W' := ⟨h.bb.below hb h.bb.lt, h.bp.below hb h.bp.lt, nxt h.bw hb⟩
theorem FolAt.cells {w W : World} {b : Blo} {P T : Value} (h : FolAt w b P T W) : W.cell? ⟨w.heap.size, 0, none⟩ = some (.int .i64 b.view) /\ W.cell? ⟨w.heap.size, 2, none⟩ = some (.int .i64 b.height) /\ W.cell? ⟨w.heap.size, 3, none⟩ = some (.int .i64 b.author) /\
 W.cell? ⟨w.heap.size + 1, 0, none⟩ = some (.int .i64 b.par.kind) /\ W.cell? ⟨w.heap.size + 1, 2, none⟩ = some (.int .i64 b.par.view) /\ W.cell? ⟨w.heap.size + 1, 4, none⟩ = some (.int .i64 b.par.height) /\ W.cell? ⟨w.heap.size + 1, 5, none⟩ = some (.int .i64 b.par.author) :=
 ⟨h.bb.cell 0, h.bb.cell 2, h.bb.cell 3, h.bp.cell 0, h.bp.cell 2, h.bp.cell 4, h.bp.cell 5⟩
theorem fol_mk (w : World) (b : Blo) (P T : Value) : FolAt w b P T ((w.alloc (.cells (bloC b P T) 57)).alloc (.cells (crtC b.par) 29)) := by
 have hb : Below w.heap.size w (w.alloc (.cells (bloC b P T) 57)) := qae _ _
 refine ⟨(qby w _ b P T).alloc _, ?_, hb.alloc hb.size _⟩
 have := L11.qa6 (w.alloc (.cells (bloC b P T) 57)) 29 b.par
 simpa using this
theorem qmc (w : World) (b : Blo) (P T : Value) : ∀ j u, (crtL b.par)[j]? = some u -> (w.alloc (.cells (bloC b P T) 57)).cell? ((⟨w.heap.size, 4, none⟩ : Addr).add j) = some u := qbj (qby w _ b P T) (qeB b P T)
theorem six (a b c d e f : Bool) : a = false ∨ (a = true /\ b = false) ∨ (a = true /\ b = true /\ c = false) ∨ (a = true /\ b = true /\ c = true /\ d = false) ∨ (a = true /\ b = true /\ c = true /\ d = true /\ e = false) ∨ (a = true /\ b = true /\ c = true /\ d = true /\ e = true /\ f = false) ∨ (a = true /\ b = true /\ c = true /\ d = true /\ e = true /\ f = true) := by
 cases a <;> cases b <;> cases c <;> cases d <;> cases e <;> cases f <;> simp
theorem qix (b : Blo) (P T : Value) (w : World) (h : b.par.wf) (hh : 0 <= b.height /\ b.height <= 3) : Calls Tryz.prog 171 #[.agg (bloC b P T)] w (gives (.bool (followsV b)) w) := by
 have F0 := hid (fol_mk w b P T)
 have hp := qmc w b P T
 by_cases h1 : b.height <= 1
 ·have e : followsV b = openV b.par b.view := by unfold followsV; rw [if_pos h1]
  rw [e]
  have hk := fun W => qhw b.par b.view W h
  have HK := hid hk
  clear e hk h hh
  go_enter Tryz.func171, Tryz.ntmps171
  go_upto_region 2 with (first
   | (refine qai rfl _ _ rfl ⟨w.heap.size, 4, none⟩ rfl (crtL b.par) _ hp Tryz.underlying29 rfl crtInfo ?_)
   | (refine qaH rfl _ _ _ rfl _ (w.heap.size + 1) (by simp) (crtC b.par) rfl rfl _ _ crtInfo rfl (qal _) ?_))
  refine qab (fun w1 hw1 => ?_)
  have hA : FolAt w b P T w1 := by rw [hw1]; exact F0.out
  clear hw1 F0 hp
  obtain ⟨c0, c1, c2, c3, c4, c5, c6⟩ := hA.cells
  go_wp2_with (first
   | (refine qaa rfl _ _ rfl (w.heap.size + 1) rfl _ _ _ _ hA.bp Tryz.underlying29 rfl crtInfo ?_)
   | (go_at_call 128; refine (HK.out _).mono ?_; unfold gives; rintro e w2 ⟨rfl, hb2⟩))
  go_ret
  exact ⟨rfl, nxt hA.bw hb2⟩
 ·have e : followsV b = (mayV b.par && decide (b.par.kind = 2) && decide (b.par.co = 0) && decide (b.par.view = b.view) && decide (b.par.author = b.author) && decide (b.par.height = b.height - 1)) := by unfold followsV; rw [if_neg h1]
  have hw64 : wrap64 (b.height - 1) = b.height - 1 := by unfold wrap64; omega
  have hc0 := fun W hm => qfD b.par W h hm
  have hc1 := fun W hm => qfE b.par W h hm
  have hce := fun W hk => c_end b.par _ W (ql0 hk)
  have HC := hid (And.intro hc0 (And.intro hc1 hce))
  clear hc0 hc1 hce h hh
  rcases six (mayV b.par) (decide (b.par.kind = 2)) (decide (b.par.co = 0)) (decide (b.par.view = b.view)) (decide (b.par.author = b.author)) (decide (b.par.height = b.height - 1)) with a1 | ⟨a1, a2⟩ | ⟨a1, a2, a3⟩ | ⟨a1, a2, a3, a4⟩ | ⟨a1, a2, a3, a4, a5⟩ | ⟨a1, a2, a3, a4, a5, a6⟩ | ⟨a1, a2, a3, a4, a5, a6⟩
  ·have E : Hid (followsV b = false) := hid (by rw [e, a1]; rfl)
   have HM := hid (fun W => HC.out.1 W a1)
   clear e HC a1
   go_enter Tryz.func171, Tryz.ntmps171
   go_upto_region 2 with (first
    | (refine qai rfl _ _ rfl ⟨w.heap.size, 4, none⟩ rfl (crtL b.par) _ hp Tryz.underlying29 rfl crtInfo ?_)
    | (refine qaH rfl _ _ _ rfl _ (w.heap.size + 1) (by simp) (crtC b.par) rfl rfl _ _ crtInfo rfl (qal _) ?_))
   refine qab (fun w1 hw1 => ?_)
   have hA : FolAt w b P T w1 := by rw [hw1]; exact F0.out
   clear hw1 F0 hp
   obtain ⟨c0, c1, c2, c3, c4, c5, c6⟩ := hA.cells
   go_wp2_with (first
    | (refine qaa rfl _ _ rfl (w.heap.size + 1) rfl _ _ _ _ hA.bp Tryz.underlying29 rfl crtInfo ?_)
    | (go_at_call 37; refine (HM.out _).mono ?_; unfold gives; rintro e w2 ⟨rfl, hb2⟩))
   go_ret
   exact ⟨by rw [E.out]; rfl, nxt hA.bw hb2⟩
  ·have E : Hid (followsV b = false) := hid (by rw [e, a1, a2]; rfl)
   have q2 := deq a2
   have HM := hid (fun W => HC.out.2.1 W a1)
   clear e HC a1 a2
   go_enter Tryz.func171, Tryz.ntmps171
   go_upto_region 2 with (first
    | (refine qai rfl _ _ rfl ⟨w.heap.size, 4, none⟩ rfl (crtL b.par) _ hp Tryz.underlying29 rfl crtInfo ?_)
    | (refine qaH rfl _ _ _ rfl _ (w.heap.size + 1) (by simp) (crtC b.par) rfl rfl _ _ crtInfo rfl (qal _) ?_))
   refine qab (fun w1 hw1 => ?_)
   have hA : FolAt w b P T w1 := by rw [hw1]; exact F0.out
   clear hw1 F0 hp
   obtain ⟨c0, c1, c2, c3, c4, c5, c6⟩ := hA.cells
   go_wp2_with (first
    | (refine qaa rfl _ _ rfl (w.heap.size + 1) rfl _ _ _ _ hA.bp Tryz.underlying29 rfl crtInfo ?_)
    | (go_at_call 37; refine (HM.out _).mono ?_; unfold gives; rintro e w2 ⟨rfl, hb2⟩; obtain ⟨d0, d1, d2, d3, d4, d5, d6⟩ := (hA.below hb2).cells))
   go_ret
   exact ⟨by rw [E.out]; rfl, nxt hA.bw hb2⟩
  all_goals
   have e2 : followsV b = (decide (b.par.co = 0) && decide (b.par.view = b.view) && decide (b.par.author = b.author) && decide (b.par.height = b.height - 1)) := by rw [e, a1, a2]; rfl
   have HM := hid (fun W => HC.out.2.1 W a1)
   have he := fun W => HC.out.2.2 W (of_decide_eq_true a2)
   have q2 := deq a2
   rw [a3] at he e2
   (try rw [a4] at e2)
   (try rw [a5] at e2)
   (try rw [a6] at e2)
   have HE := hid he
   have E := hid e2
   (try have q4 := deq a4)
   (try have q5 := deq a5)
   (try have q6 := deq a6)
   clear e HC a1 a2 e2 he
   go_enter Tryz.func171, Tryz.ntmps171
   go_upto_region 2 with (first
    | (refine qai rfl _ _ rfl ⟨w.heap.size, 4, none⟩ rfl (crtL b.par) _ hp Tryz.underlying29 rfl crtInfo ?_)
    | (refine qaH rfl _ _ _ rfl _ (w.heap.size + 1) (by simp) (crtC b.par) rfl rfl _ _ crtInfo rfl (qal _) ?_))
   refine qab (fun w1 hw1 => ?_)
   have hA : FolAt w b P T w1 := by rw [hw1]; exact F0.out
   clear hw1 F0 hp
   obtain ⟨c0, c1, c2, c3, c4, c5, c6⟩ := hA.cells
   go_wp2_with (first
    | (go_at_call 37; refine (HM.out _).mono ?_; unfold gives; rintro e w2 ⟨rfl, hb2⟩; have hB := hA.below hb2; obtain ⟨d0, d1, d2, d3, d4, d5, d6⟩ := hB.cells)
    | (go_at_call 122; refine (HE.out _).mono ?_; unfold gives; rintro e w3 ⟨rfl, hb3⟩; have hD := hB.below hb3; obtain ⟨f0, f1, f2, f3, f4, f5, f6⟩ := hD.cells)
    | (refine qaa rfl _ _ rfl (w.heap.size + 1) rfl _ _ _ _ hB.bp Tryz.underlying29 rfl crtInfo ?_)
    | (refine qaa rfl _ _ rfl (w.heap.size + 1) rfl _ _ _ _ hA.bp Tryz.underlying29 rfl crtInfo ?_))
   go_ret
   refine ⟨?_, nxt (nxt hA.bw hb2) hb3⟩
   rw [E.out]
   first | rfl | simp [*]
theorem qkm (b : Blo) (P T : Value) (r : Bool) (w : World) (h : b.par.wf) (hh : 0 <= b.height /\ b.height <= 3) (hr : followsV b = r) : Calls Tryz.prog 171 #[.agg (bloC b P T)] w (gives (.bool r) w) := by
 have := qix b P T w h hh; rw [hr] at this; exact this
end Go.Proofs.YtomaaidhmccngaaGreatDoor
namespace Go.Proofs.YtomaaidhmccngaaGreatDoor
open Go.RowKit Go.Maps Go.Lib
open L3 (Blk Reads)
open L11 (Crt zeroC crtL crtC mayV okW crtInfo qal endV)
structure ProAt (w : World) (b : Blo) (A : Option Addr) (P T : Value) (W : World) : Prop where
 bb : Blk W w.heap.size 57 (bloC b P T)
 rd : Rd tmL 10 W A b.proof
 bw : Below w.heap.size w W
theorem ProAt.below {w W W' : World} {b : Blo} {A : Option Addr} {P T : Value} (h : ProAt w b A P T W) (hb : Below W.heap.size W W') : ProAt w b A P T W' := ⟨h.bb.below hb h.bb.lt, h.rd.below hb, nxt h.bw hb⟩
theorem dneT {x y : Int} {b : Bool} (h : decide (x = y) = b) : (x != y) = !b := by rw [<- h]; rfl
theorem qh2 (l : List Tmo) (k : Nat) : prevS l (k + 1) = (l[k]!).signer := rfl
theorem qe4 {W : World} {g : Nat} {ty : TypeId} {t : Tmo} (h : Blk W g ty (tmC t)) : W.cell? ⟨g, 0, none⟩ = some (.int .i64 t.signer) /\ W.cell? ⟨g, 1, none⟩ = some (.int .i64 t.view) := ⟨h.cell 0, h.cell 1⟩
theorem qky (b : Blo) (A : Option Addr) (c : Nat) (T : Value) (w : World) (hw : b.wf) (hr : Rd tmL 10 w A b.proof) : Calls Tryz.prog 172 #[.agg (bloC b (.slice A b.proof.length c) T)] w (gives (.bool (provenV b)) w) := by
 have hA0 : ProAt w b A (.slice A b.proof.length c) T (w.alloc (.cells (bloC b (.slice A b.proof.length c) T) 57)) := ⟨qby _ _ _ _ _, hr.below (qae _ _), qae _ _⟩
 have hWF := hid hw.proof
 have hnp := hw.np
 clear hw
 by_cases h1 : b.height = 1
 case neg =>
  have e : provenV b = b.proof.isEmpty := by unfold provenV; rw [if_neg h1]
  have h1' : (b.height != 1) = true := by simpa using h1
  have h1'' : (b.height == 1) = false := by simpa using h1
  rw [e]
  obtain ⟨n, hn⟩ := nm (b.proof.length)
  have e2 : b.proof.isEmpty = ((n : Int) == 0) := by
   rw [hn]
   cases b.proof with
   | nil => rfl
   | cons t l => rw [List.isEmpty_cons]; symm; rw [beq_eq_false_iff_ne]; simp; omega
  rw [e2]
  rw [<- hn] at hA0 ⊢
  obtain ⟨c0, c1⟩ : (w.alloc (.cells (bloC b (.slice A n c) T) 57)).cell? ⟨w.heap.size, 2, none⟩ = some (.int .i64 b.height) /\ (w.alloc (.cells (bloC b (.slice A n c) T) 57)).cell? ⟨w.heap.size, 12, none⟩ = some (.slice A n c) := ⟨hA0.bb.cell 2, hA0.bb.cell 12⟩
  have hb := hA0.bw
  clear hA0 hn e e2 hr h1 hnp
  go_enter Tryz.func172, Tryz.ntmps172
  go_wp2
  go_ret
  exact ⟨rfl, hb⟩
 have h1' : (b.height != 1) = false := by simpa using h1
 have h1'' : (b.height == 1) = true := by simpa using h1
 have e : provenV b = (decide (1 <= b.proof.length /\ b.proof.length <= 10) && risesV b.view b.proof) := by unfold provenV; rw [if_pos h1]
 obtain ⟨n, hn⟩ := nm (b.proof.length)
 rw [<- hn] at hA0 ⊢ hnp
 by_cases h2 : 1 <= n /\ n <= 10
 case neg =>
  have E : Hid (provenV b = false) := hid (by rw [e, <- hn, decide_eq_false h2]; rfl)
  have ho : okW (n : Int) 1 10 = false := L11.qcW (by omega)
  obtain ⟨c0, c1⟩ : (w.alloc (.cells (bloC b (.slice A n c) T) 57)).cell? ⟨w.heap.size, 2, none⟩ = some (.int .i64 b.height) /\ (w.alloc (.cells (bloC b (.slice A n c) T) 57)).cell? ⟨w.heap.size, 12, none⟩ = some (.slice A n c) := ⟨hA0.bb.cell 2, hA0.bb.cell 12⟩
  have hb := hA0.bw
  clear hA0 hn e hr h1 hnp h2
  go_enter Tryz.func172, Tryz.ntmps172
  go_wp2_with (go_at_call 157; refine (qaV _ _ _ _ _ ho).mono ?_; rintro e w1 ⟨rfl, rfl⟩)
  go_ret
  exact ⟨by rw [E.out]; rfl, hb⟩
 have E : Hid (provenV b = risesV b.view b.proof) := hid (by rw [e, <- hn, decide_eq_true h2]; rfl)
 have ho : okW (n : Int) 1 10 = true := L11.qh1 (by omega) (by omega)
 obtain ⟨W0, hW0⟩ := nm (w.alloc (.cells (bloC b (.slice A n c) T) 57))
 have HW0 : (w.alloc (.cells (bloC b (.slice A n c) T) 57)) = W0 := hW0.symm
 rw [HW0] at hA0
 obtain ⟨c0, c1⟩ : W0.cell? ⟨w.heap.size, 2, none⟩ = some (.int .i64 b.height) /\ W0.cell? ⟨w.heap.size, 12, none⟩ = some (.slice A n c) := ⟨hA0.bb.cell 2, hA0.bb.cell 12⟩
 have HN := hid hn
 clear hn e hr h1 hW0 h2
 go_enter Tryz.func172, Tryz.ntmps172
 go_upto_region 1 with fail
 clear HW0
 go_wp2_with (go_at_call 157; refine (qaV _ _ _ _ _ ho).mono ?_; rintro e w1 ⟨rfl, rfl⟩)
 go_loopw [3, 21] (fun l i wr => ∃ k : Nat, i = .int .i64 k /\ l = .int .i64 (prevS b.proof k) /\ k <= n /\ Hid (∀ j, j < k -> riseAt b.view b.proof j = true) /\ ProAt w b A (.slice A n c) T wr) (fun _ i _ => n - (RowKit.intOf i).toNat)
 case atStart => exact ⟨0, rfl, rfl, Nat.zero_le _, hid (fun j hj => by omega), hA0⟩
 case round =>
  obtain ⟨k, rfl, rfl, hk, hz, hP⟩ := hrel
  clear c0 c1 hA0
  by_cases hlt : k < n
  ·have hkL : k < b.proof.length := by have := HN.out; omega
   obtain ⟨ad, rfl, hadl, hcs⟩ := hP.rd k hkL
   have hx := hWF.out _ (List.getElem_mem hkL)
   have hbang := qei hkL
   obtain ⟨x, hxe⟩ := nm (b.proof[k])
   rw [<- hxe] at hcs hx hbang
   have hra : riseAt b.view b.proof k = (tmoV x && decide (x.view = b.view) && decide (prevS b.proof k < x.signer)) := by unfold riseAt; rw [hbang]
   obtain ⟨pv, hpv⟩ := nm (prevS b.proof k)
   rw [<- hpv] at hra ⊢
   have hcs1 : ∀ j u, (tmL x)[j]? = some u -> wr.cell? ((ad.add (k * 10)).add j) = some u := hcs
   have hnx : prevS b.proof (k + 1) = x.signer := by rw [qh2, hbang]
   have hPb := hP.below (qae wr (.cells (tmC x) 31))
   have hyb : Blk (wr.alloc (.cells (tmC x) 31)) wr.heap.size 31 (tmC x) := qc0 _ _ _
   have HH := hid (And.intro hbang hnx)
   have HK := hid hkL
   clear hxe hcs hbang hpv hkL hnx
   have hti := fun W b0 hb0 => qkN x b0 W hx hb0
   have HT := hid hti
   clear hti
   rcases three (tmoV x) (decide (x.view = b.view)) (decide (pv < x.signer)) with a1 | ⟨a1, a2⟩ | ⟨a1, a2, a3⟩ | ⟨a1, a2, a3⟩
   ·have E2 : Hid (provenV b = false) := hid (by rw [E.out, qdq HK.out (by rw [hra, a1]; rfl)])
    have HT2 := hid (fun W => HT.out W _ a1)
    clear hra a1 HT
    go_wp2_with (first
     | (refine qai rfl _ _ rfl (ad.add (k * 10)) rfl (tmL x) _ hcs1 Tryz.underlying31 rfl tmInfo ?_)
     | (refine qaf rfl _ _ _ rfl _ (tmC x) rfl rfl _ _ tmInfo rfl (qbX _) ?_)
     | (refine qaa rfl _ _ rfl wr.heap.size rfl _ _ _ _ hyb Tryz.underlying31 rfl tmInfo ?_)
     | (go_at_call 65; refine (HT2.out _).mono ?_; unfold gives errI; rintro e w2 ⟨rfl, hb2⟩))
    go_ret
    exact ⟨by rw [E2.out]; rfl, nxt hPb.bw hb2⟩
   ·have E2 : Hid (provenV b = false) := hid (by rw [E.out, qdq HK.out (by rw [hra, a1, a2]; rfl)])
    have HT2 := hid (fun W => HT.out W _ a1)
    have q2 := dneT a2
    clear hra a1 a2 HT
    go_wp2_with (first
     | (refine qai rfl _ _ rfl (ad.add (k * 10)) rfl (tmL x) _ hcs1 Tryz.underlying31 rfl tmInfo ?_)
     | (refine qaf rfl _ _ _ rfl _ (tmC x) rfl rfl _ _ tmInfo rfl (qbX _) ?_)
     | (refine qaa rfl _ _ rfl wr.heap.size rfl _ _ _ _ hyb Tryz.underlying31 rfl tmInfo ?_)
     | (go_at_call 65; refine (HT2.out _).mono ?_; unfold gives errI; rintro e w2 ⟨rfl, hb2⟩; obtain ⟨d0, d1⟩ := qe4 (hyb.below hb2 hyb.lt); have d2 : w2.cell? ⟨w.heap.size, 0, none⟩ = some (.int .i64 b.view) := (hPb.below hb2).bb.cell 0))
    go_ret
    exact ⟨by rw [E2.out]; rfl, nxt hPb.bw hb2⟩
   ·have E2 : Hid (provenV b = false) := hid (by rw [E.out, qdq HK.out (by rw [hra, a1, a2, a3]; rfl)])
    have HT2 := hid (fun W => HT.out W _ a1)
    have q2 := dneT a2
    have q3 : x.signer <= pv := by have := of_decide_eq_false a3; omega
    clear hra a1 a2 a3 HT
    go_wp2_with (first
     | (refine qai rfl _ _ rfl (ad.add (k * 10)) rfl (tmL x) _ hcs1 Tryz.underlying31 rfl tmInfo ?_)
     | (refine qaf rfl _ _ _ rfl _ (tmC x) rfl rfl _ _ tmInfo rfl (qbX _) ?_)
     | (refine qaa rfl _ _ rfl wr.heap.size rfl _ _ _ _ hyb Tryz.underlying31 rfl tmInfo ?_)
     | (go_at_call 65; refine (HT2.out _).mono ?_; unfold gives errI; rintro e w2 ⟨rfl, hb2⟩; obtain ⟨d0, d1⟩ := qe4 (hyb.below hb2 hyb.lt); have d2 : w2.cell? ⟨w.heap.size, 0, none⟩ = some (.int .i64 b.view) := (hPb.below hb2).bb.cell 0))
    go_ret
    exact ⟨by rw [E2.out]; rfl, nxt hPb.bw hb2⟩
   ·have E2 : Hid (riseAt b.view b.proof k = true) := hid (by rw [hra, a1, a2, a3]; rfl)
    have HT2 := hid (fun W => HT.out W _ a1)
    have q2 := dneT a2
    have q3 : ¬ x.signer <= pv := by have := of_decide_eq_true a3; omega
    clear hra a1 a2 a3 HT
    go_wp2_with (first
     | (refine qai rfl _ _ rfl (ad.add (k * 10)) rfl (tmL x) _ hcs1 Tryz.underlying31 rfl tmInfo ?_)
     | (refine qaf rfl _ _ _ rfl _ (tmC x) rfl rfl _ _ tmInfo rfl (qbX _) ?_)
     | (refine qaa rfl _ _ rfl wr.heap.size rfl _ _ _ _ hyb Tryz.underlying31 rfl tmInfo ?_)
     | (go_at_call 65; refine (HT2.out _).mono ?_; unfold gives errI; rintro e w2 ⟨rfl, hb2⟩; obtain ⟨d0, d1⟩ := qe4 (hyb.below hb2 hyb.lt); have d2 : w2.cell? ⟨w.heap.size, 0, none⟩ = some (.int .i64 b.view) := (hPb.below hb2).bb.cell 0))
    go_roundw
    case rel =>
     refine ⟨k + 1, by go_num, by rw [HH.out.2], by omega, hid (fun j hj => ?_), hPb.below hb2⟩
     rcases Nat.lt_or_ge j k with hjk | hjk
     ·exact hz.out j hjk
     ·obtain rfl : j = k := by omega
      exact E2.out
    case measure => simp [RowKit.intOf]; omega
  ·have hkn : k = n := by omega
   have E2 : Hid (provenV b = true) := hid (by rw [E.out, qhL (fun j hj => hz.out j (by have := HN.out; omega))])
   have hb := hP.bw
   clear hP hz
   go_wp2_with fail
   go_ret
   exact ⟨by rw [E2.out]; rfl, hb⟩
theorem qh4 (b : Blo) (A : Option Addr) (c : Nat) (T : Value) (r : Bool) (w : World) (hw : b.wf) (hr : Rd tmL 10 w A b.proof) (hb : provenV b = r) : Calls Tryz.prog 172 #[.agg (bloC b (.slice A b.proof.length c) T)] w (gives (.bool r) w) := by
 have := qky b A c T w hw hr; rw [hb] at this; exact this
end Go.Proofs.YtomaaidhmccngaaGreatDoor
namespace Go.Proofs.YtomaaidhmccngaaGreatDoor
open Go.RowKit Go.Maps Go.Lib
open L3 (Blk Reads)
open L11 (Crt zeroC crtL crtC mayV okW crtInfo qal endV)
structure ChkAt (w : World) (b : Blo) (A : Option Addr) (c : Nat) (B : Option Addr) (d : Nat) (W : World) : Prop where
 bb : Blk W w.heap.size 57 (bloC b (.slice A b.proof.length c) (.slice B b.txs.length d))
 rp : Rd tmL 10 W A b.proof
 rt : Rd txL 7 W B b.txs
 tb : Tabs W
 bw : Below w.heap.size w W
section
variable {w W W' : World} {b : Blo} {A : Option Addr} {c : Nat} {B : Option Addr} {d : Nat}
theorem ChkAt.below (h : ChkAt w b A c B d W) (hb : Below W.heap.size W W') : ChkAt w b A c B d W' := ⟨h.bb.below hb h.bb.lt, h.rp.below hb, h.rt.below hb, h.tb.kept hb, nxt h.bw hb⟩
theorem ChkAt.cells (h : ChkAt w b A c B d W) : W.cell? ⟨w.heap.size, 0, none⟩ = some (.int .i64 b.view) /\ W.cell? ⟨w.heap.size, 1, none⟩ = some (.int .i64 b.round) /\ W.cell? ⟨w.heap.size, 2, none⟩ = some (.int .i64 b.height) /\ W.cell? ⟨w.heap.size, 3, none⟩ = some (.int .i64 b.author) /\
 W.cell? ⟨w.heap.size, 7, none⟩ = some (.int .i64 b.par.round) /\ W.cell? ⟨w.heap.size, 13, none⟩ = some (.slice B b.txs.length d) :=
 ⟨h.bb.cell 0, h.bb.cell 1, h.bb.cell 2, h.bb.cell 3, h.bb.cell 7, h.bb.cell 13⟩
theorem chk_mk (hp : Rd tmL 10 w A b.proof) (ht : Rd txL 7 w B b.txs) (hT : Tabs w) : ChkAt w b A c B d (w.alloc (.cells (bloC b (.slice A b.proof.length c) (.slice B b.txs.length d)) 57)) :=
 ⟨qby _ _ _ _ _, hp.below (qae _ _), ht.below (qae _ _), hT.kept (qae _ _), qae _ _⟩
end
theorem qci {b : Blo} (h : headV b = false) : checkV b = 120 := by unfold checkV; rw [if_pos h]
theorem qdh {b : Blo} (h : headV b = true) (h2 : parentV b = false) : checkV b = 122 := by unfold checkV; rw [if_neg (by rw [h]; simp), if_pos h2]
theorem qb2 {b : Blo} (h : headV b = true) (h2 : parentV b = true) (h3 : provenV b = false) : checkV b = 121 := by unfold checkV; rw [if_neg (by rw [h]; simp), if_neg (by rw [h2]; simp), if_pos h3]
theorem qdD {b : Blo} (h : headV b = true) (h2 : parentV b = true) (h3 : provenV b = true) : checkV b = 0 := by unfold checkV; rw [if_neg (by rw [h]; simp), if_neg (by rw [h2]; simp), if_neg (by rw [h3]; simp)]
theorem chk_any (b : Blo) (A : Option Addr) (c : Nat) (B : Option Addr) (d : Nat) (w : World) (hw : b.wf) (hp : Rd tmL 10 w A b.proof) (ht : Rd txL 7 w B b.txs) (hT : Tabs w) :
 Calls Tryz.prog 137 #[.agg (bloC b (.slice A b.proof.length c) (.slice B b.txs.length d))] w (gives (.int .i64 (checkV b)) w) := by
 have F0 := hid (chk_mk (c := c) (d := d) hp ht hT)
 have hcr := fun W r (h : Tabs W) (h2 : Rd txL 7 W B b.txs) hr => right_is B d b.txs r W hw.txs h h2 (by have := hw.nt; omega) hr
 have HCR := hid hcr
 have HW := hid hw
 have e : headV b = (okW b.view 1 1048576 && okW b.author 0 9 && okW b.height 0 3 && rightL b.txs) := rfl
 clear hcr hw hp ht hT
 go_enter Tryz.func137, Tryz.ntmps137
 go_upto_region 1 with fail
 refine qab (fun w0 hw0 => ?_)
 have hA : ChkAt w b A c B d w0 := by rw [hw0]; exact F0.out
 clear hw0 F0
 obtain ⟨c0, c1, c2, c3, c4, c5⟩ := hA.cells
 rcases four (okW b.view 1 1048576) (okW b.author 0 9) (okW b.height 0 3) (rightL b.txs) with a1 | ⟨a1, a2⟩ | ⟨a1, a2, a3⟩ | ⟨a1, a2, a3, a4⟩ | ⟨a1, a2, a3, a4⟩
 ·have E : Hid (checkV b = 120) := hid (qci (by rw [e, a1]; rfl))
  clear e HCR
  go_wp2_with (first
   | (go_at_call 127; refine (qcC _ _ _ a1).mono ?_; rintro e w1 ⟨rfl, rfl⟩))
  go_ret
  exact ⟨by rw [E.out]; rfl, hA.bw⟩
 ·have E : Hid (checkV b = 120) := hid (qci (by rw [e, a1, a2]; rfl))
  clear e HCR
  go_wp2_with (first
   | (go_at_call 127; refine (qcC _ _ _ a1).mono ?_; rintro e w1 ⟨rfl, rfl⟩)
   | (go_at_call 126; refine (qdy _ _ _ a2).mono ?_; rintro e w1 ⟨rfl, rfl⟩))
  go_ret
  exact ⟨by rw [E.out]; rfl, hA.bw⟩
 ·have E : Hid (checkV b = 120) := hid (qci (by rw [e, a1, a2, a3]; rfl))
  clear e HCR
  go_wp2_with (first
   | (go_at_call 127; refine (qcC _ _ _ a1).mono ?_; rintro e w1 ⟨rfl, rfl⟩)
   | (go_at_call 126; refine (qdy _ _ _ a2).mono ?_; rintro e w1 ⟨rfl, rfl⟩)
   | (go_at_call 157; refine (qaV _ _ _ _ _ a3).mono ?_; rintro e w1 ⟨rfl, rfl⟩))
  go_ret
  exact ⟨by rw [E.out]; rfl, hA.bw⟩
 ·have E : Hid (checkV b = 120) := hid (qci (by rw [e, a1, a2, a3, a4]; rfl))
  have hR := HCR.out w0 _ hA.tb hA.rt a4
  clear e HCR
  go_wp2_with (first
   | (go_at_call 127; refine (qcC _ _ _ a1).mono ?_; rintro e w1 ⟨rfl, rfl⟩)
   | (go_at_call 126; refine (qdy _ _ _ a2).mono ?_; rintro e w1 ⟨rfl, rfl⟩)
   | (go_at_call 157; refine (qaV _ _ _ _ _ a3).mono ?_; rintro e w1 ⟨rfl, rfl⟩)
   | (go_at_call 170; refine hR.mono ?_; unfold gives; rintro e w1 ⟨rfl, hb1⟩))
  go_ret
  exact ⟨by rw [E.out]; rfl, nxt hA.bw hb1⟩
 have hR := HCR.out w0 _ hA.tb hA.rt a4
 have hd : Hid (headV b = true) := hid (by rw [e, a1, a2, a3, a4]; rfl)
 have hh := L11.qfU a3
 clear e HCR
 go_upto_region 3 with (first
  | (go_at_call 127; refine (qcC _ _ _ a1).mono ?_; rintro e w1 ⟨rfl, rfl⟩)
  | (go_at_call 126; refine (qdy _ _ _ a2).mono ?_; rintro e w1 ⟨rfl, rfl⟩)
  | (go_at_call 157; refine (qaV _ _ _ _ _ a3).mono ?_; rintro e w1 ⟨rfl, rfl⟩)
  | (go_at_call 170; refine hR.mono ?_; unfold gives; rintro e w1 ⟨rfl, hb1⟩))
 have hB := hA.below hb1
 clear hA hR a1 a2 a3 a4 c0 c1 c2 c3 c4 c5 hb1
 have hfo := fun W r hr => qkm b (.slice A b.proof.length c) (.slice B b.txs.length d) r W HW.out.par hh hr
 have HFO := hid hfo
 have ep : parentV b = (followsV b && decide (b.round = b.par.round + 1) && decide (b.round <= 1073741824)) := rfl
 clear hfo hh
 rcases (Bool.eq_false_or_eq_true (followsV b)).symm with g1 | g1
 ·have E : Hid (checkV b = 122) := hid (qdh hd.out (by rw [ep, g1]; rfl))
  have hF := HFO.out w1 _ g1
  clear ep HFO g1
  go_wp2_with (first
   | (refine qaa rfl _ _ rfl w.heap.size rfl _ _ _ _ hB.bb Tryz.underlying57 rfl bloInfo ?_)
   | (go_at_call 171; refine hF.mono ?_; unfold gives; rintro e w2 ⟨rfl, hb2⟩))
  go_ret
  exact ⟨by rw [E.out]; rfl, nxt hB.bw hb2⟩
 have hF := HFO.out w1 _ g1
 have hpr := qfh (qd2 g1)
 have hw64 : wrap64 (b.par.round + 1) = b.par.round + 1 := by unfold wrap64; omega
 clear HFO hpr
 by_cases g2 : b.round = b.par.round + 1
 case neg =>
  have E : Hid (checkV b = 122) := hid (qdh hd.out (by rw [ep, g1, decide_eq_false g2]; rfl))
  have q2 : (b.round != b.par.round + 1) = true := by simpa using g2
  clear ep g1 g2
  go_wp2_with (first
   | (refine qaa rfl _ _ rfl w.heap.size rfl _ _ _ _ hB.bb Tryz.underlying57 rfl bloInfo ?_)
   | (go_at_call 171; refine hF.mono ?_; unfold gives; rintro e w2 ⟨rfl, hb2⟩; obtain ⟨d0, d1, d2, d3, d4, d5⟩ := (hB.below hb2).cells))
  go_ret
  exact ⟨by rw [E.out]; rfl, nxt hB.bw hb2⟩
 have q2 : (b.round != b.par.round + 1) = false := by simpa using g2
 by_cases g3 : b.round <= 1073741824
 case neg =>
  have E : Hid (checkV b = 122) := hid (qdh hd.out (by rw [ep, decide_eq_false g3]; simp))
  have q3 : 1073741824 < b.round := by omega
  clear ep g1 g2 g3
  go_wp2_with (first
   | (refine qaa rfl _ _ rfl w.heap.size rfl _ _ _ _ hB.bb Tryz.underlying57 rfl bloInfo ?_)
   | (go_at_call 171; refine hF.mono ?_; unfold gives; rintro e w2 ⟨rfl, hb2⟩; obtain ⟨d0, d1, d2, d3, d4, d5⟩ := (hB.below hb2).cells))
  go_ret
  exact ⟨by rw [E.out]; rfl, nxt hB.bw hb2⟩
 have q3 : ¬ 1073741824 < b.round := by omega
 have hpv : Hid (parentV b = true) := hid (by rw [ep, g1, decide_eq_true g2, decide_eq_true g3]; rfl)
 clear ep g1 g2 g3
 go_upto_region 5 with (first
  | (refine qaa rfl _ _ rfl w.heap.size rfl _ _ _ _ hB.bb Tryz.underlying57 rfl bloInfo ?_)
  | (go_at_call 171; refine hF.mono ?_; unfold gives; rintro e w2 ⟨rfl, hb2⟩; obtain ⟨d0, d1, d2, d3, d4, d5⟩ := (hB.below hb2).cells))
 have hD := hB.below hb2
 clear hB hF d0 d1 d2 d3 d4 d5 hb2 q2 q3 hw64
 rcases (Bool.eq_false_or_eq_true (provenV b)).symm with g1 | g1
 ·have E : Hid (checkV b = 121) := hid (qb2 hd.out hpv.out g1)
  have hF := qh4 b A c (.slice B b.txs.length d) _ w2 HW.out hD.rp g1
  clear g1
  go_wp2_with (first
   | (refine qaa rfl _ _ rfl w.heap.size rfl _ _ _ _ hD.bb Tryz.underlying57 rfl bloInfo ?_)
   | (go_at_call 172; refine hF.mono ?_; unfold gives; rintro e w3 ⟨rfl, hb3⟩))
  go_ret
  exact ⟨by rw [E.out]; rfl, nxt hD.bw hb3⟩
 ·have E : Hid (checkV b = 0) := hid (qdD hd.out hpv.out g1)
  have hF := qh4 b A c (.slice B b.txs.length d) _ w2 HW.out hD.rp g1
  clear g1
  go_wp2_with (first
   | (refine qaa rfl _ _ rfl w.heap.size rfl _ _ _ _ hD.bb Tryz.underlying57 rfl bloInfo ?_)
   | (go_at_call 172; refine hF.mono ?_; unfold gives; rintro e w3 ⟨rfl, hb3⟩))
  go_ret
  exact ⟨by rw [E.out]; rfl, nxt hD.bw hb3⟩
theorem qeo (b : Blo) (P T : Value) (w : World) (hw : b.wf) (hl : Lies w b P T) (hT : Tabs w) : Calls Tryz.prog 137 #[.agg (bloC b P T)] w (gives (.int .i64 (checkV b)) w) := by
 obtain ⟨A, c, B, d, rfl, rfl, hp, ht⟩ := hl
 exact chk_any b A c B d w hw hp ht hT
theorem qll (b : Blo) (P T : Value) (r : Int) (w : World) (hw : b.wf) (hl : Lies w b P T) (hT : Tabs w) (hr : checkV b = r) : Calls Tryz.prog 137 #[.agg (bloC b P T)] w (gives (.int .i64 r) w) := by
 have := qeo b P T w hw hl hT; rw [hr] at this; exact this
