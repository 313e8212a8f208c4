import Derived.Test.YtomaaidhmccngaaGreatDoorD4
set_option linter.unusedSimpArgs false
set_option linter.unusedVariables false
set_option maxRecDepth 100000
set_option maxHeartbeats 16000000
namespace Go.Proofs.YtomaaidhmccngaaGreatDoor
open Go.RowKit Go.Maps Go.Lib
open L3 (Blk Reads)
open L6 (Turn moreB)
open L4 (more leadV)
open L7 (Shr shrC inN)
open L11 (Crt zeroC crtC crtL stmC cmpV qai wpList_store_row qac below_setRow qag)
theorem qm7 (R : Regs) (p : List Tmo) : ∀ N : List Int, (eachN R N p).length <= N.length + p.length := by
 induction p with
 | nil => intro N; exact Nat.le_refl _
 | cons t p ih =>
   intro N
   rw [qee]
   have h1 := qjm R N t
   have h2 := ih (timN R N t)
   simp only [List.length_cons]
   split <;> omega
theorem proN_len (R : Regs) (N : List Int) (v : Int) (p : List Tmo) : (proN R N v p).length <= N.length + p.length := by
 unfold proN
 split
 ·omega
 ·exact qm7 R p N
theorem qkk {x : Blo} (h : checkV x = 0) : 0 <= x.author := by
 have h1 := (qbx h).1
 unfold headV at h1
 simp only [Bool.and_eq_true] at h1
 exact (qfY h1.1.1.2).1
theorem qm5 {K : List ByteArray} {x : Blo} {n : Int} (hk : K.length <= 1000000) (h : nbrV K x = (n, 0)) : checkV x = 0 /\ inI n := by
 have hi := L5.idx_le K (str (bytesB x))
 unfold nbrV at h
 by_cases h1 : checkV x = 0
 ·rw [if_neg (fun h => h h1)] at h
  refine ⟨h1, ?_⟩
  by_cases h2 : L5.idx K (str (bytesB x)) = 0
  ·rw [if_pos h2] at h; injection h with _ h; omega
  ·rw [if_neg h2] at h
   injection h with h _
   unfold inI
   omega
 ·rw [if_pos h1] at h; injection h with _ h; exact absurd h h1
theorem rest_40 {R : Regs} {n : Int} {x : Blo} (h : allowE R x = 40) : restE R n x = 40 := by unfold restE; rw [if_pos (by rw [h]; decide), h]
theorem qiN {R : Regs} {n : Int} {x : Blo} (h : allowE R x = 0) (h2 : autE R n x ≠ 0) : restE R n x = autE R n x := by unfold restE; rw [if_neg (fun k => k h), if_pos h2]
theorem qhy {R : Regs} {n : Int} {x : Blo} (h : allowE R x = 0) (h2 : autE R n x = 0) : restE R n x = if certE R x.par ≠ 0 then certE R x.par else provE R x := by unfold restE; rw [if_neg (fun k => k h), if_neg (fun k => k h2)]
theorem qkU {R : Regs} {x : Blo} (h : x.height ≠ 1) : provE R x = 0 := by unfold provE; rw [if_pos h]
theorem qjv {R : Regs} {x : Blo} (h : x.height = 1) (h2 : proE R x.view x.proof ≠ 0) : provE R x = proE R x.view x.proof := by unfold provE; rw [if_neg (fun k => k h), if_pos h2]
theorem qiS {R : Regs} {x : Blo} (h : x.height = 1) (h2 : proE R x.view x.proof = 0) : provE R x = if cmpV x.par (highV x.proof) < 0 then 212 else 0 := by unfold provE; rw [if_neg (fun k => k h), if_neg (fun k => k h2)]
theorem r_err {r : Int × Int} {e n q : Int} (h : r = if e ≠ 0 then (0, e) else (n, 0)) (he : e = q) (hq : q ≠ 0) : r = (0, q) := by subst he; rw [h, if_pos hq]
theorem r_ok {r : Int × Int} {e n : Int} (h : r = if e ≠ 0 then (0, e) else (n, 0)) (he : e = 0) : r = (n, 0) := by rw [h, if_neg (fun k => k he)]
theorem qeY (n : Int) (x : Blo) (w : World) : (Instr.build 73 #[(0, .int .i64 1), (1, .int .i64 n), (2, .int .i64 x.view), (3, .int .i64 x.round), (4, .int .i64 x.height), (5, .int .i64 x.author)]).run Tryz.prog w = .ok (.agg (stmC (stmP n x))) w := run_build w _ _ _ (by kernel_rfl)
theorem qkZ {V : Nat -> Prop} {b g c : Nat} {R : Regs} {N1 : List Int} {x : Blo} {A : Option Addr} {P T : Value} (cp : Nat) (w W4 W5 : World) (hb4 : Below w.heap.size w W4) (h1 : w.heap.size + 1 < W4.heap.size) (hin : ∀ k, V k -> k < w.heap.size) (hR : RRch W4 V b g c R N1 W5) (hw : R.wf) (hx : x.wf) (hN : N1.length <= 1000000) (hp0 : Rd tmL 10 w A x.proof) (hrp : Rd tmL 10 W5 A x.proof) (bx : Blk W5 (w.heap.size + 1) 57 (bloC x P T)) (ho : x.proof.length ≠ 0 -> Off V A) :
 Calls Tryz.prog 16 #[.agg (lawA (some ⟨b, 0, none⟩) (some ⟨g, 0, none⟩) (some ⟨c, 0, none⟩)), .int .i64 x.view, .slice A x.proof.length cp] W5 fun e W' => e = .returned (.int .i64 (proE R x.view x.proof)) /\ RRch W4 V b g c R (proN R N1 x.view x.proof) W' /\ Blk W' (w.heap.size + 1) 57 (bloC x P T) /\ Rd tmL 10 W' A x.proof := by
 obtain ⟨⟨V', hV', hVs⟩, htn⟩ := hR
 have ho' : x.proof.length ≠ 0 -> Off V' A := fun h0 ad had hin' => by
  rcases hVs _ hin' with h2 | h2
  ·exact ho h0 ad had h2
  ·obtain ⟨ad', had', hl, _⟩ := hp0 0 (by omega)
   rw [had] at had'
   injection had' with had'
   subst had'
   have := hb4.size
   omega
 refine (rpro_any x.view A cp x.proof W5 hV' hw hrp hx.proof hx.np hN ho').mono ?_
 rintro e W' ⟨rfl, hR'⟩
 refine ⟨rfl, RRch.then htn hVs hR', hR'.tn.blk bx (fun hv => ?_), hrp.kept2 hR'.tn ho'⟩
 rcases hVs _ hv with h2 | h2
 ·have := hin _ h2; omega
 ·omega
structure RqbAt (w : World) (V : Nat -> Prop) (b g c : Nat) (R : Regs) (N : List Int) (x : Blo) (A : Option Addr) (P T : Value) (W : World) : Prop where
 bl : Blk W w.heap.size 44 (lawA (some ⟨b, 0, none⟩) (some ⟨g, 0, none⟩) (some ⟨c, 0, none⟩))
 bx : Blk W (w.heap.size + 1) 57 (bloC x P T)
 rp : Rd tmL 10 W A x.proof
 tr : RTrio V b g c R N W
 bw : Below w.heap.size w W
section
variable {w W W' : World} {V : Nat -> Prop} {b g c : Nat} {R : Regs} {N : List Int} {x : Blo} {A : Option Addr} {P T : Value}
theorem RqbAt.below (h : RqbAt w V b g c R N x A P T W) (hb : Below W.heap.size W W') : RqbAt w V b g c R N x A P T W' := ⟨h.bl.below hb h.bl.lt, h.bx.below hb h.bx.lt, h.rp.below hb, h.tr.below hb, nxt h.bw hb⟩
theorem RqbAt.leaves (h : RqbAt w V b g c R N x A P T W) : RRch w V b g c R N W := ⟨⟨V, h.tr, fun _ => .inl⟩, L6.Turn.of_keep h.bw⟩
end
def RLeft (w : World) (V : Nat -> Prop) (b g c : Nat) (R : Regs) (m : Nat) (W : World) : Prop := ∃ N' : List Int, RRch w V b g c R N' W /\ N'.length <= m
theorem rblk_any {V : Nat -> Prop} {b g c : Nat} {R : Regs} {N : List Int} (x : Blo) (A : Option Addr) (cp : Nat) (D : Option Addr) (d : Nat) (w : World) (h : RTrio V b g c R N w) (hw : R.wf) (hx : x.wf) (hN : N.length + 1 <= 1000000) (hp : Rd tmL 10 w A x.proof) (ht : Rd txL 7 w D x.txs) (ho : x.proof.length ≠ 0 -> Off V A) :
 Calls Tryz.prog 28 #[.agg (lawA (some ⟨b, 0, none⟩) (some ⟨g, 0, none⟩) (some ⟨c, 0, none⟩)), .agg (bloC x (.slice A x.proof.length cp) (.slice D x.txs.length d))] w fun e W' => e = .returned (.tuple #[.int .i64 (blkE R x).1, .int .i64 (blkE R x).2]) /\ RLeft w V b g c R (N.length + 1 + x.proof.length) W' := by
 have Z := qbP w 44 57 (lawA (some ⟨b, 0, none⟩) (some ⟨g, 0, none⟩) (some ⟨c, 0, none⟩)) (bloC x (.slice A x.proof.length cp) (.slice D x.txs.length d))
 have hS0 : RqbAt w V b g c R N x A (.slice A x.proof.length cp) (.slice D x.txs.length d) _ := ⟨Z.1, Z.2.1, hp.below Z.2.2, h.below Z.2.2, Z.2.2⟩
 have hNB := fun W (hA : RqbAt w V b g c R N x A (.slice A x.proof.length cp) (.slice D x.txs.length d) W) => qeT x A cp D d W hA.tr hw hx hA.rp (ht.below hA.bw)
 have hAL := fun W => L4.qaN R.f W (by have := L4.qbt hw.hf; omega) (by have := L4.qbt hw.hf; omega)
 have hLE := fun W => L4.qdA R.f x.round W (by have := L4.qbt hw.hf; omega) (by have := L4.qbt hw.hf; omega)
 have hCT := fun (n : Int) (hn : inI n) W (hA : RqbAt w V b g c R N x A (.slice A x.proof.length cp) (.slice D x.txs.length d) W) => show Calls Tryz.prog 69 #[.pointer (some ⟨g, 0, none⟩), .agg (shrC (shrOf x.author (stmP n x)))] W (gives (.int .i64 (autE R n x)) W) from qex hA.tr hw (shrOf x.author (stmP n x)) ⟨hx.author, qmn (qmh hx hn)⟩
 have hCE := fun W (hA : RqbAt w V b g c R N x A (.slice A x.proof.length cp) (.slice D x.txs.length d) W) => qhs x.par W hA.tr hw hx.par (by omega)
 have hcl := qgT R N x.par
 have hPR := fun (W4 W5 : World) hb4 h1 (hR : RRch W4 V b g c R (certN R N x.par) W5) hrp bx => qkZ (P := .slice A x.proof.length cp) (T := .slice D x.txs.length d) cp w W4 W5 hb4 h1 h.inV hR hw hx (by omega) hp hrp bx ho
 have hHI := fun W (hr : Rd tmL 10 W A x.proof) => qmd A cp x.proof W hr (by have := hx.np; omega)
 have hE : blkE R x = if (nbrV R.K x).2 ≠ 0 then (0, (nbrV R.K x).2) else if restE R (nbrV R.K x).1 x ≠ 0 then (0, restE R (nbrV R.K x).1 x) else ((nbrV R.K x).1, 0) := rfl
 obtain ⟨z, hz⟩ := nm (nbrV R.K x)
 rw [<- hz] at hNB hE
 obtain ⟨n, e0⟩ := z
 dsimp only at hNB hE
 have hck : e0 = 0 -> checkV x = 0 /\ inI n := fun h0 => by subst h0; exact qm5 hw.kl hz.symm
 have hpl := proN_len R (certN R N x.par) x.view x.proof
 obtain ⟨r, hr⟩ := nm (blkE R x)
 rw [<- hr] at hE ⊢
 obtain ⟨mx, hmx⟩ := nm (N.length + 1 + x.proof.length)
 rw [<- hmx]
 have HL := hid (show N.length <= mx /\ (certN R N x.par).length <= mx /\ (proN R (certN R N x.par) x.view x.proof).length <= mx by omega)
 obtain ⟨np, hnp⟩ := nm (x.proof.length)
 obtain ⟨nt, hnt⟩ := nm (x.txs.length)
 rw [<- hnp, <- hnt] at hS0 hNB hCT hCE hPR
 rw [<- hnp] at hHI
 rw [<- hnp, <- hnt]
 rw [<- hnp, <- hnt] at Z
 have HS := hid hS0
 have HNB := hid hNB
 have HAL := hid hAL
 have HLE := hid hLE
 have HCT := hid hCT
 have HCE := hid hCE
 have HPR := hid hPR
 have HHI := hid hHI
 have HE := hid hE
 have HCK := hid hck
 have HFAR := hid (show ∀ k, w.heap.size <= k -> ¬ V k from fun k hk hv => by have := h.inV _ hv; omega)
 have HO := hid (And.intro ho hnp)
 clear hS0 hNB hAL hLE hCT hCE hPR hHI hE hck hcl hpl hz hr hmx hnp hnt ho hN hw hx hp ht h Z
 go_enter Tryz.func28, Tryz.ntmps28
 go_upto_region 1 with fail
 refine qab (fun w0 hw0 => ?_)
 have hA : RqbAt w V b g c R N x A (.slice A np cp) (.slice D nt d) w0 := by rw [hw0]; exact HS.out
 clear hw0 HS
 have hnb := HNB.out w0 hA
 clear HNB
 go_upto_region 2 with (first
  | (refine qaa rfl _ _ rfl w.heap.size rfl _ _ _ _ hA.bl Tryz.underlying44 rfl rlawInfo ?_)
  | (refine qaa rfl _ _ rfl (w.heap.size + 1) rfl _ _ _ _ hA.bx Tryz.underlying57 rfl bloInfo ?_)
  | (go_at_call 26; refine hnb.mono ?_; unfold gives; rintro e w1 ⟨rfl, hb1⟩))
 have hA1 := hA.below hb1
 clear hA hb1 hnb
 by_cases h0 : e0 = 0
 case neg =>
  have E := hid (show r = (0, e0) by rw [HE.out, if_pos h0])
  have q1 : (e0 != 0) = true := by simpa using h0
  clear HE HCK h0
  go_wp2
  go_ret2
  exact ⟨by rw [E.out]; rfl, N, hA1.leaves, HL.out.1⟩
 obtain ⟨hck, hnI⟩ := HCK.out h0
 have hE2 := HE.out
 rw [if_neg (fun h => h h0)] at hE2
 have HE2 := hid hE2
 have HPOS := hid (And.intro (qkk hck) hnI)
 subst h0
 clear hE2 HE HCK hck hnI
 have hre : restE R n x = if allowE R x ≠ 0 then allowE R x else if autE R n x ≠ 0 then autE R n x else if certE R x.par ≠ 0 then certE R x.par else provE R x := rfl
 have hal : allowE R x = if inN R.f x.author = true /\ (x.height = 0 -> x.author = leadV R.f x.round) then 0 else 40 := rfl
 have hin : inN R.f x.author = decide (x.author < more 3 R.f) := by unfold L7.inN; have := HPOS.out.1; simp [this]
 rw [hin] at hal
 obtain ⟨m3, hm3⟩ := nm (more 3 R.f)
 obtain ⟨le, hle⟩ := nm (leadV R.f x.round)
 rw [<- hm3, <- hle] at hal
 rw [<- hm3] at HAL
 rw [<- hle] at HLE
 have HRE := hid hre
 have HAW := hid hal
 clear hre hal hin hm3 hle
 go_upto_region 4 with fail
 have hSd := hA1.below (Below.refl _ w1).drew
 clear hA1
 have ne : Nonempty (qad (RqbAt w V b g c R N x A (.slice A np cp) (.slice D nt d))) := ⟨⟨_, hSd⟩⟩
 have d0 : ∀ y : qad (RqbAt w V b g c R N x A (.slice A np cp) (.slice D nt d)), y.w.cell? ⟨w.heap.size, 1, none⟩ = some (.pointer (some ⟨g, 0, none⟩)) := fun y => y.h.bl.cell 1
 have d1 : ∀ y : qad (RqbAt w V b g c R N x A (.slice A np cp) (.slice D nt d)), y.w.cell? ⟨w.heap.size + 1, 1, none⟩ = some (.int .i64 x.round) := fun y => y.h.bx.cell 1
 have d2 : ∀ y : qad (RqbAt w V b g c R N x A (.slice A np cp) (.slice D nt d)), y.w.cell? ⟨w.heap.size + 1, 2, none⟩ = some (.int .i64 x.height) := fun y => y.h.bx.cell 2
 have d3 : ∀ y : qad (RqbAt w V b g c R N x A (.slice A np cp) (.slice D nt d)), y.w.cell? ⟨w.heap.size + 1, 3, none⟩ = some (.int .i64 x.author) := fun y => y.h.bx.cell 3
 have d4 : ∀ y : qad (RqbAt w V b g c R N x A (.slice A np cp) (.slice D nt d)), y.w.cell? ⟨g, 0, none⟩ = some (.int .i64 R.f) := fun y => qgv y.h.tr
 refine qas (RqbAt w V b g c R N x A (.slice A np cp) (.slice D nt d)) (by kernel_rfl) (by kernel_rfl) hSd ?_
 clear hSd
 (try simp only [Act.put])
 iterate 7 go_big_quiet_step (fail)
 refine qai rfl 96 _ _ rfl Tryz.call96 [.int .i64 R.f] rfl (v := .int .i64 m3) (fun y => (HAL.out y.w).mono fun e w' ⟨he, hb⟩ => ⟨he, by rw [<- hb]; exact y.h⟩) ?_
 conv => arg 6; simp only [Act.put, sA, sB, sC]
 iterate 2 go_big_quiet_step (fail)
 obtain ⟨u, hu⟩ := nm (decide (m3 <= x.author))
 rw [<- hu]
 have HU := hid hu
 clear hu
 have K40 : Hid (∀ W, RqbAt w V b g c R N x A (.slice A np cp) (.slice D nt d) W -> allowE R x = 40 -> r = (0, 40) /\ RLeft w V b g c R mx W) := hid fun W hW ha => ⟨r_err HE2.out (rest_40 ha) (by decide), N, hW.leaves, HL.out.1⟩
 cases u with
 | true =>
   have E := hid (show allowE R x = 40 by rw [HAW.out, if_neg]; have := of_decide_eq_true HU.out.symm; simp; omega)
   clear HAL HLE
   repeat go_big_quiet_step (fail)
   refine wpQuiet_nil ?_
   intro z
   obtain ⟨W, hW⟩ := z
   dsimp only
   obtain ⟨e1, e2⟩ := K40.out W hW E.out
   clear ne d0 d1 d2 d3 d4 hW E
   go_wp2
   go_ret2
   exact ⟨by rw [e1]; rfl, e2⟩
 | false =>
   have HLT := hid (show x.author < m3 by have := of_decide_eq_false HU.out.symm; omega)
   clear HU
   by_cases hh0 : x.height = 0
   case neg =>
    have E := hid (show allowE R x = 0 by rw [HAW.out, if_pos]; exact ⟨decide_eq_true HLT.out, fun h => absurd h hh0⟩)
    have q0 : (x.height == 0) = false := by simpa using hh0
    clear hh0 HAW HLT
    repeat go_big_quiet_step (fail)
    refine wpQuiet_nil ?_
    intro z
    clear q0
    obtain ⟨W, hW⟩ := z
    dsimp only
    clear ne d0 d1 d2 d3 d4 HAL HLE K40
    have x0 : W.cell? ⟨w.heap.size + 1, 0, none⟩ = some (.int .i64 x.view) := hW.bx.cell 0
    have x1 : W.cell? ⟨w.heap.size + 1, 1, none⟩ = some (.int .i64 x.round) := hW.bx.cell 1
    have x2 : W.cell? ⟨w.heap.size + 1, 2, none⟩ = some (.int .i64 x.height) := hW.bx.cell 2
    have x3 : W.cell? ⟨w.heap.size + 1, 3, none⟩ = some (.int .i64 x.author) := hW.bx.cell 3
    have k1 : W.cell? ⟨w.heap.size, 1, none⟩ = some (.pointer (some ⟨g, 0, none⟩)) := hW.bl.cell 1
    have hct := HCT.out n HPOS.out.2 W hW
    obtain ⟨au, hau⟩ := nm (autE R n x)
    rw [<- hau] at hct
    have HAU := hid hau
    clear hau HCT HPOS
    go_upto_region 7 with (first
     | (refine wpList_build rfl _ _ rfl #[(0, .int .i64 1), (1, .int .i64 n), (2, .int .i64 x.view), (3, .int .i64 x.round), (4, .int .i64 x.height), (5, .int .i64 x.author)] rfl (qeY n x _) ?_)
     | (refine wpList_build rfl _ _ rfl #[(0, .int .i64 x.author), (1, .agg (stmC (stmP n x)))] rfl (qc3 _ _ _) ?_)
     | (go_at_call 69; refine hct.mono ?_; unfold gives; rintro e w4 ⟨rfl, hb4⟩))
    have hA4 := hW.below hb4
    clear x0 x1 x2 x3 k1 hct hb4 hW
    by_cases h4 : au = 0
    case neg =>
     have E4 := hid (show r = (0, au) from r_err HE2.out (by rw [qiN E.out (by rw [<- HAU.out]; exact h4), HAU.out]) h4)
     have q4 : (au != 0) = true := by simpa using h4
     clear h4 HAU
     go_wp2
     go_ret2
     exact ⟨by rw [E4.out]; rfl, N, hA4.leaves, HL.out.1⟩
    subst h4
    go_upto_region 9 with fail
    have hce := HCE.out w4 hA4
    have HR2 := hid (show restE R n x = if certE R x.par ≠ 0 then certE R x.par else provE R x from qhy E.out HAU.out.symm)
    obtain ⟨ce, hcee⟩ := nm (certE R x.par)
    rw [<- hcee] at hce HR2
    clear hcee HAU E HCE
    have hc4 := qaS hA4.bx (qdm x (.slice A np cp) (.slice D nt d))
    go_upto_region 10 with (first
     | (refine qaa rfl _ _ rfl w.heap.size rfl _ _ _ _ hA4.bl Tryz.underlying44 rfl rlawInfo ?_)
     | (refine qaj rfl _ _ rfl ⟨w.heap.size + 1, 4, none⟩ rfl (crtL x.par) _ hc4 Tryz.underlying29 rfl L11.crtInfo ?_)
     | (go_at_call 12; refine hce.mono ?_; rintro e w5 ⟨rfl, h5⟩))
    have hl5 := h5.tn.blk hA4.bl (HFAR.out _ (Nat.le_refl _))
    have hx5 := h5.tn.blk hA4.bx (HFAR.out _ (Nat.le_succ _))
    have hr5 := hA4.rp.kept2 h5.tn HO.out.1
    have hbw := hA4.bw
    have hlt4 := hA4.bx.lt
    have hfin5 : RRch w V b g c R (certN R N x.par) w5 := RRch.then (L6.Turn.of_keep hbw) (fun _ => .inl) h5
    have HF5 := hid hfin5
    clear hA4 hce hc4 hfin5
    by_cases h6 : ce = 0
    case neg =>
     have E6 := hid (show r = (0, ce) from r_err HE2.out (by rw [HR2.out, if_pos h6]) h6)
     have q6 : (ce != 0) = true := by simpa using h6
     clear h6 HR2 hl5 hx5 hr5 hbw hlt4 h5
     go_wp2
     go_ret2
     exact ⟨by rw [E6.out]; rfl, _, HF5.out, HL.out.2.1⟩
    subst h6
    have HR3 := hid (show restE R n x = provE R x by rw [HR2.out, if_neg (fun h => h rfl)])
    clear HR2
    have y2 : w5.cell? ⟨w.heap.size + 1, 2, none⟩ = some (.int .i64 x.height) := hx5.cell 2
    by_cases hh : x.height = 1
    case neg =>
     have E7 := hid (show r = (n, 0) from r_ok HE2.out (by rw [HR3.out, qkU hh]))
     have q7 : (x.height == 1) = false := by simpa using hh
     clear hh HR3 hl5 hx5 hr5 hbw hlt4 h5
     go_wp2
     go_ret2
     exact ⟨by rw [E7.out]; rfl, _, HF5.out, HL.out.2.1⟩
    rw [hh] at y2
    have HHH := hid hh
    have y0 : w5.cell? ⟨w.heap.size + 1, 0, none⟩ = some (.int .i64 x.view) := hx5.cell 0
    have y12 : w5.cell? ⟨w.heap.size + 1, 12, none⟩ = some (.slice A np cp) := hx5.cell 12
    have hpr := HPR.out w4 w5 hbw hlt4 h5 hr5 hx5
    obtain ⟨pe, hpe⟩ := nm (proE R x.view x.proof)
    rw [<- hpe] at hpr
    have HPE := hid hpe
    have HBW := hid hbw
    clear hpe hbw hlt4 h5 hr5 hx5 HPR hh
    go_upto_region 14 with (first
     | (refine qaa rfl _ _ rfl w.heap.size rfl _ _ _ _ hl5 Tryz.underlying44 rfl rlawInfo ?_)
     | (go_at_call 16; refine hpr.mono ?_; rintro e w6 ⟨rfl, h6, hx6, hr6⟩))
    have hfin6 : RRch w V b g c R (proN R (certN R N x.par) x.view x.proof) w6 := RRch.then (L6.Turn.of_keep HBW.out) (fun _ => .inl) h6
    clear y0 y12 y2 hl5 hpr h6 HF5 HBW
    by_cases h8 : pe = 0
    case neg =>
     have HF6 := hid hfin6
     have E8 := hid (show r = (0, pe) from r_err HE2.out (by rw [HR3.out, qjv HHH.out (by rw [<- HPE.out]; exact h8), HPE.out]) h8)
     have q8 : (pe != 0) = true := by simpa using h8
     clear h8 hx6 hr6 hfin6 HPE HR3
     go_wp2
     go_ret2
     exact ⟨by rw [E8.out]; rfl, _, HF6.out, HL.out.2.2⟩
    have HR4 := hid (show restE R n x = if cmpV x.par (highV x.proof) < 0 then 212 else 0 by rw [HR3.out, qiS HHH.out (by rw [<- HPE.out]; exact h8)])
    subst h8
    clear HR3 HPE
    have HFin := hid (fun (W : World) (hb : Below w6.heap.size w6 W) => hfin6.below hb)
    have hS : PvAt w x A cp (.slice D nt d) w6 w6 := ⟨by rw [<- HO.out.2]; exact hx6, hr6, Below.refl _ _⟩
    obtain ⟨hi, hhi⟩ := nm (highV x.proof)
    rw [<- hhi] at HHI HR4
    have HCm := hid (fun W => qgn x.par hi W)
    obtain ⟨k, hk⟩ := nm (cmpV x.par hi)
    rw [<- hk] at HCm HR4
    clear hx6 hr6 hfin6 hhi hk
    go_upto_region 16 with fail
    have hSd := hS.drew
    have ne : Nonempty (qad (PvAt w x A cp (.slice D nt d) w6)) := ⟨⟨_, hSd⟩⟩
    have d12 : ∀ y : qad (PvAt w x A cp (.slice D nt d) w6), y.w.cell? ⟨w.heap.size + 1, 12, none⟩ = some (.slice A np cp) := fun y => by rw [HO.out.2]; exact y.h.bb.cell 12
    refine qas (PvAt w x A cp (.slice D nt d) w6) (by kernel_rfl) (by kernel_rfl) hSd ?_
    clear hS hSd
    (try simp only [Act.put])
    repeat (first
     | (refine qaP rfl _ _ rfl ⟨w.heap.size + 1, 4, none⟩ rfl (crtL x.par) _ (fun y => qaS y.h.bb (qdm x _ _)) Tryz.underlying29 rfl L11.crtInfo ?_
        conv => arg 6; simp only [Act.put, sA, sB, sC])
     | (refine qai rfl 18 _ _ rfl Tryz.call18 [.slice A np cp] rfl (v := .agg (crtC hi)) (fun y => (HHI.out y.w y.h.rd).mono fun e w' ⟨he, hb⟩ => ⟨he, y.h.below hb⟩) ?_
        conv => arg 6; simp only [Act.put, sA, sB, sC])
     | (refine qai rfl 98 _ _ rfl Tryz.call98 [.agg (crtC x.par), .agg (crtC hi)] rfl (v := .int .i64 k) (fun y => (HCm.out y.w).mono fun e w' ⟨he, hb⟩ => ⟨he, y.h.below hb⟩) ?_
        conv => arg 6; simp only [Act.put, sA, sB, sC])
     | go_big_quiet_step (fail))
    refine wpQuiet_nil ?_
    intro z
    obtain ⟨W, hW⟩ := z
    dsimp only
    have hf2 := HFin.out W hW.bw
    have HF2 := hid hf2
    clear ne d12 HFin hW HHI HCm hf2
    by_cases h2 : k < 0
    ·have E9 := hid (show r = (0, 212) from r_err HE2.out (by rw [HR4.out, if_pos h2]) (by decide))
     clear HR4
     go_wp2
     go_ret2
     exact ⟨by rw [E9.out]; rfl, _, HF2.out, HL.out.2.2⟩
    ·have E9 := hid (show r = (n, 0) from r_ok HE2.out (by rw [HR4.out, if_neg h2]))
     clear HR4
     go_wp2
     go_ret2
     exact ⟨by rw [E9.out]; rfl, _, HF2.out, HL.out.2.2⟩
   have d2' : ∀ y : qad (RqbAt w V b g c R N x A (.slice A np cp) (.slice D nt d)), y.w.cell? ⟨w.heap.size + 1, 2, none⟩ = some (.int .i64 0) := fun y => by rw [d2 y, hh0]
   have d2K := hid d2
   clear d2
   repeat (first
    | (refine qai rfl 97 _ _ rfl Tryz.call97 [.int .i64 R.f, .int .i64 x.round] rfl (v := .int .i64 le) (fun y => (HLE.out y.w).mono fun e w' ⟨he, hb⟩ => ⟨he, by rw [<- hb]; exact y.h⟩) ?_
       conv => arg 6; simp only [Act.put, sA, sB, sC])
    | go_big_quiet_step (fail))
   refine wpQuiet_nil ?_
   intro z
   have d2 := d2K
   clear d2K d2'
   by_cases h1 : x.author = le
   case neg =>
    have E := hid (show allowE R x = 40 by rw [HAW.out, if_neg]; exact fun h => h1 (h.2 hh0))
    have q1 : (x.author != le) = true := by simpa using h1
    obtain ⟨W, hW⟩ := z
    dsimp only
    obtain ⟨e1, e2⟩ := K40.out W hW E.out
    clear ne d0 d1 d2 d3 d4 hW E HAL HLE h1 hh0
    go_wp2
    go_ret2
    exact ⟨by rw [e1]; rfl, e2⟩
   have E := hid (show allowE R x = 0 by rw [HAW.out, if_pos]; exact ⟨decide_eq_true HLT.out, fun _ => h1⟩)
   have HLA := hid h1
   clear HAW HLT hh0
   have q1 : (x.author != le) = false := by simpa using h1
   clear h1
   obtain ⟨W, hW⟩ := z
   dsimp only
   clear ne d0 d1 d2 d3 d4 HAL HLE K40
   have x0 : W.cell? ⟨w.heap.size + 1, 0, none⟩ = some (.int .i64 x.view) := hW.bx.cell 0
   have x1 : W.cell? ⟨w.heap.size + 1, 1, none⟩ = some (.int .i64 x.round) := hW.bx.cell 1
   have x2 : W.cell? ⟨w.heap.size + 1, 2, none⟩ = some (.int .i64 x.height) := hW.bx.cell 2
   have x3 : W.cell? ⟨w.heap.size + 1, 3, none⟩ = some (.int .i64 x.author) := hW.bx.cell 3
   have k1 : W.cell? ⟨w.heap.size, 1, none⟩ = some (.pointer (some ⟨g, 0, none⟩)) := hW.bl.cell 1
   have hct := HCT.out n HPOS.out.2 W hW
   obtain ⟨au, hau⟩ := nm (autE R n x)
   rw [<- hau] at hct
   have HAU := hid hau
   clear hau HCT HPOS
   go_upto_region 7 with (first
    | (refine wpList_build rfl _ _ rfl #[(0, .int .i64 1), (1, .int .i64 n), (2, .int .i64 x.view), (3, .int .i64 x.round), (4, .int .i64 x.height), (5, .int .i64 x.author)] rfl (qeY n x _) ?_)
    | (refine wpList_build rfl _ _ rfl #[(0, .int .i64 x.author), (1, .agg (stmC (stmP n x)))] rfl (qc3 _ _ _) ?_)
    | (go_at_call 69; refine hct.mono ?_; unfold gives; rintro e w4 ⟨rfl, hb4⟩))
   have hA4 := hW.below hb4
   clear x0 x1 x2 x3 k1 hct hb4 hW
   by_cases h4 : au = 0
   case neg =>
    have E4 := hid (show r = (0, au) from r_err HE2.out (by rw [qiN E.out (by rw [<- HAU.out]; exact h4), HAU.out]) h4)
    have q4 : (au != 0) = true := by simpa using h4
    clear h4 HAU
    go_wp2
    go_ret2
    exact ⟨by rw [E4.out]; rfl, N, hA4.leaves, HL.out.1⟩
   subst h4
   go_upto_region 9 with fail
   have hce := HCE.out w4 hA4
   have HR2 := hid (show restE R n x = if certE R x.par ≠ 0 then certE R x.par else provE R x from qhy E.out HAU.out.symm)
   obtain ⟨ce, hcee⟩ := nm (certE R x.par)
   rw [<- hcee] at hce HR2
   clear hcee HAU E HCE
   have hc4 := qaS hA4.bx (qdm x (.slice A np cp) (.slice D nt d))
   go_upto_region 10 with (first
    | (refine qaa rfl _ _ rfl w.heap.size rfl _ _ _ _ hA4.bl Tryz.underlying44 rfl rlawInfo ?_)
    | (refine qaj rfl _ _ rfl ⟨w.heap.size + 1, 4, none⟩ rfl (crtL x.par) _ hc4 Tryz.underlying29 rfl L11.crtInfo ?_)
    | (go_at_call 12; refine hce.mono ?_; rintro e w5 ⟨rfl, h5⟩))
   have hl5 := h5.tn.blk hA4.bl (HFAR.out _ (Nat.le_refl _))
   have hx5 := h5.tn.blk hA4.bx (HFAR.out _ (Nat.le_succ _))
   have hr5 := hA4.rp.kept2 h5.tn HO.out.1
   have hbw := hA4.bw
   have hlt4 := hA4.bx.lt
   have hfin5 : RRch w V b g c R (certN R N x.par) w5 := RRch.then (L6.Turn.of_keep hbw) (fun _ => .inl) h5
   have HF5 := hid hfin5
   clear hA4 hce hc4 hfin5
   by_cases h6 : ce = 0
   case neg =>
    have E6 := hid (show r = (0, ce) from r_err HE2.out (by rw [HR2.out, if_pos h6]) h6)
    have q6 : (ce != 0) = true := by simpa using h6
    clear h6 HR2 hl5 hx5 hr5 hbw hlt4 h5
    go_wp2
    go_ret2
    exact ⟨by rw [E6.out]; rfl, _, HF5.out, HL.out.2.1⟩
   subst h6
   have HR3 := hid (show restE R n x = provE R x by rw [HR2.out, if_neg (fun h => h rfl)])
   clear HR2
   have y2 : w5.cell? ⟨w.heap.size + 1, 2, none⟩ = some (.int .i64 x.height) := hx5.cell 2
   by_cases hh : x.height = 1
   case neg =>
    have E7 := hid (show r = (n, 0) from r_ok HE2.out (by rw [HR3.out, qkU hh]))
    have q7 : (x.height == 1) = false := by simpa using hh
    clear hh HR3 hl5 hx5 hr5 hbw hlt4 h5
    go_wp2
    go_ret2
    exact ⟨by rw [E7.out]; rfl, _, HF5.out, HL.out.2.1⟩
   rw [hh] at y2
   have HHH := hid hh
   have y0 : w5.cell? ⟨w.heap.size + 1, 0, none⟩ = some (.int .i64 x.view) := hx5.cell 0
   have y12 : w5.cell? ⟨w.heap.size + 1, 12, none⟩ = some (.slice A np cp) := hx5.cell 12
   have hpr := HPR.out w4 w5 hbw hlt4 h5 hr5 hx5
   obtain ⟨pe, hpe⟩ := nm (proE R x.view x.proof)
   rw [<- hpe] at hpr
   have HPE := hid hpe
   have HBW := hid hbw
   clear hpe hbw hlt4 h5 hr5 hx5 HPR hh
   go_upto_region 14 with (first
    | (refine qaa rfl _ _ rfl w.heap.size rfl _ _ _ _ hl5 Tryz.underlying44 rfl rlawInfo ?_)
    | (go_at_call 16; refine hpr.mono ?_; rintro e w6 ⟨rfl, h6, hx6, hr6⟩))
   have hfin6 : RRch w V b g c R (proN R (certN R N x.par) x.view x.proof) w6 := RRch.then (L6.Turn.of_keep HBW.out) (fun _ => .inl) h6
   clear y0 y12 y2 hl5 hpr h6 HF5 HBW
   by_cases h8 : pe = 0
   case neg =>
    have HF6 := hid hfin6
    have E8 := hid (show r = (0, pe) from r_err HE2.out (by rw [HR3.out, qjv HHH.out (by rw [<- HPE.out]; exact h8), HPE.out]) h8)
    have q8 : (pe != 0) = true := by simpa using h8
    clear h8 hx6 hr6 hfin6 HPE HR3
    go_wp2
    go_ret2
    exact ⟨by rw [E8.out]; rfl, _, HF6.out, HL.out.2.2⟩
   have HR4 := hid (show restE R n x = if cmpV x.par (highV x.proof) < 0 then 212 else 0 by rw [HR3.out, qiS HHH.out (by rw [<- HPE.out]; exact h8)])
   subst h8
   clear HR3 HPE
   have HFin := hid (fun (W : World) (hb : Below w6.heap.size w6 W) => hfin6.below hb)
   have hS : PvAt w x A cp (.slice D nt d) w6 w6 := ⟨by rw [<- HO.out.2]; exact hx6, hr6, Below.refl _ _⟩
   obtain ⟨hi, hhi⟩ := nm (highV x.proof)
   rw [<- hhi] at HHI HR4
   have HCm := hid (fun W => qgn x.par hi W)
   obtain ⟨k, hk⟩ := nm (cmpV x.par hi)
   rw [<- hk] at HCm HR4
   clear hx6 hr6 hfin6 hhi hk
   go_upto_region 16 with fail
   have hSd := hS.drew
   have ne : Nonempty (qad (PvAt w x A cp (.slice D nt d) w6)) := ⟨⟨_, hSd⟩⟩
   have d12 : ∀ y : qad (PvAt w x A cp (.slice D nt d) w6), y.w.cell? ⟨w.heap.size + 1, 12, none⟩ = some (.slice A np cp) := fun y => by rw [HO.out.2]; exact y.h.bb.cell 12
   refine qas (PvAt w x A cp (.slice D nt d) w6) (by kernel_rfl) (by kernel_rfl) hSd ?_
   clear hS hSd
   (try simp only [Act.put])
   repeat (first
    | (refine qaP rfl _ _ rfl ⟨w.heap.size + 1, 4, none⟩ rfl (crtL x.par) _ (fun y => qaS y.h.bb (qdm x _ _)) Tryz.underlying29 rfl L11.crtInfo ?_
       conv => arg 6; simp only [Act.put, sA, sB, sC])
    | (refine qai rfl 18 _ _ rfl Tryz.call18 [.slice A np cp] rfl (v := .agg (crtC hi)) (fun y => (HHI.out y.w y.h.rd).mono fun e w' ⟨he, hb⟩ => ⟨he, y.h.below hb⟩) ?_
       conv => arg 6; simp only [Act.put, sA, sB, sC])
    | (refine qai rfl 98 _ _ rfl Tryz.call98 [.agg (crtC x.par), .agg (crtC hi)] rfl (v := .int .i64 k) (fun y => (HCm.out y.w).mono fun e w' ⟨he, hb⟩ => ⟨he, y.h.below hb⟩) ?_
       conv => arg 6; simp only [Act.put, sA, sB, sC])
    | go_big_quiet_step (fail))
   refine wpQuiet_nil ?_
   intro z
   obtain ⟨W, hW⟩ := z
   dsimp only
   have hf2 := HFin.out W hW.bw
   have HF2 := hid hf2
   clear ne d12 HFin hW HHI HCm hf2
   by_cases h2 : k < 0
   ·have E9 := hid (show r = (0, 212) from r_err HE2.out (by rw [HR4.out, if_pos h2]) (by decide))
    clear HR4
    go_wp2
    go_ret2
    exact ⟨by rw [E9.out]; rfl, _, HF2.out, HL.out.2.2⟩
   ·have E9 := hid (show r = (n, 0) from r_ok HE2.out (by rw [HR4.out, if_neg h2]))
    clear HR4
    go_wp2
    go_ret2
    exact ⟨by rw [E9.out]; rfl, _, HF2.out, HL.out.2.2⟩
end Go.Proofs.YtomaaidhmccngaaGreatDoor
namespace Go.Proofs.YtomaaidhmccngaaGreatDoor
open Go.RowKit Go.Maps Go.Lib
open L3 (Blk Reads)
open L6 (Turn)
open L11 (Crt crtC)
open L7 (Shr shrC)
section
variable {P : Nat -> Prop} {b g c b2 g2 c2 : Nat} {R R2 : Regs} {N N2 : List Int} {B : Nat} {w W W' : World}
theorem qjZ {U V : Nat -> Prop} {N' : List Int} (h1 : Trio U b g c R N B W) (h3 : L6.Apart U V) (h4 : ∀ k, U k -> ¬ P k) (h5 : ∀ k, V k -> ¬ P k) (hp : ∀ k, P k -> k < w.heap.size) (ht : Turn (fun k => ¬ P k) w W) (hR : RRch W V b2 g2 c2 R2 N' W') : Six w P b g c b2 g2 c2 R R2 N N' B W' := by
 obtain ⟨⟨V', hV', hs⟩, hT⟩ := hR
 refine ⟨⟨U, V', h1.turn hT (fun k hk hV => h3 k hk hV), hV', fun k hk hV => ?_, h4, fun k hk hP => ?_⟩, hp, qbS ht h5 hT⟩
 ·rcases hs k hV with h | h
  ·exact h3 k hk h
  ·have := h1.inU k hk; omega
 ·rcases hs k hk with h | h
  ·exact h5 k h hP
  ·have := hp k hP
   have := ht.size
   omega
theorem qks (h : Six w P b g c b2 g2 c2 R R2 N N2 B W) (hT : TP P w) (x : Blo) (P' T' : Value) (hx : x.wf) (hl : Lies W x P' T') :
 Calls Tryz.prog 25 #[.agg (lawA (some ⟨b, 0, none⟩) (some ⟨g, 0, none⟩) (some ⟨c, 0, none⟩)), .agg (bloC x P' T')] W (gives (.tuple #[.int .i64 (nbrV R.K x).1, .int .i64 (nbrV R.K x).2]) W) := by
 obtain ⟨⟨U, V, h1, h2, h3, h4, h5⟩, hp, ht⟩ := h
 exact qcW x P' T' W h1 hx hl (hT W ht).1
theorem qig (h : Six w P b g c b2 g2 c2 R R2 N N2 B W) (hw : R2.wf) (x : Blo) (A : Option Addr) (ca : Nat) (D : Option Addr) (da : Nat) (hx : x.wf) (hp : Rd tmL 10 W A x.proof) (ht : Rd txL 7 W D x.txs) :
 Calls Tryz.prog 26 #[.agg (lawA (some ⟨b2, 0, none⟩) (some ⟨g2, 0, none⟩) (some ⟨c2, 0, none⟩)), .agg (bloC x (.slice A x.proof.length ca) (.slice D x.txs.length da))] W (gives (.tuple #[.int .i64 (nbrV R2.K x).1, .int .i64 (nbrV R2.K x).2]) W) := by
 obtain ⟨⟨U, V, h1, h2, h3, h4, h5⟩, hp', ht'⟩ := h
 exact qeT x A ca D da W h2 hw hx hp ht
theorem six_rblk (h : Six w P b g c b2 g2 c2 R R2 N N2 B W) (hw : R2.wf) (x : Blo) (A : Option Addr) (cp : Nat) (D : Option Addr) (d : Nat) (hN : N2.length + 1 <= 1000000) (hx : x.wf) (hp : Rd tmL 10 W A x.proof) (ht : Rd txL 7 W D x.txs) (ho : x.proof.length ≠ 0 -> ∀ ad, A = some ad -> P ad.block) :
 Calls Tryz.prog 28 #[.agg (lawA (some ⟨b2, 0, none⟩) (some ⟨g2, 0, none⟩) (some ⟨c2, 0, none⟩)), .agg (bloC x (.slice A x.proof.length cp) (.slice D x.txs.length d))] W fun e W' =>
  e = .returned (.tuple #[.int .i64 (blkE R2 x).1, .int .i64 (blkE R2 x).2]) /\ ∃ N', Six w P b g c b2 g2 c2 R R2 N N' B W' := by
 obtain ⟨⟨U, V, h1, h2, h3, h4, h5⟩, hP, hTn⟩ := h
 refine (rblk_any x A cp D d W h2 hw hx hN hp ht (fun h0 ad ha hV => h5 _ hV (ho h0 ad ha))).mono ?_
 rintro e W' ⟨rfl, N', hR, _⟩
 exact ⟨rfl, N', qjZ h1 h3 h4 h5 hP hTn hR⟩
end
end Go.Proofs.YtomaaidhmccngaaGreatDoor
