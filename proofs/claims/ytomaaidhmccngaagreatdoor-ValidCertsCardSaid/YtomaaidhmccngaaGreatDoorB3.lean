import Derived.Test.YtomaaidhmccngaaGreatDoorWalkTm
import Derived.Test.YtomaaidhmccngaaGreatDoorRefBytesT
import Derived.Test.YtomaaidhmccngaaGreatDoorB4
import Derived.Test.YtomaaidhmccngaaGreatDoorGreatB
set_option linter.unusedSimpArgs false
set_option linter.unusedVariables false
set_option maxRecDepth 100000
set_option maxHeartbeats 16000000
namespace Go.Proofs.YtomaaidhmccngaaGreatDoor
open Go.RowKit Go.Maps Go.Lib
open L3 (Blk Reads)
open L11 (Crt zeroC crtL crtC Stm stmC qaU stmInfo qaj)
def stmP (n : Int) (b : Blo) : Stm := ⟨1, n, b.view, b.round, b.height, b.author, 0, 0, 0, 0⟩
theorem stmP_wf {n : Int} {b : Blo} (h : b.wf) (hn : inI n) : (stmP n b).wf := by
 have i0 : inI 0 := by unfold inI; omega
 have i1 : inI 1 := by unfold inI; omega
 exact ⟨i1, hn, h.view, h.round, h.height, h.author, i0, i0, i0, i0⟩
theorem build_pr (n v r h a : Int) (w : World) : (Instr.build 73 #[(0, .int .i64 1), (1, .int .i64 n), (2, .int .i64 v), (3, .int .i64 r), (4, .int .i64 h), (5, .int .i64 a)]).run Tryz.prog w = .ok (.agg (stmC ⟨1, n, v, r, h, a, 0, 0, 0, 0⟩)) w := run_build w _ _ _ (by kernel_rfl)
theorem pro_mk (w : World) (b : Blo) (P T : Value) : Blk ((w.alloc (.cells (bloC b P T) 57)).alloc (.cells (stmC L11.zeroM) 73)) w.heap.size 57 (bloC b P T) /\ Blk ((w.alloc (.cells (bloC b P T) 57)).alloc (.cells (stmC L11.zeroM) 73)) (w.heap.size + 1) 73 (stmC L11.zeroM) /\ Below w.heap.size w ((w.alloc (.cells (bloC b P T) 57)).alloc (.cells (stmC L11.zeroM) 73)) := by
 have hb := qae w (.cells (bloC b P T) 57)
 refine ⟨(Blk.new w _ _).alloc _, ?_, hb.alloc hb.size _⟩
 have := Blk.new (w.alloc (.cells (bloC b P T) 57)) 73 (stmC L11.zeroM)
 simpa using this
theorem qh3 (n : Int) (b : Blo) (A : Option Addr) (k c : Nat) (B : Option Addr) (m d : Nat) (w : World) : Calls Tryz.prog 92 #[.int .i64 n, .agg (bloC b (.slice A k c) (.slice B m d))] w (gives (.agg (stmC (stmP n b))) w) := by
 have hZ := hid (pro_mk w b (.slice A k c) (.slice B m d))
 go_enter Tryz.func92, Tryz.ntmps92
 go_upto_region 1 with fail
 refine qab (fun w1 hw1 => ?_)
 have hA : Blk w1 w.heap.size 57 (bloC b (.slice A k c) (.slice B m d)) /\ Blk w1 (w.heap.size + 1) 73 (stmC L11.zeroM) /\ Below w.heap.size w w1 := by rw [hw1]; exact hZ.out
 clear hw1 hZ
 obtain ⟨k0, z0, hb⟩ := hA
 have c0 : w1.cell? ⟨w.heap.size, 0, none⟩ = some (.int .i64 b.view) := k0.cell 0
 have c1 : w1.cell? ⟨w.heap.size, 1, none⟩ = some (.int .i64 b.round) := k0.cell 1
 have c2 : w1.cell? ⟨w.heap.size, 2, none⟩ = some (.int .i64 b.height) := k0.cell 2
 have c3 : w1.cell? ⟨w.heap.size, 3, none⟩ = some (.int .i64 b.author) := k0.cell 3
 go_wp2_with (first
  | (refine wpList_build rfl _ _ rfl #[(0, .int .i64 1), (1, .int .i64 n), (2, .int .i64 b.view), (3, .int .i64 b.round), (4, .int .i64 b.height), (5, .int .i64 b.author)] rfl (build_pr _ _ _ _ _ _) ?_)
  | (refine wpList_store_row rfl _ _ _ rfl (w.heap.size + 1) (stmC (stmP n b)) rfl rfl _ _ z0 stmInfo rfl (qaU _) ?_))
 (try simp only [Exit.inBlock, Exit.then])
 refine bodyPost_ret (v := .agg (stmC (stmP n b))) (qan rfl _ _ (w.heap.size + 1) rfl _ _ _ _ (qac z0) Tryz.underlying73 rfl stmInfo) rfl ?_
 exact ⟨rfl, below_setRow hb (Nat.le_succ _)⟩
end Go.Proofs.YtomaaidhmccngaaGreatDoor
namespace Go.Proofs.YtomaaidhmccngaaGreatDoor
open Go.RowKit Go.Maps Go.Lib
open L3 (Blk Reads encN encs)
open L11 (Crt zeroC crtL crtC mayV bytesV okW crtInfo qal qaj)
theorem qe6 {α : Type} (f : α -> List UInt8) (l : List α) (k : Nat) : (((l.take k).map f).flatten).length <= ((l.map f).flatten).length := by
 have e : (l.map f).flatten = ((l.take k).map f).flatten ++ ((l.drop k).map f).flatten := by
  rw [<- List.flatten_append, <- List.map_append, List.take_append_drop]
 rw [e, List.length_append]; omega
theorem qdw {α : Type} (f : α -> List UInt8) {l : List α} {k : Nat} (h : k < l.length) : ((l.take (k + 1)).map f).flatten = ((l.take k).map f).flatten ++ f l[k] := by
 rw [List.take_add_one, List.getElem?_eq_getElem h, List.map_append, List.flatten_append]
 congr 1
 simp
theorem qcK {a b c : List UInt8} (h : c = a ++ b) : str a ++ str b = str c := by rw [h]; exact qcL _ _
theorem qbW {a b : List UInt8} {n : Nat} (h : a.length + b.length <= n) (hn : n <= 1000000) : ¬ 9223372036854775807 < (str a).size + (str b).size := by rw [qa4, qa4]; omega
def aheadP (b : Blo) (k : Nat) : List UInt8 := (encs [b.view, b.round, b.height, b.author] ++ (bytesV b.par ++ encN b.proof.length)) ++ ((b.proof.take k).map tmB).flatten
def aheadT (b : Blo) (k : Nat) : List UInt8 := (aheadP b b.proof.length ++ encN b.txs.length) ++ ((b.txs.take k).map bytesT).flatten
theorem qgY (b : Blo) : aheadT b b.txs.length = bytesB b := by
 unfold aheadT aheadP bytesB listB
 rw [List.take_length, List.take_length]; simp only [List.append_assoc]
theorem qgX {b : Blo} (k : Nat) : (aheadT b k).length <= (bytesB b).length := by
 rw [<- qgY]
 unfold aheadT
 have := qe6 bytesT b.txs k
 rw [List.length_append, List.length_append (bs := ((b.txs.take b.txs.length).map bytesT).flatten), List.take_length]; omega
theorem qkS {b : Blo} (k : Nat) : (aheadP b k).length + (encN b.txs.length).length <= (bytesB b).length := by
 have h0 := qgX (b := b) 0
 have := qe6 tmB b.proof k
 unfold aheadT at h0
 unfold aheadP at h0 ⊢
 rw [List.take_length] at h0
 simp only [List.length_append, List.take_zero, List.map_nil, List.flatten_nil, List.length_nil] at h0 ⊢
 omega
theorem BoxB.drew {w W : World} {g : Nat} {b : Blo} {A : Option Addr} {c : Nat} {B : Option Addr} {d : Nat} (h : BoxB w g b A c B d W) : BoxB w g b A c B d W.drew := h.below (Below.refl _ W).drew
theorem BoxB.par {w W : World} {g : Nat} {b : Blo} {A : Option Addr} {c : Nat} {B : Option Addr} {d : Nat} (h : BoxB w g b A c B d W) : ∀ j u, (crtL b.par)[j]? = some u -> W.cell? ((⟨g, 4, none⟩ : Addr).add j) = some u := qbj h.bb (qeB b _ _)
theorem N_is (k : Int) (x : List UInt8) (W : World) (hk : 0 <= k /\ k <= 4611686018427387904) (hx : x = encN k.toNat) : Calls Tryz.prog 112 #[.int .i64 k] W (gives (.string (str x)) W) := by rw [hx]; exact qfG k W hk
theorem qi8 (b : Blo) (A : Option Addr) (c : Nat) (B : Option Addr) (d : Nat) (w : World) (hw : b.wf) (hp : Rd tmL 10 w A b.proof) (ht : Rd txL 7 w B b.txs) (h0 : checkV b = 0) :
 Calls Tryz.prog 44 #[.agg (bloC b (.slice A b.proof.length c) (.slice B b.txs.length d))] w (gives (.string (str (bytesB b))) w) := by
 have F0 := hid (qij (c := c) (d := d) hp ht)
 obtain ⟨hh, hpar, hpro⟩ := qb3 h0
 obtain ⟨f1, f2, f3, f4, f5⟩ := qb4 hh
 obtain ⟨p1, p2, p3, p4, p5⟩ := qbb hpar
 have hmem := qc6 hpro
 have hpl := qcZ hpro
 have hlen := qdg h0
 have hP := fun k => Nat.le_trans (qkS (b := b) k) hlen
 have hT := fun k => Nat.le_trans (qgX (b := b) k) hlen
 obtain ⟨x0, e0⟩ := nm (encN b.view.toNat)
 obtain ⟨x1, e1⟩ := nm (encN b.round.toNat)
 obtain ⟨x2, e2⟩ := nm (encN b.height.toNat)
 obtain ⟨x3, e3⟩ := nm (encN b.author.toNat)
 obtain ⟨x4, e4⟩ := nm (bytesV b.par)
 obtain ⟨x5, e5⟩ := nm (encN b.proof.length)
 obtain ⟨x6, e6⟩ := nm (encN b.txs.length)
 have N0 := hid (fun W => N_is b.view x0 W ⟨by omega, by omega⟩ e0)
 have N1 := hid (fun W => N_is b.round x1 W ⟨by omega, by omega⟩ e1)
 have N2 := hid (fun W => N_is b.height x2 W ⟨by omega, by omega⟩ e2)
 have N3 := hid (fun W => N_is b.author x3 W ⟨by omega, by omega⟩ e3)
 have N4 : Hid (∀ W, Calls Tryz.prog 113 #[.agg (crtC b.par)] W (gives (.string (str x4)) W)) := hid (fun W => by rw [e4]; exact L11.qcu b.par W hw.par p1)
 have N5 := hid (fun W => N_is (b.proof.length : Int) x5 W ⟨by omega, by omega⟩ (by rw [e5]; rfl))
 have N6 := hid (fun W => N_is (b.txs.length : Int) x6 W ⟨by omega, by omega⟩ (by rw [e6]; rfl))
 obtain ⟨z1, g1⟩ := nm (x0 ++ x1)
 obtain ⟨z2, g2⟩ := nm (z1 ++ x2)
 obtain ⟨z3, g3⟩ := nm (z2 ++ x3)
 obtain ⟨z4, g4⟩ := nm (z3 ++ x4)
 have hz : aheadP b 0 = z4 ++ x5 := by
  rw [g4, g3, g2, g1, e0, e1, e2, e3, e4, e5]; unfold aheadP; simp [encs]
 have hz6 : aheadT b 0 = aheadP b b.proof.length ++ x6 := by rw [e6]; unfold aheadT; simp
 have l5 : z4.length + x5.length <= 5000 := by have := hP 0; rw [hz, List.length_append] at this; omega
 have l4 : z3.length + x4.length <= 5000 := by rw [g4, List.length_append] at l5; omega
 have l3 : z2.length + x3.length <= 5000 := by rw [g3, List.length_append] at l4; omega
 have l2 : z1.length + x2.length <= 5000 := by rw [g2, List.length_append] at l3; omega
 have l1 : x0.length + x1.length <= 5000 := by rw [g1, List.length_append] at l2; omega
 have a1 := qbW l1 (by omega)
 have a2 := qbW l2 (by omega)
 have a3 := qbW l3 (by omega)
 have a4 := qbW l4 (by omega)
 have a5 := qbW l5 (by omega)
 have s1 := qcK g1
 have s2 := qcK g2
 have s3 := qcK g3
 have s4 := qcK g4
 have s5 := qcK hz
 have K : Hid (b.wf /\ (∀ t ∈ b.proof, tmoV t = true /\ t.view = b.view) /\ (∀ t ∈ b.txs, right t = true) /\ (∀ k, (aheadP b k).length + (encN b.txs.length).length <= 5000) /\ (∀ k, (aheadT b k).length <= 5000) /\ aheadT b 0 = aheadP b b.proof.length ++ x6) := hid ⟨hw, hmem, f5, hP, hT, hz6⟩
 have hnt : b.txs.length <= 8 := f4
 clear hw hp ht h0 hh hpar hpro f1 f2 f3 f4 f5 p1 p2 p3 p4 p5 hmem hlen hP hT e0 e1 e2 e3 e4 e5 e6 g1 g2 g3 g4 hz hz6 l1 l2 l3 l4 l5
 obtain ⟨n, hn⟩ := nm (b.proof.length)
 obtain ⟨m, hm⟩ := nm (b.txs.length)
 rw [<- hn] at N5 hpl
 rw [<- hm] at N6 hnt
 have HN := hid hn
 have HM := hid hm
 clear hn hm
 go_enter Tryz.func44, Tryz.ntmps44
 go_upto_region 1 with fail
 refine qab (fun w0 hw0 => ?_)
 have hA : BoxB w w.heap.size b A c B d w0 := by rw [hw0]; exact F0.out
 clear hw0 F0
 have ne : Nonempty (qad (BoxB w w.heap.size b A c B d)) := ⟨⟨_, hA.drew⟩⟩
 have d0 : ∀ z : qad (BoxB w w.heap.size b A c B d), z.w.cell? ⟨w.heap.size, 0, none⟩ = some (.int .i64 b.view) := fun z => z.h.bb.cell 0
 have d1 : ∀ z : qad (BoxB w w.heap.size b A c B d), z.w.cell? ⟨w.heap.size, 1, none⟩ = some (.int .i64 b.round) := fun z => z.h.bb.cell 1
 have d2 : ∀ z : qad (BoxB w w.heap.size b A c B d), z.w.cell? ⟨w.heap.size, 2, none⟩ = some (.int .i64 b.height) := fun z => z.h.bb.cell 2
 have d3 : ∀ z : qad (BoxB w w.heap.size b A c B d), z.w.cell? ⟨w.heap.size, 3, none⟩ = some (.int .i64 b.author) := fun z => z.h.bb.cell 3
 have d12 : ∀ z : qad (BoxB w w.heap.size b A c B d), z.w.cell? ⟨w.heap.size, 12, none⟩ = some (.slice A n c) := fun z => by rw [HN.out]; exact z.h.bb.cell 12
 refine qat (BoxB w w.heap.size b A c B d) (by kernel_rfl) (by kernel_rfl) hA.drew ?_
 clear hA
 repeat (first
  | (refine qaj rfl 112 _ _ rfl Tryz.call112 [.int .i64 b.view] rfl (v := .string (str x0)) (fun x => (N0.out x.w).mono fun e w' ⟨he, hb⟩ => ⟨he, x.h.below hb⟩) ?_
     conv => arg 6; simp only [Act.put, sA, sB, sC])
  | (refine qaj rfl 112 _ _ rfl Tryz.call112 [.int .i64 b.round] rfl (v := .string (str x1)) (fun x => (N1.out x.w).mono fun e w' ⟨he, hb⟩ => ⟨he, x.h.below hb⟩) ?_
     conv => arg 6; simp only [Act.put, sA, sB, sC])
  | (refine qaj rfl 112 _ _ rfl Tryz.call112 [.int .i64 b.height] rfl (v := .string (str x2)) (fun x => (N2.out x.w).mono fun e w' ⟨he, hb⟩ => ⟨he, x.h.below hb⟩) ?_
     conv => arg 6; simp only [Act.put, sA, sB, sC])
  | (refine qaj rfl 112 _ _ rfl Tryz.call112 [.int .i64 b.author] rfl (v := .string (str x3)) (fun x => (N3.out x.w).mono fun e w' ⟨he, hb⟩ => ⟨he, x.h.below hb⟩) ?_
     conv => arg 6; simp only [Act.put, sA, sB, sC])
  | (refine qaj rfl 112 _ _ rfl Tryz.call112 [.int .i64 (n : Int)] rfl (v := .string (str x5)) (fun x => (N5.out x.w).mono fun e w' ⟨he, hb⟩ => ⟨he, x.h.below hb⟩) ?_
     conv => arg 6; simp only [Act.put, sA, sB, sC])
  | (refine qaj rfl 113 _ _ rfl Tryz.call113 [.agg (crtC b.par)] rfl (v := .string (str x4)) (fun x => (N4.out x.w).mono fun e w' ⟨he, hb⟩ => ⟨he, x.h.below hb⟩) ?_
     conv => arg 6; simp only [Act.put, sA, sB, sC])
  | (refine qaI rfl _ _ rfl ⟨w.heap.size, 4, none⟩ rfl (crtL b.par) _ (fun z => z.h.par) Tryz.underlying29 rfl crtInfo ?_
     conv => arg 6; simp only [Act.put, sA, sB, sC])
  | go_big_quiet_step (fail))
 refine wpQuiet_nil ?_
 intro z
 obtain ⟨w1, hB⟩ := z
 dsimp only
 clear ne d0 d1 d2 d3 d12 N0 N1 N2 N3 N4 N5 a1 a2 a3 a4 a5 s1 s2 s3 s4 s5
 have c12 : w1.cell? ⟨w.heap.size, 12, none⟩ = some (.slice A n c) := by rw [HN.out]; exact hB.bb.cell 12
 go_wp2
 go_loopw [3, 4] (fun s i wr => ∃ k : Nat, s = .string (str (aheadP b k)) /\ i = .int .i64 k /\ k <= n /\ BoxB w w.heap.size b A c B d wr) (fun _ i _ => n - (RowKit.intOf i).toNat)
 case atStart => exact ⟨0, rfl, rfl, Nat.zero_le _, hB⟩
 case round =>
  obtain ⟨k, rfl, rfl, hk, hP⟩ := hrel
  clear hB c12
  have c12 : wr.cell? ⟨w.heap.size, 12, none⟩ = some (.slice A n c) := by rw [HN.out]; exact hP.bb.cell 12
  by_cases hlt : k < n
  ·have hkL : k < b.proof.length := by have := HN.out; omega
   obtain ⟨ad, rfl, hadl, hcs⟩ := hP.rp k hkL
   have hx := K.out.1.proof _ (List.getElem_mem hkL)
   have hv := (K.out.2.1 _ (List.getElem_mem hkL)).1
   have hne := qdw tmB hkL
   have hfit := K.out.2.2.2.1 (k + 1)
   have HA1 : Hid (∀ z : qad (BoxB w w.heap.size b (some ad) c B d), ∀ j u, (tmL b.proof[k])[j]? = some u -> z.w.cell? ((ad.add (k * 10)).add j) = some u) := hid (fun z => z.h.rp.at_ hkL)
   obtain ⟨x, hxe⟩ := nm (b.proof[k])
   rw [<- hxe] at HA1 hx hne hv
   obtain ⟨t1, t2, t3, t4⟩ := qbD hv
   obtain ⟨y1, e1⟩ := nm (encN x.signer.toNat)
   obtain ⟨y2, e2⟩ := nm (bytesV x.high)
   obtain ⟨Z, hZ⟩ := nm (aheadP b k)
   obtain ⟨Y, hY⟩ := nm (Z ++ y1)
   have hnx : aheadP b (k + 1) = Y ++ y2 := by
    rw [hY, hZ, e1, e2]; unfold aheadP; rw [hne]; unfold tmB; simp only [List.append_assoc]
   have l2 : Y.length + y2.length <= 5000 := by rw [hnx, List.length_append] at hfit; omega
   have l1 : Z.length + y1.length <= 5000 := by rw [hY, List.length_append] at l2; omega
   have a1 := qbW l1 (by omega)
   have a2 := qbW l2 (by omega)
   have s1 := qcK hY
   have s2 := qcK hnx
   have M1 := hid (fun W => N_is x.signer y1 W ⟨by omega, by omega⟩ e1)
   have M2 : Hid (∀ W, Calls Tryz.prog 113 #[.agg (crtC x.high)] W (gives (.string (str y2)) W)) := hid (fun W => by rw [e2]; exact L11.qcu x.high W hx.2.2 t4)
   have HX2 : Hid (∀ z : qad (BoxB w w.heap.size b (some ad) c B d), ∀ j u, (crtL x.high)[j]? = some u -> z.w.cell? (((ad.add (k * 10)).add 2).add j) = some u) := hid (fun z j u hj => by
    have ea : ((ad.add (k * 10)).add 2).add j = (ad.add (k * 10)).add (2 + j) := by unfold Addr.add; simp [Nat.add_assoc]
    rw [ea]
    refine HA1.out z (2 + j) u ?_
    rcases j with _ | _ | _ | _ | _ | _ | _ | _ | j
    all_goals first | exact hj | exact absurd hj (by simp [L11.crtL]))
   have g12 : ∀ z : qad (BoxB w w.heap.size b (some ad) c B d), z.w.cell? ⟨w.heap.size, 12, none⟩ = some (.slice (some ad) n c) := fun z => by rw [HN.out]; exact z.h.bb.cell 12
   have k0 : ∀ z : qad (BoxB w w.heap.size b (some ad) c B d), z.w.cell? ((ad.add (k * 10)).add 0) = some (.int .i64 x.signer) := fun z => HA1.out z 0 _ rfl
   have k0' : ∀ z : qad (BoxB w w.heap.size b (some ad) c B d), z.w.cell? (ad.add (k * 10)) = some (.int .i64 x.signer) := fun z => by simpa [Addr.add] using k0 z
   rw [<- hZ]
   clear hcs hxe hkL hx hv hne hfit e1 e2 hY hZ hnx l1 l2 t1 t2 t3 t4 HA1
   go_upto_region 5 with fail
   have ne : Nonempty (qad (BoxB w w.heap.size b (some ad) c B d)) := ⟨⟨_, hP.drew⟩⟩
   refine qat (BoxB w w.heap.size b (some ad) c B d) (by kernel_rfl) (by kernel_rfl) hP.drew ?_
   clear hP c12
   repeat (first
    | (refine qaj rfl 112 _ _ rfl Tryz.call112 [.int .i64 x.signer] rfl (v := .string (str y1)) (fun x => (M1.out x.w).mono fun e w' ⟨he, hb⟩ => ⟨he, x.h.below hb⟩) ?_
       conv => arg 6; simp only [Act.put, sA, sB, sC])
    | (refine qaj rfl 113 _ _ rfl Tryz.call113 [.agg (crtC x.high)] rfl (v := .string (str y2)) (fun x => (M2.out x.w).mono fun e w' ⟨he, hb⟩ => ⟨he, x.h.below hb⟩) ?_
       conv => arg 6; simp only [Act.put, sA, sB, sC])
    | (refine qaI rfl _ _ rfl ((ad.add (k * 10)).add 2) rfl (crtL x.high) _ HX2.out Tryz.underlying29 rfl crtInfo ?_
       conv => arg 6; simp only [Act.put, sA, sB, sC])
    | go_big_quiet_step (fail))
   refine wpQuiet_nil ?_
   intro z
   obtain ⟨W, hW⟩ := z
   dsimp only
   clear ne k0 k0' g12 a1 a2 s1 s2
   go_wp2
   go_roundw
   case rel => exact ⟨k + 1, rfl, by go_num, by omega, hW⟩
   case measure => simp [RowKit.intOf]; omega
  obtain rfl : k = n := by omega
  have hfit := K.out.2.2.2.1 k
  have hz6 := K.out.2.2.2.2.2
  rw [<- HN.out] at hz6
  have hN6 : (encN b.txs.length).length = x6.length := by
   have h := congrArg List.length hz6
   unfold aheadT at h
   rw [<- HN.out] at h
   simp at h
   omega
  have l6 : (aheadP b k).length + x6.length <= 5000 := by omega
  have a6 := qbW l6 (by omega)
  have s6 := qcK hz6
  have c13 : wr.cell? ⟨w.heap.size, 13, none⟩ = some (.slice B m d) := by rw [HM.out]; exact hP.bb.cell 13
  clear hfit hz6 hN6 l6 hlt
  go_upto_region 8 with (go_at_call 112; refine (N6.out _).mono ?_; unfold gives; rintro e w2 ⟨rfl, hb2⟩)
  have hQ := hP.below hb2
  clear hP c12 c13 hb2 N6 a6 s6 hk
  go_loopw [3, 5] (fun s i wr => ∃ j : Nat, s = .string (str (aheadT b j)) /\ i = .int .i64 j /\ j <= m /\ BoxB w w.heap.size b A c B d wr) (fun _ i _ => m - (RowKit.intOf i).toNat)
  case atStart => exact ⟨0, rfl, rfl, Nat.zero_le _, hQ⟩
  case round =>
   obtain ⟨j, rfl, rfl, hj, hP⟩ := hrel
   clear hQ
   have c13 : wr.cell? ⟨w.heap.size, 13, none⟩ = some (.slice B m d) := by rw [HM.out]; exact hP.bb.cell 13
   by_cases hlt : j < m
   ·have hkL : j < b.txs.length := by have := HM.out; omega
    obtain ⟨ad, rfl, hadl, hcs⟩ := hP.rt j hkL
    have hv := K.out.2.2.1 _ (List.getElem_mem hkL)
    have hne := qdw bytesT hkL
    have hfit := K.out.2.2.2.2.1 (j + 1)
    obtain ⟨x, hxe⟩ := nm (b.txs[j])
    rw [<- hxe] at hcs hne hv
    have hcs1 : ∀ i u, (txL x)[i]? = some u -> wr.cell? ((ad.add (j * 7)).add i) = some u := hcs
    obtain ⟨y1, e1⟩ := nm (bytesT x)
    obtain ⟨Z, hZ⟩ := nm (aheadT b j)
    have hnx : aheadT b (j + 1) = Z ++ y1 := by
     rw [hZ, e1]; unfold aheadT; rw [hne]; simp only [List.append_assoc]
    have l1 : Z.length + y1.length <= 5000 := by rw [hnx, List.length_append] at hfit; omega
    have a1 := qbW l1 (by omega)
    have s1 := qcK hnx
    have M1 : Hid (∀ W, Calls Tryz.prog 114 #[.agg (txC x)] W (gives (.string (str y1)) W)) := hid (fun W => by rw [e1]; exact qcu x W hv)
    rw [<- hZ]
    clear hcs hxe hkL hv hne hfit e1 hZ hnx l1
    go_wp2_with (first
     | (refine qai rfl _ _ rfl (ad.add (j * 7)) rfl (txL x) _ hcs1 Tryz.underlying133 rfl txInfo ?_)
     | (go_at_call 114; refine (M1.out _).mono ?_; unfold gives; rintro e w2 ⟨rfl, hb2⟩)
     | go_in)
    go_roundw
    case rel => exact ⟨j + 1, rfl, by go_num, by omega, hP.below hb2⟩
    case measure => simp [RowKit.intOf]; omega
   obtain rfl : j = m := by omega
   have E : Hid (aheadT b j = bytesB b) := hid (by rw [HM.out]; exact qgY b)
   have hb := hP.bw
   clear hP
   go_wp2_with fail
   go_ret
   exact ⟨by rw [E.out]; rfl, hb⟩
end Go.Proofs.YtomaaidhmccngaaGreatDoor
namespace Go.Proofs.YtomaaidhmccngaaGreatDoor
open Go.RowKit Go.Maps Go.Lib
open L3 (Blk Reads)
open L11 (Crt zeroC crtL crtC mayV okW crtInfo qal qaj)
structure RcAt (w : World) (g : Nat) (b : Blo) (A : Option Addr) (c : Nat) (B : Option Addr) (d : Nat) (W : World) : Prop where
 bb : Blk W w.heap.size 57 (bloC b (.slice A b.proof.length c) (.slice B b.txs.length d))
 bp : Blk W g 29 (crtC b.par)
 rp : Rd tmL 10 W A b.proof
 bw : Below w.heap.size w W
section
variable {w W W' : World} {g : Nat} {b : Blo} {A : Option Addr} {c : Nat} {B : Option Addr} {d : Nat}
theorem RcAt.below (h : RcAt w g b A c B d W) (hb : Below W.heap.size W W') : RcAt w g b A c B d W' := ⟨h.bb.below hb h.bb.lt, h.bp.below hb h.bp.lt, h.rp.below hb, nxt h.bw hb⟩
theorem RcAt.drew (h : RcAt w g b A c B d W) : RcAt w g b A c B d W.drew := h.below (Below.refl _ W).drew
theorem RcAt.cells (h : RcAt w g b A c B d W) : (W.cell? ⟨w.heap.size, 0, none⟩ = some (.int .i64 b.view) /\ W.cell? ⟨w.heap.size, 1, none⟩ = some (.int .i64 b.round) /\ W.cell? ⟨w.heap.size, 2, none⟩ = some (.int .i64 b.height) /\ W.cell? ⟨w.heap.size, 3, none⟩ = some (.int .i64 b.author) /\ W.cell? ⟨w.heap.size, 12, none⟩ = some (.slice A b.proof.length c)) /\
 W.cell? ⟨g, 0, none⟩ = some (.int .i64 b.par.kind) /\ W.cell? ⟨g, 2, none⟩ = some (.int .i64 b.par.view) /\ W.cell? ⟨g, 3, none⟩ = some (.int .i64 b.par.round) /\ W.cell? ⟨g, 4, none⟩ = some (.int .i64 b.par.height) /\ W.cell? ⟨g, 5, none⟩ = some (.int .i64 b.par.author) /\ W.cell? ⟨g, 7, none⟩ = some (.int .u32 b.par.co) :=
 ⟨⟨h.bb.cell 0, h.bb.cell 1, h.bb.cell 2, h.bb.cell 3, h.bb.cell 12⟩, h.bp.cell 0, h.bp.cell 2, h.bp.cell 3, h.bp.cell 4, h.bp.cell 5, h.bp.cell 7⟩
theorem rc_mk (h : BoxB w w.heap.size b A c B d W) : RcAt w W.heap.size b A c B d (W.alloc (.cells (crtC b.par) 29)) :=
 ⟨h.bb.below (qae _ _) h.bb.lt, L11.qa6 _ _ _, h.rp.below (qae _ _), nxt h.bw (qae _ _)⟩
end
theorem qcQ {b : Blo} (h : ¬(1 <= b.view /\ b.view <= 1048576) ∨ ¬(0 <= b.author /\ b.author <= 9) ∨ ¬(0 <= b.height /\ b.height <= 3) ∨ 8 < b.txs.length ∨ b.txs.all right = false) : checkV b = 120 := by
 refine qci ?_
 unfold headV rightL L11.okW
 rcases h with h | h | h | h | h
 ·rw [decide_eq_false h]; simp
 ·rw [decide_eq_false h]; simp
 ·rw [decide_eq_false h]; simp
 ·rw [decide_eq_false (show ¬ b.txs.length <= 8 by omega)]; simp
 ·rw [h]; simp
theorem head_yes {b : Blo} (h1 : 1 <= b.view /\ b.view <= 1048576) (h2 : 0 <= b.author /\ b.author <= 9) (h3 : 0 <= b.height /\ b.height <= 3) (h4 : b.txs.length <= 8) (h5 : b.txs.all right = true) : headV b = true := by
 unfold headV rightL L11.okW
 rw [decide_eq_true h1, decide_eq_true h2, decide_eq_true h3, decide_eq_true h4, h5]; rfl
theorem qdR {b : Blo} (hd : headV b = true) (h : followsV b = false ∨ ¬ b.round = b.par.round + 1 ∨ ¬ b.round <= 1073741824) : checkV b = 122 := by
 refine qdh hd ?_
 unfold parentV
 rcases h with h | h | h
 ·rw [h]; rfl
 ·rw [decide_eq_false h]; simp
 ·rw [decide_eq_false h]; simp
theorem qmd {b : Blo} (h1 : followsV b = true) (h2 : b.round = b.par.round + 1) (h3 : b.round <= 1073741824) : parentV b = true := by
 unfold parentV; rw [h1, decide_eq_true h2, decide_eq_true h3]; rfl
theorem fol_no {b : Blo} (h : mayV b.par = false) : followsV b = false := by
 rcases Bool.eq_false_or_eq_true (followsV b) with h1 | h1
 ·rw [qd2 h1] at h; exact absurd h (by simp)
 ·exact h1
theorem qlV {b : Blo} {n : Nat} (h : ¬ b.height = 1) (hn : n = b.proof.length) : (0 < n -> provenV b = false) /\ (¬ 0 < n -> provenV b = true) := by
 unfold provenV
 rw [if_neg h, hn]
 cases b.proof with
 | nil => exact ⟨fun h => absurd h (by simp), fun _ => rfl⟩
 | cons t l => exact ⟨fun _ => rfl, fun h => absurd (Nat.succ_pos _) h⟩
theorem kind_two {c : Crt} (h : mayV c = true) (hk : c.kind = 2) : 1 <= c.height /\ c.height <= 3 := (L11.qcT h (by omega) (by omega)).2.2.1
theorem qfY (b : Blo) (A : Option Addr) (c : Nat) (B : Option Addr) (d : Nat) (w : World) (hw : b.wf) (hp : Rd tmL 10 w A b.proof) (ht : Rd txL 7 w B b.txs) :
 Calls Tryz.prog 36 #[.agg (bloC b (.slice A b.proof.length c) (.slice B b.txs.length d))] w (gives (.int .i64 (checkV b)) w) := by
 have F0 := hid (qij (c := c) (d := d) hp ht)
 have HW := hid hw
 have hnt := hw.nt
 have hnp := hw.np
 clear hw hp ht
 go_enter Tryz.func36, Tryz.ntmps36
 go_upto_region 1 with fail
 refine qab (fun w0 hw0 => ?_)
 have hA : BoxB w w.heap.size b A c B d w0 := by rw [hw0]; exact F0.out
 clear hw0 F0
 obtain ⟨n, hn⟩ := nm (b.proof.length)
 obtain ⟨m, hm⟩ := nm (b.txs.length)
 have c0 : w0.cell? ⟨w.heap.size, 0, none⟩ = some (.int .i64 b.view) := hA.bb.cell 0
 have c2 : w0.cell? ⟨w.heap.size, 2, none⟩ = some (.int .i64 b.height) := hA.bb.cell 2
 have c3 : w0.cell? ⟨w.heap.size, 3, none⟩ = some (.int .i64 b.author) := hA.bb.cell 3
 have c13 : w0.cell? ⟨w.heap.size, 13, none⟩ = some (.slice B m d) := by rw [hm]; exact hA.bb.cell 13
 have HN := hid hn
 have HM := hid hm
 rw [<- hn] at hnp
 rw [<- hm] at hnt
 clear hn hm
 by_cases v1 : b.view < 1
 ·have E : Hid (checkV b = 120) := hid (qcQ (.inl (by omega)))
  have hb := hA.bw
  clear hA HN HM
  go_wp2
  go_ret
  exact ⟨by rw [E.out]; rfl, hb⟩
 by_cases v2 : 1048576 < b.view
 ·have E : Hid (checkV b = 120) := hid (qcQ (.inl (by omega)))
  have hb := hA.bw
  clear hA HN HM
  go_wp2
  go_ret
  exact ⟨by rw [E.out]; rfl, hb⟩
 by_cases v3 : b.author < 0
 ·have E : Hid (checkV b = 120) := hid (qcQ (.inr (.inl (by omega))))
  have hb := hA.bw
  clear hA HN HM
  go_wp2
  go_ret
  exact ⟨by rw [E.out]; rfl, hb⟩
 by_cases v4 : 9 < b.author
 ·have E : Hid (checkV b = 120) := hid (qcQ (.inr (.inl (by omega))))
  have hb := hA.bw
  clear hA HN HM
  go_wp2
  go_ret
  exact ⟨by rw [E.out]; rfl, hb⟩
 by_cases v5 : b.height < 0
 ·have E : Hid (checkV b = 120) := hid (qcQ (.inr (.inr (.inl (by omega)))))
  have hb := hA.bw
  clear hA HN HM
  go_wp2
  go_ret
  exact ⟨by rw [E.out]; rfl, hb⟩
 by_cases v6 : 3 < b.height
 ·have E : Hid (checkV b = 120) := hid (qcQ (.inr (.inr (.inl (by omega)))))
  have hb := hA.bw
  clear hA HN HM
  go_wp2
  go_ret
  exact ⟨by rw [E.out]; rfl, hb⟩
 by_cases v7 : 8 < m
 ·have E : Hid (checkV b = 120) := hid (qcQ (.inr (.inr (.inr (.inl (by have := HM.out; omega))))))
  have hb := hA.bw
  clear hA HN HM
  go_wp2
  go_ret
  exact ⟨by rw [E.out]; rfl, hb⟩
 go_wp2
 go_loopw [3] (fun i wr => ∃ k : Nat, i = .int .i64 k /\ k <= m /\ Hid (∀ j (hj : j < b.txs.length), j < k -> right b.txs[j] = true) /\ BoxB w w.heap.size b A c B d wr) (fun i _ => m - (RowKit.intOf i).toNat)
 case atStart => exact ⟨0, rfl, Nat.zero_le _, hid (fun j _ hj => absurd hj (by omega)), hA⟩
 case round =>
  obtain ⟨k, rfl, hk, hno, hP⟩ := hrel
  clear c0 c2 c3 c13 hA
  have c13 : wr.cell? ⟨w.heap.size, 13, none⟩ = some (.slice B m d) := by rw [HM.out]; exact hP.bb.cell 13
  by_cases hlt : k < m
  ·have hkL : k < b.txs.length := by have := HM.out; omega
   obtain ⟨ad, rfl, hadl, hcs⟩ := hP.rt k hkL
   have hx := HW.out.txs _ (List.getElem_mem hkL)
   obtain ⟨x, hxe⟩ := nm (b.txs[k])
   rw [<- hxe] at hcs hx
   have hcs1 : ∀ j u, (txL x)[j]? = some u -> wr.cell? ((ad.add (k * 7)).add j) = some u := hcs
   have hgr := fun W => qa2 x W hx
   have HX : Hid (∃ h : k < b.txs.length, x = b.txs[k]'h) := hid ⟨hkL, hxe⟩
   clear hcs hxe hkL hx
   rcases (Bool.eq_false_or_eq_true (right x)).symm with hg | hg
   ·have E : Hid (checkV b = 120) := hid (qcQ (.inr (.inr (.inr (.inr (by
     rw [List.all_eq_false]
     obtain ⟨h, e⟩ := HX.out
     exact ⟨x, by rw [e]; exact List.getElem_mem _, by rw [hg]; simp⟩))))))
    rw [hg] at hgr
    clear hg
    go_wp2_with (first
     | (refine qai rfl _ _ rfl (ad.add (k * 7)) rfl (txL x) _ hcs1 Tryz.underlying133 rfl txInfo ?_)
     | (go_at_call 105; refine (hgr _).mono ?_; unfold gives; rintro e w2 ⟨rfl, hb2⟩)
     | go_in)
    go_ret
    exact ⟨by rw [E.out]; rfl, nxt hP.bw hb2⟩
   ·have HG := hid hg
    rw [hg] at hgr
    clear hg
    go_wp2_with (first
     | (refine qai rfl _ _ rfl (ad.add (k * 7)) rfl (txL x) _ hcs1 Tryz.underlying133 rfl txInfo ?_)
     | (go_at_call 105; refine (hgr _).mono ?_; unfold gives; rintro e w2 ⟨rfl, hb2⟩)
     | go_in)
    go_roundw
    case rel =>
     refine ⟨k + 1, by go_num, by omega, hid (fun j hj hjk => ?_), hP.below hb2⟩
     rcases Nat.lt_or_ge j k with h | h
     ·exact hno.out j hj h
     ·obtain rfl : j = k := by omega
      obtain ⟨h, e⟩ := HX.out
      rw [<- e]; exact HG.out
    case measure => simp [RowKit.intOf]; omega
  ·have hd : Hid (headV b = true) := hid (head_yes (by omega) (by omega) (by omega) (by have := HM.out; omega) (by
    rw [List.all_eq_true]
    intro x hx
    obtain ⟨j, hj, rfl⟩ := List.getElem_of_mem hx
    exact hno.out j hj (by have := HM.out; omega)))
   have px : ∀ j u, (crtL b.par)[j]? = some u -> wr.cell? ((⟨w.heap.size, 4, none⟩ : Addr).add j) = some u := qbj hP.bb (qeB b _ _)
   have F1 := hid (rc_mk hP)
   clear hno v1 v2 v3 v4 v7 hP hnt HM
   go_upto_region 9 with (first
    | (refine qai rfl _ _ rfl ⟨w.heap.size, 4, none⟩ rfl (crtL b.par) _ px Tryz.underlying29 rfl crtInfo ?_)
    | (refine qaf rfl _ _ _ rfl _ (crtC b.par) rfl rfl _ _ crtInfo rfl (qal _) ?_))
   obtain ⟨g, hg⟩ := nm (wr.heap.size)
   rw [<- hg] at F1
   rw [<- hg]
   refine qab (fun w1 hw1 => ?_)
   have hB : RcAt w g b A c B d w1 := by rw [hw1]; exact F1.out
   clear hw1 F1 px c13 hg hk hlt
   rcases (Bool.eq_false_or_eq_true (mayV b.par)).symm with a1 | a1
   ·have E : Hid (checkV b = 122) := hid (qdR hd.out (.inl (fol_no a1)))
    have hm := fun W => qdB b.par _ W HW.out.par a1
    clear a1
    go_wp2_with (first | (refine qaa rfl _ _ rfl g rfl _ _ _ _ hB.bp Tryz.underlying29 rfl crtInfo ?_) | (go_at_call 59; refine (hm _).mono ?_; unfold gives; rintro e w2 ⟨rfl, hb2⟩; have hD := hB.below hb2; obtain ⟨⟨e0, e1, e2, e3, e12⟩, p0, p2, p3, p4, p5, p7⟩ := hD.cells))
    go_ret
    exact ⟨by rw [E.out]; rfl, hD.bw⟩
   have hm := fun W => qdB b.par _ W HW.out.par a1
   have hpr := qfh a1
   have hw64 : wrap64 (b.par.round + 1) = b.par.round + 1 := by unfold wrap64; omega
   clear hpr
   by_cases g2 : b.round = b.par.round + 1
   case neg =>
    have E : Hid (checkV b = 122) := hid (qdR hd.out (.inr (.inl g2)))
    have q2 : (b.round != b.par.round + 1) = true := by simpa using g2
    clear a1 g2
    go_wp2_with (first | (refine qaa rfl _ _ rfl g rfl _ _ _ _ hB.bp Tryz.underlying29 rfl crtInfo ?_) | (go_at_call 59; refine (hm _).mono ?_; unfold gives; rintro e w2 ⟨rfl, hb2⟩; have hD := hB.below hb2; obtain ⟨⟨e0, e1, e2, e3, e12⟩, p0, p2, p3, p4, p5, p7⟩ := hD.cells))
    go_ret
    exact ⟨by rw [E.out]; rfl, hD.bw⟩
   have q2 : (b.round != b.par.round + 1) = false := by simpa using g2
   by_cases g3 : b.round <= 1073741824
   case neg =>
    have E : Hid (checkV b = 122) := hid (qdR hd.out (.inr (.inr g3)))
    have q3 : 1073741824 < b.round := by omega
    clear a1 g2 g3
    go_wp2_with (first | (refine qaa rfl _ _ rfl g rfl _ _ _ _ hB.bp Tryz.underlying29 rfl crtInfo ?_) | (go_at_call 59; refine (hm _).mono ?_; unfold gives; rintro e w2 ⟨rfl, hb2⟩; have hD := hB.below hb2; obtain ⟨⟨e0, e1, e2, e3, e12⟩, p0, p2, p3, p4, p5, p7⟩ := hD.cells))
    go_ret
    exact ⟨by rw [E.out]; rfl, hD.bw⟩
   have q3 : ¬ 1073741824 < b.round := by omega
   have HP := hid (And.intro g2 g3)
   have HMay := hid a1
   clear a1 g2 g3
   go_upto_region 11 with (first | (refine qaa rfl _ _ rfl g rfl _ _ _ _ hB.bp Tryz.underlying29 rfl crtInfo ?_) | (go_at_call 59; refine (hm _).mono ?_; unfold gives; rintro e w2 ⟨rfl, hb2⟩; have hD := hB.below hb2; obtain ⟨⟨e0, e1, e2, e3, e12⟩, p0, p2, p3, p4, p5, p7⟩ := hD.cells))
   clear hm q2 q3 hw64 hb2 hB e0 e1 e2 e3 e12 p0 p2 p3 p4 p5 p7
   obtain ⟨⟨e0, e1, e2, e3, e12⟩, p0, p2, p3, p4, p5, p7⟩ := hD.cells
   by_cases g4 : b.height < 2
   ·have hf : followsV b = openV b.par b.view := by unfold followsV; rw [if_pos (by omega)]
    rcases (Bool.eq_false_or_eq_true (openV b.par b.view)).symm with a2 | a2
    ·have E : Hid (checkV b = 122) := hid (qdR hd.out (.inl (by rw [hf, a2])))
     have ho := fun W => qez b.par b.view _ W HW.out.par a2
     clear a2 hf
     go_wp2_with (first
      | (refine qaa rfl _ _ rfl g rfl _ _ _ _ hD.bp Tryz.underlying29 rfl crtInfo ?_)
      | (go_at_call 106; refine (ho _).mono ?_; unfold gives; rintro e w3 ⟨rfl, hb3⟩))
     go_ret
     exact ⟨by rw [E.out]; rfl, nxt hD.bw hb3⟩
    have ho := fun W => qez b.par b.view _ W HW.out.par a2
    have hpv : Hid (parentV b = true) := hid (qmd (by rw [hf, a2]) HP.out.1 HP.out.2)
    clear a2 hf
    go_upto_region 13 with (first
     | (refine qaa rfl _ _ rfl g rfl _ _ _ _ hD.bp Tryz.underlying29 rfl crtInfo ?_)
     | (go_at_call 106; refine (ho _).mono ?_; unfold gives; rintro e w3 ⟨rfl, hb3⟩))
    have hE := hD.below hb3
    clear e0 e1 e2 e3 e12 p0 p2 p3 p4 p5 p7 hD ho hb3
    obtain ⟨⟨e0, e1, e2, e3, e12⟩, p0, p2, p3, p4, p5, p7⟩ := hE.cells
    go_upto_region 15 with fail
    clear e0 e1 e3 p0 p2 p3 p4 p5 p7
    by_cases g5 : b.height = 1
    case neg =>
     have q5 : (b.height != 1) = true := by simpa using g5
     have e12' : w3.cell? ⟨w.heap.size, 12, none⟩ = some (.slice A n c) := by rw [HN.out]; exact e12
     have hz := qlV g5 HN.out
     by_cases g6 : 0 < n
     ·have E : Hid (checkV b = 121) := hid (qb2 hd.out hpv.out (hz.1 g6))
      clear hz e12
      go_wp2
      go_ret
      exact ⟨by rw [E.out]; rfl, hE.bw⟩
     ·have E : Hid (checkV b = 0) := hid (qdD hd.out hpv.out (hz.2 g6))
      clear hz e12
      go_wp2
      go_ret
      exact ⟨by rw [E.out]; rfl, hE.bw⟩
    have q5 : (b.height != 1) = false := by simpa using g5
    have e12' : w3.cell? ⟨w.heap.size, 12, none⟩ = some (.slice A n c) := by rw [HN.out]; exact e12
    have hpro : provenV b = (decide (1 <= n /\ n <= 10) && risesV b.view b.proof) := by unfold provenV; rw [if_pos g5, HN.out]
    clear e12 g4 g5
    by_cases g6 : n < 1
    ·have E : Hid (checkV b = 121) := hid (qb2 hd.out hpv.out (by rw [hpro, decide_eq_false (by omega)]; rfl))
     clear hpro
     go_wp2
     go_ret
     exact ⟨by rw [E.out]; rfl, hE.bw⟩
    by_cases g7 : 10 < n
    ·have E : Hid (checkV b = 121) := hid (qb2 hd.out hpv.out (by rw [hpro, decide_eq_false (by omega)]; rfl))
     clear hpro
     go_wp2
     go_ret
     exact ⟨by rw [E.out]; rfl, hE.bw⟩
    rw [decide_eq_true (by omega)] at hpro
    have HPR := hid hpro
    clear hpro
    go_wp2
    go_loopw [5] (fun i wr => ∃ k : Nat, i = .int .i64 k /\ k <= n /\ Hid (∀ j, j < k -> riseAt b.view b.proof j = true) /\ RcAt w g b A c B d wr) (fun i _ => n - (RowKit.intOf i).toNat)
    case atStart => exact ⟨0, rfl, Nat.zero_le _, hid (fun j hj => absurd hj (by omega)), hE⟩
    case round =>
     obtain ⟨k, rfl, hk, hno, hP⟩ := hrel
     clear e12' hE e2
     have e12' : wr.cell? ⟨w.heap.size, 12, none⟩ = some (.slice A n c) := by rw [HN.out]; exact hP.bb.cell 12
     by_cases hlt : k < n
     ·have hkL : k < b.proof.length := by have := HN.out; omega
      obtain ⟨ad, rfl, hadl, hcs⟩ := hP.rp k hkL
      have hx := HW.out.proof _ (List.getElem_mem hkL)
      have hbang := qei hkL
      have HA1 : Hid (∀ z : qad (RcAt w g b (some ad) c B d), ∀ j u, (tmL b.proof[k])[j]? = some u -> z.w.cell? ((ad.add (k * 10)).add j) = some u) := hid (fun z => z.h.rp.at_ hkL)
      obtain ⟨x, hxe⟩ := nm (b.proof[k])
      rw [<- hxe] at HA1 hx hbang
      have hra : riseAt b.view b.proof k = (tmoV x && decide (x.view = b.view) && decide (prevS b.proof k < x.signer)) := by unfold riseAt; rw [hbang]
      have g12 : ∀ z : qad (RcAt w g b (some ad) c B d), z.w.cell? ⟨w.heap.size, 12, none⟩ = some (.slice (some ad) n c) := fun z => by rw [HN.out]; exact z.h.bb.cell 12
      have g0 : ∀ z : qad (RcAt w g b (some ad) c B d), z.w.cell? ⟨w.heap.size, 0, none⟩ = some (.int .i64 b.view) := fun z => z.h.bb.cell 0
      have k0 : ∀ z : qad (RcAt w g b (some ad) c B d), z.w.cell? ((ad.add (k * 10)).add 0) = some (.int .i64 x.signer) := fun z => HA1.out z 0 _ rfl
      have k0' : ∀ z : qad (RcAt w g b (some ad) c B d), z.w.cell? (ad.add (k * 10)) = some (.int .i64 x.signer) := fun z => by simpa [Addr.add] using k0 z
      have k1 : ∀ z : qad (RcAt w g b (some ad) c B d), z.w.cell? ((ad.add (k * 10)).add 1) = some (.int .i64 x.view) := fun z => HA1.out z 1 _ rfl
      have k1a : ∀ z : qad (RcAt w g b (some ad) c B d), z.w.cell? (ad.add (k * 10 + 1)) = some (.int .i64 x.view) := fun z => by have := k1 z; rw [Addr.add_add] at this; exact this
      have k1c : ∀ z : qad (RcAt w g b (some ad) c B d), z.w.cell? { block := (ad.add (k * 10)).block, off := (ad.add (k * 10)).off + 1 } = some (.int .i64 x.view) := fun z => k1 z
      have HK := hid hkL
      have HBG : Hid (∀ j, j < k -> ∀ z : qad (RcAt w g b (some ad) c B d), z.w.cell? (ad.add (j * 10)) = some (.int .i64 (prevS b.proof (j + 1)))) := hid (fun j hj z => by
       have hjL : j < b.proof.length := by omega
       have := z.h.rp.at_ hjL 0 _ rfl
       rw [qh2, qei hjL]
       simpa [Addr.add] using this)
      clear hcs hxe hkL hbang
      go_upto_region 24 with fail
      have ne : Nonempty (qad (RcAt w g b (some ad) c B d)) := ⟨⟨_, hP.drew⟩⟩
      refine qat (RcAt w g b (some ad) c B d) (by kernel_rfl) (by kernel_rfl) hP.drew ?_
      clear hP e12'
      iterate 4 go_big_quiet_step (fail)
      refine qaI rfl _ _ rfl (ad.add (k * 10)) rfl (tmL x) _ HA1.out Tryz.underlying31 rfl tmInfo ?_
      conv => arg 6; simp only [Act.put, sA, sB, sC]
      rcases (Bool.eq_false_or_eq_true (tmoV x)).symm with a1 | a1
      ·have E : Hid (checkV b = 121) := hid (qb2 hd.out hpv.out (by rw [HPR.out, qdq HK.out (by rw [hra, a1]; rfl)]; rfl))
       have hT : Hid (∀ W, Calls Tryz.prog 38 #[.agg (tmC x)] W (gives (.bool false) W)) := hid (fun W => by rw [<- a1]; exact qfq x W hx)
       clear hra a1 hx HBG
       refine qaj rfl 38 _ _ rfl Tryz.call38 [.agg (tmC x)] rfl (v := .bool false) (fun z => (hT.out z.w).mono fun e w' ⟨he, hb⟩ => ⟨he, z.h.below hb⟩) ?_
       conv => arg 6; simp only [Act.put, sA, sB, sC]
       repeat go_big_quiet_step (fail)
       refine wpQuiet_nil ?_
       intro z
       obtain ⟨W, hW⟩ := z
       dsimp only
       clear ne
       go_wp2
       go_ret
       exact ⟨by rw [E.out]; rfl, hW.bw⟩
      have hT : Hid (∀ W, Calls Tryz.prog 38 #[.agg (tmC x)] W (gives (.bool true) W)) := hid (fun W => by rw [<- a1]; exact qfq x W hx)
      have hsg := (qbD a1).1
      rw [a1] at hra
      clear a1 hx
      refine qaj rfl 38 _ _ rfl Tryz.call38 [.agg (tmC x)] rfl (v := .bool true) (fun z => (hT.out z.w).mono fun e w' ⟨he, hb⟩ => ⟨he, z.h.below hb⟩) ?_
      conv => arg 6; simp only [Act.put, sA, sB, sC]
      by_cases h2 : x.view = b.view
      case neg =>
       have E : Hid (checkV b = 121) := hid (qb2 hd.out hpv.out (by rw [HPR.out, qdq HK.out (by rw [hra, decide_eq_false h2]; rfl)]; rfl))
       have q2 : (x.view != b.view) = true := by simpa using h2
       clear hra h2 HBG
       repeat go_big_quiet_step (fail)
       refine wpQuiet_nil ?_
       intro z
       obtain ⟨W, hW⟩ := z
       dsimp only
       clear ne
       go_wp2
       go_ret
       exact ⟨by rw [E.out]; rfl, hW.bw⟩
      have q2 : (x.view != b.view) = false := by simpa using h2
      rw [decide_eq_true h2] at hra
      clear h2
      by_cases hk0 : 0 < k
      case neg =>
       have hrt : Hid (riseAt b.view b.proof k = true) := hid (by
        rw [hra]
        obtain rfl : k = 0 := by omega
        rw [show prevS b.proof 0 = -1 from rfl, decide_eq_true (by omega)]; rfl)
       clear hra HBG
       repeat go_big_quiet_step (fail)
       refine wpQuiet_nil ?_
       intro z
       obtain ⟨W, hW⟩ := z
       dsimp only
       clear ne
       go_wp2
       go_roundw
       case rel =>
        refine ⟨k + 1, by go_num, by omega, hid (fun j hj => ?_), hW⟩
        obtain rfl : j = k := by omega
        exact hrt.out
       case measure => simp [RowKit.intOf]; omega
      obtain ⟨j, rfl⟩ : ∃ j, k = j + 1 := ⟨k - 1, by omega⟩
      have kp := HBG.out j (by omega)
      obtain ⟨pv, hpv2⟩ := nm (prevS b.proof (j + 1))
      rw [<- hpv2] at kp hra
      clear HBG hpv2
      by_cases h3 : pv < x.signer
      case neg =>
       have E : Hid (checkV b = 121) := hid (qb2 hd.out hpv.out (by rw [HPR.out, qdq HK.out (by rw [hra, decide_eq_false h3]; rfl)]; rfl))
       have q3 : x.signer <= pv := by omega
       clear hra h3
       repeat go_big_quiet_step (fail)
       refine wpQuiet_nil ?_
       intro z
       obtain ⟨W, hW⟩ := z
       dsimp only
       clear ne
       go_wp2
       go_ret
       exact ⟨by rw [E.out]; rfl, hW.bw⟩
      have hrt : Hid (riseAt b.view b.proof (j + 1) = true) := hid (by rw [hra, decide_eq_true h3]; rfl)
      have q3 : ¬ x.signer <= pv := by omega
      clear hra h3
      repeat go_big_quiet_step (fail)
      refine wpQuiet_nil ?_
      intro z
      obtain ⟨W, hW⟩ := z
      dsimp only
      clear ne
      go_wp2
      go_roundw
      case rel =>
       refine ⟨j + 2, by go_num, by omega, hid (fun i hi => ?_), hW⟩
       rcases Nat.lt_or_ge i (j + 1) with h | h
       ·exact hno.out i h
       ·obtain rfl : i = j + 1 := by omega
        exact hrt.out
      case measure => simp [RowKit.intOf]; omega
     ·have E : Hid (checkV b = 0) := hid (qdD hd.out hpv.out (by rw [HPR.out, qhL (fun j hj => hno.out j (by have := HN.out; omega))]; rfl))
      have hb := hP.bw
      clear hP hno
      go_wp2_with fail
      go_ret
      exact ⟨by rw [E.out]; rfl, hb⟩
   ·have hf : followsV b = (mayV b.par && decide (b.par.kind = 2) && decide (b.par.co = 0) && decide (b.par.view = b.view) && decide (b.par.author = b.author) && decide (b.par.height = b.height - 1)) := by unfold followsV; rw [if_neg (by omega)]
    rw [HMay.out] at hf
    by_cases s1 : b.par.kind = 2
    case neg =>
     have E : Hid (checkV b = 122) := hid (qdR hd.out (.inl (by rw [hf, decide_eq_false s1]; rfl)))
     have r1 : (b.par.kind != 2) = true := by simpa using s1
     clear hf s1
     go_wp2
     go_ret
     exact ⟨by rw [E.out]; rfl, hD.bw⟩
    have r1 : (b.par.kind != 2) = false := by simpa using s1
    have hph := kind_two HMay.out s1
    have hw65 : wrap64 (b.par.height + 1) = b.par.height + 1 := by unfold wrap64; omega
    rw [decide_eq_true s1] at hf
    clear s1 hph
    rcases Bool.eq_false_or_eq_true (!decide (b.par.co = 0)) with s2 | s2
    ·obtain ⟨f1, f2⟩ := L11.qfj s2
     have E : Hid (checkV b = 122) := hid (qdR hd.out (.inl (by rw [hf, show decide (b.par.co = 0) = false by simpa using s2]; rfl)))
     clear hf s2
     go_wp2
     go_ret
     exact ⟨by rw [E.out]; rfl, hD.bw⟩
    obtain ⟨f1, f2⟩ := L11.qg1 s2
    rw [show decide (b.par.co = 0) = true by simpa using s2] at hf
    clear s2
    by_cases s3 : b.par.view = b.view
    case neg =>
     have E : Hid (checkV b = 122) := hid (qdR hd.out (.inl (by rw [hf, decide_eq_false s3]; rfl)))
     have r3 : (b.par.view != b.view) = true := by simpa using s3
     clear hf s3
     go_wp2
     go_ret
     exact ⟨by rw [E.out]; rfl, hD.bw⟩
    have r3 : (b.par.view != b.view) = false := by simpa using s3
    rw [decide_eq_true s3] at hf
    clear s3
    by_cases s4 : b.par.author = b.author
    case neg =>
     have E : Hid (checkV b = 122) := hid (qdR hd.out (.inl (by rw [hf, decide_eq_false s4]; rfl)))
     have r4 : (b.par.author != b.author) = true := by simpa using s4
     clear hf s4
     go_wp2
     go_ret
     exact ⟨by rw [E.out]; rfl, hD.bw⟩
    have r4 : (b.par.author != b.author) = false := by simpa using s4
    rw [decide_eq_true s4] at hf
    clear s4
    by_cases s5 : b.par.height = b.height - 1
    case neg =>
     have E : Hid (checkV b = 122) := hid (qdR hd.out (.inl (by rw [hf, decide_eq_false s5]; rfl)))
     have r5 : (b.par.height + 1 != b.height) = true := by simp; omega
     clear hf s5
     go_wp2
     go_ret
     exact ⟨by rw [E.out]; rfl, hD.bw⟩
    have r5 : (b.par.height + 1 != b.height) = false := by simp; omega
    have hpv : Hid (parentV b = true) := hid (qmd (by rw [hf, decide_eq_true s5]; rfl) HP.out.1 HP.out.2)
    have q5 : (b.height != 1) = true := by simp; omega
    have g5 : ¬ b.height = 1 := by omega
    clear hf s5
    go_upto_region 15 with fail
    clear r1 r3 r4 r5 f1 f2 hw65 e0 e1 e3 p0 p2 p3 p4 p5 p7
    have hE := hD
    clear hD
    have e12' : w2.cell? ⟨w.heap.size, 12, none⟩ = some (.slice A n c) := by rw [HN.out]; exact e12
    have hz := qlV g5 HN.out
    by_cases g6 : 0 < n
    ·have E : Hid (checkV b = 121) := hid (qb2 hd.out hpv.out (hz.1 g6))
     clear hz e12
     go_wp2
     go_ret
     exact ⟨by rw [E.out]; rfl, hE.bw⟩
    ·have E : Hid (checkV b = 0) := hid (qdD hd.out hpv.out (hz.2 g6))
     clear hz e12
     go_wp2
     go_ret
     exact ⟨by rw [E.out]; rfl, hE.bw⟩
