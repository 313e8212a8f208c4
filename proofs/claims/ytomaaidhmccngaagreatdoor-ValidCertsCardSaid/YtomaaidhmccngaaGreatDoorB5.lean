import Derived.Test.YtomaaidhmccngaaGreatDoorB7
set_option linter.unusedSimpArgs false
set_option linter.unusedVariables false
set_option maxRecDepth 100000
set_option maxHeartbeats 16000000
namespace Go.Proofs.YtomaaidhmccngaaGreatDoor
open Go.RowKit Go.Lib
open L3 (Blk Reads)
abbrev FitT : Type := {t : Tmo // t.wf}
instance : Inhabited FitT := ⟨⟨zeroT, zeroT_wf⟩⟩
theorem below_drewN (w : World) (q : Nat) : Below w.heap.size w (w.drewN q) := ⟨rfl, rfl, rfl, Nat.le_refl _, fun _ _ => rfl⟩
end Go.Proofs.YtomaaidhmccngaaGreatDoor
namespace Go.Proofs.YtomaaidhmccngaaGreatDoor
open Go.RowKit Go.Lib
open L3 (Blk Reads)
open L11 (Crt zeroC crtL crtC mayV okW crtInfo qal eqlC neqC qbc)
structure TwoB (w : World) (a b : Blo) (A : Option Addr) (c : Nat) (B : Option Addr) (d : Nat) (A' : Option Addr) (c' : Nat) (B' : Option Addr) (d' : Nat) (W : World) : Prop where
 ba : Blk W w.heap.size 57 (bloC a (.slice A a.proof.length c) (.slice B a.txs.length d))
 bb : Blk W (w.heap.size + 1) 57 (bloC b (.slice A' b.proof.length c') (.slice B' b.txs.length d'))
 pa : Rd tmL 10 W A a.proof
 ta : Rd txL 7 W B a.txs
 pb : Rd tmL 10 W A' b.proof
 tb : Rd txL 7 W B' b.txs
 bw : Below w.heap.size w W
section
variable {w W W' : World} {a b : Blo} {A : Option Addr} {c : Nat} {B : Option Addr} {d : Nat} {A' : Option Addr} {c' : Nat} {B' : Option Addr} {d' : Nat}
theorem TwoB.below (h : TwoB w a b A c B d A' c' B' d' W) (hb : Below W.heap.size W W') : TwoB w a b A c B d A' c' B' d' W' :=
 ⟨h.ba.below hb h.ba.lt, h.bb.below hb h.bb.lt, h.pa.below hb, h.ta.below hb, h.pb.below hb, h.tb.below hb, nxt h.bw hb⟩
theorem TwoB.drew (h : TwoB w a b A c B d A' c' B' d' W) : TwoB w a b A c B d A' c' B' d' W.drew := h.below (Below.refl _ W).drew
theorem twoB_mk (pa : Rd tmL 10 w A a.proof) (ta : Rd txL 7 w B a.txs) (pb : Rd tmL 10 w A' b.proof) (tb : Rd txL 7 w B' b.txs) :
 TwoB w a b A c B d A' c' B' d' ((w.alloc (.cells (bloC a (.slice A a.proof.length c) (.slice B a.txs.length d)) 57)).alloc (.cells (bloC b (.slice A' b.proof.length c') (.slice B' b.txs.length d')) 57)) := by
 have hb := qae w (.cells (bloC a (.slice A a.proof.length c) (.slice B a.txs.length d)) 57)
 have hb2 := hb.alloc hb.size (.cells (bloC b (.slice A' b.proof.length c') (.slice B' b.txs.length d')) 57)
 refine ⟨(qby _ _ _ _ _).alloc _, ?_, pa.below hb2, ta.below hb2, pb.below hb2, tb.below hb2, hb2⟩
 have := qby (w.alloc (.cells (bloC a (.slice A a.proof.length c) (.slice B a.txs.length d)) 57)) 57 b (.slice A' b.proof.length c') (.slice B' b.txs.length d')
 simpa using this
theorem TwoB.cells (h : TwoB w a b A c B d A' c' B' d' W) : (W.cell? ⟨w.heap.size, 0, none⟩ = some (.int .i64 a.view) /\ W.cell? ⟨w.heap.size, 1, none⟩ = some (.int .i64 a.round) /\ W.cell? ⟨w.heap.size, 2, none⟩ = some (.int .i64 a.height) /\ W.cell? ⟨w.heap.size, 3, none⟩ = some (.int .i64 a.author) /\ W.cell? ⟨w.heap.size, 12, none⟩ = some (.slice A a.proof.length c) /\ W.cell? ⟨w.heap.size, 13, none⟩ = some (.slice B a.txs.length d)) /\
 (W.cell? ⟨w.heap.size + 1, 0, none⟩ = some (.int .i64 b.view) /\ W.cell? ⟨w.heap.size + 1, 1, none⟩ = some (.int .i64 b.round) /\ W.cell? ⟨w.heap.size + 1, 2, none⟩ = some (.int .i64 b.height) /\ W.cell? ⟨w.heap.size + 1, 3, none⟩ = some (.int .i64 b.author) /\ W.cell? ⟨w.heap.size + 1, 12, none⟩ = some (.slice A' b.proof.length c') /\ W.cell? ⟨w.heap.size + 1, 13, none⟩ = some (.slice B' b.txs.length d')) :=
 ⟨⟨h.ba.cell 0, h.ba.cell 1, h.ba.cell 2, h.ba.cell 3, h.ba.cell 12, h.ba.cell 13⟩, h.bb.cell 0, h.bb.cell 1, h.bb.cell 2, h.bb.cell 3, h.bb.cell 12, h.bb.cell 13⟩
theorem TwoB.pars (h : TwoB w a b A c B d A' c' B' d' W) : (∀ j u, (crtL a.par)[j]? = some u -> W.cell? ((⟨w.heap.size, 4, none⟩ : Addr).add j) = some u) /\ (∀ j u, (crtL b.par)[j]? = some u -> W.cell? ((⟨w.heap.size + 1, 4, none⟩ : Addr).add j) = some u) := ⟨qbj h.ba (qeB a _ _), qbj h.bb (qeB b _ _)⟩
end
def sameV (a b : Blo) : Bool := decide (a.view = b.view) && (decide (a.round = b.round) && (decide (a.height = b.height) && (decide (a.author = b.author) && (decide (a.par = b.par) && (decide (a.proof = b.proof) && decide (a.txs = b.txs))))))
theorem qm2 (a b : Blo) : sameV a b = decide (a = b) := by
 obtain ⟨a0, a1, a2, a3, a4, a5, a6⟩ := a
 obtain ⟨b0, b1, b2, b3, b4, b5, b6⟩ := b
 rw [Bool.eq_iff_iff]
 simp [sameV]
theorem qkE (a : Blo) : sameV a a = true := by rw [qm2]; simp
theorem beq_d {x y : Int} {r : Bool} (h : decide (x = y) = r) : (x == y) = r /\ (x != y) = !r := by rw [<- h]; exact ⟨rfl, rfl⟩
