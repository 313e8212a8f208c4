/-
  Texts of one layer in one: EqB, SameB.
-/
import Derived.Test.YtomaaidhmccngaaGreatDoorTxsB

/-
  Are two lists the same: slices.Equal at timeouts and at transactions, by the library's contract; empty and nil ones walked.
-/
set_option linter.unusedSimpArgs false
set_option linter.unusedVariables false
set_option maxRecDepth 10000
namespace Go.Proofs.YtomaaidhmccngaaGreatDoor
open Go.RowKit Go.Lib
open L3 (Blk Reads)

abbrev FitT : Type := {t : Tmo // t.wf}
instance : Inhabited FitT := ⟨⟨zeroT, zeroT_wf⟩⟩
def fitTL (x : FitT) : List Value := tmL x.1
def fitT : (L : List Tmo) → (∀ t ∈ L, t.wf) → List FitT
  | [], _ => []
  | t :: L, h => ⟨t, h t (List.mem_cons_self ..)⟩ :: fitT L fun x hx => h x (List.mem_cons_of_mem _ hx)
theorem fitT_map : ∀ (L : List Tmo) (h : ∀ t ∈ L, t.wf), (fitT L h).map (·.1) = L
  | [], _ => rfl
  | t :: L, h => by unfold fitT; rw [List.map_cons, fitT_map L]
theorem fitT_len (L : List Tmo) (h : ∀ t ∈ L, t.wf) : (fitT L h).length = L.length := by rw [← List.length_map (f := fun x : FitT => x.1), fitT_map]
theorem fitT_get (L : List Tmo) (h : ∀ t ∈ L, t.wf) (j : Nat) (hj : j < L.length) : ((fitT L h)[j]!).1 = L[j] := by
  have hl : j < (fitT L h).length := by rw [fitT_len]; exact hj
  rw [getElem!_pos _ j hl]
  have := fitT_map L h
  have e : ((fitT L h).map (·.1))[j]'(by rw [List.length_map]; exact hl) = L[j] := by simp only [this]
  rw [← e, List.getElem_map]
theorem allEq_val {β : Type} [DecidableEq β] {α : Type} (f : α → β) (hf : ∀ x y, f x = f y → x = y) : ∀ xs ys : List α, Lib.allEq (fun x y => decide (f x = f y)) xs ys = decide (xs.map f = ys.map f)
  | [], [] => by simp [Lib.allEq]
  | [], y :: ys => by simp [Lib.allEq]
  | x :: xs, [] => by simp [Lib.allEq]
  | x :: xs, y :: ys => by
    rw [Lib.allEq, allEq_val f hf xs ys, List.map_cons, List.map_cons, Bool.eq_iff_iff]
    simp
theorem below_drewN (w : World) (q : Nat) : Below w.heap.size w (w.drewN q) := ⟨rfl, rfl, rfl, Nat.le_refl _, fun _ _ => rfl⟩
theorem Rd.libT {w : World} {b o : Nat} {L : List Tmo} (h : ∀ t ∈ L, t.wf) (hr : Rd tmL 10 w (some ⟨b, o, none⟩) L) : ∀ j, j < (fitT L h).length → ∀ i v, (fitTL (fitT L h)[j]!)[i]? = some v → w.cell? ⟨b, o + j * 10 + i, none⟩ = some v := fun j hj i v hi => by
  rw [fitT_len] at hj
  obtain ⟨ad, hA, hb, hc⟩ := hr j hj
  injection hA with hA
  subst hA
  unfold fitTL at hi
  rw [fitT_get L h j hj] at hi
  have := hc i v hi
  rw [Addr.add_lit, Addr.add_lit] at this
  exact this
theorem neTms : NeqAt Tryz.prog 31 (fun x : FitT => .agg (fitTL x).toArray) (fun x y => decide (x.1 = y.1)) :=
  ⟨fun x y w => neqT x.2 y.2 w, GuardAt.agg _ (by kernel_rfl)⟩
theorem neTxs : NeqAt Tryz.prog 133 (fun x : Fit => .agg (fitL x).toArray) (fun x y => decide (x.1 = y.1)) :=
  ⟨fun x y w => neqX x.2 y.2 (by unfold maxLen; omega) w, GuardAt.agg _ (by kernel_rfl)⟩
end Go.Proofs.YtomaaidhmccngaaGreatDoor

/-
  Are two blocks the same: by the code.
-/
set_option linter.unusedSimpArgs false
set_option linter.unusedVariables false
set_option maxRecDepth 10000
namespace Go.Proofs.YtomaaidhmccngaaGreatDoor
open Go.RowKit Go.Lib
open L3 (Blk Reads)
open L11 (Crt zeroC crtL crtC mayV okW crtInfo crtC_ones eqlC neqC wpList_binop)

/-- Two blocks' boxes, their lists. -/
structure TwoB (w : World) (a b : Blo) (A : Option Addr) (c : Nat) (B : Option Addr) (d : Nat) (A' : Option Addr) (c' : Nat) (B' : Option Addr) (d' : Nat) (W : World) : Prop where
  ba : Blk W w.heap.size 57 (bloC a (.slice A a.proof.length c) (.slice B a.txs.length d))
  bb : Blk W (w.heap.size + 1) 57 (bloC b (.slice A' b.proof.length c') (.slice B' b.txs.length d'))
  pa : Rd tmL 10 W A a.proof
  ta : Rd txL 7 W B a.txs
  pb : Rd tmL 10 W A' b.proof
  tb : Rd txL 7 W B' b.txs
  bw : Below w.heap.size w W
section
variable {w W W' : World} {a b : Blo} {A : Option Addr} {c : Nat} {B : Option Addr} {d : Nat} {A' : Option Addr} {c' : Nat} {B' : Option Addr} {d' : Nat}
theorem TwoB.below (h : TwoB w a b A c B d A' c' B' d' W) (hb : Below W.heap.size W W') : TwoB w a b A c B d A' c' B' d' W' :=
  ⟨h.ba.below hb h.ba.lt, h.bb.below hb h.bb.lt, h.pa.below hb, h.ta.below hb, h.pb.below hb, h.tb.below hb, nxt h.bw hb⟩
theorem TwoB.drew (h : TwoB w a b A c B d A' c' B' d' W) : TwoB w a b A c B d A' c' B' d' W.drew := h.below (Below.refl _ W).drew
theorem twoB_mk (pa : Rd tmL 10 w A a.proof) (ta : Rd txL 7 w B a.txs) (pb : Rd tmL 10 w A' b.proof) (tb : Rd txL 7 w B' b.txs) :
    TwoB w a b A c B d A' c' B' d' ((w.alloc (.cells (bloC a (.slice A a.proof.length c) (.slice B a.txs.length d)) 57)).alloc (.cells (bloC b (.slice A' b.proof.length c') (.slice B' b.txs.length d')) 57)) := by
  have hb := below_new w (.cells (bloC a (.slice A a.proof.length c) (.slice B a.txs.length d)) 57)
  have hb2 := hb.alloc hb.size (.cells (bloC b (.slice A' b.proof.length c') (.slice B' b.txs.length d')) 57)
  refine ⟨(blo_new _ _ _ _ _).alloc _, ?_, pa.below hb2, ta.below hb2, pb.below hb2, tb.below hb2, hb2⟩
  have := blo_new (w.alloc (.cells (bloC a (.slice A a.proof.length c) (.slice B a.txs.length d)) 57)) 57 b (.slice A' b.proof.length c') (.slice B' b.txs.length d')
  simpa using this
theorem TwoB.cells (h : TwoB w a b A c B d A' c' B' d' W) : (W.cell? ⟨w.heap.size, 0, none⟩ = some (.int .i64 a.view) ∧ W.cell? ⟨w.heap.size, 1, none⟩ = some (.int .i64 a.round) ∧ W.cell? ⟨w.heap.size, 2, none⟩ = some (.int .i64 a.height) ∧ W.cell? ⟨w.heap.size, 3, none⟩ = some (.int .i64 a.author) ∧ W.cell? ⟨w.heap.size, 12, none⟩ = some (.slice A a.proof.length c) ∧ W.cell? ⟨w.heap.size, 13, none⟩ = some (.slice B a.txs.length d)) ∧
    (W.cell? ⟨w.heap.size + 1, 0, none⟩ = some (.int .i64 b.view) ∧ W.cell? ⟨w.heap.size + 1, 1, none⟩ = some (.int .i64 b.round) ∧ W.cell? ⟨w.heap.size + 1, 2, none⟩ = some (.int .i64 b.height) ∧ W.cell? ⟨w.heap.size + 1, 3, none⟩ = some (.int .i64 b.author) ∧ W.cell? ⟨w.heap.size + 1, 12, none⟩ = some (.slice A' b.proof.length c') ∧ W.cell? ⟨w.heap.size + 1, 13, none⟩ = some (.slice B' b.txs.length d')) :=
  ⟨⟨h.ba.cell 0, h.ba.cell 1, h.ba.cell 2, h.ba.cell 3, h.ba.cell 12, h.ba.cell 13⟩, h.bb.cell 0, h.bb.cell 1, h.bb.cell 2, h.bb.cell 3, h.bb.cell 12, h.bb.cell 13⟩
theorem TwoB.pars (h : TwoB w a b A c B d A' c' B' d' W) : (∀ j u, (crtL a.par)[j]? = some u → W.cell? ((⟨w.heap.size, 4, none⟩ : Addr).add j) = some u) ∧ (∀ j u, (crtL b.par)[j]? = some u → W.cell? ((⟨w.heap.size + 1, 4, none⟩ : Addr).add j) = some u) := ⟨sub_cells h.ba (par_at a _ _), sub_cells h.bb (par_at b _ _)⟩
end
/-- Are they the same? -/
def sameV (a b : Blo) : Bool := decide (a.view = b.view) && (decide (a.round = b.round) && (decide (a.height = b.height) && (decide (a.author = b.author) && (decide (a.par = b.par) && (decide (a.proof = b.proof) && decide (a.txs = b.txs))))))
theorem sameV_iff (a b : Blo) : sameV a b = decide (a = b) := by
  obtain ⟨a0, a1, a2, a3, a4, a5, a6⟩ := a
  obtain ⟨b0, b1, b2, b3, b4, b5, b6⟩ := b
  rw [Bool.eq_iff_iff]
  simp [sameV]
theorem sameV_refl (a : Blo) : sameV a a = true := by rw [sameV_iff]; simp
theorem seven (a b c d e f g : Bool) : a = false ∨ (a = true ∧ b = false) ∨ (a = true ∧ b = true ∧ c = false) ∨ (a = true ∧ b = true ∧ c = true ∧ d = false) ∨ (a = true ∧ b = true ∧ c = true ∧ d = true ∧ e = false) ∨ (a = true ∧ b = true ∧ c = true ∧ d = true ∧ e = true ∧ f = false) ∨ (a = true ∧ b = true ∧ c = true ∧ d = true ∧ e = true ∧ f = true ∧ g = false) ∨ (a = true ∧ b = true ∧ c = true ∧ d = true ∧ e = true ∧ f = true ∧ g = true) := by
  cases a <;> cases b <;> cases c <;> cases d <;> cases e <;> cases f <;> cases g <;> simp
theorem beq_d {x y : Int} {r : Bool} (h : decide (x = y) = r) : (x == y) = r ∧ (x != y) = !r := by rw [← h]; exact ⟨rfl, rfl⟩
end Go.Proofs.YtomaaidhmccngaaGreatDoor
