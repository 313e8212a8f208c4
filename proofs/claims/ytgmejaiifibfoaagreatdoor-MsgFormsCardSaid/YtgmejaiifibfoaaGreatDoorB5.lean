/-
  Texts of one layer in one: EqB, SameB.
-/
import Derived.Test.YtgmejaiifibfoaaGreatDoorB2

/-
  Are two lists the same: slices.Equal at timeouts and at transactions, by the library's contract; empty and nil ones walked.
-/
set_option linter.unusedSimpArgs false
set_option linter.unusedVariables false
set_option maxRecDepth 10000
namespace Go.Proofs.YtgmejaiifibfoaaGreatDoor
open Go.RowKit Go.Lib
open L3 (Blk Reads)

abbrev FitT : Type := {t : Tmo // t.wf}
instance : Inhabited FitT := ⟨⟨zeroT, zeroT_wf⟩⟩
def fitTL (x : FitT) : List Value := tmL x.1
def fitT : (L : List Tmo) → (∀ t ∈ L, t.wf) → List FitT
  | [], _ => []
  | t :: L, h => ⟨t, h t (List.mem_cons_self ..)⟩ :: fitT L fun x hx => h x (List.mem_cons_of_mem _ hx)
theorem fitT_map : ∀ (L : List Tmo) (h : ∀ t ∈ L, t.wf), (fitT L h).map (·.1) = L
  | [], _ => rfl
  | t :: L, h => by unfold fitT; rw [List.map_cons, fitT_map L]
theorem fitT_len (L : List Tmo) (h : ∀ t ∈ L, t.wf) : (fitT L h).length = L.length := by rw [← List.length_map (f := fun x : FitT => x.1), fitT_map]
theorem fitT_get (L : List Tmo) (h : ∀ t ∈ L, t.wf) (j : Nat) (hj : j < L.length) : ((fitT L h)[j]!).1 = L[j] := by
  have hl : j < (fitT L h).length := by rw [fitT_len]; exact hj
  rw [getElem!_pos _ j hl]
  have := fitT_map L h
  have e : ((fitT L h).map (·.1))[j]'(by rw [List.length_map]; exact hl) = L[j] := by simp only [this]
  rw [← e, List.getElem_map]
theorem allEq_val {β : Type} [DecidableEq β] {α : Type} (f : α → β) (hf : ∀ x y, f x = f y → x = y) : ∀ xs ys : List α, Lib.allEq (fun x y => decide (f x = f y)) xs ys = decide (xs.map f = ys.map f)
  | [], [] => by simp [Lib.allEq]
  | [], y :: ys => by simp [Lib.allEq]
  | x :: xs, [] => by simp [Lib.allEq]
  | x :: xs, y :: ys => by
    rw [Lib.allEq, allEq_val f hf xs ys, List.map_cons, List.map_cons, Bool.eq_iff_iff]
    simp
theorem below_drewN (w : World) (q : Nat) : Below w.heap.size w (w.drewN q) := ⟨rfl, rfl, rfl, Nat.le_refl _, fun _ _ => rfl⟩
theorem Rd.libT {w : World} {b o : Nat} {L : List Tmo} (h : ∀ t ∈ L, t.wf) (hr : Rd tmL 10 w (some ⟨b, o, none⟩) L) : ∀ j, j < (fitT L h).length → ∀ i v, (fitTL (fitT L h)[j]!)[i]? = some v → w.cell? ⟨b, o + j * 10 + i, none⟩ = some v := fun j hj i v hi => by
  rw [fitT_len] at hj
  obtain ⟨ad, hA, hb, hc⟩ := hr j hj
  injection hA with hA
  subst hA
  unfold fitTL at hi
  rw [fitT_get L h j hj] at hi
  have := hc i v hi
  rw [Addr.add_lit, Addr.add_lit] at this
  exact this
theorem neTms : NeqAt Tryz.prog 26 (fun x : FitT => .agg (fitTL x).toArray) (fun x y => decide (x.1 = y.1)) :=
  ⟨fun x y w => neqT x.2 y.2 w, GuardAt.agg _ (by kernel_rfl)⟩
set_option maxHeartbeats 1000000 in
set_option maxRecDepth 100000 in
theorem eqTms_len (A : Option Addr) (n c : Nat) (B : Option Addr) (m d : Nat) (w : World) (h : n ≠ m) (hn : n ≤ 140737488355328) (hm : m ≤ 140737488355328) : Calls Tryz.prog 33 #[.slice A n c, .slice B m d] w (gives (.bool false) w) := by
  have h1 : ((n : Int) != (m : Int)) = true := by simp; omega
  have h2 : ((n : Int) == (m : Int)) = false := by simp; omega
  go_enter Tryz.func33, Tryz.ntmps33
  go_wp2
  go_ret
  exact ⟨rfl, Below.refl _ _⟩
set_option maxHeartbeats 1000000 in
set_option maxRecDepth 100000 in
theorem eqTms_none (A : Option Addr) (c : Nat) (B : Option Addr) (d : Nat) (w : World) : Calls Tryz.prog 33 #[.slice A 0 c, .slice B 0 d] w (gives (.bool true) w) := by
  go_enter Tryz.func33, Tryz.ntmps33
  go_wp2
  go_loopw [13] (fun i wr => i = .int .i64 0 ∧ w = wr) (fun _ _ => 0)
  case atStart => exact ⟨rfl, rfl⟩
  case round =>
    obtain ⟨rfl, rfl⟩ := hrel
    go_wp2
    go_ret
    exact ⟨rfl, Below.refl _ _⟩
theorem eqTms_any (A : Option Addr) (c : Nat) (L : List Tmo) (B : Option Addr) (d : Nat) (M : List Tmo) (w : World) (hl : ∀ t ∈ L, t.wf) (hm : ∀ t ∈ M, t.wf) (hr : Rd tmL 10 w A L) (hs : Rd tmL 10 w B M) (hn : L.length ≤ 100000) (hn2 : M.length ≤ 100000) :
    Calls Tryz.prog 33 #[.slice A L.length c, .slice B M.length d] w (gives (.bool (decide (L = M))) w) := by
  by_cases hlen : L.length = M.length
  · by_cases h0 : L = []
    · have h1 : M = [] := List.eq_nil_of_length_eq_zero (by rw [← hlen, h0]; rfl)
      subst h0 h1
      exact eqTms_none A c B d w
    · have h1 : M ≠ [] := fun e => h0 (List.eq_nil_of_length_eq_zero (by rw [hlen, e]; rfl))
      obtain ⟨b1, o1, rfl, hb1⟩ := hr.plain tmL_0 h0
      obtain ⟨b2, o2, rfl, hb2⟩ := hs.plain tmL_0 h1
      have := AnyQ.slices_Equal Tryz.eqlT 10 Tryz.isAgg26 Tryz.sizeOf26 fitTL (fun _ => rfl) _ neTms b1 o1 L.length c b2 o2 M.length d (fitT L hl) (fitT M hm) w (by rw [fitT_len]; exact Nat.le_refl _) (by rw [fitT_len]; exact Nat.le_refl _) (by omega) (by omega) (Rd.libT hl hr) (Rd.libT hm hs)
      refine Calls.mono (show Calls Tryz.prog 33 #[.slice (some ⟨b1, o1, none⟩) L.length c, .slice (some ⟨b2, o2, none⟩) M.length d] w _ from this) ?_
      rintro e w' ⟨rfl, q, rfl⟩
      refine ⟨?_, below_drewN w q⟩
      have e1 : (fitT L hl).take L.length = fitT L hl := List.take_of_length_le (by rw [fitT_len]; exact Nat.le_refl _)
      have e2 : (fitT M hm).take M.length = fitT M hm := List.take_of_length_le (by rw [fitT_len]; exact Nat.le_refl _)
      rw [e1, e2, allEq_val (fun x : FitT => x.1) (fun x y h => Subtype.ext h), fitT_map, fitT_map]
  · have e : decide (L = M) = false := decide_eq_false (fun e => hlen (by rw [e]))
    rw [e]
    exact eqTms_len A _ c B _ d w hlen (by omega) (by omega)
theorem eqTms_is (A : Option Addr) (c : Nat) (L : List Tmo) (B : Option Addr) (d : Nat) (M : List Tmo) (r : Bool) (w : World) (hl : ∀ t ∈ L, t.wf) (hm : ∀ t ∈ M, t.wf) (hr : Rd tmL 10 w A L) (hs : Rd tmL 10 w B M) (hn : L.length ≤ 100000) (hn2 : M.length ≤ 100000) (hd : decide (L = M) = r) :
    Calls Tryz.prog 33 #[.slice A L.length c, .slice B M.length d] w (gives (.bool r) w) := by have := eqTms_any A c L B d M w hl hm hr hs hn hn2; rw [hd] at this; exact this
theorem neTxs : NeqAt Tryz.prog 32 (fun x : Fit => .agg (fitL x).toArray) (fun x y => decide (x.1 = y.1)) :=
  ⟨fun x y w => neqX x.2 y.2 (by unfold maxLen; omega) w, GuardAt.agg _ (by kernel_rfl)⟩
set_option maxHeartbeats 1000000 in
set_option maxRecDepth 100000 in
theorem eqTxs_len (A : Option Addr) (n c : Nat) (B : Option Addr) (m d : Nat) (w : World) (h : n ≠ m) (hn : n ≤ 140737488355328) (hm : m ≤ 140737488355328) : Calls Tryz.prog 64 #[.slice A n c, .slice B m d] w (gives (.bool false) w) := by
  have h1 : ((n : Int) != (m : Int)) = true := by simp; omega
  have h2 : ((n : Int) == (m : Int)) = false := by simp; omega
  go_enter Tryz.func64, Tryz.ntmps64
  go_wp2
  go_ret
  exact ⟨rfl, Below.refl _ _⟩
set_option maxHeartbeats 1000000 in
set_option maxRecDepth 100000 in
theorem eqTxs_none (A : Option Addr) (c : Nat) (B : Option Addr) (d : Nat) (w : World) : Calls Tryz.prog 64 #[.slice A 0 c, .slice B 0 d] w (gives (.bool true) w) := by
  go_enter Tryz.func64, Tryz.ntmps64
  go_wp2
  go_loopw [13] (fun i wr => i = .int .i64 0 ∧ w = wr) (fun _ _ => 0)
  case atStart => exact ⟨rfl, rfl⟩
  case round =>
    obtain ⟨rfl, rfl⟩ := hrel
    go_wp2
    go_ret
    exact ⟨rfl, Below.refl _ _⟩
theorem eqTxs_any (A : Option Addr) (c : Nat) (L : List Txx) (B : Option Addr) (d : Nat) (M : List Txx) (w : World) (hl : ∀ t ∈ L, t.wf 1000000) (hm : ∀ t ∈ M, t.wf 1000000) (hr : Rd txL 7 w A L) (hs : Rd txL 7 w B M) (hn : L.length ≤ 100000) (hn2 : M.length ≤ 100000) :
    Calls Tryz.prog 64 #[.slice A L.length c, .slice B M.length d] w (gives (.bool (decide (L = M))) w) := by
  by_cases hlen : L.length = M.length
  · by_cases h0 : L = []
    · have h1 : M = [] := List.eq_nil_of_length_eq_zero (by rw [← hlen, h0]; rfl)
      subst h0 h1
      exact eqTxs_none A c B d w
    · have h1 : M ≠ [] := fun e => h0 (List.eq_nil_of_length_eq_zero (by rw [hlen, e]; rfl))
      obtain ⟨b1, o1, rfl, hb1⟩ := hr.plain txL_0 h0
      obtain ⟨b2, o2, rfl, hb2⟩ := hs.plain txL_0 h1
      have := AnyQ.slices_Equal Tryz.eqlX 7 Tryz.isAgg32 Tryz.sizeOf32 fitL (fun _ => rfl) _ neTxs b1 o1 L.length c b2 o2 M.length d (fitX L hl) (fitX M hm) w (by rw [fitX_len]; exact Nat.le_refl _) (by rw [fitX_len]; exact Nat.le_refl _) (by omega) (by omega) (Rd.lib hl hr) (Rd.lib hm hs)
      refine Calls.mono (show Calls Tryz.prog 64 #[.slice (some ⟨b1, o1, none⟩) L.length c, .slice (some ⟨b2, o2, none⟩) M.length d] w _ from this) ?_
      rintro e w' ⟨rfl, q, rfl⟩
      refine ⟨?_, below_drewN w q⟩
      have e1 : (fitX L hl).take L.length = fitX L hl := List.take_of_length_le (by rw [fitX_len]; exact Nat.le_refl _)
      have e2 : (fitX M hm).take M.length = fitX M hm := List.take_of_length_le (by rw [fitX_len]; exact Nat.le_refl _)
      rw [e1, e2, allEq_val (fun x : Fit => x.1) (fun x y h => Subtype.ext h), fitX_map, fitX_map]
  · have e : decide (L = M) = false := decide_eq_false (fun e => hlen (by rw [e]))
    rw [e]
    exact eqTxs_len A _ c B _ d w hlen (by omega) (by omega)
theorem eqTxs_is (A : Option Addr) (c : Nat) (L : List Txx) (B : Option Addr) (d : Nat) (M : List Txx) (r : Bool) (w : World) (hl : ∀ t ∈ L, t.wf 1000000) (hm : ∀ t ∈ M, t.wf 1000000) (hr : Rd txL 7 w A L) (hs : Rd txL 7 w B M) (hn : L.length ≤ 100000) (hn2 : M.length ≤ 100000) (hd : decide (L = M) = r) :
    Calls Tryz.prog 64 #[.slice A L.length c, .slice B M.length d] w (gives (.bool r) w) := by have := eqTxs_any A c L B d M w hl hm hr hs hn hn2; rw [hd] at this; exact this
end Go.Proofs.YtgmejaiifibfoaaGreatDoor

/-
  Are two blocks the same: by the code.
-/
set_option linter.unusedSimpArgs false
set_option linter.unusedVariables false
set_option maxRecDepth 10000
namespace Go.Proofs.YtgmejaiifibfoaaGreatDoor
open Go.RowKit Go.Lib
open L3 (Blk Reads)
open L11 (Crt zeroC crtL crtC mayV okW crtInfo crtC_ones eqlC neqC wpList_binop)

/-- Two blocks' boxes, their lists. -/
structure TwoB (w : World) (a b : Blo) (A : Option Addr) (c : Nat) (B : Option Addr) (d : Nat) (A' : Option Addr) (c' : Nat) (B' : Option Addr) (d' : Nat) (W : World) : Prop where
  ba : Blk W w.heap.size 30 (bloC a (.slice A a.proof.length c) (.slice B a.txs.length d))
  bb : Blk W (w.heap.size + 1) 30 (bloC b (.slice A' b.proof.length c') (.slice B' b.txs.length d'))
  pa : Rd tmL 10 W A a.proof
  ta : Rd txL 7 W B a.txs
  pb : Rd tmL 10 W A' b.proof
  tb : Rd txL 7 W B' b.txs
  bw : Below w.heap.size w W
section
variable {w W W' : World} {a b : Blo} {A : Option Addr} {c : Nat} {B : Option Addr} {d : Nat} {A' : Option Addr} {c' : Nat} {B' : Option Addr} {d' : Nat}
theorem TwoB.below (h : TwoB w a b A c B d A' c' B' d' W) (hb : Below W.heap.size W W') : TwoB w a b A c B d A' c' B' d' W' :=
  ⟨h.ba.below hb h.ba.lt, h.bb.below hb h.bb.lt, h.pa.below hb, h.ta.below hb, h.pb.below hb, h.tb.below hb, nxt h.bw hb⟩
theorem TwoB.drew (h : TwoB w a b A c B d A' c' B' d' W) : TwoB w a b A c B d A' c' B' d' W.drew := h.below (Below.refl _ W).drew
theorem twoB_mk (pa : Rd tmL 10 w A a.proof) (ta : Rd txL 7 w B a.txs) (pb : Rd tmL 10 w A' b.proof) (tb : Rd txL 7 w B' b.txs) :
    TwoB w a b A c B d A' c' B' d' ((w.alloc (.cells (bloC a (.slice A a.proof.length c) (.slice B a.txs.length d)) 30)).alloc (.cells (bloC b (.slice A' b.proof.length c') (.slice B' b.txs.length d')) 30)) := by
  have hb := below_new w (.cells (bloC a (.slice A a.proof.length c) (.slice B a.txs.length d)) 30)
  have hb2 := hb.alloc hb.size (.cells (bloC b (.slice A' b.proof.length c') (.slice B' b.txs.length d')) 30)
  refine ⟨(blo_new _ _ _ _ _).alloc _, ?_, pa.below hb2, ta.below hb2, pb.below hb2, tb.below hb2, hb2⟩
  have := blo_new (w.alloc (.cells (bloC a (.slice A a.proof.length c) (.slice B a.txs.length d)) 30)) 30 b (.slice A' b.proof.length c') (.slice B' b.txs.length d')
  simpa using this
theorem TwoB.cells (h : TwoB w a b A c B d A' c' B' d' W) : (W.cell? ⟨w.heap.size, 0, none⟩ = some (.int .i64 a.view) ∧ W.cell? ⟨w.heap.size, 1, none⟩ = some (.int .i64 a.round) ∧ W.cell? ⟨w.heap.size, 2, none⟩ = some (.int .i64 a.height) ∧ W.cell? ⟨w.heap.size, 3, none⟩ = some (.int .i64 a.author) ∧ W.cell? ⟨w.heap.size, 12, none⟩ = some (.slice A a.proof.length c) ∧ W.cell? ⟨w.heap.size, 13, none⟩ = some (.slice B a.txs.length d)) ∧
    (W.cell? ⟨w.heap.size + 1, 0, none⟩ = some (.int .i64 b.view) ∧ W.cell? ⟨w.heap.size + 1, 1, none⟩ = some (.int .i64 b.round) ∧ W.cell? ⟨w.heap.size + 1, 2, none⟩ = some (.int .i64 b.height) ∧ W.cell? ⟨w.heap.size + 1, 3, none⟩ = some (.int .i64 b.author) ∧ W.cell? ⟨w.heap.size + 1, 12, none⟩ = some (.slice A' b.proof.length c') ∧ W.cell? ⟨w.heap.size + 1, 13, none⟩ = some (.slice B' b.txs.length d')) :=
  ⟨⟨h.ba.cell 0, h.ba.cell 1, h.ba.cell 2, h.ba.cell 3, h.ba.cell 12, h.ba.cell 13⟩, h.bb.cell 0, h.bb.cell 1, h.bb.cell 2, h.bb.cell 3, h.bb.cell 12, h.bb.cell 13⟩
theorem TwoB.pars (h : TwoB w a b A c B d A' c' B' d' W) : (∀ j u, (crtL a.par)[j]? = some u → W.cell? ((⟨w.heap.size, 4, none⟩ : Addr).add j) = some u) ∧ (∀ j u, (crtL b.par)[j]? = some u → W.cell? ((⟨w.heap.size + 1, 4, none⟩ : Addr).add j) = some u) := ⟨sub_cells h.ba (par_at a _ _), sub_cells h.bb (par_at b _ _)⟩
end
/-- Are they the same? -/
def sameV (a b : Blo) : Bool := decide (a.view = b.view) && (decide (a.round = b.round) && (decide (a.height = b.height) && (decide (a.author = b.author) && (decide (a.par = b.par) && (decide (a.proof = b.proof) && decide (a.txs = b.txs))))))
theorem sameV_iff (a b : Blo) : sameV a b = decide (a = b) := by
  obtain ⟨a0, a1, a2, a3, a4, a5, a6⟩ := a
  obtain ⟨b0, b1, b2, b3, b4, b5, b6⟩ := b
  rw [Bool.eq_iff_iff]
  simp [sameV]
theorem sameV_refl (a : Blo) : sameV a a = true := by rw [sameV_iff]; simp
theorem seven (a b c d e f g : Bool) : a = false ∨ (a = true ∧ b = false) ∨ (a = true ∧ b = true ∧ c = false) ∨ (a = true ∧ b = true ∧ c = true ∧ d = false) ∨ (a = true ∧ b = true ∧ c = true ∧ d = true ∧ e = false) ∨ (a = true ∧ b = true ∧ c = true ∧ d = true ∧ e = true ∧ f = false) ∨ (a = true ∧ b = true ∧ c = true ∧ d = true ∧ e = true ∧ f = true ∧ g = false) ∨ (a = true ∧ b = true ∧ c = true ∧ d = true ∧ e = true ∧ f = true ∧ g = true) := by
  cases a <;> cases b <;> cases c <;> cases d <;> cases e <;> cases f <;> cases g <;> simp
theorem beq_d {x y : Int} {r : Bool} (h : decide (x = y) = r) : (x == y) = r ∧ (x != y) = !r := by rw [← h]; exact ⟨rfl, rfl⟩
set_option maxHeartbeats 4000000 in
set_option maxRecDepth 100000 in
theorem sameB_any (a b : Blo) (A : Option Addr) (c : Nat) (B : Option Addr) (d : Nat) (A' : Option Addr) (c' : Nat) (B' : Option Addr) (d' : Nat) (w : World) (ha : a.wf) (hb : b.wf)
    (pa : Rd tmL 10 w A a.proof) (ta : Rd txL 7 w B a.txs) (pb : Rd tmL 10 w A' b.proof) (tb : Rd txL 7 w B' b.txs) :
    Calls Tryz.prog 34 #[.agg (bloC a (.slice A a.proof.length c) (.slice B a.txs.length d)), .agg (bloC b (.slice A' b.proof.length c') (.slice B' b.txs.length d'))] w (gives (.bool (sameV a b)) w) := by
  have F0 := Lib.hid (twoB_mk (c := c) (d := d) (c' := c') (d' := d') pa ta pb tb)
  have HP := Lib.hid (fun W r (h : TwoB w a b A c B d A' c' B' d' W) hr => eqTms_is A c a.proof A' c' b.proof r W ha.proof hb.proof h.pa h.pb (by have := ha.np; omega) (by have := hb.np; omega) hr)
  have HT := Lib.hid (fun W r (h : TwoB w a b A c B d A' c' B' d' W) hr => eqTxs_is B d a.txs B' d' b.txs r W ha.txs hb.txs h.ta h.tb (by have := ha.nt; omega) (by have := hb.nt; omega) hr)
  have HC := Lib.hid (fun W => eqlC ha.par hb.par W)
  have e : sameV a b = (decide (a.view = b.view) && (decide (a.round = b.round) && (decide (a.height = b.height) && (decide (a.author = b.author) && (decide (a.par = b.par) && (decide (a.proof = b.proof) && decide (a.txs = b.txs))))))) := rfl
  clear ha hb pa ta pb tb
  go_enter Tryz.func34, Tryz.ntmps34
  go_upto_region 1 with fail
  refine name_world (fun w0 hw0 => ?_)
  have hA : TwoB w a b A c B d A' c' B' d' w0 := by rw [hw0]; exact F0.out
  clear hw0 F0
  obtain ⟨⟨x0, x1, x2, x3, x12, x13⟩, y0, y1, y2, y3, y12, y13⟩ := hA.cells
  obtain ⟨px, py⟩ := hA.pars
  have hbw := hA.bw
  rcases seven (decide (a.view = b.view)) (decide (a.round = b.round)) (decide (a.height = b.height)) (decide (a.author = b.author)) (decide (a.par = b.par)) (decide (a.proof = b.proof)) (decide (a.txs = b.txs)) with a1 | ⟨a1, a2⟩ | ⟨a1, a2, a3⟩ | ⟨a1, a2, a3, a4⟩ | ⟨a1, a2, a3, a4, a5⟩ | ⟨a1, a2, a3, a4, a5, a6⟩ | ⟨a1, a2, a3, a4, a5, a6, a7⟩ | ⟨a1, a2, a3, a4, a5, a6, a7⟩
  · rw [a1] at e
    have E := Lib.hid e
    obtain ⟨q1, _⟩ := beq_d a1
    clear e a1 HP HT HC hA
    go_wp2
    go_ret
    exact ⟨by rw [E.out]; rfl, hbw⟩
  · rw [a1, a2] at e
    have E := Lib.hid e
    obtain ⟨q1, _⟩ := beq_d a1
    obtain ⟨q2, _⟩ := beq_d a2
    clear e a1 a2 HP HT HC hA
    go_wp2
    go_ret
    exact ⟨by rw [E.out]; rfl, hbw⟩
  · rw [a1, a2, a3] at e
    have E := Lib.hid e
    obtain ⟨q1, _⟩ := beq_d a1
    obtain ⟨q2, _⟩ := beq_d a2
    obtain ⟨q3, _⟩ := beq_d a3
    clear e a1 a2 a3 HP HT HC hA
    go_wp2
    go_ret
    exact ⟨by rw [E.out]; rfl, hbw⟩
  · rw [a1, a2, a3, a4] at e
    have E := Lib.hid e
    obtain ⟨q1, _⟩ := beq_d a1
    obtain ⟨q2, _⟩ := beq_d a2
    obtain ⟨q3, _⟩ := beq_d a3
    obtain ⟨q4, _⟩ := beq_d a4
    clear e a1 a2 a3 a4 HP HT HC hA
    go_wp2
    go_ret
    exact ⟨by rw [E.out]; rfl, hbw⟩
  · rw [a1, a2, a3, a4, a5] at e
    have E := Lib.hid e
    obtain ⟨q1, _⟩ := beq_d a1
    obtain ⟨q2, _⟩ := beq_d a2
    obtain ⟨q3, _⟩ := beq_d a3
    obtain ⟨q4, _⟩ := beq_d a4
    have hC := HC.out
    rw [a5] at hC
    have HC2 := Lib.hid hC
    clear e a1 a2 a3 a4 a5 HP HT HC hA hC
    go_wp2_with (first
      | (refine wpList_cells_at rfl _ _ rfl ⟨w.heap.size, 4, none⟩ rfl (crtL a.par) _ px Tryz.underlying24 rfl crtInfo ?_)
      | (refine wpList_cells_at rfl _ _ rfl ⟨w.heap.size + 1, 4, none⟩ rfl (crtL b.par) _ py Tryz.underlying24 rfl crtInfo ?_)
      | (refine wpList_binop rfl _ _ _ _ _ rfl (crtC a.par) (crtC b.par) rfl rfl (by kernel_rfl) (HC2.out _) ?_))
    go_ret
    exact ⟨by rw [E.out]; rfl, hbw⟩
  · rw [a1, a2, a3, a4, a5, a6] at e
    have E := Lib.hid e
    obtain ⟨q1, _⟩ := beq_d a1
    obtain ⟨q2, _⟩ := beq_d a2
    obtain ⟨q3, _⟩ := beq_d a3
    obtain ⟨q4, _⟩ := beq_d a4
    have hC := HC.out
    rw [a5] at hC
    have HC2 := Lib.hid hC
    have hP := HP.out w0 _ hA a6
    clear e a1 a2 a3 a4 a5 a6 HP HT HC hA hC
    go_wp2_with (first
      | (refine wpList_cells_at rfl _ _ rfl ⟨w.heap.size, 4, none⟩ rfl (crtL a.par) _ px Tryz.underlying24 rfl crtInfo ?_)
      | (refine wpList_cells_at rfl _ _ rfl ⟨w.heap.size + 1, 4, none⟩ rfl (crtL b.par) _ py Tryz.underlying24 rfl crtInfo ?_)
      | (refine wpList_binop rfl _ _ _ _ _ rfl (crtC a.par) (crtC b.par) rfl rfl (by kernel_rfl) (HC2.out _) ?_)
      | (go_at_call 33; refine hP.mono ?_; unfold gives; rintro e w1 ⟨rfl, hb1⟩))
    go_ret
    exact ⟨by rw [E.out]; rfl, nxt hbw hb1⟩
  all_goals
    rw [a1, a2, a3, a4, a5, a6, a7] at e
    have E := Lib.hid e
    obtain ⟨q1, _⟩ := beq_d a1
    obtain ⟨q2, _⟩ := beq_d a2
    obtain ⟨q3, _⟩ := beq_d a3
    obtain ⟨q4, _⟩ := beq_d a4
    have hC := HC.out
    rw [a5] at hC
    have HC2 := Lib.hid hC
    have hP := HP.out w0 _ hA a6
    have HT2 := Lib.hid (fun W h => HT.out W _ h a7)
    clear e a1 a2 a3 a4 a5 a6 a7 HP HT HC hC
    go_wp2_with (first
      | (refine wpList_cells_at rfl _ _ rfl ⟨w.heap.size, 4, none⟩ rfl (crtL a.par) _ px Tryz.underlying24 rfl crtInfo ?_)
      | (refine wpList_cells_at rfl _ _ rfl ⟨w.heap.size + 1, 4, none⟩ rfl (crtL b.par) _ py Tryz.underlying24 rfl crtInfo ?_)
      | (refine wpList_binop rfl _ _ _ _ _ rfl (crtC a.par) (crtC b.par) rfl rfl (by kernel_rfl) (HC2.out _) ?_)
      | (go_at_call 33; refine hP.mono ?_; unfold gives; rintro e w1 ⟨rfl, hb1⟩; have hB := hA.below hb1; have z13 := hB.cells.1.2.2.2.2.2; have v13 := hB.cells.2.2.2.2.2.2)
      | (go_at_call 64; refine (HT2.out _ hB).mono ?_; unfold gives; rintro e w2 ⟨rfl, hb2⟩))
    go_ret
    exact ⟨by rw [E.out]; rfl, nxt hB.bw hb2⟩
end Go.Proofs.YtgmejaiifibfoaaGreatDoor
