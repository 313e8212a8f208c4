/-
  What words say as a transaction, and a transaction with texts of its own, by the code.
-/
import Derived.Test.YtfoabgjcndgflaaDoorCutT
import Derived.Deep.RegionHeld3
import Derived.Deep.DeepCutAuto
import Derived.Deep.QuietTactic
import Derived.BigQuiet
set_option linter.unusedSimpArgs false
set_option linter.unusedVariables false
namespace Go.Proofs.YtfoabgjcndgflaaDoor
open Go.RowKit Go.Lib

/-- The nonce that a word says. -/
def nonceW (a : List UInt8) : Int := if hasSuffix a [58] = true then numW (trimSuffix a [58]) else 0
/-- What seven words say. -/
def saidT (a0 a1 a2 a3 a4 a6 : List UInt8) : Txx :=
  if a0 = wMove ∧ a3 = wGives then ⟨1, a2, a6, [], [], numW a4, nonceW a1⟩
  else if a0 = wPut ∧ a3 = wSets then ⟨2, a2, [], a4, a6, 0, nonceW a1⟩
  else ⟨0, a2, [], [], [], 0, nonceW a1⟩
theorem build_frm (a : List UInt8) (w : World) : (Instr.build 23 #[(1, .string (str a))]).run Tryd.prog w = .ok (.agg (txC ⟨0, a, [], [], [], 0, 0⟩)) w := run_build w _ _ _ (by kernel_rfl)
/-- A struct that is handed back out of its block. -/
theorem results_row {P : Program} {fn : Func} {d : Tmp} {ty : TypeId} (h : fn.results = #[.cell d ty]) (tmps : Array Value) (w : World) (g : Nat) (hx : tmps.getD d undef = .pointer (some ⟨g, 0, none⟩)) (t : TypeId) (cs : Array Value) (fr : Nat × Nat) (ds : TypeDesc)
    (hb : w.heap[g]? = some (.cells cs t fr)) (hu : P.underlying ty = some ds) (hd : (match ds with | .struct _ | .array _ _ => true | _ => false) = true) (hi : (P.info? ty).map (·.size) = some cs.size) : (results fn tmps).run P w = .ok (.agg cs) w := by
  have hx' : tmps[d]?.getD undef = .pointer (some ⟨g, 0, none⟩) := by simpa using hx
  simp [results, h, hx', asAddr, run_loadVar_row w g t ty cs fr ds hb hu hd hi]
/-- A store of a whole struct into the block that was laid last, its number named. -/
theorem wpList_store_last {P : Program} {ops : Array Oper} {rest : List Oper} {o : Oper} {a : Act} {Q : Exit → Act → World → Prop} (hw : Region.wanted o (yielded ops a.tmps) = true) (ty : TypeId) (x y : Operand) (ho : o.op = .store ty x y) (w0 : World) (g : Nat) (hg : g = w0.heap.size) (cells : Array Value) (hx : a.eval x = .pointer (some ⟨g, 0, none⟩)) (hy : a.eval y = .agg cells)
    (t : TypeId) (old : Array Value) (hi : (P.info? ty).map (·.size) = some cells.size) (hold : old.size = cells.size) (h1 : cells.all (·.oneCell') = true)
    (h : wpList P ops Q rest (a.put o.dst undef) (w0.alloc (.cells cells t))) : wpList P ops Q (o :: rest) a (w0.alloc (.cells old t)) := by
  subst hg
  exact wpList_store_new hw ty x y ho w0 cells hx hy t old hi hold h1 h
/-- What holds of the world while words are looked at. -/
def SaidAt (w : World) (g : Nat) (L : List (List UInt8)) (t : Txx) (W : World) : Prop :=
  L3.Blk W w.heap.size 23 (txC zeroX) ∧ L3.Blk W (w.heap.size + 1) 23 (txC t) ∧ RowW W g L ∧ Below w.heap.size w W
theorem SaidAt.below {w W W' : World} {g : Nat} {L : List (List UInt8)} {t : Txx} (h : SaidAt w g L t W) (hb : Below W.heap.size W W') : SaidAt w g L t W' :=
  ⟨h.1.below hb h.1.lt, h.2.1.below hb h.2.1.lt, h.2.2.1.below hb, nxt h.2.2.2 hb⟩
theorem RowW.set_ {w : World} {g : Nat} {L : List (List UInt8)} (h : RowW w g L) {p : Addr} (hp : g ≠ p.block) (u : Value) : RowW (w.setCell p u) g L := by
  refine ⟨by simpa [World.setCell] using h.1, fun j x hj => ?_⟩
  rw [← h.2 j x hj]
  exact World.cell?_of_block (a := ⟨g, j, none⟩) (Below.heap_setCell w p u g hp)
theorem SaidAt.set_ {w W : World} {g : Nat} {L : List (List UInt8)} {t : Txx} (h : SaidAt w g L t W) (hg : g < w.heap.size) (i : Nat) (u : Value) (t' : Txx) (he : (txC t).setIfInBounds i u = txC t') : SaidAt w g L t' (W.setCell ⟨w.heap.size + 1, i, none⟩ u) := by
  refine ⟨h.1.far (by simp) u, ?_, h.2.2.1.set_ (by show g ≠ w.heap.size + 1; omega) u, h.2.2.2.setCell (p := ⟨w.heap.size + 1, i, none⟩) (by show w.heap.size ≤ w.heap.size + 1; omega) u⟩
  rw [← he]
  exact h.2.1.set_ i u
theorem undrew {w w' : World} (h : Below w.drew.heap.size w.drew w') : Below w.heap.size w w' := ⟨h.os, h.tape, h.output, h.size, h.block⟩
theorem keepQ {W W' : World} {g : Nat} {a4 a6 : List UInt8} (h : W.cell? ⟨g, 4, none⟩ = some (.string (str a4)) ∧ W.cell? ⟨g, 6, none⟩ = some (.string (str a6))) (hb : Below W.heap.size W W') : W'.cell? ⟨g, 4, none⟩ = some (.string (str a4)) ∧ W'.cell? ⟨g, 6, none⟩ = some (.string (str a6)) :=
  ⟨(hb.cell (p := ⟨g, 4, none⟩) (L2.cell_in h.1)).trans h.1, (hb.cell (p := ⟨g, 6, none⟩) (L2.cell_in h.2)).trans h.2⟩
theorem keepQ_set {W : World} {g b i : Nat} {v : Value} {a4 a6 : List UInt8} (hne : g ≠ b) (h : W.cell? ⟨g, 4, none⟩ = some (.string (str a4)) ∧ W.cell? ⟨g, 6, none⟩ = some (.string (str a6))) : (W.setCell ⟨b, i, none⟩ v).cell? ⟨g, 4, none⟩ = some (.string (str a4)) ∧ (W.setCell ⟨b, i, none⟩ v).cell? ⟨g, 6, none⟩ = some (.string (str a6)) := by
  have k : ∀ j, (W.setCell ⟨b, i, none⟩ v).cell? ⟨g, j, none⟩ = W.cell? ⟨g, j, none⟩ := fun j => World.cell?_of_block (a := ⟨g, j, none⟩) (Below.heap_setCell W ⟨b, i, none⟩ v g hne)
  rw [k, k]
  exact h
/-- What a region's loads of two words meet. -/
def holdQ (g : Nat) (a4 a6 : List UInt8) (W : World) : Prop := W.cell? ⟨g, 4, none⟩ = some (sv a4) ∧ W.cell? ⟨g, 6, none⟩ = some (sv a6)
theorem wpList_store_row {P : Program} {ops : Array Oper} {rest : List Oper} {o : Oper} {a : Act} {w : World} {Q : Exit → Act → World → Prop} (hw : Region.wanted o (yielded ops a.tmps) = true) (ty : TypeId) (x y : Operand) (ho : o.op = .store ty x y) (g : Nat) (cells : Array Value) (hx : a.eval x = .pointer (some ⟨g, 0, none⟩)) (hy : a.eval y = .agg cells)
    (t : TypeId) (old : Array Value) (hb : L3.Blk w g t old) (hi : (P.info? ty).map (·.size) = some cells.size) (hold : old.size = cells.size) (h1 : cells.all (·.oneCell') = true)
    (h : wpList P ops Q rest (a.put o.dst undef) (w.setRow g cells)) : wpList P ops Q (o :: rest) a w :=
  wpList_wanted hw fun _ hK => wp_store_row ty x y ho g cells hx hy t old hb hi hold h1 (hK _ _ h)
theorem blk_setRow {w : World} {g : Nat} {t : TypeId} {old cs : Array Value} (h : L3.Blk w g t old) : L3.Blk (w.setRow g cs) g t cs := by
  unfold L3.Blk World.setRow at *
  simp [Array.getElem?_modify, h]
theorem below_setRow {B : Nat} {w W : World} {g : Nat} {cs : Array Value} (h : Below B w W) (hg : B ≤ g) : Below B w (W.setRow g cs) := by
  refine h.trans ⟨rfl, rfl, rfl, by simp [World.setRow], fun i hi => ?_⟩
  have : ¬ g = i := by omega
  simp [World.setRow, Array.getElem?_modify, this]
theorem str_is {a b : List UInt8} (h : a = b) : ((str a).toList == b) = true := by rw [str_toList, h]; simp
theorem str_not {a b : List UInt8} (h : a ≠ b) : ((str a).toList == b) = false := by rw [str_toList]; simpa using h
theorem txC_ones (t : Txx) : (txC t).all (·.oneCell') = true := by kernel_rfl
set_option maxHeartbeats 4000000 in
set_option maxRecDepth 100000 in
theorem said_any (g c : Nat) (a0 a1 a2 a3 a4 a5 a6 : List UInt8) (w : World) (h : RowW w g [a0, a1, a2, a3, a4, a5, a6]) (h1 : a1.length ≤ 1000000) (h4 : a4.length ≤ 1000000) :
    Calls Tryd.prog 33 #[.slice (some ⟨g, 0, none⟩) 7 c] w (gives (.agg (txC (saidT a0 a1 a2 a3 a4 a6))) w) := by
  have hg := h.1
  have H0 := Lib.hid h
  have c2 : w.cell? ⟨g, 2, none⟩ = some (.string (str a2)) := h.2 2 a2 rfl
  have hsx := fun W => c_suffix a1 W h1
  have hnm : hasSuffix a1 [58] = true → ∀ W, Calls Tryd.prog 51 #[.string (str (trimSuffix a1 [58]))] W (gives (.int .i64 (nonceW a1)) W) := fun hb W => by
    unfold nonceW
    rw [if_pos hb]
    exact c_number _ W (by unfold trimSuffix; split <;> simp <;> omega)
  have hn0 : hasSuffix a1 [58] = false → nonceW a1 = 0 := fun hb => by unfold nonceW; rw [if_neg (by rw [hb]; simp)]
  have hn4 := fun W => c_number a4 W h4
  obtain ⟨sx, hx⟩ : ∃ x, x = trimSuffix a1 [58] := ⟨_, rfl⟩
  obtain ⟨sb, hb⟩ : ∃ x, x = hasSuffix a1 [58] := ⟨_, rfl⟩
  obtain ⟨nn, hn⟩ : ∃ x, x = nonceW a1 := ⟨_, rfl⟩
  have hS : saidT a0 a1 a2 a3 a4 a6 = if a0 = wMove ∧ a3 = wGives then ⟨1, a2, a6, [], [], numW a4, nn⟩ else if a0 = wPut ∧ a3 = wSets then ⟨2, a2, [], a4, a6, 0, nn⟩ else ⟨0, a2, [], [], [], 0, nn⟩ := by rw [hn]; rfl
  rw [← hx, ← hb] at hsx
  rw [← hx, ← hb, ← hn] at hnm
  rw [← hb, ← hn] at hn0
  have HH := Lib.hid (And.intro hsx (And.intro hnm (And.intro hn0 (And.intro hn4 hS))))
  clear hsx hnm hn0 hn4 hS hx hb hn h h1 h4
  go_enter Tryd.func33, Tryd.ntmps33
  go_upto_region 2 with (first
    | (refine wpList_build rfl _ _ rfl #[(1, .string (str a2))] rfl (build_frm a2 _) ?_)
    | (refine wpList_store_last rfl _ _ _ rfl (w.alloc _) (w.heap.size + 1) (by simp) (txC ⟨0, a2, [], [], [], 0, 0⟩) rfl rfl _ _ (by kernel_rfl) rfl (by kernel_rfl) ?_))
  refine name_world (fun w2 hw2 => ?_)
  have hA : SaidAt w g [a0, a1, a2, a3, a4, a5, a6] ⟨0, a2, [], [], [], 0, 0⟩ w2 := by
    rw [hw2]
    have e1 : (w.alloc (.cells (txC zeroX) 23)).heap.size = w.heap.size + 1 := by simp
    have hb1 : Below w.heap.size w (w.alloc (.cells (txC zeroX) 23)) := below_box _ zeroX
    have hb2 := hb1.alloc hb1.size (.cells (txC ⟨0, a2, [], [], [], 0, 0⟩) 23)
    refine ⟨(box_new w _ zeroX).alloc _, ?_, H0.out.below hb2, hb2⟩
    have := box_new (w.alloc (.cells (txC zeroX) 23)) 23 ⟨0, a2, [], [], [], 0, 0⟩
    rw [e1] at this
    exact this
  clear hw2 c2
  have c1 : w2.cell? ⟨g, 1, none⟩ = some (.string (str a1)) := hA.2.2.1.2 1 a1 rfl
  go_upto_if 17 with (go_at_call 50; (with_reducible refine (HH.out.1 _).mono ?_); rintro e w3 ⟨rfl, rfl⟩)
  go_cut [] (fun wx => SaidAt w g [a0, a1, a2, a3, a4, a5, a6] ⟨0, a2, [], [], [], 0, nn⟩ wx)
  case first =>
    rcases Bool.eq_false_or_eq_true sb with hs | hs
    · have hN := HH.out.2.1 hs
      subst hs
      have HN := Lib.hid hN
      clear hN
      have f6 : ∀ W, SaidAt w g [a0, a1, a2, a3, a4, a5, a6] ⟨0, a2, [], [], [], 0, 0⟩ W → W.frozen? ⟨w.heap.size + 1, 6, none⟩ = false := fun W h => h.2.1.frozen 6
      have k6 : ∀ W, SaidAt w g [a0, a1, a2, a3, a4, a5, a6] ⟨0, a2, [], [], [], 0, 0⟩ W → W.cell? ⟨w.heap.size + 1, 6, none⟩ = some (.int .i64 0) := fun W h => h.2.1.cell 6
      go_wp2_with (go_at_call 51; (with_reducible refine (HN.out _).mono ?_); unfold gives; rintro e w4 ⟨rfl, hb4⟩; have hA4 := hA.below hb4; have f4 := f6 _ hA4; have k4 := k6 _ hA4)
      go_meet
      exact hA4.set_ hg 6 _ _ rfl
    · have hN := HH.out.2.2.1 hs
      subst hs
      have hA' : SaidAt w g [a0, a1, a2, a3, a4, a5, a6] ⟨0, a2, [], [], [], 0, nn⟩ w2 := by rw [hN]; exact hA
      clear hN
      go_wp2_with fail
      go_meet
      exact hA'
  case rest =>
  replace hA := hcut
  clear hcut c1
  obtain ⟨m4, hm4⟩ : ∃ x, x = numW a4 := ⟨_, rfl⟩
  have hS := HH.out.2.2.2.2
  have hN := HH.out.2.2.2.1
  rw [← hm4] at hS hN
  have HN := Lib.hid hN
  clear hN hm4 HH
  have k0 : wc.cell? ⟨g, 0, none⟩ = some (.string (str a0)) := hA.2.2.1.2 0 a0 rfl
  have k3 : wc.cell? ⟨g, 3, none⟩ = some (.string (str a3)) := hA.2.2.1.2 3 a3 rfl
  by_cases q0 : a0 = wMove
  · have q0' := str_is q0
    have q0'' : ((str a0).toList == wPut) = false := str_not (by rw [q0]; decide)
    unfold wMove at q0'
    unfold wPut at q0''
    by_cases q3 : a3 = wGives
    · have q3' := str_is q3
      unfold wGives at q3'
      rw [if_pos ⟨q0, q3⟩] at hS
      have HS := Lib.hid hS
      clear hS q0 q3 q0''
      go_upto_region 6 with fail
      have k4 : wc.cell? ⟨g, 4, none⟩ = some (.string (str a4)) := hA.2.2.1.2 4 a4 rfl
      have k6 : wc.cell? ⟨g, 6, none⟩ = some (.string (str a6)) := hA.2.2.1.2 6 a6 rfl
      have f0 := hA.2.1.frozen 0
      have f2 := hA.2.1.frozen 2
      have f5 := hA.2.1.frozen 5
      have b0 : wc.cell? ⟨w.heap.size + 1, 0, none⟩ = some (.int .i64 0) := hA.2.1.cell 0
      have b2 : wc.cell? ⟨w.heap.size + 1, 2, none⟩ = some (.string ⟨#[]⟩) := hA.2.1.cell 2
      have b5 : wc.cell? ⟨w.heap.size + 1, 5, none⟩ = some (.int .i64 0) := hA.2.1.cell 5
      go_region_held3 (fun wx => wx.cell? ⟨g, 4, none⟩ = some (.string (str a4)) ∧ wx.cell? ⟨g, 6, none⟩ = some (.string (str a6))) (first | exact ⟨by assumption, by assumption⟩ | exact keepQ (by assumption) (by assumption) | exact keepQ (W := Go.World.drew _) (by assumption) (by assumption) | exact keepQ_set (by omega) (by assumption)) (first | (go_at_call 51; (with_reducible refine (HN.out _).mono ?_); unfold gives; rintro e w4 ⟨rfl, hb4⟩; have hA4 := hA.below (W' := w4) (undrew hb4); have f0 := hA4.2.1.frozen 0; have f2 := hA4.2.1.frozen 2; have f5 := hA4.2.1.frozen 5; have b0 : w4.cell? ⟨w.heap.size + 1, 0, none⟩ = some (.int .i64 0) := hA4.2.1.cell 0; have b2 : w4.cell? ⟨w.heap.size + 1, 2, none⟩ = some (.string ⟨#[]⟩) := hA4.2.1.cell 2; have b5 : w4.cell? ⟨w.heap.size + 1, 5, none⟩ = some (.int .i64 0) := hA4.2.1.cell 5))
      have hF := ((hA4.set_ hg 0 (.int .i64 1) ⟨1, a2, [], [], [], 0, nn⟩ rfl).set_ hg 5 (.int .i64 m4) ⟨1, a2, [], [], [], m4, nn⟩ rfl).set_ hg 2 (.string (str a6)) ⟨1, a2, a6, [], [], m4, nn⟩ rfl
      go_wp2_with (first
        | (refine wpList_row_at rfl _ _ rfl (w.heap.size + 1) rfl _ _ _ _ hF.2.1 Tryd.underlying23 rfl (by kernel_rfl) ?_)
        | (refine wpList_store_row rfl _ _ _ rfl w.heap.size (txC ⟨1, a2, a6, [], [], m4, nn⟩) rfl rfl _ _ hF.1 (by kernel_rfl) rfl (txC_ones _) ?_))
      (try simp only [Exit.inBlock, Exit.then])
      refine bodyPost_ret (v := .agg (txC ⟨1, a2, a6, [], [], m4, nn⟩)) (results_row rfl _ _ w.heap.size rfl _ _ _ _ (blk_setRow hF.1) Tryd.underlying23 rfl (by kernel_rfl)) rfl ?_
      exact ⟨by rw [HS.out], below_setRow hF.2.2.2 (Nat.le_refl _)⟩
    · have q3' := str_not q3
      unfold wGives at q3'
      rw [if_neg (fun h => q3 h.2), if_neg (fun h => by have := h.1; rw [q0] at this; revert this; decide)] at hS
      have HS := Lib.hid hS
      have hF := hA
      clear hS q0 q3
      go_wp2_with (first
        | (refine wpList_row_at rfl _ _ rfl (w.heap.size + 1) rfl _ _ _ _ hF.2.1 Tryd.underlying23 rfl (by kernel_rfl) ?_)
        | (refine wpList_store_row rfl _ _ _ rfl w.heap.size (txC ⟨0, a2, [], [], [], 0, nn⟩) rfl rfl _ _ hF.1 (by kernel_rfl) rfl (txC_ones _) ?_))
      (try simp only [Exit.inBlock, Exit.then])
      refine bodyPost_ret (v := .agg (txC ⟨0, a2, [], [], [], 0, nn⟩)) (results_row rfl _ _ w.heap.size rfl _ _ _ _ (blk_setRow hF.1) Tryd.underlying23 rfl (by kernel_rfl)) rfl ?_
      exact ⟨by rw [HS.out], below_setRow hF.2.2.2 (Nat.le_refl _)⟩
  · have q0' := str_not q0
    unfold wMove at q0'
    rw [if_neg (fun h => q0 h.1)] at hS
    clear q0
    by_cases p0 : a0 = wPut
    · have p0' := str_is p0
      unfold wPut at p0'
      by_cases q3 : a3 = wSets
      · have q3' := str_is q3
        unfold wSets at q3'
        rw [if_pos ⟨p0, q3⟩] at hS
        have HS := Lib.hid hS
        clear hS p0 q3
        go_upto_region 8 with fail
        have k4 : wc.cell? ⟨g, 4, none⟩ = some (.string (str a4)) := hA.2.2.1.2 4 a4 rfl
        have k6 : wc.cell? ⟨g, 6, none⟩ = some (.string (str a6)) := hA.2.2.1.2 6 a6 rfl
        have f0 := hA.2.1.frozen 0
        have f3 := hA.2.1.frozen 3
        have f4 := hA.2.1.frozen 4
        have b0 : wc.cell? ⟨w.heap.size + 1, 0, none⟩ = some (.int .i64 0) := hA.2.1.cell 0
        have b3 : wc.cell? ⟨w.heap.size + 1, 3, none⟩ = some (.string ⟨#[]⟩) := hA.2.1.cell 3
        have b4 : wc.cell? ⟨w.heap.size + 1, 4, none⟩ = some (.string ⟨#[]⟩) := hA.2.1.cell 4
        go_region_held3 (fun wx => wx.cell? ⟨g, 4, none⟩ = some (.string (str a4)) ∧ wx.cell? ⟨g, 6, none⟩ = some (.string (str a6))) (first | exact ⟨by assumption, by assumption⟩ | exact keepQ (by assumption) (by assumption) | exact keepQ (W := Go.World.drew _) (by assumption) (by assumption) | exact keepQ_set (by omega) (by assumption)) (fail)
        have hD : SaidAt w g [a0, a1, a2, a3, a4, a5, a6] ⟨0, a2, [], [], [], 0, nn⟩ wc.drew := ⟨hA.1.drew, hA.2.1.drew, ⟨hA.2.2.1.1, hA.2.2.1.2⟩, hA.2.2.2.drew⟩
        have hF := ((hD.set_ hg 0 (.int .i64 2) ⟨2, a2, [], [], [], 0, nn⟩ rfl).set_ hg 3 (.string (str a4)) ⟨2, a2, [], a4, [], 0, nn⟩ rfl).set_ hg 4 (.string (str a6)) ⟨2, a2, [], a4, a6, 0, nn⟩ rfl
        go_wp2_with (first
          | (refine wpList_row_at rfl _ _ rfl (w.heap.size + 1) rfl _ _ _ _ hF.2.1 Tryd.underlying23 rfl (by kernel_rfl) ?_)
          | (refine wpList_store_row rfl _ _ _ rfl w.heap.size (txC ⟨2, a2, [], a4, a6, 0, nn⟩) rfl rfl _ _ hF.1 (by kernel_rfl) rfl (txC_ones _) ?_))
        (try simp only [Exit.inBlock, Exit.then])
        refine bodyPost_ret (v := .agg (txC ⟨2, a2, [], a4, a6, 0, nn⟩)) (results_row rfl _ _ w.heap.size rfl _ _ _ _ (blk_setRow hF.1) Tryd.underlying23 rfl (by kernel_rfl)) rfl ?_
        exact ⟨by rw [HS.out], below_setRow hF.2.2.2 (Nat.le_refl _)⟩
      · have q3' := str_not q3
        unfold wSets at q3'
        rw [if_neg (fun h => q3 h.2)] at hS
        have HS := Lib.hid hS
        have hF := hA
        clear hS p0 q3
        go_wp2_with (first
          | (refine wpList_row_at rfl _ _ rfl (w.heap.size + 1) rfl _ _ _ _ hF.2.1 Tryd.underlying23 rfl (by kernel_rfl) ?_)
          | (refine wpList_store_row rfl _ _ _ rfl w.heap.size (txC ⟨0, a2, [], [], [], 0, nn⟩) rfl rfl _ _ hF.1 (by kernel_rfl) rfl (txC_ones _) ?_))
        (try simp only [Exit.inBlock, Exit.then])
        refine bodyPost_ret (v := .agg (txC ⟨0, a2, [], [], [], 0, nn⟩)) (results_row rfl _ _ w.heap.size rfl _ _ _ _ (blk_setRow hF.1) Tryd.underlying23 rfl (by kernel_rfl)) rfl ?_
        exact ⟨by rw [HS.out], below_setRow hF.2.2.2 (Nat.le_refl _)⟩
    · have p0' := str_not p0
      unfold wPut at p0'
      rw [if_neg (fun h => p0 h.1)] at hS
      have HS := Lib.hid hS
      have hF := hA
      clear hS p0
      go_wp2_with (first
        | (refine wpList_row_at rfl _ _ rfl (w.heap.size + 1) rfl _ _ _ _ hF.2.1 Tryd.underlying23 rfl (by kernel_rfl) ?_)
        | (refine wpList_store_row rfl _ _ _ rfl w.heap.size (txC ⟨0, a2, [], [], [], 0, nn⟩) rfl rfl _ _ hF.1 (by kernel_rfl) rfl (txC_ones _) ?_))
      (try simp only [Exit.inBlock, Exit.then])
      refine bodyPost_ret (v := .agg (txC ⟨0, a2, [], [], [], 0, nn⟩)) (results_row rfl _ _ w.heap.size rfl _ _ _ _ (blk_setRow hF.1) Tryd.underlying23 rfl (by kernel_rfl)) rfl ?_
      exact ⟨by rw [HS.out], below_setRow hF.2.2.2 (Nat.le_refl _)⟩
end Go.Proofs.YtfoabgjcndgflaaDoor
