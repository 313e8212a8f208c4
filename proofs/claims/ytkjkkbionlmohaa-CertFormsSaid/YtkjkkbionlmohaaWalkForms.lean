/-
  The walk through the law of which certificates may be, what was signed, and their bytes.
-/
import Derived.Test.YtkjkkbionlmohaaAlive
import Derived.Test.YtkjkkbionlmohaaRefStmt
import Derived.Test.YtkjkkbionlmohaaRefBytes
import Derived.Deep.CutRange
set_option linter.unusedSimpArgs false
set_option linter.unusedVariables false
namespace Go.Proofs.Ytkjkkbionlmohaa
open Go.RowKit Go.Lib

/-- The argument's box and the copy's, behind a call of the bytes. -/
structure FormAt (w w3 : World) (g : Nat) (c p : Crt) (W : World) : Prop where
  ba : L3.Blk W w.heap.size 24 (crtC c)
  bp : L3.Blk W g 24 (crtC p)
  bw : Below w3.heap.size w3 W
  lt : w.heap.size < g
  le : w3.heap.size ≤ g
section
variable {w w3 : World} {g : Nat} {c p : Crt} {W W' : World}
theorem FormAt.below (h : FormAt w w3 g c p W) (hb : Below W.heap.size W W') : FormAt w w3 g c p W' := ⟨h.ba.below hb h.ba.lt, h.bp.below hb h.bp.lt, nxt h.bw hb, h.lt, h.le⟩
theorem FormAt.drew (h : FormAt w w3 g c p W) : FormAt w w3 g c p W.drew := ⟨h.ba.drew, h.bp.drew, h.bw.drew, h.lt, h.le⟩
theorem FormAt.set_ (h : FormAt w w3 g c p W) (i : Nat) (u : Value) (p' : Crt) (he : (crtC p).setIfInBounds i u = crtC p') : FormAt w w3 g c p' (W.setCell ⟨g, i, none⟩ u) := by
  refine ⟨h.ba.far (by show w.heap.size ≠ g; have := h.lt; omega) u, ?_, h.bw.setCell (p := ⟨g, i, none⟩) (by show w3.heap.size ≤ g; exact h.le) u, h.lt, h.le⟩
  rw [← he]
  exact h.bp.set_ i u
theorem form_new (h : L3.Blk w3 w.heap.size 24 (crtC c)) : FormAt w w3 w3.heap.size c c (w3.alloc (.cells (crtC c) 24)) :=
  ⟨h.alloc _, L3.Blk.new _ _ _, below_box _ c, h.lt, Nat.le_refl _⟩
end
/-- Bytes, or an error. -/
theorem bytes_both (c : Crt) (w : World) (h : c.wf) : Calls Try.prog 7 #[.agg (crtC c)] w fun e w' => ∃ A n k, e = .returned (.tuple #[.slice A n k, .int .i64 (errI (mayV c) 110)]) ∧ (mayV c = true → n = (bytesV c).length ∧ L3.Reads w' w'.heap.size 1 A n (byteCells (bytesV c))) ∧ (mayV c = false → n = 0) ∧ Below w.heap.size w w' := by
  rcases Bool.eq_false_or_eq_true (mayV c) with hm | hm
  · refine (bytes_ok c w h hm).mono ?_
    rintro e w' ⟨A, k, rfl, hr, _, hb⟩
    exact ⟨A, _, k, by rw [hm]; rfl, fun _ => ⟨rfl, hr⟩, fun h => (by rw [hm] at h; cases h), hb⟩
  · refine (bytes_no c w h hm).mono ?_
    rintro e w' ⟨rfl, hb⟩
    exact ⟨none, 0, 0, by rw [hm]; rfl, fun h => (by rw [hm] at h; cases h), fun _ => rfl, hb⟩
theorem conv_at {w : World} {B c : Nat} {A : Option Addr} {l : List UInt8} (h : L3.Reads w B 1 A l.length (byteCells l)) :
    (convert 26 9 (.slice A l.length c)).run Try.prog w = .ok (.string (L3.strOf l)) w := by
  have h1 := L3.conv_reads (c := c) h (Nat.le_refl _)
  rw [h1, List.take_length]; rfl
set_option maxHeartbeats 4000000 in
set_option maxRecDepth 100000 in
theorem forms_walk (c : Crt) (w : World) (h : c.wf) : Calls Try.prog 3 #[.agg (crtC c)] w (gives (.bool true) w) := by
  have hZ := Lib.hid (And.intro (box_new w 24 c) (below_box (w := w) 24 c))
  have hBy := fun W => bytes_both c W h
  have hck := fun W => check_any c W h
  have hrc := fun W => refcheck_any c W h
  have hrb := fun W hr => refbytes_any c W h hr
  obtain ⟨bs, hbs⟩ : ∃ b, b = bytesV c := ⟨_, rfl⟩
  rw [← hbs] at hBy hrb
  obtain ⟨m, hm⟩ : ∃ m, m = errI (mayV c) 110 := ⟨_, rfl⟩
  rw [← hm] at hBy hck
  have HB := Lib.hid hBy
  have HC := Lib.hid hck
  have HRC := Lib.hid hrc
  have HRB := Lib.hid hrb
  have HM := Lib.hid hm
  have HN := Lib.hid (And.intro (fun W => neqM (stmV_wf h) (stmV_wf h) W) (fun W => neqC (plainV_wf h) (plainV_wf h) W))
  have HE := Lib.hid (fun W => endorsed_any c W)
  clear hm hBy hck hrc hrb hbs h
  go_enter Try.func3, Try.ntmps3
  go_upto_region 1 with fail
  refine name_world (fun w0 hw0 => ?_)
  have hA0 : L3.Blk w0 w.heap.size 24 (crtC c) ∧ Below w.heap.size w w0 := by rw [hw0]; exact hZ.out
  obtain ⟨k0, b0⟩ := hA0
  clear hw0 hZ
  go_upto_region 5 with (first
    | (go_at_call 6; refine (alive_any _).mono ?_; unfold gives; rintro e w1 ⟨rfl, hb1⟩; have k1 := k0.below hb1 k0.lt; have b1 := nxt b0 hb1)
    | (refine wpList_row_at rfl _ _ rfl w.heap.size rfl _ _ _ _ k1 Try.underlying24 rfl crtInfo ?_)
    | (go_at_call 7; refine (HB.out _).mono ?_; rintro e w3 ⟨A3, n3, c3, rfl, hr3, hn3, hb3⟩; have k3 := k1.below hb3 k1.lt; have b3 := nxt b1 hb3; have hF := form_new k3)
    | (refine wpList_row_at rfl _ _ rfl w.heap.size rfl _ _ _ _ k3 Try.underlying24 rfl crtInfo ?_)
    | (refine wpList_store_new rfl _ _ _ rfl w3 (crtC c) rfl rfl _ _ crtInfo rfl (crtC_ones _) ?_))
  refine name_world (fun w4 hw4 => ?_)
  obtain ⟨g, hg⟩ : ∃ g, g = w3.heap.size := ⟨_, rfl⟩
  have hF4 : FormAt w w3 g c c w4 := by rw [hw4, hg]; exact hF
  have HR := Lib.hid hr3
  have HN3 := Lib.hid hn3
  rw [← hg]
  clear hw4 hg hF hr3 hn3 HB k0 k1 k3 b0 b1 hb1 hb3
  have hF5 := hF4.set_ 6 (.int .u32 0) { c with sg := 0 } rfl
  have f0 := hF4.bp.frozen 6
  have s0 : w4.cell? ⟨g, 6, none⟩ = some (.int .u32 c.sg) := hF4.bp.cell 6
  go_upto_region 6 with fail
  refine name_world (fun w5 hw5 => ?_)
  rw [← hw5] at hF5
  clear hw5 f0 s0 hF4
  have hF6 := hF5.set_ 7 (.int .u32 0) (plainV c) rfl
  have f0 := hF5.bp.frozen 7
  have s0 : w5.cell? ⟨g, 7, none⟩ = some (.int .u32 c.co) := hF5.bp.cell 7
  go_upto_region 7 with fail
  refine name_world (fun w6 hw6 => ?_)
  rw [← hw6] at hF6
  clear hw6 f0 s0 hF5
  go_cut [39] from 16 to 38 (fun s39 wx => s39 = .bool false ∧ FormAt w w3 g c (plainV c) wx)
  case first =>
    have hD := hF6.drew
    have ne : Nonempty (WorldIn (FormAt w w3 g c (plainV c))) := ⟨⟨_, hD⟩⟩
    clear HC HRC HRB HM HR HN3
    have ya0 : ∀ y : WorldIn (FormAt w w3 g c (plainV c)), y.w.cell? ⟨w.heap.size, 0, none⟩ = some (.int .i64 c.kind) := fun y => y.h.ba.cell 0
    have ya7 : ∀ y : WorldIn (FormAt w w3 g c (plainV c)), y.w.cell? ⟨w.heap.size, 7, none⟩ = some (.int .u32 c.co) := fun y => y.h.ba.cell 7
    have hen := HE.out
    rcases Bool.eq_false_or_eq_true (decide (c.kind = 2)) with hk | hk
    · rcases Bool.eq_false_or_eq_true (!decide (c.co = 0)) with hz | hz
      · have e : endV c = true := by unfold endV; rw [hk, hz]; rfl
        obtain ⟨z0, z1⟩ := nat_no0 hz
        rw [e] at hen
        rw [of_decide_eq_true hk] at ya0
        have HE2 := Lib.hid hen
        clear hen HE e hk hz
        refine wp_region_S (FormAt w w3 g c (plainV c)) (by kernel_rfl) (by kernel_rfl) hD ?_
        iterate 24 (first
          | (refine wpQuiet_row rfl _ _ rfl w.heap.size rfl _ _ _ _ (fun y => y.h.ba) Try.underlying24 rfl crtInfo ?_
             conv => arg 6; simp only [Act.put, List.setIfInBounds_toArray, List.set_cons_zero, List.set_cons_succ])
          | (refine wpQuiet_row rfl _ _ rfl g rfl _ _ _ _ (fun y => y.h.bp) Try.underlying24 rfl crtInfo ?_
             conv => arg 6; simp only [Act.put, List.setIfInBounds_toArray, List.set_cons_zero, List.set_cons_succ])
          | (refine wpQuiet_fn rfl 8 _ _ rfl Try.call8 [.agg (crtC c)] rfl (v := .agg (stmC (stmV c))) (fun x => (stmt_any c x.w).mono fun e w' ⟨he, hb⟩ => ⟨he, x.h.below hb⟩) ?_
             conv => arg 6; simp only [Act.put, List.setIfInBounds_toArray, List.set_cons_zero, List.set_cons_succ])
          | (refine wpQuiet_fn rfl 9 _ _ rfl Try.call9 [.agg (crtC c)] rfl (v := .agg (stmC (stmV c))) (fun x => (refstmt_any c x.w).mono fun e w' ⟨he, hb⟩ => ⟨he, x.h.below hb⟩) ?_
             conv => arg 6; simp only [Act.put, List.setIfInBounds_toArray, List.set_cons_zero, List.set_cons_succ])
          | (refine wpQuiet_fn rfl 10 _ _ rfl Try.call10 [.agg (crtC c)] rfl (v := .agg (crtC (plainV c))) (fun x => (plain_any c x.w).mono fun e w' ⟨he, hb⟩ => ⟨he, x.h.below hb⟩) ?_
             conv => arg 6; simp only [Act.put, List.setIfInBounds_toArray, List.set_cons_zero, List.set_cons_succ])
          | (refine wpQuiet_fn rfl 11 _ _ rfl Try.call11 [.agg (crtC c)] rfl (v := _) (fun x => (HE2.out x.w).mono fun e w' ⟨he, hb⟩ => ⟨he, x.h.below hb⟩) ?_
             conv => arg 6; simp only [Act.put, List.setIfInBounds_toArray, List.set_cons_zero, List.set_cons_succ])
          | (refine wpQuiet_binop rfl _ _ _ _ _ rfl (stmC (stmV c)) (stmC (stmV c)) rfl rfl (by kernel_rfl) (v := .bool false) (fun W => by rw [HN.out.1 W]; simp) ?_
             conv => arg 6; simp only [Act.put, List.setIfInBounds_toArray, List.set_cons_zero, List.set_cons_succ])
          | (refine wpQuiet_binop rfl _ _ _ _ _ rfl (crtC (plainV c)) (crtC (plainV c)) rfl rfl (by kernel_rfl) (v := .bool false) (fun W => by rw [HN.out.2 W]; simp) ?_
             conv => arg 6; simp only [Act.put, List.setIfInBounds_toArray, List.set_cons_zero, List.set_cons_succ])
          | go_big_quiet_step (fail))
        refine wpQuiet_nil ?_
        intro x
        obtain ⟨w7, hA7⟩ := x
        dsimp only
        go_wp2
        go_meet
        exact ⟨rfl, hA7⟩
      · have e : endV c = false := by unfold endV; rw [hk, hz]; rfl
        obtain ⟨z0, z1⟩ := nat_is0 hz
        rw [e] at hen
        rw [of_decide_eq_true hk] at ya0
        have HE2 := Lib.hid hen
        clear hen HE e hk hz
        refine wp_region_S (FormAt w w3 g c (plainV c)) (by kernel_rfl) (by kernel_rfl) hD ?_
        iterate 24 (first
          | (refine wpQuiet_row rfl _ _ rfl w.heap.size rfl _ _ _ _ (fun y => y.h.ba) Try.underlying24 rfl crtInfo ?_
             conv => arg 6; simp only [Act.put, List.setIfInBounds_toArray, List.set_cons_zero, List.set_cons_succ])
          | (refine wpQuiet_row rfl _ _ rfl g rfl _ _ _ _ (fun y => y.h.bp) Try.underlying24 rfl crtInfo ?_
             conv => arg 6; simp only [Act.put, List.setIfInBounds_toArray, List.set_cons_zero, List.set_cons_succ])
          | (refine wpQuiet_fn rfl 8 _ _ rfl Try.call8 [.agg (crtC c)] rfl (v := .agg (stmC (stmV c))) (fun x => (stmt_any c x.w).mono fun e w' ⟨he, hb⟩ => ⟨he, x.h.below hb⟩) ?_
             conv => arg 6; simp only [Act.put, List.setIfInBounds_toArray, List.set_cons_zero, List.set_cons_succ])
          | (refine wpQuiet_fn rfl 9 _ _ rfl Try.call9 [.agg (crtC c)] rfl (v := .agg (stmC (stmV c))) (fun x => (refstmt_any c x.w).mono fun e w' ⟨he, hb⟩ => ⟨he, x.h.below hb⟩) ?_
             conv => arg 6; simp only [Act.put, List.setIfInBounds_toArray, List.set_cons_zero, List.set_cons_succ])
          | (refine wpQuiet_fn rfl 10 _ _ rfl Try.call10 [.agg (crtC c)] rfl (v := .agg (crtC (plainV c))) (fun x => (plain_any c x.w).mono fun e w' ⟨he, hb⟩ => ⟨he, x.h.below hb⟩) ?_
             conv => arg 6; simp only [Act.put, List.setIfInBounds_toArray, List.set_cons_zero, List.set_cons_succ])
          | (refine wpQuiet_fn rfl 11 _ _ rfl Try.call11 [.agg (crtC c)] rfl (v := _) (fun x => (HE2.out x.w).mono fun e w' ⟨he, hb⟩ => ⟨he, x.h.below hb⟩) ?_
             conv => arg 6; simp only [Act.put, List.setIfInBounds_toArray, List.set_cons_zero, List.set_cons_succ])
          | (refine wpQuiet_binop rfl _ _ _ _ _ rfl (stmC (stmV c)) (stmC (stmV c)) rfl rfl (by kernel_rfl) (v := .bool false) (fun W => by rw [HN.out.1 W]; simp) ?_
             conv => arg 6; simp only [Act.put, List.setIfInBounds_toArray, List.set_cons_zero, List.set_cons_succ])
          | (refine wpQuiet_binop rfl _ _ _ _ _ rfl (crtC (plainV c)) (crtC (plainV c)) rfl rfl (by kernel_rfl) (v := .bool false) (fun W => by rw [HN.out.2 W]; simp) ?_
             conv => arg 6; simp only [Act.put, List.setIfInBounds_toArray, List.set_cons_zero, List.set_cons_succ])
          | go_big_quiet_step (fail))
        refine wpQuiet_nil ?_
        intro x
        obtain ⟨w7, hA7⟩ := x
        dsimp only
        go_wp2
        go_meet
        exact ⟨rfl, hA7⟩
    · have e : endV c = false := by unfold endV; rw [hk]; rfl
      have z0 : (c.kind == 2) = false := by have := of_decide_eq_false hk; simpa using this
      rw [e] at hen
      have HE2 := Lib.hid hen
      clear hen HE e hk
      refine wp_region_S (FormAt w w3 g c (plainV c)) (by kernel_rfl) (by kernel_rfl) hD ?_
      iterate 24 (first
        | (refine wpQuiet_row rfl _ _ rfl w.heap.size rfl _ _ _ _ (fun y => y.h.ba) Try.underlying24 rfl crtInfo ?_
           conv => arg 6; simp only [Act.put, List.setIfInBounds_toArray, List.set_cons_zero, List.set_cons_succ])
        | (refine wpQuiet_row rfl _ _ rfl g rfl _ _ _ _ (fun y => y.h.bp) Try.underlying24 rfl crtInfo ?_
           conv => arg 6; simp only [Act.put, List.setIfInBounds_toArray, List.set_cons_zero, List.set_cons_succ])
        | (refine wpQuiet_fn rfl 8 _ _ rfl Try.call8 [.agg (crtC c)] rfl (v := .agg (stmC (stmV c))) (fun x => (stmt_any c x.w).mono fun e w' ⟨he, hb⟩ => ⟨he, x.h.below hb⟩) ?_
           conv => arg 6; simp only [Act.put, List.setIfInBounds_toArray, List.set_cons_zero, List.set_cons_succ])
        | (refine wpQuiet_fn rfl 9 _ _ rfl Try.call9 [.agg (crtC c)] rfl (v := .agg (stmC (stmV c))) (fun x => (refstmt_any c x.w).mono fun e w' ⟨he, hb⟩ => ⟨he, x.h.below hb⟩) ?_
           conv => arg 6; simp only [Act.put, List.setIfInBounds_toArray, List.set_cons_zero, List.set_cons_succ])
        | (refine wpQuiet_fn rfl 10 _ _ rfl Try.call10 [.agg (crtC c)] rfl (v := .agg (crtC (plainV c))) (fun x => (plain_any c x.w).mono fun e w' ⟨he, hb⟩ => ⟨he, x.h.below hb⟩) ?_
           conv => arg 6; simp only [Act.put, List.setIfInBounds_toArray, List.set_cons_zero, List.set_cons_succ])
        | (refine wpQuiet_fn rfl 11 _ _ rfl Try.call11 [.agg (crtC c)] rfl (v := _) (fun x => (HE2.out x.w).mono fun e w' ⟨he, hb⟩ => ⟨he, x.h.below hb⟩) ?_
           conv => arg 6; simp only [Act.put, List.setIfInBounds_toArray, List.set_cons_zero, List.set_cons_succ])
        | (refine wpQuiet_binop rfl _ _ _ _ _ rfl (stmC (stmV c)) (stmC (stmV c)) rfl rfl (by kernel_rfl) (v := .bool false) (fun W => by rw [HN.out.1 W]; simp) ?_
           conv => arg 6; simp only [Act.put, List.setIfInBounds_toArray, List.set_cons_zero, List.set_cons_succ])
        | (refine wpQuiet_binop rfl _ _ _ _ _ rfl (crtC (plainV c)) (crtC (plainV c)) rfl rfl (by kernel_rfl) (v := .bool false) (fun W => by rw [HN.out.2 W]; simp) ?_
           conv => arg 6; simp only [Act.put, List.setIfInBounds_toArray, List.set_cons_zero, List.set_cons_succ])
        | go_big_quiet_step (fail))
      refine wpQuiet_nil ?_
      intro x
      obtain ⟨w7, hA7⟩ := x
      dsimp only
      go_wp2
      go_meet
      exact ⟨rfl, hA7⟩
  case rest =>
    obtain ⟨rfl, hT⟩ := hcut
    clear HE HN hF6
    rcases Bool.eq_false_or_eq_true (mayV c) with hma | hma
    · have hrc := HRC.out
      rw [hma] at hrc
      have hm0 : m = 0 := by rw [HM.out, hma]; rfl
      have hck := HC.out
      rw [hm0] at hck
      obtain ⟨rfl, r3⟩ := HR.out hma
      have hrb := fun W => HRB.out W hma
      subst hm0
      have H1 := Lib.hid hrc
      have H2 := Lib.hid hck
      have H3 := Lib.hid hrb
      clear hrc hck hrb HC HRC HRB HR HN3 HM hma
      go_upto_region 11 with (first
        | (refine wpList_row_at rfl _ _ rfl w.heap.size rfl _ _ _ _ hT.ba Try.underlying24 rfl crtInfo ?_)
        | (go_at_call 12; (with_reducible refine (H1.out _).mono ?_); unfold gives; rintro e w7 ⟨rfl, hb7⟩; have hT7 := hT.below hb7))
      have hD := hT7.drew
      have ne : Nonempty (WorldIn (FormAt w w3 g c (plainV c))) := ⟨⟨_, hD⟩⟩
      have pc : ∀ y : WorldIn (FormAt w w3 g c (plainV c)), (convert 26 9 (.slice A3 bs.length c3)).run Try.prog y.w = .ok (.string (L3.strOf bs)) y.w := fun y => conv_at (r3.below y.h.bw)
      clear hT hT7 hb7 r3 H1
      refine wp_region_S (FormAt w w3 g c (plainV c)) (by kernel_rfl) (by kernel_rfl) hD ?_
      iterate 15 (first
        | (refine wpQuiet_row rfl _ _ rfl w.heap.size rfl _ _ _ _ (fun y => y.h.ba) Try.underlying24 rfl crtInfo ?_
           conv => arg 6; simp only [Act.put, List.setIfInBounds_toArray, List.set_cons_zero, List.set_cons_succ])
        | (refine wpQuiet_fn rfl 13 _ _ rfl Try.call13 [.agg (crtC c)] rfl (v := _) (fun x => (H2.out x.w).mono fun e w' ⟨he, hb⟩ => ⟨he, x.h.below hb⟩) ?_
           conv => arg 6; simp only [Act.put, List.setIfInBounds_toArray, List.set_cons_zero, List.set_cons_succ])
        | (refine wpQuiet_fn rfl 14 _ _ rfl Try.call14 [.agg (crtC c)] rfl (v := _) (fun x => (H3.out x.w).mono fun e w' ⟨he, hb⟩ => ⟨he, x.h.below hb⟩) ?_
           conv => arg 6; simp only [Act.put, List.setIfInBounds_toArray, List.set_cons_zero, List.set_cons_succ])
        | go_big_quiet_step (fail))
      refine wpQuiet_nil ?_
      intro x
      obtain ⟨w8, hA8⟩ := x
      dsimp only
      go_wp2
      go_ret
      exact ⟨rfl, b3.trans (hA8.bw.mono b3.size)⟩
    · have hrc := HRC.out
      rw [hma] at hrc
      have hm0 : m = 110 := by rw [HM.out, hma]; rfl
      have hck := HC.out
      rw [hm0] at hck
      obtain rfl := HN3.out hma
      subst hm0
      have H1 := Lib.hid hrc
      have H2 := Lib.hid hck
      clear hrc hck HC HRC HRB HR HN3 HM hma
      go_wp2_with (first
        | (refine wpList_row_at rfl _ _ rfl w.heap.size rfl _ _ _ _ hT.ba Try.underlying24 rfl crtInfo ?_)
        | (go_at_call 12; (with_reducible refine (H1.out _).mono ?_); unfold gives; rintro e w7 ⟨rfl, hb7⟩; have hT7 := hT.below hb7)
        | (refine wpList_row_at rfl _ _ rfl w.heap.size rfl _ _ _ _ hT7.ba Try.underlying24 rfl crtInfo ?_)
        | (go_at_call 13; (with_reducible refine (H2.out _).mono ?_); unfold gives; rintro e w8 ⟨rfl, hb8⟩; have hT8 := hT7.below hb8))
      go_ret
      exact ⟨rfl, b3.trans (hT8.bw.mono b3.size)⟩
end Go.Proofs.Ytkjkkbionlmohaa
