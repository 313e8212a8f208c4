import Derived.Test.YtomaaidhmccngaaGreatDoorBytesT
import Derived.Deep.RegionHeld3
import Derived.Deep.DeepCutAuto
set_option linter.unusedSimpArgs false
set_option linter.unusedVariables false
set_option maxRecDepth 100000
set_option maxHeartbeats 16000000
namespace Go.Proofs.YtomaaidhmccngaaGreatDoor
open Go.RowKit Go.Lib
open L3 (encN)
theorem qgm (k : Int) (w : World) (hk : 0 <= k /\ k <= 4611686018427387904) : Calls Tryz.prog 153 #[.int .i64 k] w (gives (.tuple #[.string (str (encN k.toNat)), .bool true]) w) := by
 obtain ⟨m, rfl⟩ := Int.eq_ofNat_of_zero_le hk.1
 exact (L3.qhH m w (by omega)).mono fun _ _ h => h
theorem qfG (k : Int) (w : World) (hk : 0 <= k /\ k <= 4611686018427387904) : Calls Tryz.prog 112 #[.int .i64 k] w (gives (.string (str (encN k.toNat))) w) := by
 obtain ⟨m, rfl⟩ := Int.eq_ofNat_of_zero_le hk.1
 exact (L3.refN_ok m w (by omega)).mono fun _ _ h => h
theorem qhc (l : List UInt8) (w : World) (h : l.length <= 1000000) : Calls Tryz.prog 154 #[.string (str l)] w (gives (.string (str (txtB l))) w) := by
 refine (L3.refT_ok (str l) w (by rw [qa4]; omega)).mono fun _ _ h => ?_
 rw [qa4, qeb] at h
 exact h
theorem qb1 {a b : List UInt8} {n m : Nat} (ha : a.length <= n) (hb : b.length <= m) (hn : n + m <= 1000000) : ¬ 9223372036854775807 < (str a).size + (str b).size := by rw [qa4, qa4]; omega
theorem qcu (t : Txx) (w : World) (hr : right t = true) : Calls Tryz.prog 114 #[.agg (txC t)] w (gives (.string (str (bytesT t))) w) := by
 have hwf := qeO hr
 have hb0 : Below w.heap.size w (w.alloc (.cells (txC t) 133)) := qa9 _ t
 have B0 := hid (fun w1 => @qdA w w1 133 t)
 obtain ⟨c0, c1, c2, c3, c4, c5, c6⟩ := qaX (qa6 w 133 t)
 obtain ⟨_, w1, w2, w3, w4, _, _⟩ := hwf
 by_cases hk : t.kind = 1
 ·obtain ⟨p1, p2, p3, p4, p5, p6⟩ := qcf hr hk
  have n1 := qbB p1
  have n4 := qbB p4
  obtain ⟨x1, hx1⟩ := nm (encN (1 : Int).toNat)
  obtain ⟨x2, hx2⟩ := nm (encN t.nonce.toNat)
  obtain ⟨x3, hx3⟩ := nm (txtB t.frm)
  obtain ⟨x4, hx4⟩ := nm (txtB t.to)
  obtain ⟨x5, hx5⟩ := nm (encN t.amount.toNat)
  obtain ⟨z1, hz1⟩ := nm (x1 ++ x2)
  obtain ⟨z2, hz2⟩ := nm (z1 ++ x3)
  obtain ⟨z3, hz3⟩ := nm (z2 ++ x4)
  obtain ⟨z4, hz4⟩ := nm (z3 ++ x5)
  have l1 : x1.length <= 9 := by rw [hx1]; exact qaE ⟨by omega, by omega⟩
  have l2 : x2.length <= 9 := by rw [hx2]; exact qaE ⟨by omega, by omega⟩
  have l3 : x3.length <= 137 := by rw [hx3]; exact qbZ w1
  have l4 : x4.length <= 137 := by rw [hx4]; exact qbZ w2
  have l5 : x5.length <= 9 := by rw [hx5]; exact qaE ⟨by omega, by omega⟩
  have m1 : z1.length <= 18 := by rw [hz1]; exact qaL _ _ _ _ l1 l2
  have m2 : z2.length <= 155 := by rw [hz2]; exact qaL _ _ _ _ m1 l3
  have m3 : z3.length <= 292 := by rw [hz3]; exact qaL _ _ _ _ m2 l4
  have hN := fun wx => qfG 1 wx ⟨by omega, by omega⟩
  rw [<- hx1] at hN
  have hM := fun wx => qgm t.nonce wx ⟨by omega, n1.2⟩
  rw [<- hx2] at hM
  have hF := fun wx => qhc t.frm wx (by omega)
  rw [<- hx3] at hF
  have hO := fun wx => qhc t.to wx (by omega)
  rw [<- hx4] at hO
  have hA := fun wx => qgm t.amount wx ⟨by omega, n4.2⟩
  rw [<- hx5] at hA
  have s1 : str x1 ++ str x2 = str z1 := by rw [hz1]; exact qcL _ _
  have s2 : str z1 ++ str x3 = str z2 := by rw [hz2]; exact qcL _ _
  have s3 : str z2 ++ str x4 = str z3 := by rw [hz3]; exact qcL _ _
  have s4 : str z3 ++ str x5 = str z4 := by rw [hz4]; exact qcL _ _
  have a1 := qb1 l1 l2 (by omega)
  have a2 := qb1 m1 l3 (by omega)
  have a3 := qb1 m2 l4 (by omega)
  have a4 := qb1 m3 l5 (by omega)
  have e : bytesT t = z4 := by rw [hz4, hz3, hz2, hz1, hx1, hx2, hx3, hx4, hx5]; unfold bytesT; rw [if_pos hk, hk]; simp
  rw [e]
  have HH := hid (And.intro hN (And.intro hM (And.intro hF (And.intro hO hA))))
  rw [hk] at c0
  have B1 : Hid (∀ w1, Below (w.alloc (.cells (txC t) 133)).heap.size (w.alloc (.cells (txC t) 133)) w1 -> Box w1 w.heap.size 1 t.frm t.to t.key t.val t.amount t.nonce) := hid fun w1 h => by have := B0.out w1 h; rw [hk] at this; exact this
  clear hN hM hF hO hA hx1 hx2 hx3 hx4 hx5 hz1 hz2 hz3 hz4 l1 l2 l3 l4 l5 m1 m2 m3 e hk hr B0 p1 p2 p3 p4 p5 p6 n1 n4 w1 w2 w3 w4
  go_enter Tryz.func114, Tryz.ntmps114
  go_upto_region 2 with (go_at_call 153; refine (HH.out.2.1 _).mono ?_; unfold gives; rintro e w1 ⟨rfl, hb1⟩)
  obtain ⟨d0, d1, d2, d3, d4, d5, d6⟩ := B1.out _ hb1
  replace hb1 := nxt hb0 hb1
  clear c0 c1 c2 c3 c4 c5 c6
  go_region_held3 (fun wx => Below w1.heap.size w1 wx /\ wx.cell? ⟨w.heap.size, 0, none⟩ = some (.int .i64 1) /\ wx.cell? ⟨w.heap.size, 1, none⟩ = some (.string (str t.frm)) /\ wx.cell? ⟨w.heap.size, 2, none⟩ = some (.string (str t.to)) /\ wx.cell? ⟨w.heap.size, 3, none⟩ = some (.string (str t.key)) /\ wx.cell? ⟨w.heap.size, 4, none⟩ = some (.string (str t.val)) /\ wx.cell? ⟨w.heap.size, 5, none⟩ = some (.int .i64 t.amount) /\ wx.cell? ⟨w.heap.size, 6, none⟩ = some (.int .i64 t.nonce)) (first | exact ⟨Below.refl _ _, by assumption, by assumption, by assumption, by assumption, by assumption, by assumption, by assumption⟩ | assumption | exact keep7 (by assumption) (by assumption) | exact qce (by assumption) | exact qce ⟨Below.refl _ _, by assumption, by assumption, by assumption, by assumption, by assumption, by assumption, by assumption⟩) (first | (go_at_call 112; (with_reducible refine (HH.out.1 _).mono ?_); unfold gives; rintro e w2 ⟨rfl, hb2⟩) | (go_at_call 154; (with_reducible refine (HH.out.2.2.1 _).mono ?_); unfold gives; rintro e w3 ⟨rfl, hb3⟩))
  have hS : (fun wx => Below w1.heap.size w1 wx /\ wx.cell? ⟨w.heap.size, 0, none⟩ = some (.int .i64 1) /\ wx.cell? ⟨w.heap.size, 1, none⟩ = some (.string (str t.frm)) /\ wx.cell? ⟨w.heap.size, 2, none⟩ = some (.string (str t.to)) /\ wx.cell? ⟨w.heap.size, 3, none⟩ = some (.string (str t.key)) /\ wx.cell? ⟨w.heap.size, 4, none⟩ = some (.string (str t.val)) /\ wx.cell? ⟨w.heap.size, 5, none⟩ = some (.int .i64 t.amount) /\ wx.cell? ⟨w.heap.size, 6, none⟩ = some (.int .i64 t.nonce)) w3 := by assumption
  obtain ⟨hb13, g0, g1, g2, g3, g4, g5, g6⟩ := hS
  replace hb13 := nxt hb1 hb13
  clear d0 d1 d2 d3 d4 d5 d6
  go_wp2_with (first
   | (go_at_call 153; (with_reducible refine (HH.out.2.2.2.2 _).mono ?_); unfold gives; rintro e w4 ⟨rfl, hb4⟩; have i2 := (hb4.cell (L2.qbe g2)).trans g2)
   | (go_at_call 154; (with_reducible refine (HH.out.2.2.2.1 _).mono ?_); unfold gives; rintro e w5 ⟨rfl, hb5⟩))
  go_ret
  exact ⟨rfl, nxt (nxt hb13 hb4) hb5⟩
 ·obtain ⟨p1, p2, p3, p4, p5, p6, hk2⟩ := qc7 hr hk
  have n1 := qbB p1
  obtain ⟨x1, hx1⟩ := nm (encN (2 : Int).toNat)
  obtain ⟨x2, hx2⟩ := nm (encN t.nonce.toNat)
  obtain ⟨x3, hx3⟩ := nm (txtB t.frm)
  obtain ⟨x4, hx4⟩ := nm (txtB t.key)
  obtain ⟨x5, hx5⟩ := nm (txtB t.val)
  obtain ⟨z1, hz1⟩ := nm (x1 ++ x2)
  obtain ⟨z2, hz2⟩ := nm (z1 ++ x3)
  obtain ⟨z3, hz3⟩ := nm (z2 ++ x4)
  obtain ⟨z4, hz4⟩ := nm (z3 ++ x5)
  have l1 : x1.length <= 9 := by rw [hx1]; exact qaE ⟨by omega, by omega⟩
  have l2 : x2.length <= 9 := by rw [hx2]; exact qaE ⟨by omega, by omega⟩
  have l3 : x3.length <= 137 := by rw [hx3]; exact qbZ w1
  have l4 : x4.length <= 137 := by rw [hx4]; exact qbZ w3
  have l5 : x5.length <= 137 := by rw [hx5]; exact qbZ w4
  have m1 : z1.length <= 18 := by rw [hz1]; exact qaL _ _ _ _ l1 l2
  have m2 : z2.length <= 155 := by rw [hz2]; exact qaL _ _ _ _ m1 l3
  have m3 : z3.length <= 292 := by rw [hz3]; exact qaL _ _ _ _ m2 l4
  have hN := fun wx => qfG 2 wx ⟨by omega, by omega⟩
  rw [<- hx1] at hN
  have hM := fun wx => qgm t.nonce wx ⟨by omega, n1.2⟩
  rw [<- hx2] at hM
  have hF := fun wx => qhc t.frm wx (by omega)
  rw [<- hx3] at hF
  have hO := fun wx => qhc t.key wx (by omega)
  rw [<- hx4] at hO
  have hA := fun wx => qhc t.val wx (by omega)
  rw [<- hx5] at hA
  have s1 : str x1 ++ str x2 = str z1 := by rw [hz1]; exact qcL _ _
  have s2 : str z1 ++ str x3 = str z2 := by rw [hz2]; exact qcL _ _
  have s3 : str z2 ++ str x4 = str z3 := by rw [hz3]; exact qcL _ _
  have s4 : str z3 ++ str x5 = str z4 := by rw [hz4]; exact qcL _ _
  have a1 := qb1 l1 l2 (by omega)
  have a2 := qb1 m1 l3 (by omega)
  have a3 := qb1 m2 l4 (by omega)
  have a4 := qb1 m3 l5 (by omega)
  have e : bytesT t = z4 := by rw [hz4, hz3, hz2, hz1, hx1, hx2, hx3, hx4, hx5]; unfold bytesT; rw [if_neg hk, hk2]; simp
  rw [e]
  have HH := hid (And.intro hN (And.intro hM (And.intro hF (And.intro hO hA))))
  rw [hk2] at c0
  have B1 : Hid (∀ w1, Below (w.alloc (.cells (txC t) 133)).heap.size (w.alloc (.cells (txC t) 133)) w1 -> Box w1 w.heap.size 2 t.frm t.to t.key t.val t.amount t.nonce) := hid fun w1 h => by have := B0.out w1 h; rw [hk2] at this; exact this
  clear hN hM hF hO hA hx1 hx2 hx3 hx4 hx5 hz1 hz2 hz3 hz4 l1 l2 l3 l4 l5 m1 m2 m3 e hk hk2 hr B0 p1 p2 p3 p4 p5 p6 n1 w1 w2 w3 w4
  go_enter Tryz.func114, Tryz.ntmps114
  go_upto_region 2 with (go_at_call 153; refine (HH.out.2.1 _).mono ?_; unfold gives; rintro e w1 ⟨rfl, hb1⟩)
  obtain ⟨d0, d1, d2, d3, d4, d5, d6⟩ := B1.out _ hb1
  replace hb1 := nxt hb0 hb1
  clear c0 c1 c2 c3 c4 c5 c6
  go_region_held3 (fun wx => Below w1.heap.size w1 wx /\ wx.cell? ⟨w.heap.size, 0, none⟩ = some (.int .i64 2) /\ wx.cell? ⟨w.heap.size, 1, none⟩ = some (.string (str t.frm)) /\ wx.cell? ⟨w.heap.size, 2, none⟩ = some (.string (str t.to)) /\ wx.cell? ⟨w.heap.size, 3, none⟩ = some (.string (str t.key)) /\ wx.cell? ⟨w.heap.size, 4, none⟩ = some (.string (str t.val)) /\ wx.cell? ⟨w.heap.size, 5, none⟩ = some (.int .i64 t.amount) /\ wx.cell? ⟨w.heap.size, 6, none⟩ = some (.int .i64 t.nonce)) (first | exact ⟨Below.refl _ _, by assumption, by assumption, by assumption, by assumption, by assumption, by assumption, by assumption⟩ | assumption | exact keep7 (by assumption) (by assumption) | exact qce (by assumption) | exact qce ⟨Below.refl _ _, by assumption, by assumption, by assumption, by assumption, by assumption, by assumption, by assumption⟩) (first | (go_at_call 112; (with_reducible refine (HH.out.1 _).mono ?_); unfold gives; rintro e w2 ⟨rfl, hb2⟩) | (go_at_call 154; (with_reducible refine (HH.out.2.2.1 _).mono ?_); unfold gives; rintro e w3 ⟨rfl, hb3⟩))
  have hS : (fun wx => Below w1.heap.size w1 wx /\ wx.cell? ⟨w.heap.size, 0, none⟩ = some (.int .i64 2) /\ wx.cell? ⟨w.heap.size, 1, none⟩ = some (.string (str t.frm)) /\ wx.cell? ⟨w.heap.size, 2, none⟩ = some (.string (str t.to)) /\ wx.cell? ⟨w.heap.size, 3, none⟩ = some (.string (str t.key)) /\ wx.cell? ⟨w.heap.size, 4, none⟩ = some (.string (str t.val)) /\ wx.cell? ⟨w.heap.size, 5, none⟩ = some (.int .i64 t.amount) /\ wx.cell? ⟨w.heap.size, 6, none⟩ = some (.int .i64 t.nonce)) w3 := by assumption
  obtain ⟨hb13, g0, g1, g2, g3, g4, g5, g6⟩ := hS
  replace hb13 := nxt hb1 hb13
  clear d0 d1 d2 d3 d4 d5 d6
  go_upto_region 4 with fail
  go_region_held3 (fun wx => Below w3.heap.size w3 wx /\ wx.cell? ⟨w.heap.size, 0, none⟩ = some (.int .i64 2) /\ wx.cell? ⟨w.heap.size, 1, none⟩ = some (.string (str t.frm)) /\ wx.cell? ⟨w.heap.size, 2, none⟩ = some (.string (str t.to)) /\ wx.cell? ⟨w.heap.size, 3, none⟩ = some (.string (str t.key)) /\ wx.cell? ⟨w.heap.size, 4, none⟩ = some (.string (str t.val)) /\ wx.cell? ⟨w.heap.size, 5, none⟩ = some (.int .i64 t.amount) /\ wx.cell? ⟨w.heap.size, 6, none⟩ = some (.int .i64 t.nonce)) (first | exact ⟨Below.refl _ _, by assumption, by assumption, by assumption, by assumption, by assumption, by assumption, by assumption⟩ | assumption | exact keep7 (by assumption) (by assumption) | exact qce (by assumption) | exact qce ⟨Below.refl _ _, by assumption, by assumption, by assumption, by assumption, by assumption, by assumption, by assumption⟩) (first | (go_at_call 154; (with_reducible refine (HH.out.2.2.2.1 _).mono ?_); unfold gives; rintro e w4 ⟨rfl, hb4⟩) | (go_at_call 154; (with_reducible refine (HH.out.2.2.2.2 _).mono ?_); unfold gives; rintro e w5 ⟨rfl, hb5⟩))
  have hS : (fun wx => Below w3.heap.size w3 wx /\ wx.cell? ⟨w.heap.size, 0, none⟩ = some (.int .i64 2) /\ wx.cell? ⟨w.heap.size, 1, none⟩ = some (.string (str t.frm)) /\ wx.cell? ⟨w.heap.size, 2, none⟩ = some (.string (str t.to)) /\ wx.cell? ⟨w.heap.size, 3, none⟩ = some (.string (str t.key)) /\ wx.cell? ⟨w.heap.size, 4, none⟩ = some (.string (str t.val)) /\ wx.cell? ⟨w.heap.size, 5, none⟩ = some (.int .i64 t.amount) /\ wx.cell? ⟨w.heap.size, 6, none⟩ = some (.int .i64 t.nonce)) w5 := by assumption
  replace hb13 := nxt hb13 hS.1
  go_wp2
  go_ret
  exact ⟨rfl, hb13⟩
