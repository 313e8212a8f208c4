/-
  Texts of one layer in one: RefBytesT, RefBytB.
-/
import Derived.Test.YtgmejaiifibfoaaGreatDoorT2
import Derived.Deep.RegionHeld3
import Derived.Deep.DeepCutAuto
import Derived.Deep.QuietTactic
import Derived.BigQuiet
import Derived.Test.YtgmejaiifibfoaaGreatDoorR1
import Derived.Test.YtgmejaiifibfoaaGreatDoorGreatB
import Derived.Test.YtgmejaiifibfoaaGreatDoorB2

/-
  A transaction's bytes, by the document's answer.
-/
set_option linter.unusedSimpArgs false
set_option linter.unusedVariables false
namespace Go.Proofs.YtgmejaiifibfoaaGreatDoor
open Go.RowKit Go.Lib
open L3 (encN)

theorem c_refnum (k : Int) (w : World) (hk : 0 ≤ k ∧ k ≤ 4611686018427387904) : Calls Tryz.prog 62 #[.int .i64 k] w (gives (.tuple #[.string (str (encN k.toNat)), .bool true]) w) := by
  obtain ⟨m, rfl⟩ := Int.eq_ofNat_of_zero_le hk.1
  exact (L3.refnum_ok m w (by omega)).mono fun _ _ h => h
theorem c_refN (k : Int) (w : World) (hk : 0 ≤ k ∧ k ≤ 4611686018427387904) : Calls Tryz.prog 29 #[.int .i64 k] w (gives (.string (str (encN k.toNat))) w) := by
  obtain ⟨m, rfl⟩ := Int.eq_ofNat_of_zero_le hk.1
  exact (L3.refN_ok m w (by omega)).mono fun _ _ h => h
theorem c_refT (l : List UInt8) (w : World) (h : l.length ≤ 1000000) : Calls Tryz.prog 63 #[.string (str l)] w (gives (.string (str (txtB l))) w) := by
  refine (L3.refT_ok (str l) w (by rw [str_size]; omega)).mono fun _ _ h => ?_
  rw [str_size, str_list] at h
  exact h
/-- Texts one behind the other, and how long they are at most. -/
theorem app_ok {a b : List UInt8} {n m : Nat} (ha : a.length ≤ n) (hb : b.length ≤ m) (hn : n + m ≤ 1000000) : ¬ 9223372036854775807 < (str a).size + (str b).size := by rw [str_size, str_size]; omega
set_option maxHeartbeats 2000000 in
set_option maxRecDepth 100000 in
theorem refbytes_any (t : Txx) (w : World) (hr : right t = true) : Calls Tryz.prog 32 #[.agg (txC t)] w (gives (.string (str (bytesT t))) w) := by
  have hwf := right_wf hr
  have hb0 : Below w.heap.size w (w.alloc (.cells (txC t) 32)) := below_box _ t
  have B0 := Lib.hid (fun w1 => @box_at w w1 32 t)
  obtain ⟨c0, c1, c2, c3, c4, c5, c6⟩ := box_of (box_new w 32 t)
  obtain ⟨_, w1, w2, w3, w4, _, _⟩ := hwf
  by_cases hk : t.kind = 1
  · obtain ⟨p1, p2, p3, p4, p5, p6⟩ := right_move hr hk
    have n1 := posN_in p1
    have n4 := posN_in p4
    obtain ⟨x1, hx1⟩ : ∃ y, y = encN (1 : Int).toNat := ⟨_, rfl⟩
    obtain ⟨x2, hx2⟩ : ∃ y, y = encN t.nonce.toNat := ⟨_, rfl⟩
    obtain ⟨x3, hx3⟩ : ∃ y, y = txtB t.frm := ⟨_, rfl⟩
    obtain ⟨x4, hx4⟩ : ∃ y, y = txtB t.to := ⟨_, rfl⟩
    obtain ⟨x5, hx5⟩ : ∃ y, y = encN t.amount.toNat := ⟨_, rfl⟩
    obtain ⟨z1, hz1⟩ : ∃ y, y = x1 ++ x2 := ⟨_, rfl⟩
    obtain ⟨z2, hz2⟩ : ∃ y, y = z1 ++ x3 := ⟨_, rfl⟩
    obtain ⟨z3, hz3⟩ : ∃ y, y = z2 ++ x4 := ⟨_, rfl⟩
    obtain ⟨z4, hz4⟩ : ∃ y, y = z3 ++ x5 := ⟨_, rfl⟩
    have l1 : x1.length ≤ 9 := by rw [hx1]; exact encN_len ⟨by omega, by omega⟩
    have l2 : x2.length ≤ 9 := by rw [hx2]; exact encN_len ⟨by omega, by omega⟩
    have l3 : x3.length ≤ 137 := by rw [hx3]; exact txtB_len w1
    have l4 : x4.length ≤ 137 := by rw [hx4]; exact txtB_len w2
    have l5 : x5.length ≤ 9 := by rw [hx5]; exact encN_len ⟨by omega, by omega⟩
    have m1 : z1.length ≤ 18 := by rw [hz1]; exact len_app _ _ _ _ l1 l2
    have m2 : z2.length ≤ 155 := by rw [hz2]; exact len_app _ _ _ _ m1 l3
    have m3 : z3.length ≤ 292 := by rw [hz3]; exact len_app _ _ _ _ m2 l4
    have hN := fun wx => c_refN 1 wx ⟨by omega, by omega⟩
    rw [← hx1] at hN
    have hM := fun wx => c_refnum t.nonce wx ⟨by omega, n1.2⟩
    rw [← hx2] at hM
    have hF := fun wx => c_refT t.frm wx (by omega)
    rw [← hx3] at hF
    have hO := fun wx => c_refT t.to wx (by omega)
    rw [← hx4] at hO
    have hA := fun wx => c_refnum t.amount wx ⟨by omega, n4.2⟩
    rw [← hx5] at hA
    have s1 : str x1 ++ str x2 = str z1 := by rw [hz1]; exact str_app _ _
    have s2 : str z1 ++ str x3 = str z2 := by rw [hz2]; exact str_app _ _
    have s3 : str z2 ++ str x4 = str z3 := by rw [hz3]; exact str_app _ _
    have s4 : str z3 ++ str x5 = str z4 := by rw [hz4]; exact str_app _ _
    have a1 := app_ok l1 l2 (by omega)
    have a2 := app_ok m1 l3 (by omega)
    have a3 := app_ok m2 l4 (by omega)
    have a4 := app_ok m3 l5 (by omega)
    have e : bytesT t = z4 := by rw [hz4, hz3, hz2, hz1, hx1, hx2, hx3, hx4, hx5]; unfold bytesT; rw [if_pos hk, hk]; simp
    rw [e]
    have HH := Lib.hid (And.intro hN (And.intro hM (And.intro hF (And.intro hO hA))))
    rw [hk] at c0
    have B1 : Hid (∀ w1, Below (w.alloc (.cells (txC t) 32)).heap.size (w.alloc (.cells (txC t) 32)) w1 → Box w1 w.heap.size 1 t.frm t.to t.key t.val t.amount t.nonce) := Lib.hid fun w1 h => by have := B0.out w1 h; rw [hk] at this; exact this
    clear hN hM hF hO hA hx1 hx2 hx3 hx4 hx5 hz1 hz2 hz3 hz4 l1 l2 l3 l4 l5 m1 m2 m3 e hk hr B0 p1 p2 p3 p4 p5 p6 n1 n4 w1 w2 w3 w4
    go_enter Tryz.func32, Tryz.ntmps32
    go_upto_region 2 with (go_at_call 62; refine (HH.out.2.1 _).mono ?_; unfold gives; rintro e w1 ⟨rfl, hb1⟩)
    obtain ⟨d0, d1, d2, d3, d4, d5, d6⟩ := B1.out _ hb1
    replace hb1 := nxt hb0 hb1
    clear c0 c1 c2 c3 c4 c5 c6
    go_region_held3 (fun wx => Below w1.heap.size w1 wx ∧ wx.cell? ⟨w.heap.size, 0, none⟩ = some (.int .i64 1) ∧ wx.cell? ⟨w.heap.size, 1, none⟩ = some (.string (str t.frm)) ∧ wx.cell? ⟨w.heap.size, 2, none⟩ = some (.string (str t.to)) ∧ wx.cell? ⟨w.heap.size, 3, none⟩ = some (.string (str t.key)) ∧ wx.cell? ⟨w.heap.size, 4, none⟩ = some (.string (str t.val)) ∧ wx.cell? ⟨w.heap.size, 5, none⟩ = some (.int .i64 t.amount) ∧ wx.cell? ⟨w.heap.size, 6, none⟩ = some (.int .i64 t.nonce)) (first | exact ⟨Below.refl _ _, by assumption, by assumption, by assumption, by assumption, by assumption, by assumption, by assumption⟩ | assumption | exact keep7 (by assumption) (by assumption) | exact keep7_drew (by assumption) | exact keep7_drew ⟨Below.refl _ _, by assumption, by assumption, by assumption, by assumption, by assumption, by assumption, by assumption⟩) (first | (go_at_call 29; (with_reducible refine (HH.out.1 _).mono ?_); unfold gives; rintro e w2 ⟨rfl, hb2⟩) | (go_at_call 63; (with_reducible refine (HH.out.2.2.1 _).mono ?_); unfold gives; rintro e w3 ⟨rfl, hb3⟩))
    have hS : (fun wx => Below w1.heap.size w1 wx ∧ wx.cell? ⟨w.heap.size, 0, none⟩ = some (.int .i64 1) ∧ wx.cell? ⟨w.heap.size, 1, none⟩ = some (.string (str t.frm)) ∧ wx.cell? ⟨w.heap.size, 2, none⟩ = some (.string (str t.to)) ∧ wx.cell? ⟨w.heap.size, 3, none⟩ = some (.string (str t.key)) ∧ wx.cell? ⟨w.heap.size, 4, none⟩ = some (.string (str t.val)) ∧ wx.cell? ⟨w.heap.size, 5, none⟩ = some (.int .i64 t.amount) ∧ wx.cell? ⟨w.heap.size, 6, none⟩ = some (.int .i64 t.nonce)) w3 := by assumption
    obtain ⟨hb13, g0, g1, g2, g3, g4, g5, g6⟩ := hS
    replace hb13 := nxt hb1 hb13
    clear d0 d1 d2 d3 d4 d5 d6
    go_wp2_with (first
      | (go_at_call 62; (with_reducible refine (HH.out.2.2.2.2 _).mono ?_); unfold gives; rintro e w4 ⟨rfl, hb4⟩; have i2 := (hb4.cell (L2.cell_in g2)).trans g2)
      | (go_at_call 63; (with_reducible refine (HH.out.2.2.2.1 _).mono ?_); unfold gives; rintro e w5 ⟨rfl, hb5⟩))
    go_ret
    exact ⟨rfl, nxt (nxt hb13 hb4) hb5⟩
  · obtain ⟨p1, p2, p3, p4, p5, p6, hk2⟩ := right_put hr hk
    have n1 := posN_in p1
    obtain ⟨x1, hx1⟩ : ∃ y, y = encN (2 : Int).toNat := ⟨_, rfl⟩
    obtain ⟨x2, hx2⟩ : ∃ y, y = encN t.nonce.toNat := ⟨_, rfl⟩
    obtain ⟨x3, hx3⟩ : ∃ y, y = txtB t.frm := ⟨_, rfl⟩
    obtain ⟨x4, hx4⟩ : ∃ y, y = txtB t.key := ⟨_, rfl⟩
    obtain ⟨x5, hx5⟩ : ∃ y, y = txtB t.val := ⟨_, rfl⟩
    obtain ⟨z1, hz1⟩ : ∃ y, y = x1 ++ x2 := ⟨_, rfl⟩
    obtain ⟨z2, hz2⟩ : ∃ y, y = z1 ++ x3 := ⟨_, rfl⟩
    obtain ⟨z3, hz3⟩ : ∃ y, y = z2 ++ x4 := ⟨_, rfl⟩
    obtain ⟨z4, hz4⟩ : ∃ y, y = z3 ++ x5 := ⟨_, rfl⟩
    have l1 : x1.length ≤ 9 := by rw [hx1]; exact encN_len ⟨by omega, by omega⟩
    have l2 : x2.length ≤ 9 := by rw [hx2]; exact encN_len ⟨by omega, by omega⟩
    have l3 : x3.length ≤ 137 := by rw [hx3]; exact txtB_len w1
    have l4 : x4.length ≤ 137 := by rw [hx4]; exact txtB_len w3
    have l5 : x5.length ≤ 137 := by rw [hx5]; exact txtB_len w4
    have m1 : z1.length ≤ 18 := by rw [hz1]; exact len_app _ _ _ _ l1 l2
    have m2 : z2.length ≤ 155 := by rw [hz2]; exact len_app _ _ _ _ m1 l3
    have m3 : z3.length ≤ 292 := by rw [hz3]; exact len_app _ _ _ _ m2 l4
    have hN := fun wx => c_refN 2 wx ⟨by omega, by omega⟩
    rw [← hx1] at hN
    have hM := fun wx => c_refnum t.nonce wx ⟨by omega, n1.2⟩
    rw [← hx2] at hM
    have hF := fun wx => c_refT t.frm wx (by omega)
    rw [← hx3] at hF
    have hO := fun wx => c_refT t.key wx (by omega)
    rw [← hx4] at hO
    have hA := fun wx => c_refT t.val wx (by omega)
    rw [← hx5] at hA
    have s1 : str x1 ++ str x2 = str z1 := by rw [hz1]; exact str_app _ _
    have s2 : str z1 ++ str x3 = str z2 := by rw [hz2]; exact str_app _ _
    have s3 : str z2 ++ str x4 = str z3 := by rw [hz3]; exact str_app _ _
    have s4 : str z3 ++ str x5 = str z4 := by rw [hz4]; exact str_app _ _
    have a1 := app_ok l1 l2 (by omega)
    have a2 := app_ok m1 l3 (by omega)
    have a3 := app_ok m2 l4 (by omega)
    have a4 := app_ok m3 l5 (by omega)
    have e : bytesT t = z4 := by rw [hz4, hz3, hz2, hz1, hx1, hx2, hx3, hx4, hx5]; unfold bytesT; rw [if_neg hk, hk2]; simp
    rw [e]
    have HH := Lib.hid (And.intro hN (And.intro hM (And.intro hF (And.intro hO hA))))
    rw [hk2] at c0
    have B1 : Hid (∀ w1, Below (w.alloc (.cells (txC t) 32)).heap.size (w.alloc (.cells (txC t) 32)) w1 → Box w1 w.heap.size 2 t.frm t.to t.key t.val t.amount t.nonce) := Lib.hid fun w1 h => by have := B0.out w1 h; rw [hk2] at this; exact this
    clear hN hM hF hO hA hx1 hx2 hx3 hx4 hx5 hz1 hz2 hz3 hz4 l1 l2 l3 l4 l5 m1 m2 m3 e hk hk2 hr B0 p1 p2 p3 p4 p5 p6 n1 w1 w2 w3 w4
    go_enter Tryz.func32, Tryz.ntmps32
    go_upto_region 2 with (go_at_call 62; refine (HH.out.2.1 _).mono ?_; unfold gives; rintro e w1 ⟨rfl, hb1⟩)
    obtain ⟨d0, d1, d2, d3, d4, d5, d6⟩ := B1.out _ hb1
    replace hb1 := nxt hb0 hb1
    clear c0 c1 c2 c3 c4 c5 c6
    go_region_held3 (fun wx => Below w1.heap.size w1 wx ∧ wx.cell? ⟨w.heap.size, 0, none⟩ = some (.int .i64 2) ∧ wx.cell? ⟨w.heap.size, 1, none⟩ = some (.string (str t.frm)) ∧ wx.cell? ⟨w.heap.size, 2, none⟩ = some (.string (str t.to)) ∧ wx.cell? ⟨w.heap.size, 3, none⟩ = some (.string (str t.key)) ∧ wx.cell? ⟨w.heap.size, 4, none⟩ = some (.string (str t.val)) ∧ wx.cell? ⟨w.heap.size, 5, none⟩ = some (.int .i64 t.amount) ∧ wx.cell? ⟨w.heap.size, 6, none⟩ = some (.int .i64 t.nonce)) (first | exact ⟨Below.refl _ _, by assumption, by assumption, by assumption, by assumption, by assumption, by assumption, by assumption⟩ | assumption | exact keep7 (by assumption) (by assumption) | exact keep7_drew (by assumption) | exact keep7_drew ⟨Below.refl _ _, by assumption, by assumption, by assumption, by assumption, by assumption, by assumption, by assumption⟩) (first | (go_at_call 29; (with_reducible refine (HH.out.1 _).mono ?_); unfold gives; rintro e w2 ⟨rfl, hb2⟩) | (go_at_call 63; (with_reducible refine (HH.out.2.2.1 _).mono ?_); unfold gives; rintro e w3 ⟨rfl, hb3⟩))
    have hS : (fun wx => Below w1.heap.size w1 wx ∧ wx.cell? ⟨w.heap.size, 0, none⟩ = some (.int .i64 2) ∧ wx.cell? ⟨w.heap.size, 1, none⟩ = some (.string (str t.frm)) ∧ wx.cell? ⟨w.heap.size, 2, none⟩ = some (.string (str t.to)) ∧ wx.cell? ⟨w.heap.size, 3, none⟩ = some (.string (str t.key)) ∧ wx.cell? ⟨w.heap.size, 4, none⟩ = some (.string (str t.val)) ∧ wx.cell? ⟨w.heap.size, 5, none⟩ = some (.int .i64 t.amount) ∧ wx.cell? ⟨w.heap.size, 6, none⟩ = some (.int .i64 t.nonce)) w3 := by assumption
    obtain ⟨hb13, g0, g1, g2, g3, g4, g5, g6⟩ := hS
    replace hb13 := nxt hb1 hb13
    clear d0 d1 d2 d3 d4 d5 d6
    go_upto_region 4 with fail
    go_region_held3 (fun wx => Below w3.heap.size w3 wx ∧ wx.cell? ⟨w.heap.size, 0, none⟩ = some (.int .i64 2) ∧ wx.cell? ⟨w.heap.size, 1, none⟩ = some (.string (str t.frm)) ∧ wx.cell? ⟨w.heap.size, 2, none⟩ = some (.string (str t.to)) ∧ wx.cell? ⟨w.heap.size, 3, none⟩ = some (.string (str t.key)) ∧ wx.cell? ⟨w.heap.size, 4, none⟩ = some (.string (str t.val)) ∧ wx.cell? ⟨w.heap.size, 5, none⟩ = some (.int .i64 t.amount) ∧ wx.cell? ⟨w.heap.size, 6, none⟩ = some (.int .i64 t.nonce)) (first | exact ⟨Below.refl _ _, by assumption, by assumption, by assumption, by assumption, by assumption, by assumption, by assumption⟩ | assumption | exact keep7 (by assumption) (by assumption) | exact keep7_drew (by assumption) | exact keep7_drew ⟨Below.refl _ _, by assumption, by assumption, by assumption, by assumption, by assumption, by assumption, by assumption⟩) (first | (go_at_call 63; (with_reducible refine (HH.out.2.2.2.1 _).mono ?_); unfold gives; rintro e w4 ⟨rfl, hb4⟩) | (go_at_call 63; (with_reducible refine (HH.out.2.2.2.2 _).mono ?_); unfold gives; rintro e w5 ⟨rfl, hb5⟩))
    have hS : (fun wx => Below w3.heap.size w3 wx ∧ wx.cell? ⟨w.heap.size, 0, none⟩ = some (.int .i64 2) ∧ wx.cell? ⟨w.heap.size, 1, none⟩ = some (.string (str t.frm)) ∧ wx.cell? ⟨w.heap.size, 2, none⟩ = some (.string (str t.to)) ∧ wx.cell? ⟨w.heap.size, 3, none⟩ = some (.string (str t.key)) ∧ wx.cell? ⟨w.heap.size, 4, none⟩ = some (.string (str t.val)) ∧ wx.cell? ⟨w.heap.size, 5, none⟩ = some (.int .i64 t.amount) ∧ wx.cell? ⟨w.heap.size, 6, none⟩ = some (.int .i64 t.nonce)) w5 := by assumption
    replace hb13 := nxt hb13 hS.1
    go_wp2
    go_ret
    exact ⟨rfl, hb13⟩
end Go.Proofs.YtgmejaiifibfoaaGreatDoor

/-
  A block's bytes, by the document's answer.
-/
set_option linter.unusedSimpArgs false
set_option linter.unusedVariables false
set_option maxRecDepth 10000
namespace Go.Proofs.YtgmejaiifibfoaaGreatDoor
open Go.RowKit Go.Maps Go.Lib
open L3 (Blk Reads encN encs)
open L11 (Crt zeroC crtL crtC mayV bytesV okW crtInfo crtC_ones wpQuiet_fn)

theorem flat_take_le {α : Type} (f : α → List UInt8) (l : List α) (k : Nat) : (((l.take k).map f).flatten).length ≤ ((l.map f).flatten).length := by
  have e : (l.map f).flatten = ((l.take k).map f).flatten ++ ((l.drop k).map f).flatten := by
    rw [← List.flatten_append, ← List.map_append, List.take_append_drop]
  rw [e, List.length_append]; omega
theorem flat_take_succ {α : Type} (f : α → List UInt8) {l : List α} {k : Nat} (h : k < l.length) : ((l.take (k + 1)).map f).flatten = ((l.take k).map f).flatten ++ f l[k] := by
  rw [List.take_add_one, List.getElem?_eq_getElem h, List.map_append, List.flatten_append]
  congr 1
  simp
theorem str_add {a b c : List UInt8} (h : c = a ++ b) : str a ++ str b = str c := by rw [h]; exact str_app _ _
theorem str_fits {a b : List UInt8} {n : Nat} (h : a.length + b.length ≤ n) (hn : n ≤ 1000000) : ¬ 9223372036854775807 < (str a).size + (str b).size := by rw [str_size, str_size]; omega
/-- What stands ahead of the k-th timeout's bytes; ahead of the k-th transaction's. -/
def aheadP (b : Blo) (k : Nat) : List UInt8 := (encs [b.view, b.round, b.height, b.author] ++ (bytesV b.par ++ encN b.proof.length)) ++ ((b.proof.take k).map tmB).flatten
def aheadT (b : Blo) (k : Nat) : List UInt8 := (aheadP b b.proof.length ++ encN b.txs.length) ++ ((b.txs.take k).map bytesT).flatten
theorem ahead_all (b : Blo) : aheadT b b.txs.length = bytesB b := by
  unfold aheadT aheadP bytesB listB
  rw [List.take_length, List.take_length]; simp only [List.append_assoc]
theorem aheadT_le {b : Blo} (k : Nat) : (aheadT b k).length ≤ (bytesB b).length := by
  rw [← ahead_all]
  unfold aheadT
  have := flat_take_le bytesT b.txs k
  rw [List.length_append, List.length_append (bs := ((b.txs.take b.txs.length).map bytesT).flatten), List.take_length]; omega
theorem aheadP_le {b : Blo} (k : Nat) : (aheadP b k).length + (encN b.txs.length).length ≤ (bytesB b).length := by
  have h0 := aheadT_le (b := b) 0
  have := flat_take_le tmB b.proof k
  unfold aheadT at h0
  unfold aheadP at h0 ⊢
  rw [List.take_length] at h0
  simp only [List.length_append, List.take_zero, List.map_nil, List.flatten_nil, List.length_nil] at h0 ⊢
  omega
theorem BoxB.drew {w W : World} {g : Nat} {b : Blo} {A : Option Addr} {c : Nat} {B : Option Addr} {d : Nat} (h : BoxB w g b A c B d W) : BoxB w g b A c B d W.drew := h.below (Below.refl _ W).drew
theorem BoxB.par {w W : World} {g : Nat} {b : Blo} {A : Option Addr} {c : Nat} {B : Option Addr} {d : Nat} (h : BoxB w g b A c B d W) : ∀ j u, (crtL b.par)[j]? = some u → W.cell? ((⟨g, 4, none⟩ : Addr).add j) = some u := sub_cells h.bb (par_at b _ _)
theorem N_is (k : Int) (x : List UInt8) (W : World) (hk : 0 ≤ k ∧ k ≤ 4611686018427387904) (hx : x = encN k.toNat) : Calls Tryz.prog 29 #[.int .i64 k] W (gives (.string (str x)) W) := by rw [hx]; exact c_refN k W hk
set_option maxHeartbeats 4000000 in
set_option maxRecDepth 100000 in
theorem refbytB_any (b : Blo) (A : Option Addr) (c : Nat) (B : Option Addr) (d : Nat) (w : World) (hw : b.wf) (hp : Rd tmL 10 w A b.proof) (ht : Rd txL 7 w B b.txs) (h0 : checkV b = 0) :
    Calls Tryz.prog 30 #[.agg (bloC b (.slice A b.proof.length c) (.slice B b.txs.length d))] w (gives (.string (str (bytesB b))) w) := by
  have F0 := Lib.hid (boxB_mk (c := c) (d := d) hp ht)
  obtain ⟨hh, hpar, hpro⟩ := check_zero h0
  obtain ⟨f1, f2, f3, f4, f5⟩ := head_facts hh
  obtain ⟨p1, p2, p3, p4, p5⟩ := parent_facts hpar
  have hmem := proof_mem hpro
  have hpl := proof_len hpro
  have hlen := bytesB_len h0
  have hP := fun k => Nat.le_trans (aheadP_le (b := b) k) hlen
  have hT := fun k => Nat.le_trans (aheadT_le (b := b) k) hlen
  obtain ⟨x0, e0⟩ : ∃ x, x = encN b.view.toNat := ⟨_, rfl⟩
  obtain ⟨x1, e1⟩ : ∃ x, x = encN b.round.toNat := ⟨_, rfl⟩
  obtain ⟨x2, e2⟩ : ∃ x, x = encN b.height.toNat := ⟨_, rfl⟩
  obtain ⟨x3, e3⟩ : ∃ x, x = encN b.author.toNat := ⟨_, rfl⟩
  obtain ⟨x4, e4⟩ : ∃ x, x = bytesV b.par := ⟨_, rfl⟩
  obtain ⟨x5, e5⟩ : ∃ x, x = encN b.proof.length := ⟨_, rfl⟩
  obtain ⟨x6, e6⟩ : ∃ x, x = encN b.txs.length := ⟨_, rfl⟩
  have N0 := Lib.hid (fun W => N_is b.view x0 W ⟨by omega, by omega⟩ e0)
  have N1 := Lib.hid (fun W => N_is b.round x1 W ⟨by omega, by omega⟩ e1)
  have N2 := Lib.hid (fun W => N_is b.height x2 W ⟨by omega, by omega⟩ e2)
  have N3 := Lib.hid (fun W => N_is b.author x3 W ⟨by omega, by omega⟩ e3)
  have N4 : Hid (∀ W, Calls Tryz.prog 31 #[.agg (crtC b.par)] W (gives (.string (str x4)) W)) := Lib.hid (fun W => by rw [e4]; exact L11.refbytes_any b.par W hw.par p1)
  have N5 := Lib.hid (fun W => N_is (b.proof.length : Int) x5 W ⟨by omega, by omega⟩ (by rw [e5]; rfl))
  have N6 := Lib.hid (fun W => N_is (b.txs.length : Int) x6 W ⟨by omega, by omega⟩ (by rw [e6]; rfl))
  obtain ⟨z1, g1⟩ : ∃ z, z = x0 ++ x1 := ⟨_, rfl⟩
  obtain ⟨z2, g2⟩ : ∃ z, z = z1 ++ x2 := ⟨_, rfl⟩
  obtain ⟨z3, g3⟩ : ∃ z, z = z2 ++ x3 := ⟨_, rfl⟩
  obtain ⟨z4, g4⟩ : ∃ z, z = z3 ++ x4 := ⟨_, rfl⟩
  have hz : aheadP b 0 = z4 ++ x5 := by
    rw [g4, g3, g2, g1, e0, e1, e2, e3, e4, e5]; unfold aheadP; simp [encs]
  have hz6 : aheadT b 0 = aheadP b b.proof.length ++ x6 := by rw [e6]; unfold aheadT; simp
  have l5 : z4.length + x5.length ≤ 5000 := by have := hP 0; rw [hz, List.length_append] at this; omega
  have l4 : z3.length + x4.length ≤ 5000 := by rw [g4, List.length_append] at l5; omega
  have l3 : z2.length + x3.length ≤ 5000 := by rw [g3, List.length_append] at l4; omega
  have l2 : z1.length + x2.length ≤ 5000 := by rw [g2, List.length_append] at l3; omega
  have l1 : x0.length + x1.length ≤ 5000 := by rw [g1, List.length_append] at l2; omega
  have a1 := str_fits l1 (by omega)
  have a2 := str_fits l2 (by omega)
  have a3 := str_fits l3 (by omega)
  have a4 := str_fits l4 (by omega)
  have a5 := str_fits l5 (by omega)
  have s1 := str_add g1
  have s2 := str_add g2
  have s3 := str_add g3
  have s4 := str_add g4
  have s5 := str_add hz
  have K : Hid (b.wf ∧ (∀ t ∈ b.proof, tmoV t = true ∧ t.view = b.view) ∧ (∀ t ∈ b.txs, right t = true) ∧ (∀ k, (aheadP b k).length + (encN b.txs.length).length ≤ 5000) ∧ (∀ k, (aheadT b k).length ≤ 5000) ∧ aheadT b 0 = aheadP b b.proof.length ++ x6) := Lib.hid ⟨hw, hmem, f5, hP, hT, hz6⟩
  have hnt : b.txs.length ≤ 8 := f4
  clear hw hp ht h0 hh hpar hpro f1 f2 f3 f4 f5 p1 p2 p3 p4 p5 hmem hlen hP hT e0 e1 e2 e3 e4 e5 e6 g1 g2 g3 g4 hz hz6 l1 l2 l3 l4 l5
  obtain ⟨n, hn⟩ : ∃ n, n = b.proof.length := ⟨_, rfl⟩
  obtain ⟨m, hm⟩ : ∃ m, m = b.txs.length := ⟨_, rfl⟩
  rw [← hn] at N5 hpl
  rw [← hm] at N6 hnt
  have HN := Lib.hid hn
  have HM := Lib.hid hm
  clear hn hm
  go_enter Tryz.func30, Tryz.ntmps30
  go_upto_region 1 with fail
  refine name_world (fun w0 hw0 => ?_)
  have hA : BoxB w w.heap.size b A c B d w0 := by rw [hw0]; exact F0.out
  clear hw0 F0
  have ne : Nonempty (WorldIn (BoxB w w.heap.size b A c B d)) := ⟨⟨_, hA.drew⟩⟩
  have d0 : ∀ z : WorldIn (BoxB w w.heap.size b A c B d), z.w.cell? ⟨w.heap.size, 0, none⟩ = some (.int .i64 b.view) := fun z => z.h.bb.cell 0
  have d1 : ∀ z : WorldIn (BoxB w w.heap.size b A c B d), z.w.cell? ⟨w.heap.size, 1, none⟩ = some (.int .i64 b.round) := fun z => z.h.bb.cell 1
  have d2 : ∀ z : WorldIn (BoxB w w.heap.size b A c B d), z.w.cell? ⟨w.heap.size, 2, none⟩ = some (.int .i64 b.height) := fun z => z.h.bb.cell 2
  have d3 : ∀ z : WorldIn (BoxB w w.heap.size b A c B d), z.w.cell? ⟨w.heap.size, 3, none⟩ = some (.int .i64 b.author) := fun z => z.h.bb.cell 3
  have d12 : ∀ z : WorldIn (BoxB w w.heap.size b A c B d), z.w.cell? ⟨w.heap.size, 12, none⟩ = some (.slice A n c) := fun z => by rw [HN.out]; exact z.h.bb.cell 12
  refine wp_region_S (BoxB w w.heap.size b A c B d) (by kernel_rfl) (by kernel_rfl) hA.drew ?_
  clear hA
  repeat (first
    | (refine wpQuiet_fn rfl 29 _ _ rfl Tryz.call29 [.int .i64 b.view] rfl (v := .string (str x0)) (fun x => (N0.out x.w).mono fun e w' ⟨he, hb⟩ => ⟨he, x.h.below hb⟩) ?_
       conv => arg 6; simp only [Act.put, List.setIfInBounds_toArray, List.set_cons_zero, List.set_cons_succ])
    | (refine wpQuiet_fn rfl 29 _ _ rfl Tryz.call29 [.int .i64 b.round] rfl (v := .string (str x1)) (fun x => (N1.out x.w).mono fun e w' ⟨he, hb⟩ => ⟨he, x.h.below hb⟩) ?_
       conv => arg 6; simp only [Act.put, List.setIfInBounds_toArray, List.set_cons_zero, List.set_cons_succ])
    | (refine wpQuiet_fn rfl 29 _ _ rfl Tryz.call29 [.int .i64 b.height] rfl (v := .string (str x2)) (fun x => (N2.out x.w).mono fun e w' ⟨he, hb⟩ => ⟨he, x.h.below hb⟩) ?_
       conv => arg 6; simp only [Act.put, List.setIfInBounds_toArray, List.set_cons_zero, List.set_cons_succ])
    | (refine wpQuiet_fn rfl 29 _ _ rfl Tryz.call29 [.int .i64 b.author] rfl (v := .string (str x3)) (fun x => (N3.out x.w).mono fun e w' ⟨he, hb⟩ => ⟨he, x.h.below hb⟩) ?_
       conv => arg 6; simp only [Act.put, List.setIfInBounds_toArray, List.set_cons_zero, List.set_cons_succ])
    | (refine wpQuiet_fn rfl 29 _ _ rfl Tryz.call29 [.int .i64 (n : Int)] rfl (v := .string (str x5)) (fun x => (N5.out x.w).mono fun e w' ⟨he, hb⟩ => ⟨he, x.h.below hb⟩) ?_
       conv => arg 6; simp only [Act.put, List.setIfInBounds_toArray, List.set_cons_zero, List.set_cons_succ])
    | (refine wpQuiet_fn rfl 31 _ _ rfl Tryz.call31 [.agg (crtC b.par)] rfl (v := .string (str x4)) (fun x => (N4.out x.w).mono fun e w' ⟨he, hb⟩ => ⟨he, x.h.below hb⟩) ?_
       conv => arg 6; simp only [Act.put, List.setIfInBounds_toArray, List.set_cons_zero, List.set_cons_succ])
    | (refine wpQuiet_cells rfl _ _ rfl ⟨w.heap.size, 4, none⟩ rfl (crtL b.par) _ (fun z => z.h.par) Tryz.underlying24 rfl crtInfo ?_
       conv => arg 6; simp only [Act.put, List.setIfInBounds_toArray, List.set_cons_zero, List.set_cons_succ])
    | go_big_quiet_step (fail))
  refine wpQuiet_nil ?_
  intro z
  obtain ⟨w1, hB⟩ := z
  dsimp only
  clear ne d0 d1 d2 d3 d12 N0 N1 N2 N3 N4 N5 a1 a2 a3 a4 a5 s1 s2 s3 s4 s5
  have c12 : w1.cell? ⟨w.heap.size, 12, none⟩ = some (.slice A n c) := by rw [HN.out]; exact hB.bb.cell 12
  go_wp2
  go_loopw [3, 4] (fun s i wr => ∃ k : Nat, s = .string (str (aheadP b k)) ∧ i = .int .i64 k ∧ k ≤ n ∧ BoxB w w.heap.size b A c B d wr) (fun _ i _ => n - (RowKit.intOf i).toNat)
  case atStart => exact ⟨0, rfl, rfl, Nat.zero_le _, hB⟩
  case round =>
    obtain ⟨k, rfl, rfl, hk, hP⟩ := hrel
    clear hB c12
    have c12 : wr.cell? ⟨w.heap.size, 12, none⟩ = some (.slice A n c) := by rw [HN.out]; exact hP.bb.cell 12
    by_cases hlt : k < n
    · have hkL : k < b.proof.length := by have := HN.out; omega
      obtain ⟨ad, rfl, hadl, hcs⟩ := hP.rp k hkL
      have hx := K.out.1.proof _ (List.getElem_mem hkL)
      have hv := (K.out.2.1 _ (List.getElem_mem hkL)).1
      have hne := flat_take_succ tmB hkL
      have hfit := K.out.2.2.2.1 (k + 1)
      have HA1 : Hid (∀ z : WorldIn (BoxB w w.heap.size b (some ad) c B d), ∀ j u, (tmL b.proof[k])[j]? = some u → z.w.cell? ((ad.add (k * 10)).add j) = some u) := Lib.hid (fun z => z.h.rp.at_ hkL)
      obtain ⟨x, hxe⟩ : ∃ x, x = b.proof[k] := ⟨_, rfl⟩
      rw [← hxe] at HA1 hx hne hv
      obtain ⟨t1, t2, t3, t4⟩ := tmo_facts hv
      obtain ⟨y1, e1⟩ : ∃ y, y = encN x.signer.toNat := ⟨_, rfl⟩
      obtain ⟨y2, e2⟩ : ∃ y, y = bytesV x.high := ⟨_, rfl⟩
      obtain ⟨Z, hZ⟩ : ∃ Z, Z = aheadP b k := ⟨_, rfl⟩
      obtain ⟨Y, hY⟩ : ∃ Y, Y = Z ++ y1 := ⟨_, rfl⟩
      have hnx : aheadP b (k + 1) = Y ++ y2 := by
        rw [hY, hZ, e1, e2]; unfold aheadP; rw [hne]; unfold tmB; simp only [List.append_assoc]
      have l2 : Y.length + y2.length ≤ 5000 := by rw [hnx, List.length_append] at hfit; omega
      have l1 : Z.length + y1.length ≤ 5000 := by rw [hY, List.length_append] at l2; omega
      have a1 := str_fits l1 (by omega)
      have a2 := str_fits l2 (by omega)
      have s1 := str_add hY
      have s2 := str_add hnx
      have M1 := Lib.hid (fun W => N_is x.signer y1 W ⟨by omega, by omega⟩ e1)
      have M2 : Hid (∀ W, Calls Tryz.prog 31 #[.agg (crtC x.high)] W (gives (.string (str y2)) W)) := Lib.hid (fun W => by rw [e2]; exact L11.refbytes_any x.high W hx.2.2 t4)
      have HX2 : Hid (∀ z : WorldIn (BoxB w w.heap.size b (some ad) c B d), ∀ j u, (crtL x.high)[j]? = some u → z.w.cell? (((ad.add (k * 10)).add 2).add j) = some u) := Lib.hid (fun z j u hj => by
        have ea : ((ad.add (k * 10)).add 2).add j = (ad.add (k * 10)).add (2 + j) := by unfold Addr.add; simp [Nat.add_assoc]
        rw [ea]
        refine HA1.out z (2 + j) u ?_
        rcases j with _ | _ | _ | _ | _ | _ | _ | _ | j
        all_goals first | exact hj | exact absurd hj (by simp [L11.crtL]))
      have g12 : ∀ z : WorldIn (BoxB w w.heap.size b (some ad) c B d), z.w.cell? ⟨w.heap.size, 12, none⟩ = some (.slice (some ad) n c) := fun z => by rw [HN.out]; exact z.h.bb.cell 12
      have k0 : ∀ z : WorldIn (BoxB w w.heap.size b (some ad) c B d), z.w.cell? ((ad.add (k * 10)).add 0) = some (.int .i64 x.signer) := fun z => HA1.out z 0 _ rfl
      have k0' : ∀ z : WorldIn (BoxB w w.heap.size b (some ad) c B d), z.w.cell? (ad.add (k * 10)) = some (.int .i64 x.signer) := fun z => by simpa [Addr.add] using k0 z
      rw [← hZ]
      clear hcs hxe hkL hx hv hne hfit e1 e2 hY hZ hnx l1 l2 t1 t2 t3 t4 HA1
      go_upto_region 5 with fail
      have ne : Nonempty (WorldIn (BoxB w w.heap.size b (some ad) c B d)) := ⟨⟨_, hP.drew⟩⟩
      refine wp_region_S (BoxB w w.heap.size b (some ad) c B d) (by kernel_rfl) (by kernel_rfl) hP.drew ?_
      clear hP c12
      repeat (first
        | (refine wpQuiet_fn rfl 29 _ _ rfl Tryz.call29 [.int .i64 x.signer] rfl (v := .string (str y1)) (fun x => (M1.out x.w).mono fun e w' ⟨he, hb⟩ => ⟨he, x.h.below hb⟩) ?_
           conv => arg 6; simp only [Act.put, List.setIfInBounds_toArray, List.set_cons_zero, List.set_cons_succ])
        | (refine wpQuiet_fn rfl 31 _ _ rfl Tryz.call31 [.agg (crtC x.high)] rfl (v := .string (str y2)) (fun x => (M2.out x.w).mono fun e w' ⟨he, hb⟩ => ⟨he, x.h.below hb⟩) ?_
           conv => arg 6; simp only [Act.put, List.setIfInBounds_toArray, List.set_cons_zero, List.set_cons_succ])
        | (refine wpQuiet_cells rfl _ _ rfl ((ad.add (k * 10)).add 2) rfl (crtL x.high) _ HX2.out Tryz.underlying24 rfl crtInfo ?_
           conv => arg 6; simp only [Act.put, List.setIfInBounds_toArray, List.set_cons_zero, List.set_cons_succ])
        | go_big_quiet_step (fail))
      refine wpQuiet_nil ?_
      intro z
      obtain ⟨W, hW⟩ := z
      dsimp only
      clear ne k0 k0' g12 a1 a2 s1 s2
      go_wp2
      go_roundw
      case rel => exact ⟨k + 1, rfl, by go_num, by omega, hW⟩
      case measure => simp [RowKit.intOf]; omega
    obtain rfl : k = n := by omega
    have hfit := K.out.2.2.2.1 k
    have hz6 := K.out.2.2.2.2.2
    rw [← HN.out] at hz6
    have hN6 : (encN b.txs.length).length = x6.length := by
      have h := congrArg List.length hz6
      unfold aheadT at h
      rw [← HN.out] at h
      simp at h
      omega
    have l6 : (aheadP b k).length + x6.length ≤ 5000 := by omega
    have a6 := str_fits l6 (by omega)
    have s6 := str_add hz6
    have c13 : wr.cell? ⟨w.heap.size, 13, none⟩ = some (.slice B m d) := by rw [HM.out]; exact hP.bb.cell 13
    clear hfit hz6 hN6 l6 hlt
    go_upto_region 8 with (go_at_call 29; refine (N6.out _).mono ?_; unfold gives; rintro e w2 ⟨rfl, hb2⟩)
    have hQ := hP.below hb2
    clear hP c12 c13 hb2 N6 a6 s6 hk
    go_loopw [3, 5] (fun s i wr => ∃ j : Nat, s = .string (str (aheadT b j)) ∧ i = .int .i64 j ∧ j ≤ m ∧ BoxB w w.heap.size b A c B d wr) (fun _ i _ => m - (RowKit.intOf i).toNat)
    case atStart => exact ⟨0, rfl, rfl, Nat.zero_le _, hQ⟩
    case round =>
      obtain ⟨j, rfl, rfl, hj, hP⟩ := hrel
      clear hQ
      have c13 : wr.cell? ⟨w.heap.size, 13, none⟩ = some (.slice B m d) := by rw [HM.out]; exact hP.bb.cell 13
      by_cases hlt : j < m
      · have hkL : j < b.txs.length := by have := HM.out; omega
        obtain ⟨ad, rfl, hadl, hcs⟩ := hP.rt j hkL
        have hv := K.out.2.2.1 _ (List.getElem_mem hkL)
        have hne := flat_take_succ bytesT hkL
        have hfit := K.out.2.2.2.2.1 (j + 1)
        obtain ⟨x, hxe⟩ : ∃ x, x = b.txs[j] := ⟨_, rfl⟩
        rw [← hxe] at hcs hne hv
        have hcs1 : ∀ i u, (txL x)[i]? = some u → wr.cell? ((ad.add (j * 7)).add i) = some u := hcs
        obtain ⟨y1, e1⟩ : ∃ y, y = bytesT x := ⟨_, rfl⟩
        obtain ⟨Z, hZ⟩ : ∃ Z, Z = aheadT b j := ⟨_, rfl⟩
        have hnx : aheadT b (j + 1) = Z ++ y1 := by
          rw [hZ, e1]; unfold aheadT; rw [hne]; simp only [List.append_assoc]
        have l1 : Z.length + y1.length ≤ 5000 := by rw [hnx, List.length_append] at hfit; omega
        have a1 := str_fits l1 (by omega)
        have s1 := str_add hnx
        have M1 : Hid (∀ W, Calls Tryz.prog 32 #[.agg (txC x)] W (gives (.string (str y1)) W)) := Lib.hid (fun W => by rw [e1]; exact refbytes_any x W hv)
        rw [← hZ]
        clear hcs hxe hkL hv hne hfit e1 hZ hnx l1
        go_wp2_with (first
          | (refine wpList_cells_at rfl _ _ rfl (ad.add (j * 7)) rfl (txL x) _ hcs1 Tryz.underlying32 rfl txInfo ?_)
          | (go_at_call 32; refine (M1.out _).mono ?_; unfold gives; rintro e w2 ⟨rfl, hb2⟩)
          | go_in)
        go_roundw
        case rel => exact ⟨j + 1, rfl, by go_num, by omega, hP.below hb2⟩
        case measure => simp [RowKit.intOf]; omega
      obtain rfl : j = m := by omega
      have E : Hid (aheadT b j = bytesB b) := Lib.hid (by rw [HM.out]; exact ahead_all b)
      have hb := hP.bw
      clear hP
      go_wp2_with fail
      go_ret
      exact ⟨by rw [E.out]; rfl, hb⟩
end Go.Proofs.YtgmejaiifibfoaaGreatDoor
