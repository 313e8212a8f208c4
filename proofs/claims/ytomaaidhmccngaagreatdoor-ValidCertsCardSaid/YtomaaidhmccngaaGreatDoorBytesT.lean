import Derived.Test.YtomaaidhmccngaaGreatDoorCheckT
set_option linter.unusedSimpArgs false
set_option linter.unusedVariables false
set_option maxRecDepth 100000
set_option maxHeartbeats 16000000
namespace Go.Proofs.YtomaaidhmccngaaGreatDoor
open Go.RowKit Go.Lib
open L3 (Reads encN)
def made (l : List UInt8) (w : World) (e : Ending) (w' : World) : Prop :=
 ∃ A c, e = .returned (.tuple #[.slice A l.length c, .int .i64 0]) /\ Reads w' w'.heap.size 1 A l.length (byteCells l) /\ l.length <= c /\ Below w.heap.size w w'
theorem qfg {l : List UInt8} {w : World} {e : Ending} {w' : World} (h : L3.wrote l w e w') : made l w e w' := by
 obtain ⟨v, rfl, ho⟩ := h
 obtain ⟨A, c, rfl, hr, hc⟩ := ho.form
 exact ⟨A, c, rfl, hr, hc, ho.2.1⟩
theorem qmo (w : World) (k n : Int) (ty : TypeId) : Reads (w.alloc (.cells #[.int .i64 k, .int .i64 n] ty)) (w.alloc (.cells #[.int .i64 k, .int .i64 n] ty)).heap.size 1 (some ⟨w.heap.size, 0, none⟩) 2 (L3.intCells [k, n]) := by
 refine ⟨rfl, fun _ => ⟨_, rfl, by simp, fun j u hu => ?_⟩⟩
 match j, hu with
 | 0, hu => simp [L3.intCells] at hu; subst hu; simp [Addr.add]
 | 1, hu => simp [L3.intCells] at hu; subst hu; simp [Addr.add]
theorem qfF (k n : Int) (w : World) (ty : TypeId) (hk : 0 <= k /\ k <= 4611686018427387904) (hn : 0 <= n /\ n <= 4611686018427387904) :
 Calls Tryz.prog 173 #[.slice (some ⟨w.heap.size, 0, none⟩) 2 2] (w.alloc (.cells #[.int .i64 k, .int .i64 n] ty)) (made (encN k.toNat ++ encN n.toNat) (w.alloc (.cells #[.int .i64 k, .int .i64 n] ty))) := by
 refine (L3.qjv _ 2 2 [k, n] _ (qmo w k n ty) (by omega)).mono ?_
 intro e w' h
 have hall : [k, n].all L3.okN = true := by simp [L3.qbu hk.1 hk.2, L3.qbu hn.1 hn.2]
 rcases h with ⟨_, v, rfl, ho⟩ | ⟨h, _⟩
 ·have : L3.encs [k, n] = encN k.toNat ++ encN n.toNat := by simp [L3.encs]
  rw [this] at ho
  exact qfg ⟨v, rfl, ho⟩
 ·rw [hall] at h; cases h
theorem qhd (l s : List UInt8) (A : Option Addr) (c : Nat) (w : World) (hl : l.length <= 100000000) (hs : s.length <= 65536) (h : Reads w w.heap.size 1 A l.length (byteCells l)) :
 Calls Tryz.prog 177 #[.slice A l.length c, .string (str s)] w (made (l ++ txtB s) w) := by
 refine (L3.text_ok _ A l.length c l (str s) w h hl (Nat.le_refl _) (by rw [qa4]; exact hs)).mono fun e w' h => ?_
 rw [qa4, qeb] at h
 exact qfg h
theorem c_num (l : List UInt8) (k : Int) (A : Option Addr) (c : Nat) (w : World) (hl : l.length <= 100000000) (hk : 0 <= k /\ k <= 4611686018427387904) (h : Reads w w.heap.size 1 A l.length (byteCells l)) :
 Calls Tryz.prog 175 #[.slice A l.length c, .int .i64 k] w (made (l ++ encN k.toNat) w) := by
 obtain ⟨m, rfl⟩ := Int.eq_ofNat_of_zero_le hk.1
 exact (L3.num_ok _ A l.length c l m w h hl (Nat.le_refl _) (by omega)).mono fun e w' h => qfg h
theorem qaL (a b : List UInt8) (n m : Nat) (ha : a.length <= n) (hb : b.length <= m) : (a ++ b).length <= n + m := by rw [List.length_append]; omega
theorem qbZ {s : List UInt8} (h : s.length <= 128) : (txtB s).length <= 137 := by
 have := L3.qbV (n := s.length) (by omega)
 unfold txtB
 rw [List.length_append]; omega
theorem qaE {n : Int} (h : 0 <= n /\ n <= 4611686018427387904) : (encN n.toNat).length <= 9 := L3.qbV (by omega)
theorem qeH (t : Txx) (w : World) (hT : Tabs w) (hr : right t = true) : Calls Tryz.prog 144 #[.agg (txC t)] w (made (bytesT t) w) := by
 have hwf := qeO hr
 have hb0 : Below w.heap.size w (w.alloc (.cells (txC t) 133)) := qa9 _ t
 have k0 := qa6 w 133 t
 have B0 := hid (fun w1 => @qdA w w1 133 t)
 have hc := qaD t _ (hwf.le (by omega)) (hT.kept hb0)
 rw [hr] at hc
 obtain ⟨_, w1, w2, w3, w4, _, _⟩ := hwf
 by_cases hk : t.kind = 1
 ·obtain ⟨p1, p2, p3, p4, p5, p6⟩ := qcf hr hk
  have n1 := qbB p1
  have n4 := qbB p4
  obtain ⟨y1, hy1⟩ := nm (encN (1 : Int).toNat ++ encN t.nonce.toNat)
  obtain ⟨y2, hy2⟩ := nm (y1 ++ txtB t.frm)
  obtain ⟨y3, hy3⟩ := nm (y2 ++ txtB t.to)
  obtain ⟨y4, hy4⟩ := nm (y3 ++ encN t.amount.toNat)
  have l1 : y1.length <= 18 := by rw [hy1]; exact qaL _ _ 9 9 (qaE ⟨by omega, by omega⟩) (qaE ⟨by omega, by omega⟩)
  have l2 : y2.length <= 155 := by rw [hy2]; exact qaL _ _ 18 137 l1 (qbZ w1)
  have l3 : y3.length <= 292 := by rw [hy3]; exact qaL _ _ 155 137 l2 (qbZ w2)
  have e : bytesT t = y4 := by rw [hy4, hy3, hy2, hy1]; unfold bytesT; rw [if_pos hk, hk]; simp
  have hN := fun wx ty => qfF 1 t.nonce wx ty ⟨by omega, by omega⟩ ⟨by omega, n1.2⟩
  rw [<- hy1] at hN
  have hT1 := fun A c wx => qhd y1 t.frm A c wx (by omega) (by omega)
  rw [<- hy2] at hT1
  have hT2 := fun A c wx => qhd y2 t.to A c wx (by omega) (by omega)
  rw [<- hy3] at hT2
  have hT3 := fun A c wx => c_num y3 t.amount A c wx (by omega) ⟨by omega, n4.2⟩
  rw [<- hy4] at hT3
  have HH := hid (And.intro hc (And.intro hN (And.intro hT1 (And.intro hT2 hT3))))
  have B1 : Hid (∀ w1, Below (w.alloc (.cells (txC t) 133)).heap.size (w.alloc (.cells (txC t) 133)) w1 -> Box w1 w.heap.size 1 t.frm t.to t.key t.val t.amount t.nonce) := hid fun w1 h => by have := B0.out w1 h; rw [hk] at this; exact this
  rw [e]
  clear hc hN hT1 hT2 hT3 hy1 hy2 hy3 hy4 e l1 l2 l3 w1 w2 w3 w4 p1 p2 p3 p4 p5 p6 n1 n4 hk hr hT B0
  go_enter Tryz.func144, Tryz.ntmps144
  go_wp2_with (first
   | (refine qaa rfl _ _ rfl w.heap.size rfl _ _ _ _ k0 Tryz.underlying133 rfl (by kernel_rfl) ?_)
   | (go_at_call 176; refine HH.out.1.mono ?_; unfold gives errI; rintro e w1 ⟨rfl, hb1⟩; obtain ⟨d0, d1, d2, d3, d4, d5, d6⟩ := B1.out _ hb1)
   | (go_at_call 173; refine (HH.out.2.1 _ _).mono ?_; unfold made; rintro e w2 ⟨A2, c2, rfl, r2, _, hb2⟩; replace hb2 := nxtB (hb1.alloc hb1.size _) hb2 (by have := hb1.size; simp at this ⊢; omega); obtain ⟨e0, e1, e2, e3, e4, e5, e6⟩ := B1.out _ hb2)
   | (go_at_call 177; (with_reducible refine (HH.out.2.2.1 _ _ _ r2).mono ?_); unfold made; rintro e w3 ⟨A3, c3, rfl, r3, _, hb3⟩; replace hb3 := nxtB hb2 hb3 hb2.size; obtain ⟨g0, g1, g2, g3, g4, g5, g6⟩ := B1.out _ hb3)
   | (go_at_call 177; (with_reducible refine (HH.out.2.2.2.1 _ _ _ r3).mono ?_); unfold made; rintro e w4 ⟨A4, c4, rfl, r4, _, hb4⟩; replace hb4 := nxtB hb3 hb4 hb3.size; obtain ⟨i0, i1, i2, i3, i4, i5, i6⟩ := B1.out _ hb4)
   | (go_at_call 175; (with_reducible refine (HH.out.2.2.2.2 _ _ _ r4).mono ?_); unfold made; rintro e w5 ⟨A5, c5, rfl, r5, q5, hb5⟩; replace hb5 := nxtB hb4 hb5 hb4.size))
  go_ret2
  exact ⟨A5, c5, rfl, r5, q5, hb0.trans (hb5.mono (by simp))⟩
 ·obtain ⟨p1, p2, p3, p4, p5, p6, hk2⟩ := qc7 hr hk
  have n1 := qbB p1
  obtain ⟨y1, hy1⟩ := nm (encN (2 : Int).toNat ++ encN t.nonce.toNat)
  obtain ⟨y2, hy2⟩ := nm (y1 ++ txtB t.frm)
  obtain ⟨y3, hy3⟩ := nm (y2 ++ txtB t.key)
  obtain ⟨y4, hy4⟩ := nm (y3 ++ txtB t.val)
  have l1 : y1.length <= 18 := by rw [hy1]; exact qaL _ _ 9 9 (qaE ⟨by omega, by omega⟩) (qaE ⟨by omega, by omega⟩)
  have l2 : y2.length <= 155 := by rw [hy2]; exact qaL _ _ 18 137 l1 (qbZ w1)
  have l3 : y3.length <= 292 := by rw [hy3]; exact qaL _ _ 155 137 l2 (qbZ w3)
  have e : bytesT t = y4 := by rw [hy4, hy3, hy2, hy1]; unfold bytesT; rw [if_neg hk, hk2]; simp
  have hN := fun wx ty => qfF 2 t.nonce wx ty ⟨by omega, by omega⟩ ⟨by omega, n1.2⟩
  rw [<- hy1] at hN
  have hT1 := fun A c wx => qhd y1 t.frm A c wx (by omega) (by omega)
  rw [<- hy2] at hT1
  have hT2 := fun A c wx => qhd y2 t.key A c wx (by omega) (by omega)
  rw [<- hy3] at hT2
  have hT3 := fun A c wx => qhd y3 t.val A c wx (by omega) (by omega)
  rw [<- hy4] at hT3
  have HH := hid (And.intro hc (And.intro hN (And.intro hT1 (And.intro hT2 hT3))))
  have B1 : Hid (∀ w1, Below (w.alloc (.cells (txC t) 133)).heap.size (w.alloc (.cells (txC t) 133)) w1 -> Box w1 w.heap.size 2 t.frm t.to t.key t.val t.amount t.nonce) := hid fun w1 h => by have := B0.out w1 h; rw [hk2] at this; exact this
  rw [e]
  clear hc hN hT1 hT2 hT3 hy1 hy2 hy3 hy4 e l1 l2 l3 w1 w2 w3 w4 p1 p2 p3 p4 p5 p6 n1 hk hk2 hr hT B0
  go_enter Tryz.func144, Tryz.ntmps144
  go_wp2_with (first
   | (refine qaa rfl _ _ rfl w.heap.size rfl _ _ _ _ k0 Tryz.underlying133 rfl (by kernel_rfl) ?_)
   | (go_at_call 176; refine HH.out.1.mono ?_; unfold gives errI; rintro e w1 ⟨rfl, hb1⟩; obtain ⟨d0, d1, d2, d3, d4, d5, d6⟩ := B1.out _ hb1)
   | (go_at_call 173; refine (HH.out.2.1 _ _).mono ?_; unfold made; rintro e w2 ⟨A2, c2, rfl, r2, _, hb2⟩; replace hb2 := nxtB (hb1.alloc hb1.size _) hb2 (by have := hb1.size; simp at this ⊢; omega); obtain ⟨e0, e1, e2, e3, e4, e5, e6⟩ := B1.out _ hb2)
   | (go_at_call 177; (with_reducible refine (HH.out.2.2.1 _ _ _ r2).mono ?_); unfold made; rintro e w3 ⟨A3, c3, rfl, r3, _, hb3⟩; replace hb3 := nxtB hb2 hb3 hb2.size; obtain ⟨g0, g1, g2, g3, g4, g5, g6⟩ := B1.out _ hb3)
   | (go_at_call 177; (with_reducible refine (HH.out.2.2.2.1 _ _ _ r3).mono ?_); unfold made; rintro e w4 ⟨A4, c4, rfl, r4, _, hb4⟩; replace hb4 := nxtB hb3 hb4 hb3.size; obtain ⟨i0, i1, i2, i3, i4, i5, i6⟩ := B1.out _ hb4)
   | (go_at_call 177; (with_reducible refine (HH.out.2.2.2.2 _ _ _ r4).mono ?_); unfold made; rintro e w5 ⟨A5, c5, rfl, r5, q5, hb5⟩; replace hb5 := nxtB hb4 hb5 hb4.size))
  go_ret2
  exact ⟨A5, c5, rfl, r5, q5, hb0.trans (hb5.mono (by simp))⟩
