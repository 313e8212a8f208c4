/-
  MsgFirst, walked: a message's kind is its first byte; no beginning of a message is one; none goes on behind its end.
-/
import Derived.Test.YtgmejaiifibfoaaDoorUseM
set_option linter.unusedSimpArgs false
set_option linter.unusedVariables false
set_option maxRecDepth 10000
namespace Go.Proofs.YtgmejaiifibfoaaDoor
open Go.RowKit Go.Maps Go.Lib
open L3 (Blk Reads)
open L11 (Crt zeroC mayV)

theorem str_append (a b : List UInt8) : str a ++ str b = str (a ++ b) := by
  apply ByteArray.ext
  simp [str]
/-- What Parse tells of a beginning of a message. -/
theorem parse_cutM (m : Mes) (h0 : mayM m = true) (k : Nat) (hk : k < (bytesM m).length) (w : World) (hT : Tabs w) : Calls Tryd.prog 8 #[.string (str ((bytesM m).take k))] w fun e w' => ∃ A a c B b d C f g z, e = .returned (.tuple #[.agg (mesC zeroM (.slice A a c) (.slice B b d) (.slice C f g)), .int .i64 z]) ∧ z ≠ 0 ∧ Below w.heap.size w w' := by
  have hn := cutM_no h0 hk
  have hz := parseM_no hn
  have hbl := bytesM_len h0
  refine (parse_twoM _ _ w hT (by rw [List.length_take]; omega) rfl).mono ?_
  rintro e w' ⟨A, a, c, B, b, d, C, f, g, rfl, hL, hb⟩
  exact ⟨A, a, c, B, b, d, C, f, g, _, by rw [hz], hn, hb⟩
/-- What Parse tells of a message and what stands behind it. -/
theorem parse_tailM (m : Mes) (h0 : mayM m = true) (r : List UInt8) (hr : r.length ≤ 1000) (w : World) (hT : Tabs w) : Calls Tryd.prog 8 #[.string (str (bytesM m ++ r))] w fun e w' => ∃ m' A a c B b d C f g z, e = .returned (.tuple #[.agg (mesC m' (.slice A a c) (.slice B b d) (.slice C f g)), .int .i64 z]) ∧ (z = 0 ↔ r = []) ∧ Below w.heap.size w w' := by
  have hbl := bytesM_len h0
  refine (parse_twoM _ _ w hT (by rw [List.length_append]; omega) rfl).mono ?_
  rintro e w' ⟨A, a, c, B, b, d, C, f, g, rfl, hL, hb⟩
  exact ⟨_, A, a, c, B, b, d, C, f, g, _, rfl, tailM_iff h0 r, hb⟩
set_option maxHeartbeats 4000000 in
set_option maxRecDepth 100000 in
theorem first_walk (m : Mes) (P Q T : Value) (x : Int) (s : ByteArray) (w : World) (hraw : m.raw) (hl : LiesM w m P Q T) (hx : 0 ≤ x ∧ x ≤ 65535) (hs : s.size ≤ 9223372036854775807) (hT : Tabs w) :
    Calls Tryd.prog 4 #[.agg (mesC m P Q T), .int .u16 x, .string s] w (gives (.bool true) w) := by
  obtain ⟨r, rfl⟩ : ∃ r, s = str r := ⟨s.data.toList, (str_of s).symm⟩
  have hsz := str_size r
  rw [hsz] at hs
  have F0 := Lib.hid (boxM_mk 34 hl)
  have HT := Lib.hid (fun w' (hb : Below w.heap.size w w') => hT.kept hb)
  have HG := Lib.hid (fun W (h : LiesM W m P Q T) => greatM_any m P Q T W hraw h)
  have HSM := Lib.hid (fun hg => greatM_small hraw hg)
  clear hl hT hraw
  go_enter Tryd.func4, Tryd.ntmps4
  go_upto_region 1 with fail
  refine name_world (fun w0 hw0 => ?_)
  have hA0 : BoxM w w.heap.size 34 m P Q T w0 := by rw [hw0]; exact F0.out
  clear hw0 F0
  have hal := aliveM_any w0 (HT.out _ hA0.bw)
  go_upto_region 3 with (first
    | (go_at_call 5; refine hal.mono ?_; unfold gives; rintro e w1 ⟨rfl, hb1⟩))
  have hA1 := hA0.below hb1
  clear hA0 hb1 hal
  have hgr := HG.out w1 hA1.ls
  rcases Bool.eq_false_or_eq_true (greatM m) with hg | hg
  · rw [hg] at hgr
    clear hg HSM HG
    go_wp2_with (first
      | (refine wpList_row_at rfl _ _ rfl w.heap.size rfl _ _ _ _ hA1.bb Tryd.underlying34 rfl mesInfoR ?_)
      | (go_at_call 6; refine hgr.mono ?_; unfold gives; rintro e w2 ⟨rfl, hb2⟩))
    go_ret
    exact ⟨rfl, nxt hA1.bw hb2⟩
  have hwf := HSM.out hg
  rw [hg] at hgr
  have HWF := Lib.hid hwf
  clear hg HSM HG hwf
  by_cases hlen : 1000 < r.length
  · go_wp2_with (first
      | (refine wpList_row_at rfl _ _ rfl w.heap.size rfl _ _ _ _ hA1.bb Tryd.underlying34 rfl mesInfoR ?_)
      | (go_at_call 6; refine hgr.mono ?_; unfold gives; rintro e w2 ⟨rfl, hb2⟩))
    go_ret
    exact ⟨rfl, nxt hA1.bw hb2⟩
  go_upto_region 5 with (first
    | (refine wpList_row_at rfl _ _ rfl w.heap.size rfl _ _ _ _ hA1.bb Tryd.underlying34 rfl mesInfoR ?_)
    | (go_at_call 6; refine hgr.mono ?_; unfold gives; rintro e w2 ⟨rfl, hb2⟩))
  have hA2 := hA1.below hb2
  have HLEN := Lib.hid hlen
  clear hA1 hb2 hgr hlen
  rcases (Bool.eq_false_or_eq_true (mayM m)).symm with h0 | h0
  · have hno := bytesM_no m _ _ _ w2 HWF.out hA2.ls (HT.out _ hA2.bw) h0
    clear h0
    go_wp2_with (first
      | (refine wpList_row_at rfl _ _ rfl w.heap.size rfl _ _ _ _ hA2.bb Tryd.underlying34 rfl mesInfoR ?_)
      | (go_at_call 7; refine hno.mono ?_; unfold gives; rintro e w3 ⟨rfl, hb3⟩))
    go_ret
    exact ⟨rfl, nxt hA2.bw hb3⟩
  have hby := bytesM_ok m _ _ _ w2 HWF.out hA2.ls (HT.out _ hA2.bw) h0
  have hbl := bytesM_len h0
  obtain ⟨hf1, hf2⟩ := bytesM_first h0
  have hkk := ok_kind (may_facts h0).1
  have HC := Lib.hid (fun k (hk : k < (bytesM m).length) W ht => parse_cutM m h0 k hk W ht)
  have HTL := Lib.hid (fun W ht => parse_tailM m h0 r (by have := HLEN.out; omega) W ht)
  obtain ⟨y, hy⟩ : ∃ y, y = bytesM m := ⟨_, rfl⟩
  rw [← hy] at hby hbl hf1 hf2 HC HTL
  clear hy h0
  go_upto_region 8 with (first
    | (refine wpList_row_at rfl _ _ rfl w.heap.size rfl _ _ _ _ hA2.bb Tryd.underlying34 rfl mesInfoR ?_)
    | (go_at_call 7; refine hby.mono ?_; unfold tells; rintro e w3 ⟨rfl, hb3⟩))
  have hA3 := hA2.below hb3
  clear hA2 hb3 hby
  have hD := hA3.below (Below.refl _ w3).drew
  have ne : Nonempty (WorldIn (BoxM w w.heap.size 34 m P Q T)) := ⟨⟨_, hD⟩⟩
  obtain ⟨k, hk⟩ : ∃ k, k = m.kind := ⟨_, rfl⟩
  have g0 : ∀ y : WorldIn (BoxM w w.heap.size 34 m P Q T), y.w.cell? ⟨w.heap.size, 0, none⟩ = some (.int .i64 k) := fun y => by rw [hk]; exact y.h.bb.cell 0
  have hys := str_size y
  have hz : ((y.length : Int) == 0) = false := by rw [beq_eq_false_iff_ne]; omega
  have h0y : 0 < (str y).size := by omega
  have hw : wrap64 (((str y)[0]'h0y).toNat : Int) = k := by
    rw [hk]
    obtain ⟨h1, h2⟩ := List.getElem?_eq_some_iff.1 hf1
    have e : (str y)[0]'h0y = y[0] := rfl
    rw [e, h2, UInt8.toNat_ofNat']
    unfold wrap64
    omega
  clear hk hf1
  refine wp_region_S (BoxM w w.heap.size 34 m P Q T) (by kernel_rfl) (by kernel_rfl) hD ?_
  clear hD hA3
  iterate 11 go_big_quiet_step (fail)
  refine wpQuiet_nil ?_
  intro z
  obtain ⟨W, hW⟩ := z
  dsimp only
  obtain ⟨hx0, hx1⟩ := hx
  obtain ⟨j, hj, hjl⟩ : ∃ j : Nat, x % (y.length : Int) = (j : Int) ∧ j < y.length := by
    have hp : (0 : Int) < (y.length : Int) := by omega
    have h1 := Int.emod_nonneg x (show (y.length : Int) ≠ 0 by omega)
    have h2 := Int.emod_lt_of_pos x hp
    refine ⟨(x % (y.length : Int)).toNat, (Int.toNat_of_nonneg h1).symm, by omega⟩
  have hex : (str y).extract 0 j = str (y.take j) := by
    apply ByteArray.ext
    simp [str]
  have hjle : j ≤ y.length := Nat.le_of_lt hjl
  have hP := HC.out j hjl W (HT.out _ hW.bw)
  have hap := str_append y r
  have hrs := str_size r
  have hfit : ¬ 9223372036854775807 < (str y).size + (str r).size := by have := HLEN.out; omega
  clear ne g0 hw h0y HC hjl hs
  go_upto_region 11 with (first
    | (go_at_call 8; refine hP.mono ?_; rintro e w4 ⟨A4, n4, c4, B4, b4, d4, C4, f4, g4, z4, rfl, hz4, hb4⟩)
    | (refine wpList_store_new rfl _ _ _ rfl _ (mesC zeroM (.slice A4 n4 c4) (.slice B4 b4 d4) (.slice C4 f4 g4)) rfl rfl _ _ mesInfo rfl (mesC_ones _ _ _ _ _ _ _ _ _ _) ?_))
  have hbw5 := nxt (nxt hW.bw hb4) (below_new w4 (.cells (mesC zeroM (.slice A4 n4 c4) (.slice B4 b4 d4) (.slice C4 f4 g4)) 40))
  refine name_world (fun w5 hw5 => ?_)
  rw [← hw5] at hbw5
  have hP2 := HTL.out w5 (HT.out _ hbw5)
  clear hw5 hb4 hP hW hex hj hjle
  go_upto_region 12 with (first
    | (go_at_call 8; refine hP2.mono ?_; rintro e w6 ⟨m6, A6, n6, c6, B6, b6, d6, C6, f6, g6, z6, rfl, hz6, hb6⟩)
    | (refine wpList_store_new rfl _ _ _ rfl _ (mesC m6 (.slice A6 n6 c6) (.slice B6 b6 d6) (.slice C6 f6 g6)) rfl rfl _ _ mesInfo rfl (mesC_ones _ _ _ _ _ _ _ _ _ _) ?_))
  have hbw7 := nxt (nxt hbw5 hb6) (below_new w6 (.cells (mesC m6 (.slice A6 n6 c6) (.slice B6 b6 d6) (.slice C6 f6 g6)) 40))
  refine name_world (fun w7 hw7 => ?_)
  rw [← hw7] at hbw7
  have q4 : (z4 != 0) = true := by simpa using hz4
  have q4' : (z4 == 0) = false := by simpa using hz4
  clear hw7 hb6 hP2 hbw5 HTL hap hfit hz4
  by_cases hr : r = []
  · have e6 : z6 = 0 := hz6.2 hr
    subst hr
    subst e6
    have hre : (str ([] : List UInt8)).toList.isEmpty = true := by simp [str]
    clear hz6
    go_wp2
    go_ret
    exact ⟨rfl, hbw7⟩
  · have e6 : z6 ≠ 0 := fun h => hr (hz6.1 h)
    have q6 : (z6 == 0) = false := by simpa using e6
    have q6' : (z6 != 0) = true := by simpa using e6
    have hre : ((str r).toList == []) = false := by simpa [str] using hr
    clear hz6 e6 hr
    go_wp2
    go_ret
    exact ⟨rfl, hbw7⟩
end Go.Proofs.YtgmejaiifibfoaaDoor
