/-
  The walk through the law of P3.1: in pieces that meet again.
-/
import Derived.Test.YtiddejmnbbimjaaAlive
import Derived.Test.YtiddejmnbbimjaaNums
import Derived.Deep.DeepCutAuto
import Derived.Deep.QuietTactic
import Derived.BigQuiet
import Derived.Deep.RegionHeld3
set_option linter.unusedSimpArgs false
set_option linter.unusedVariables false
namespace Go.Proofs.Ytiddejmnbbimjaa.lawWritesWalk
open Go.RowKit Go.Lib

set_option maxRecDepth 100000 in
theorem long_any (l : List UInt8) (A0 A3 : Option Addr) (c0 c3 m : Nat) (n : Int) (s : ByteArray) (w : World) (h : 2000 < l.length ∨ (l.length ≤ 2000 ∧ 70000 < s.size) ∨ (l.length ≤ 2000 ∧ s.size ≤ 70000 ∧ 500 < m)) :
    Calls Try.prog 3 #[.slice A0 l.length c0, .int .i64 n, .string s, .slice A3 m c3] w fun e w' => e = .returned (.bool true) ∧ Below w.heap.size w w' := by
  rcases h with h | ⟨h1, h⟩ | ⟨h1, h2, h⟩
  all_goals
    go_enter Try.func3, Try.ntmps3
    go_wp2_with (go_at_call 6; refine (alive_any _).mono ?_; unfold alivePost; rintro e w1 ⟨rfl, hb1⟩)
    go_ret
    exact ⟨rfl, hb1⟩
theorem keep_nxt {a b c : World} (h : Below a.heap.size a b) (k : Below b.heap.size b c) : Below a.heap.size a c := nxt h k h.size
/-- Num behind bytes, both ways. -/
def numBoth (l : List UInt8) (n : Int) (w : World) (e : Ending) (w' : World) : Prop :=
  ∃ A k c x, e = .returned (.tuple #[.slice A k c, .int .i64 x]) ∧ Below w.heap.size w w' ∧ ((okN n = true ∧ x = 0 ∧ k = (l ++ encN n.toNat).length ∧ Reads w' w'.heap.size 1 A k (byteCells (l ++ encN n.toNat))) ∨ (okN n = false ∧ x = 10 ∧ A = none ∧ k = 0 ∧ c = 0))
theorem num_both (A : Option Addr) (c : Nat) (l : List UInt8) (n : Int) (w : World) (hl : l.length ≤ 2000) (hr : Reads w w.heap.size 1 A l.length (byteCells l)) :
    Calls Try.prog 7 #[.slice A l.length c, .int .i64 n] w (numBoth l n w) := by
  rcases Bool.eq_false_or_eq_true (okN n) with h | h
  · have hb := okN_le h
    obtain ⟨m, rfl⟩ := Int.eq_ofNat_of_zero_le hb.1
    refine (num_ok _ A _ c l m w hr (by omega) (Nat.le_refl _) (by omega)).mono ?_
    rintro e w' ⟨v, rfl, ho⟩
    obtain ⟨A2, c2, rfl, hr2, hc2⟩ := ho.form
    exact ⟨A2, _, c2, 0, rfl, ho.2.1, Or.inl ⟨h, rfl, rfl, hr2⟩⟩
  · refine (num_bad _ n w h).mono ?_
    rintro e w' ⟨rfl, hb⟩
    exact ⟨none, 0, 0, 10, rfl, hb, Or.inr ⟨h, rfl, rfl, rfl, rfl⟩⟩
def refBoth (n : Int) (w : World) (e : Ending) (w' : World) : Prop :=
  ∃ t b, e = .returned (.tuple #[.string t, .bool b]) ∧ Below w.heap.size w w' ∧ ((okN n = true ∧ b = true ∧ t = strOf (encN n.toNat)) ∨ (okN n = false ∧ b = false))
theorem ref_both (n : Int) (w : World) : Calls Try.prog 8 #[.int .i64 n] w (refBoth n w) := by
  rcases Bool.eq_false_or_eq_true (okN n) with h | h
  · have hb := okN_le h
    obtain ⟨m, rfl⟩ := Int.eq_ofNat_of_zero_le hb.1
    refine (refnum_ok m w (by omega)).mono ?_
    rintro e w' ⟨rfl, ho⟩
    exact ⟨_, _, rfl, ho, Or.inl ⟨h, rfl, rfl⟩⟩
  · refine (refnum_bad n w h).mono ?_
    rintro e w' ⟨rfl, rfl⟩
    exact ⟨_, _, rfl, Below.refl _ _, Or.inr ⟨h, rfl⟩⟩
def textBoth (l : List UInt8) (s : ByteArray) (w : World) (e : Ending) (w' : World) : Prop :=
  ∃ A k c x, e = .returned (.tuple #[.slice A k c, .int .i64 x]) ∧ Below w.heap.size w w' ∧ ((s.size ≤ 65536 ∧ x = 0 ∧ k = (l ++ (encN s.size ++ s.data.toList)).length ∧ Reads w' w'.heap.size 1 A k (byteCells (l ++ (encN s.size ++ s.data.toList)))) ∨ (65536 < s.size ∧ x = 2 ∧ A = none ∧ k = 0 ∧ c = 0))
theorem text_both (A : Option Addr) (c : Nat) (l : List UInt8) (s : ByteArray) (w : World) (hl : l.length ≤ 2000) (hr : Reads w w.heap.size 1 A l.length (byteCells l)) :
    Calls Try.prog 9 #[.slice A l.length c, .string s] w (textBoth l s w) := by
  by_cases h : s.size ≤ 65536
  · refine (text_ok _ A _ c l s w hr (by omega) (Nat.le_refl _) h).mono ?_
    rintro e w' ⟨v, rfl, ho⟩
    obtain ⟨A2, c2, rfl, hr2, hc2⟩ := ho.form
    exact ⟨A2, _, c2, 0, rfl, ho.2.1, Or.inl ⟨h, rfl, rfl, hr2⟩⟩
  · refine (text_long _ s w (by omega)).mono ?_
    rintro e w' ⟨rfl, hb⟩
    exact ⟨none, 0, 0, 2, rfl, hb, Or.inr ⟨by omega, rfl, rfl, rfl, rfl⟩⟩
theorem conv_all {w : World} {B n c : Nat} {A : Option Addr} {l : List UInt8} (h : Reads w B 1 A n (byteCells l)) :
    (convert 22 9 (.slice A n c)).run Try.prog w = .ok (.string (strOf l)) w := by
  have h1 := conv_reads (c := c) h (Nat.le_refl n)
  have hn : l.length = n := by have := h.1; simpa [byteCells] using this
  rw [h1, List.take_of_length_le (by omega)]; rfl

set_option maxHeartbeats 4000000 in
set_option maxRecDepth 100000 in
theorem short_any (l : List UInt8) (A0 A3 : Option Addr) (c0 c3 : Nat) (zs : List Int) (n : Int) (s : ByteArray) (w : World) (hl : l.length ≤ 2000) (hs : s.size ≤ 70000) (hm : zs.length ≤ 500) (n0 : -9223372036854775808 ≤ n) (n1 : n ≤ 9223372036854775807)
    (h0 : Reads w w.heap.size 1 A0 l.length (byteCells l)) (h3 : Reads w w.heap.size 1 A3 zs.length (intCells zs)) :
    Calls Try.prog 3 #[.slice A0 l.length c0, .int .i64 n, .string s, .slice A3 zs.length c3] w fun e w' => e = .returned (.bool true) ∧ Below w.heap.size w w' := by
  have hls : (strOf l).size ≤ 2000 := by rw [strOf_size]; exact hl
  go_enter Try.func3, Try.ntmps3
  go_upto_region 5 with (go_at_call 6; refine (alive_any _).mono ?_; unfold alivePost; rintro e w1 ⟨rfl, hbw⟩)
  have hcv : (convert 22 9 (.slice A0 l.length c0)).run Try.prog w1 = .ok (.string (strOf l)) w1 := conv_all (h0.below hbw)
  go_upto_region 6 with fail
  clear hcv
  go_upto_region 8 with (first
    | (go_at_call 7; (with_reducible refine (num_both _ _ _ _ _ hl ((h0.below hbw).more hbw.size)).mono ?_); unfold numBoth; rintro e w2 ⟨A2, k2, c2, x2, rfl, hb2, hc2⟩)
    | (go_at_call 8; (with_reducible refine (ref_both _ _).mono ?_); unfold refBoth; rintro e w3 ⟨t3, b3, rfl, hb3, hc3⟩))
  have hbw3 := nxt (nxt hbw hb2 hbw.size) hb3 (nxt hbw hb2 hbw.size).size
  go_cut [75] (fun s75 wx => s75 = .bool false ∧ Below w.heap.size w wx)
  case first =>
    rcases hc2 with ⟨hok, rfl, hk2, hr2⟩ | ⟨hok, rfl, rfl, rfl, rfl⟩
    · rcases hc3 with ⟨_, rfl, rfl⟩ | ⟨hno, _⟩
      · have hcv2 : (convert 22 9 (.slice A2 k2 c2)).run Try.prog w3 = .ok (.string (strOf (l ++ encN n.toNat))) w3 := conv_all (hr2.below hb3)
        have happ := strOf_app l (encN n.toNat)
        have hz : (strOf (encN n.toNat)).size ≤ 9 := by rw [strOf_size]; exact encN_le9 (by have := okN_le hok; omega)
        clear hk2 hr2 hok
        go_wp2_with fail
        go_meet
        exact ⟨rfl, hbw3⟩
      · rw [hok] at hno; cases hno
    · rcases hc3 with ⟨hno, _⟩ | ⟨_, rfl⟩
      · rw [hok] at hno; cases hno
      · clear hok
        go_wp2_with fail
        go_meet
        exact ⟨rfl, hbw3⟩
  case rest =>
  obtain ⟨rfl, hbw4⟩ := hcut
  clear hc2 hc3 hb2 hb3 hbw3 hbw
  go_upto_if 84 with (go_at_call 9; (with_reducible refine (text_both _ _ _ _ _ hl ((h0.below hbw4).more hbw4.size)).mono ?_); unfold textBoth; rintro e w5 ⟨A5, k5, c5, x5, rfl, hb5, hc5⟩)
  have hbw5 := nxt hbw4 hb5 hbw4.size
  go_cut [] (fun wx => Below w.heap.size w wx)
  case first =>
    rcases hc5 with ⟨hsz, rfl, hk5, hr5⟩ | ⟨hsz, rfl, rfl, rfl, rfl⟩
    · have hcv5 : (convert 22 9 (.slice A5 k5 c5)).run Try.prog w5 = .ok (.string (strOf (l ++ (encN s.size ++ s.data.toList)))) w5 := conv_all hr5
      have happ := strOf_app l (encN s.size ++ s.data.toList)
      have hz : (strOf (encN s.size ++ s.data.toList)).size ≤ 70009 := by
        rw [strOf_size, List.length_append, ← size_list]
        have := encN_le9 (n := s.size) (by omega); omega
      have hs9 : s.size ≤ 1000000000 := by omega
      have hz2 : (strOf (l ++ (encN s.size ++ s.data.toList))).size ≤ 80000 := by
        rw [← strOf_app]
        rw [ByteArray.size_append]; omega
      have hcv6 : ∀ wx, Below w5.heap.size w5 wx → (convert 22 9 (.slice A5 k5 c5)).run Try.prog wx = .ok (.string (strOf (l ++ (encN s.size ++ s.data.toList)))) wx := fun wx hx => conv_all (hr5.below hx)
      have hadd : ¬ 9223372036854775807 < (strOf l).size + (strOf (encN s.size ++ s.data.toList)).size := by omega
      clear hk5 hcv5 hr5
      go_upto_region 14 with fail
      go_cut [102] (fun s102 wx => s102 = .bool false ∧ Below w5.heap.size w5 wx)
      case first =>
        go_region_held3 (fun wx => Below w5.heap.size w5 wx) (first | exact Below.refl _ _ | exact (Below.refl _ _).drew | assumption | exact Below.drew (by assumption) | exact keep_nxt (by assumption) (by assumption)) (first | (go_at_call 10; (with_reducible refine (refT_ok _ _ hs9).mono ?_); rintro e w6 ⟨rfl, hb6⟩))
        all_goals
          go_wp2_with fail
          go_meet
          exact ⟨rfl, by first | assumption | exact keep_nxt (by assumption) (by assumption)⟩
      case rest =>
        obtain ⟨rfl, hbw6'⟩ := hcut
        have hbw6 := nxt hbw5 hbw6' hbw5.size
        go_wp2_with fail
        go_meet
        exact hbw6
    · go_wp2_with fail
      go_meet
      exact hbw5
  case rest =>
  replace hbw4 := hcut
  clear hc5 hb5 hbw5 hcut
  go_upto_region 17 with (go_at_call 11; (with_reducible refine (nums_any _ _ _ _ _ ((h3.below hbw4).more hbw4.size) (by omega)).mono ?_))
  rintro e w7 hpost
  rcases hpost with ⟨hall, v7, rfl, ho7⟩ | ⟨hall, rfl, hb7⟩
  · obtain ⟨A7, c7, rfl, hr7, hc7⟩ := ho7.form
    have hbw7 := nxt hbw4 ho7.2.1 hbw4.size
    have h37 := (h3.below hbw7)
    have h07 := (h0.below hbw7)
    have hel := encs_le zs hall
    obtain ⟨q, hq⟩ : ∃ q, q = (encs zs).length := ⟨_, rfl⟩
    rw [← hq] at hr7 ⊢
    have HQ := Lib.hid hq
    have HALL := Lib.hid hall
    clear hc7 ho7 hq hall hbw4
    go_wp2_with fail
    go_loopw [18, 19] (fun a i wr => ∃ k : Nat, a = .string (strOf (encs (zs.take k))) ∧ i = .int .i64 k ∧ k ≤ zs.length ∧ Below w7.heap.size w7 wr) (fun _ i _ => zs.length - (RowKit.intOf i).toNat)
    case atStart => exact ⟨0, rfl, rfl, Nat.zero_le _, Below.refl _ _⟩
    case round =>
      obtain ⟨k, rfl, rfl, hk, hbr⟩ := hrel
      have h3r := h37.below (hbr.mono hbw7.size)
      by_cases hlt : k < zs.length
      · obtain ⟨ad, u, rfl, _, hx, hc⟩ := h3r.at_ hlt
        have hz : u = .int .i64 zs[k] := by
          simp only [intCells, List.getElem?_map, List.getElem?_eq_getElem hlt, Option.map_some, Option.some.injEq] at hx
          exact hx.symm
        subst hz
        have hok : okN zs[k] = true := List.all_eq_true.1 HALL.out _ (List.getElem_mem hlt)
        have hsn := take_snoc_int zs k hlt
        obtain ⟨z, hz⟩ : ∃ z, z = zs[k] := ⟨_, rfl⟩
        rw [← hz] at hc hsn hok
        have hzb := okN_le hok
        obtain ⟨m, rfl⟩ := Int.eq_ofNat_of_zero_le hzb.1
        have happ : strOf (encs (zs.take k)) ++ strOf (encN m) = strOf (encs (zs.take (k + 1))) := by rw [strOf_app, hsn, encs_snoc]; simp
        have hs1 : (strOf (encs (zs.take k))).size ≤ 4500 := by
          have h1 := encs_le (zs.take k) (by rw [List.all_eq_true]; exact fun x hx => List.all_eq_true.1 HALL.out x (List.mem_of_mem_take hx))
          rw [strOf_size]; rw [List.length_take] at h1; omega
        have hs2 : (strOf (encN m)).size ≤ 9 := by rw [strOf_size]; exact encN_le9 (by omega)
        have hm9 : m ≤ 4611686018427387904 := by omega
        clear hx hz hsn hok hzb
        go_wp2_with (go_at_call 8; (with_reducible refine (refnum_ok m _ hm9).mono ?_); rintro e w8 ⟨rfl, hb8⟩)
        go_roundw
        case rel => exact ⟨k + 1, rfl, by go_num, by omega, nxt hbr hb8 hbr.size⟩
        case measure => simp [RowKit.intOf]; omega
      · have hkn : zs.take k = zs := List.take_of_length_le (by omega)
        rw [hkn]
        have hcv7 : (convert 22 9 (.slice A7 q c7)).run Try.prog wr = .ok (.string (strOf (encs zs))) wr := conv_all (hr7.below hbr)
        have hcv0 : (convert 22 9 (.slice A0 l.length c0)).run Try.prog wr = .ok (.string (strOf l)) wr := conv_all (h07.below (hbr.mono hbw7.size))
        have hbwr := nxt hbw7 hbr hbw7.size
        clear hkn h3r
        go_wp2_with fail
        go_ret
        exact ⟨rfl, hbwr⟩
  · have hbw7 := nxt hbw4 hb7 hbw4.size
    have h37 := (h3.below hbw7)
    have h07 := (h0.below hbw7)
    have HALL := Lib.hid hall
    clear hall hbw4 hb7
    go_wp2_with fail
    go_loopw [18, 19] (fun a i wr => ∃ k : Nat, a = .string (strOf (encs (zs.take k))) ∧ i = .int .i64 k ∧ k ≤ zs.length ∧ (zs.take k).all okN = true ∧ Below w7.heap.size w7 wr) (fun _ i _ => zs.length - (RowKit.intOf i).toNat)
    case atStart => exact ⟨0, rfl, rfl, Nat.zero_le _, rfl, Below.refl _ _⟩
    case round =>
      obtain ⟨k, rfl, rfl, hk, hak, hbr⟩ := hrel
      have h3r := h37.below (hbr.mono hbw7.size)
      by_cases hlt : k < zs.length
      · obtain ⟨ad, u, rfl, _, hx, hc⟩ := h3r.at_ hlt
        have hz : u = .int .i64 zs[k] := by
          simp only [intCells, List.getElem?_map, List.getElem?_eq_getElem hlt, Option.map_some, Option.some.injEq] at hx
          exact hx.symm
        subst hz
        have hsn := take_snoc_int zs k hlt
        obtain ⟨z, hz⟩ : ∃ z, z = zs[k] := ⟨_, rfl⟩
        rw [← hz] at hc hsn
        have hs1 : (strOf (encs (zs.take k))).size ≤ 4500 := by
          have h1 := encs_le (zs.take k) hak
          rw [strOf_size]; rw [List.length_take] at h1; omega
        rcases Bool.eq_false_or_eq_true (okN z) with hok | hok
        · have hzb := okN_le hok
          obtain ⟨m, rfl⟩ := Int.eq_ofNat_of_zero_le hzb.1
          have happ : strOf (encs (zs.take k)) ++ strOf (encN m) = strOf (encs (zs.take (k + 1))) := by rw [strOf_app, hsn, encs_snoc]; simp
          have hak2 : (zs.take (k + 1)).all okN = true := by rw [hsn, List.all_append, hak]; simpa using hok
          have hs2 : (strOf (encN m)).size ≤ 9 := by rw [strOf_size]; exact encN_le9 (by omega)
          have hm9 : m ≤ 4611686018427387904 := by omega
          have HAK := Lib.hid hak2
          clear hx hz hsn hok hzb hak hak2
          go_wp2_with (go_at_call 8; (with_reducible refine (refnum_ok m _ hm9).mono ?_); rintro e w8 ⟨rfl, hb8⟩)
          go_roundw
          case rel => exact ⟨k + 1, rfl, by go_num, by omega, HAK.out, nxt hbr hb8 hbr.size⟩
          case measure => simp [RowKit.intOf]; omega
        · have hcv0 : (convert 22 9 (.slice A0 l.length c0)).run Try.prog wr = .ok (.string (strOf l)) wr := conv_all (h07.below (hbr.mono hbw7.size))
          have hbwr := nxt hbw7 hbr hbw7.size
          have HOK := Lib.hid hok
          clear hx hz hsn hok hak
          go_wp2_with (go_at_call 8; (with_reducible refine (refnum_bad z _ HOK.out).mono ?_); rintro e w8 ⟨rfl, rfl⟩)
          go_ret
          exact ⟨rfl, hbwr⟩
      · have hkn : zs.take k = zs := List.take_of_length_le (by omega)
        rw [hkn, HALL.out] at hak
        cases hak
theorem walk (A0 : Option Addr) (c0 : Nat) (l : List UInt8) (n : Int) (s : ByteArray) (A3 : Option Addr) (c3 : Nat) (zs : List Int) (w : World)
    (h0 : Reads w w.heap.size 1 A0 l.length (byteCells l)) (h3 : Reads w w.heap.size 1 A3 zs.length (zs.map (Value.int .i64))) (n0 : -9223372036854775808 ≤ n) (n1 : n ≤ 9223372036854775807) :
    Calls Try.prog 3 #[.slice A0 l.length c0, .int .i64 n, .string s, .slice A3 zs.length c3] w fun e w' => e = .returned (.bool true) ∧ Below w.heap.size w w' := by
  by_cases h : l.length ≤ 2000 ∧ s.size ≤ 70000 ∧ zs.length ≤ 500
  · exact short_any l A0 A3 c0 c3 zs n s w h.1 h.2.1 h.2.2 n0 n1 h0 h3
  · exact long_any l A0 A3 c0 c3 zs.length n s w (by omega)
end Go.Proofs.Ytiddejmnbbimjaa.lawWritesWalk
