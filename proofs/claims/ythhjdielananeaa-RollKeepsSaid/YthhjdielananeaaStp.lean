/-
  The bytes of dressed ones, by the code.
-/
import Derived.Test.YthhjdielananeaaDre
set_option linter.unusedSimpArgs false
set_option linter.unusedVariables false
set_option maxRecDepth 10000
namespace Go.Proofs.Ythhjdielananeaa
open Go.RowKit Go.Lib
open L3 (Blk Reads block_of_add add_of_add)
open L6 (Turn moreB fresh From In)

/-- What Strip tells. -/
def stripR (o : Option (List UInt8)) : Value := match o with
  | none => .tuple #[.string (str []), .int .i64 180]
  | some m => .tuple #[.string (str m), .int .i64 0]
/-- A round of it. -/
structure StpAt (w : World) (B : Nat) (l : List UInt8) (k : Nat) (sg : Bool) (out : List UInt8) (W : World) : Prop where
  is : strip l = (stripT sg (l.drop k)).map (fun m => out ++ m)
  bd : Bd W B B out
  le : out.length ≤ k
  bw : Below B w W
theorem StpAt.size {w W : World} {B k : Nat} {l out : List UInt8} {sg : Bool} (h : StpAt w B l k sg out W) (hB : B = w.heap.size) : B ≤ W.heap.size := by have := h.bw.size; omega
theorem StpAt.put {w W W' : World} {B k : Nat} {l out : List UInt8} {sg : Bool} (h : StpAt w B l k sg out W) (hk : k < l.length) (x : UInt8) (hx : stripT sg (l[k] :: l.drop (k + 1)) = (stripT false (l.drop (k + 1))).map (fun m => x :: m)) (hb : Bd W' B B (out ++ [x])) (hK : BdK B B W W') : StpAt w B l (k + 1) false (out ++ [x]) W' := by
  refine ⟨?_, hb, ?_, h.bw.trans hK.1⟩
  · rw [h.is, List.drop_eq_getElem_cons hk, hx, Option.map_map]
    congr 1
    funext m
    simp
  · rw [List.length_append]; have := h.le; simp; omega
theorem StpAt.sign {w W : World} {B k : Nat} {l out : List UInt8} (h : StpAt w B l k false out W) (hk : k < l.length) (h1 : l[k] = 1) : StpAt w B l (k + 1) true out W := by
  refine ⟨?_, h.bd, by have := h.le; omega, h.bw⟩
  rw [h.is, List.drop_eq_getElem_cons hk, h1, stripT, if_neg (by decide), if_neg (by decide), if_pos rfl]
theorem StpAt.none {w W : World} {B k : Nat} {l out : List UInt8} {sg : Bool} (h : StpAt w B l k sg out W) (hk : k < l.length) (hx : stripT sg (l[k] :: l.drop (k + 1)) = Option.none) : strip l = Option.none := by
  rw [h.is, List.drop_eq_getElem_cons hk, hx]
  rfl
theorem u8_int {s : ByteArray} {k : Nat} {h : k < s.size} {c : UInt8} (hg : s[k] = c) : (s[k].toNat : Int) = c.toNat := by rw [hg]
theorem u8_n0 {c : UInt8} (h : c ≠ 0) : ((c.toNat : Int) == 0) = false := by
  rw [beq_eq_false_iff_ne]
  intro e
  exact h (u8_eq (n := 0) (by decide) (Int.ofNat_inj.1 e))
theorem u8_n1 {c : UInt8} (h : c ≠ 1) : ((c.toNat : Int) == 1) = false := by
  rw [beq_eq_false_iff_ne]
  intro e
  exact h (u8_eq (n := 1) (by decide) (Int.ofNat_inj.1 e))
set_option maxHeartbeats 4000000 in
set_option maxRecDepth 100000 in
theorem strip_any (l : List UInt8) (w : World) (hl : l.length ≤ 1000000000) : Calls Try.prog 11 #[.string (str l)] w (gives (stripR (strip l)) w) := by
  have hfr := Bd.fresh w
  have hb0 := below_new w (.cells #[.pointer none, .slice none 0 0] 69)
  obtain ⟨w0, hw0⟩ : ∃ w0, w.alloc (.cells #[.pointer none, .slice none 0 0] 69) = w0 := ⟨_, rfl⟩
  rw [hw0] at hfr hb0
  obtain ⟨B, hB⟩ : ∃ B, B = w.heap.size := ⟨_, rfl⟩
  rw [← hB] at hfr hb0
  have HB := Lib.hid hB
  obtain ⟨s, hs⟩ : ∃ s, s = str l := ⟨_, rfl⟩
  have hn : s.size = l.length := by rw [hs, str_size]
  have hg : ∀ (k : Nat) (h : k < s.size) (h' : k < l.length), s[k] = l[k] := fun k h h' => by subst hs; rfl
  have h0 : StpAt w B l 0 false [] w0 := ⟨by rw [List.drop_zero, strip_is]; simp, hfr, Nat.le_refl _, hb0⟩
  rw [← hs]
  have HN := Lib.hid hn
  have HG := Lib.hid hg
  have H0 := Lib.hid h0
  have hn9 : s.size ≤ 1000000000 := by omega
  clear hs hn hg hfr hb0 hB hl h0
  go_enter Try.func11, Try.ntmps11
  go_upto_region 2 with fail
  rw [← HB.out]
  clear hw0
  go_wp2
  go_loopw [5, 10] (fun g i wr => ∃ (k : Nat) (sg : Bool) (out : List UInt8), g = .bool sg ∧ i = .int .i64 k ∧ k ≤ s.size ∧ StpAt w B l k sg out wr) (fun _ i _ => s.size - (RowKit.intOf i).toNat)
  case atStart => exact ⟨0, false, [], rfl, rfl, Nat.zero_le _, H0.out⟩
  case round =>
    obtain ⟨k, sg, out, rfl, rfl, hk, hS⟩ := hrel
    have HS := Lib.hid hS
    have hsz := hS.size HB.out
    have hol := hS.le
    have hbd := hS.bd
    clear hS
    by_cases hlt : k < s.size
    · have hkl : k < l.length := by have := HN.out; omega
      have hgk := HG.out k hlt hkl
      obtain ⟨c, hc⟩ : ∃ c, c = l[k] := ⟨_, rfl⟩
      have HC := Lib.hid (fun h : k < l.length => (show c = l[k]'h from hc))
      rw [← hc] at hgk
      have hzc : (s[k].toNat : Int) = c.toNat := u8_int hgk
      have HZ := Lib.hid hzc
      have HKL := Lib.hid hkl
      clear hc hkl hgk
      by_cases c0 : c = 0
      · have g0 : ((s[k].toNat : Int) == 0) = true := by rw [hzc, c0]; rfl
        have HX := Lib.hid (show strip l = none from HS.out.none HKL.out (by rw [← (HC.out HKL.out), c0, stripT, if_pos rfl]))
        clear hzc c0
        go_wp2_with fail
        go_ret2
        rw [HX.out]
        exact ⟨rfl, by rw [← HB.out]; exact HS.out.bw⟩
      have g0 : ((s[k].toNat : Int) == 0) = false := by
        rw [hzc]
        exact u8_n0 c0
      rcases Bool.eq_false_or_eq_true sg with hsg | hsg
      · subst hsg
        by_cases c1 : c = 1
        · have z1 : s[k].toNat = 1 := by have : c.toNat = 1 := by rw [c1]; rfl
                                         omega
          have HX := Lib.hid (show stripT true (l[k]'HKL.out :: l.drop (k + 1)) = (stripT false (l.drop (k + 1))).map (fun m => 0 :: m) by rw [← (HC.out HKL.out), c1, stripT, if_neg (by decide), if_pos rfl, if_pos (.inl rfl)]; rfl)
          clear hzc c0 c1 g0
          go_wp2_with (first
            | (go_at_call 30; refine (byte_any B B out 0 _ (by rfl) _ hbd (by omega) hsz).mono ?_; rintro e w1 ⟨rfl, hbd1, hk1⟩)
            | go_in)
          go_roundw
          case rel => exact ⟨k + 1, false, _, rfl, by go_num, by omega, HS.out.put HKL.out 0 HX.out hbd1 hk1⟩
          case measure => simp [RowKit.intOf]; omega
        · by_cases c2 : c = 2
          · have z2 : s[k].toNat = 2 := by have : c.toNat = 2 := by rw [c2]; rfl
                                           omega
            have HX := Lib.hid (show stripT true (l[k]'HKL.out :: l.drop (k + 1)) = (stripT false (l.drop (k + 1))).map (fun m => 1 :: m) by rw [← (HC.out HKL.out), c2, stripT, if_neg (by decide), if_pos rfl, if_pos (.inr rfl)]; rfl)
            clear hzc c0 c1 c2 g0
            go_wp2_with (first
              | (go_at_call 30; refine (byte_any B B out 1 _ (by rfl) _ hbd (by omega) hsz).mono ?_; rintro e w1 ⟨rfl, hbd1, hk1⟩)
              | go_in)
            go_roundw
            case rel => exact ⟨k + 1, false, _, rfl, by go_num, by omega, HS.out.put HKL.out 1 HX.out hbd1 hk1⟩
            case measure => simp [RowKit.intOf]; omega
          · have z2 : 2 < (s[k].toNat : Int) := by
              rw [hzc]
              have h0 : c.toNat ≠ 0 := fun h => c0 (u8_eq (by decide) h)
              have h1 : c.toNat ≠ 1 := fun h => c1 (u8_eq (by decide) h)
              have h2 : c.toNat ≠ 2 := fun h => c2 (u8_eq (by decide) h)
              omega
            have HX := Lib.hid (show strip l = none from HS.out.none HKL.out (by rw [← (HC.out HKL.out), stripT, if_neg c0, if_pos rfl, if_neg (fun h => h.elim c1 c2)]))
            clear hzc c0 c1 c2
            go_wp2_with fail
            go_ret2
            rw [HX.out]
            exact ⟨rfl, by rw [← HB.out]; exact HS.out.bw⟩
      · subst hsg
        by_cases c1 : c = 1
        · have g1 : ((s[k].toNat : Int) == 1) = true := by rw [hzc, c1]; rfl
          have HX := Lib.hid (HS.out.sign HKL.out ((HC.out HKL.out).symm.trans c1))
          clear hzc c0 c1
          go_wp2_with fail
          go_roundw
          case rel => exact ⟨k + 1, true, out, rfl, by go_num, by omega, HX.out⟩
          case measure => simp [RowKit.intOf]; omega
        · have g1 : ((s[k].toNat : Int) == 1) = false := by
            rw [hzc]
            exact u8_n1 c1
          have HX := Lib.hid (show stripT false (l[k]'HKL.out :: l.drop (k + 1)) = (stripT false (l.drop (k + 1))).map (fun m => c :: m) by rw [← (HC.out HKL.out), stripT, if_neg c0, if_neg (by decide), if_neg c1])
          clear hzc c0 c1
          go_wp2_with (first
            | (go_at_call 30; refine (byte_any B B out c _ HZ.out _ hbd (by omega) hsz).mono ?_; rintro e w1 ⟨rfl, hbd1, hk1⟩)
            | go_in)
          go_roundw
          case rel => exact ⟨k + 1, false, _, rfl, by go_num, by omega, HS.out.put HKL.out c HX.out hbd1 hk1⟩
          case measure => simp [RowKit.intOf]; omega
    · have hke : k = s.size := by omega
      have hkl : l.drop k = [] := List.drop_eq_nil_of_le (by have := HN.out; omega)
      have his := HS.out.is
      rw [hkl] at his
      rcases Bool.eq_false_or_eq_true sg with hsg | hsg
      · subst hsg
        have HX := Lib.hid (show strip l = none from his)
        clear his hkl
        subst hke
        go_wp2_with fail
        go_ret2
        rw [HX.out]
        exact ⟨rfl, by rw [← HB.out]; exact HS.out.bw⟩
      · subst hsg
        have HX := Lib.hid (show strip l = some out by rw [his]; simp [stripT])
        clear his hkl
        subst hke
        go_wp2_with (first
          | (go_at_call 31; refine (string_any B B out _ hbd hsz).mono ?_; rintro e w1 ⟨rfl, hb1⟩)
          | go_in)
        go_ret2
        rw [HX.out]
        refine ⟨rfl, ?_⟩
        rw [← HB.out]
        exact HS.out.bw.trans hb1
end Go.Proofs.Ythhjdielananeaa
