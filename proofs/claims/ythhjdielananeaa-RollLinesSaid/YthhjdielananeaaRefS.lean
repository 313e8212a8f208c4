/-
  The bytes of dressed ones, of the document's answer: as the program.
-/
import Derived.Test.YthhjdielananeaaRefD
set_option linter.unusedSimpArgs false
set_option linter.unusedVariables false
set_option maxRecDepth 10000
namespace Go.Proofs.Ythhjdielananeaa
open Go.RowKit Go.Lib
open L3 (Blk Reads block_of_add add_of_add)
open L6 (Turn moreB fresh From In)

/-- What the document's Strip tells. -/
def stripQ (o : Option (List UInt8)) : Value := match o with
  | none => .tuple #[.string (str []), .bool false]
  | some m => .tuple #[.string (str m), .bool true]
/-- A round of it. -/
structure SqAt (w : World) (l : List UInt8) (k : Nat) (out : List UInt8) (v : Value) (W : World) : Prop where
  is : strip l = (strip (l.drop k)).map (fun m => out ++ m)
  own : OwnB w W v out
  le : out.length ≤ k
theorem SqAt.step {w W W4 : World} {l out : List UInt8} {k k' : Nat} {v v4 : Value} {o : Obj} (h : SqAt w l k out v W) (x : UInt8) (hx : strip (l.drop k) = (strip (l.drop k')).map (fun m => x :: m)) (hk : k < k') (ho4 : W4.ownsRow w.heap.size 5 1 v4 (out.length + 1) (bcs out ++ bcs [x])) (hg : (W.alloc o).grownBy W4 v.ownBlock) : SqAt w l k' (out ++ [x]) v4 W4 := by
  refine ⟨?_, h.own.push (m := [x]) ho4 hg, ?_⟩
  · rw [h.is, hx, Option.map_map]
    congr 1
    funext m
    simp
  · rw [List.length_append]; have := h.le; simp; omega
theorem SqAt.none {w W : World} {l out : List UInt8} {k : Nat} {v : Value} (h : SqAt w l k out v W) (hx : strip (l.drop k) = Option.none) : strip l = Option.none := by
  rw [h.is, hx]
  rfl
set_option maxHeartbeats 4000000 in
set_option maxRecDepth 100000 in
theorem refstrip_any (l : List UInt8) (w : World) (hl : l.length ≤ 1000000000) : Calls Try.prog 12 #[.string (str l)] w (gives (stripQ (strip l)) w) := by
  obtain ⟨i0, hi, hz0, hz1, hz2⟩ := u8_info
  obtain ⟨s, hs⟩ : ∃ s, s = str l := ⟨_, rfl⟩
  have hn : s.size = l.length := by rw [hs, str_size]
  have hg : ∀ (k : Nat) (h : k < s.size) (h' : k < l.length), s[k] = l[k] := fun k h h' => by subst hs; rfl
  have h0 : SqAt w l 0 [] (.slice none 0 0) w := ⟨by rw [List.drop_zero]; simp, OwnB.nil w, Nat.le_refl _⟩
  rw [← hs]
  have HN := Lib.hid hn
  have HG := Lib.hid hg
  have H0 := Lib.hid h0
  have hn9 : s.size ≤ 1000000000 := by omega
  clear hs hn hg hl h0
  go_enter Try.func12, Try.ntmps12
  go_wp2
  go_loopw [4, 5] (fun v i wr => ∃ (k : Nat) (out : List UInt8), i = .int .i64 k ∧ k ≤ s.size ∧ SqAt w l k out v wr) (fun _ i _ => s.size - (RowKit.intOf i).toNat)
  case atStart => exact ⟨0, [], rfl, Nat.zero_le _, H0.out⟩
  case round =>
    obtain ⟨k, out, rfl, hk, hS⟩ := hrel
    have HS := Lib.hid hS
    have hol := hS.le
    by_cases hlt : k < s.size
    · have hkl : k < l.length := by have := HN.out; omega
      have hgk := HG.out k hlt hkl
      have hdr := List.drop_eq_getElem_cons hkl
      obtain ⟨c, hc⟩ : ∃ c, c = l[k] := ⟨_, rfl⟩
      rw [← hc] at hgk hdr
      have hzc : (s[k].toNat : Int) = c.toNat := u8_int hgk
      have HZ := Lib.hid hzc
      have HDR := Lib.hid hdr
      have hbs : w.heap.size ≤ wr.heap.size := hS.own.2.size
      obtain ⟨A, cp, rfl, -⟩ := hS.own.form
      obtain ⟨m, hm⟩ : ∃ m, m = out.length := ⟨_, rfl⟩
      have HM := Lib.hid hm
      have hown : ∀ o, (wr.alloc o).ownsRow w.heap.size 5 1 (.slice A m cp) m (bcs out) := fun o => by rw [hm]; exact hS.own.alloc o
      rw [← hm] at hol ⊢
      have hbn : ∀ o, w.heap.size ≤ (wr.alloc o).heap.size := fun o => Nat.le_trans hbs (below_new wr o).size
      clear hkl hc hm hgk hdr hS
      by_cases c0 : c = 0
      · have g0 : ((s[k].toNat : Int) == 0) = true := by rw [hzc, c0]; rfl
        have HX := Lib.hid (show strip l = none from HS.out.none (by rw [HDR.out, c0, strip_mark]))
        clear hzc c0
        go_wp2_with fail
        go_ret2
        rw [HX.out]
        exact ⟨rfl, HS.out.own.2⟩
      have g0 : ((s[k].toNat : Int) == 0) = false := by rw [hzc]; exact u8_n0 c0
      by_cases c1 : c = 1
      · have g1 : ((s[k].toNat : Int) == 1) = true := by rw [hzc, c1]; rfl
        have g2 : ((s[k].toNat : Int) != 1) = false := by rw [bne, g1]; rfl
        by_cases hk1 : k + 1 < s.size
        · have g3 : ((k : Int) + 1 == (s.size : Int)) = false := by rw [beq_eq_false_iff_ne]; omega
          have hkl1 : k + 1 < l.length := by have := HN.out; omega
          have hgk1 := HG.out (k + 1) hk1 hkl1
          have hdr1 := List.drop_eq_getElem_cons hkl1
          obtain ⟨d, hd⟩ : ∃ d, d = l[k + 1] := ⟨_, rfl⟩
          rw [← hd] at hgk1 hdr1
          have hzd : (s[k + 1].toNat : Int) = d.toNat := u8_int hgk1
          have HD1 := Lib.hid hdr1
          have HZD := Lib.hid hzd
          clear hgk1 hdr1 hd hzc hkl1
          by_cases hdd : d = 1 ∨ d = 2
          · have HX := Lib.hid (show strip (l.drop k) = (strip (l.drop (k + 2))).map (fun m => (d - 1) :: m) by rw [HDR.out, HD1.out, c1, strip_pair hdd])
            obtain ⟨z, hz, hz2'⟩ : ∃ z : Int, (s[k + 1].toNat : Int) - 1 = z ∧ ((d - 1).toNat : Int) = z := by
              rcases hdd with rfl | rfl
              · exact ⟨0, by rw [hzd]; rfl, rfl⟩
              · exact ⟨1, by rw [hzd]; rfl, rfl⟩
            have hzr : 1 ≤ (s[k + 1].toNat : Int) ∧ (s[k + 1].toNat : Int) ≤ 2 := by
              rcases hdd with rfl | rfl <;> rw [hzd] <;> decide
            have g4 : ¬ (s[k + 1].toNat : Int) < 1 := by omega
            have g5 : ¬ 2 < (s[k + 1].toNat : Int) := by omega
            obtain ⟨b, hb⟩ : ∃ b : Int, b = (s[k + 1].toNat : Int) - 1 := ⟨_, rfl⟩
            have HB := Lib.hid (show (bcs [d - 1]) = [.int .u8 ((s[k + 1].toNat : Int) - 1)] by rw [hz, ← hz2']; rfl)
            have hrw := row_u8s ((s[k + 1].toNat : Int) - 1) wr
            have hnew := row_read wr #[.int .u8 ((s[k + 1].toNat : Int) - 1)] 5 (Nat.zero_lt_succ 0)
            clear hdd hz hz2' hb hzd c0 c1
            go_wp2_with (first
              | (refine wpList_buildSlice rfl _ _ _ rfl #[(0, .int .u8 ((s[k + 1].toNat : Int) - 1))] rfl hrw ?_)
              | (at_builtin; refine L3.wpList_append_any _ rfl _ _ 53 rfl w.heap.size 5 i0 _ 1 1 Try.underlying53 hi hz0 hz1 hz2 rfl (by decide) (.slice A m cp) m (bcs out) rfl (hown _) _ (some ⟨wr.heap.size, 0, none⟩) 1 1 [.int .u8 ((s[k + 1].toNat : Int) - 1)] rfl hnew (fun u hu => by simp at hu; subst hu; rfl) (by unfold maxLen; omega) (by omega) (hbn _) ?_
                 intro v4 w4 ho4 hg4 hat4)
              | go_in)
            go_roundw
            case rel => exact ⟨k + 2, _, by first | go_num | (simp; omega), by omega, HS.out.step (d - 1) HX.out (by omega) (by rw [HB.out, ← HM.out]; exact ho4) (by rw [← HM.out]; exact hg4)⟩
            case measure => simp [RowKit.intOf]; omega
          · have HX := Lib.hid (show strip l = none from HS.out.none (by rw [HDR.out, HD1.out, c1, strip_bad hdd]))
            have hcase : (s[k + 1].toNat : Int) < 1 ∨ (¬ (s[k + 1].toNat : Int) < 1 ∧ 2 < (s[k + 1].toNat : Int)) := by
              rw [hzd]
              have h1 : d.toNat ≠ 1 := fun h => hdd (.inl (u8_eq (n := 1) (by decide) h))
              have h2 : d.toNat ≠ 2 := fun h => hdd (.inr (u8_eq (n := 2) (by decide) h))
              omega
            clear hdd hzd c0 c1
            rcases hcase with g4 | ⟨g4, g5⟩
            all_goals
              go_wp2_with fail
              go_ret2
              rw [HX.out]
              exact ⟨rfl, HS.out.own.2⟩
        · have g3 : ((k : Int) + 1 == (s.size : Int)) = true := by rw [beq_iff_eq]; omega
          have hdr1 : l.drop (k + 1) = [] := List.drop_eq_nil_of_le (by have := HN.out; omega)
          have HX := Lib.hid (show strip l = none from HS.out.none (by rw [HDR.out, hdr1, c1, strip_one]))
          clear hzc c0 c1 hdr1
          go_wp2_with fail
          go_ret2
          rw [HX.out]
          exact ⟨rfl, HS.out.own.2⟩
      · have g1 : ((s[k].toNat : Int) == 1) = false := by rw [hzc]; exact u8_n1 c1
        have g2 : ((s[k].toNat : Int) != 1) = true := by rw [bne, g1]; rfl
        have HX := Lib.hid (show strip (l.drop k) = (strip (l.drop (k + 1))).map (fun m => c :: m) by rw [HDR.out, strip_other c0 c1])
        have HB := Lib.hid (show bcs [c] = [.int .u8 (s[k].toNat : Int)] by rw [hzc]; rfl)
        have hrw := row_u8s (s[k].toNat : Int) wr
        have hnew := row_read wr #[.int .u8 (s[k].toNat : Int)] 5 (Nat.zero_lt_succ 0)
        clear hzc c0 c1
        go_wp2_with (first
          | (refine wpList_buildSlice rfl _ _ _ rfl #[(0, .int .u8 (s[k].toNat : Int))] rfl hrw ?_)
          | (at_builtin; refine L3.wpList_append_any _ rfl _ _ 53 rfl w.heap.size 5 i0 _ 1 1 Try.underlying53 hi hz0 hz1 hz2 rfl (by decide) (.slice A m cp) m (bcs out) rfl (hown _) _ (some ⟨wr.heap.size, 0, none⟩) 1 1 [.int .u8 (s[k].toNat : Int)] rfl hnew (fun u hu => by simp at hu; subst hu; rfl) (by unfold maxLen; omega) (by omega) (hbn _) ?_
             intro v4 w4 ho4 hg4 hat4)
          | go_in)
        go_roundw
        case rel => exact ⟨k + 1, _, by go_num, by omega, HS.out.step c HX.out (by omega) (by rw [HB.out, ← HM.out]; exact ho4) (by rw [← HM.out]; exact hg4)⟩
        case measure => simp [RowKit.intOf]; omega
    · have hkl : l.drop k = [] := List.drop_eq_nil_of_le (by have := HN.out; omega)
      have his := hS.is
      rw [hkl] at his
      have HX := Lib.hid (show strip l = some out by rw [his]; simp [strip])
      obtain ⟨A, cp, rfl, hcv⟩ := hS.own.form
      clear his hkl hS
      go_wp2_with fail
      go_ret2
      rw [HX.out]
      exact ⟨rfl, HS.out.own.2⟩
end Go.Proofs.Ythhjdielananeaa
