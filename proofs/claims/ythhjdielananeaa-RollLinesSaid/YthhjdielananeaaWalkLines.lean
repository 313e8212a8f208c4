/-
  Dressed bytes, and lines of entries: the statement's walk.
-/
import Derived.Test.YthhjdielananeaaRefU
import Derived.Test.YthhjdielananeaaAlive
set_option linter.unusedSimpArgs false
set_option linter.unusedVariables false
set_option maxRecDepth 10000
namespace Go.Proofs.Ythhjdielananeaa
open Go.RowKit Go.Lib
open L3 (Blk Reads block_of_add add_of_add)
open L6 (Turn moreB fresh From In Apart)

theorem build_c3 (a b : Int) (s : ByteArray) (w : World) : (Instr.build 31 #[(0, .int .i64 a), (1, .int .i64 b), (2, .string s)]).run Try.prog w = .ok (.agg #[.int .i64 a, .int .i64 b, .string s]) w := run_build w _ _ _ (by kernel_rfl)
/-- What both Strips tell. -/
theorem strip_two (o : Option (List UInt8)) : ∃ (t : ByteArray) (e : Int) (b : Bool), stripR o = .tuple #[.string t, .int .i64 e] ∧ stripQ o = .tuple #[.string t, .bool b] ∧ ((e = 0 ∧ b = true) ∨ (e = 180 ∧ b = false)) := by
  cases o with
  | none => exact ⟨_, _, _, rfl, rfl, .inr ⟨rfl, rfl⟩⟩
  | some m => exact ⟨_, _, _, rfl, rfl, .inl ⟨rfl, rfl⟩⟩
/-- What both Unlines tell. -/
theorem un_two (o : Option Ent) : ∃ (x : Ent) (e : Int) (b : Bool), unR o = .tuple #[.agg (enC x), .int .i64 e] ∧ unQ o = .tuple #[.agg (enC x), .bool b] ∧ ((e = 0 ∧ b = true) ∨ (e = 180 ∧ b = false)) := by
  cases o with
  | none => exact ⟨⟨0, 0, []⟩, _, _, rfl, rfl, .inr ⟨rfl, rfl⟩⟩
  | some m => exact ⟨m, _, _, rfl, rfl, .inl ⟨rfl, rfl⟩⟩
set_option maxHeartbeats 4000000 in
set_option maxRecDepth 100000 in
theorem lines_walk (s0 : ByteArray) (a b : Int) (w : World) (hs0 : s0.size ≤ 9223372036854775807) (ha : inI a) (hb : inI b) : Calls Try.prog 3 #[.string s0, .int .i64 a, .int .i64 b] w (gives (.bool true) w) := by
  have HA := Lib.hid (fun W => alive_any W)
  by_cases hbig : 5000 < s0.size
  · have g1 : 5000 < (s0.size : Int) := by omega
    clear ha hb
    go_enter Try.func3, Try.ntmps3
    go_wp2_with (first
      | (go_at_call 8; refine (HA.out _).mono ?_; unfold gives; rintro e w1 ⟨rfl, hb1⟩)
      | go_in)
    go_ret
    exact ⟨rfl, hb1⟩
  have g1 : ¬ 5000 < (s0.size : Int) := by omega
  obtain ⟨l, hl⟩ : ∃ l, l = s0.data.toList := ⟨_, rfl⟩
  have hsl : s0 = str l := by rw [hl, str_of]
  have hl5 : l.length ≤ 5000 := by rw [hl, Array.length_toList]; have : s0.data.size = s0.size := rfl; omega
  have HD1 := Lib.hid (fun W => dress_any l W (by omega))
  have HD2 := Lib.hid (fun W => refdress_any l W (by omega))
  have HS1 := Lib.hid (fun W => strip_any l W (by omega))
  have HS2 := Lib.hid (fun W => refstrip_any l W (by omega))
  have HU1 := Lib.hid (fun W => unline_any l W (by omega))
  have HU2 := Lib.hid (fun W => refunline_any l W (by omega))
  obtain ⟨t, e, o, q1, q2, q3⟩ := strip_two (strip l)
  rw [q1] at HS1
  rw [q2] at HS2
  obtain ⟨x, e', o', q4, q5, q6⟩ := un_two (ulE l)
  rw [q4] at HU1
  rw [q5] at HU2
  have hfx : (⟨a, b, l⟩ : Ent).fit := ⟨ha, hb, by unfold maxLen; show l.length ≤ _; omega⟩
  have HL1 := Lib.hid (fun W => line_any ⟨a, b, l⟩ W hfx)
  have HL2 := Lib.hid (fun W => refline_any ⟨a, b, l⟩ W hfx)
  obtain ⟨v, n, hv⟩ : ∃ (v : ByteArray) (n : Int), lineR ⟨a, b, l⟩ = .tuple #[.string v, .int .i64 n] := ⟨_, _, rfl⟩
  have hex : enC ⟨a, b, l⟩ = #[.int .i64 a, .int .i64 b, .string s0] := by rw [hsl]; rfl
  rw [hv, hex] at HL1 HL2
  rw [← hsl] at HD1 HD2 HS1 HS2 HU1 HU2
  obtain ⟨d, hd⟩ : ∃ d, d = str (dress l) := ⟨_, rfl⟩
  rw [← hd] at HD1 HD2
  have z1 : (d.toList == d.toList) = true := by simp
  have z2 : (t.toList == t.toList) = true := by simp
  have z3 : (v.toList == v.toList) = true := by simp
  have z4 : (n != n) = false := by simp
  have hb1 := build_c3 a b s0
  have hb2 := build_r3 a b s0
  clear ha hb hbig hl hsl hl5 q1 q2 q4 q5 hfx hv hex hd
  rcases q3 with ⟨rfl, rfl⟩ | ⟨rfl, rfl⟩
  all_goals
    rcases q6 with ⟨rfl, rfl⟩ | ⟨rfl, rfl⟩
  all_goals
    go_enter Try.func3, Try.ntmps3
    go_upto_region 15 with (first
      | (go_at_call 8; refine (HA.out _).mono ?_; unfold gives; rintro e w1 ⟨rfl, hb1⟩)
      | (go_at_call 9; refine (HD1.out _).mono ?_; unfold gives; rintro e w2 ⟨rfl, hb2⟩)
      | (go_at_call 10; refine (HD2.out _).mono ?_; unfold gives; rintro e w3 ⟨rfl, hb3⟩)
      | (go_at_call 11; refine (HS1.out _).mono ?_; unfold gives; rintro e w4 ⟨rfl, hb4⟩)
      | (go_at_call 12; refine (HS2.out _).mono ?_; unfold gives; rintro e w5 ⟨rfl, hb5⟩)
      | (refine wpList_build rfl _ _ rfl #[(0, .int .i64 a), (1, .int .i64 b), (2, .string s0)] rfl (build_c3 a b s0 _) ?_)
      | (refine wpList_build rfl _ _ rfl #[(0, .int .i64 a), (1, .int .i64 b), (2, .string s0)] rfl (build_r3 a b s0 _) ?_)
      | (go_at_call 13; refine (HL1.out _).mono ?_; unfold gives; rintro e w6 ⟨rfl, hb6⟩)
      | (go_at_call 14; refine (HL2.out _).mono ?_; unfold gives; rintro e w7 ⟨rfl, hb7⟩)
      | go_in)
    have HB7 := Lib.hid (nxt (nxt (nxt (nxt (nxt (nxt hb1 hb2) hb3) hb4) hb5) hb6) hb7)
    clear hb1 hb2 hb3 hb4 hb5 hb6 hb7
    go_upto_region 16 with (first
      | (go_at_call 15; refine (HU1.out _).mono ?_; unfold gives; rintro e w8 ⟨rfl, hb8⟩)
      | (refine wpList_store_new rfl _ _ _ rfl w8 (enC x) rfl rfl _ _ enInfo rfl (enC_ones _) ?_)
      | go_in)
    have hb9 := below_new w8 (.cells (enC x) 31)
    have k9 := Blk.new w8 31 (enC x)
    obtain ⟨w9, hw9⟩ : ∃ w9, w8.alloc (.cells (enC x) 31) = w9 := ⟨_, rfl⟩
    obtain ⟨p, hp⟩ : ∃ p, p = w8.heap.size := ⟨_, rfl⟩
    rw [hw9] at hb9 k9 ⊢
    rw [← hp] at k9 ⊢
    have HB9 := Lib.hid (nxt (nxt HB7.out hb8) hb9)
    clear hw9 hp hb9 hb8
    go_upto_region 17 with (first
      | (go_at_call 16; refine (HU2.out _).mono ?_; unfold gives; rintro e w10 ⟨rfl, hb10⟩)
      | (refine wpList_store_new rfl _ _ _ rfl w10 (enC x) rfl rfl _ _ rInfo rfl (enC_ones _) ?_)
      | go_in)
    have hb11 := below_new w10 (.cells (enC x) 34)
    have k11 := Blk.new w10 34 (enC x)
    have k9' := (k9.below hb10 k9.lt).below hb11 (Nat.lt_of_lt_of_le k9.lt hb10.size)
    obtain ⟨w11, hw11⟩ : ∃ w11, w10.alloc (.cells (enC x) 34) = w11 := ⟨_, rfl⟩
    obtain ⟨r, hr⟩ : ∃ r, r = w10.heap.size := ⟨_, rfl⟩
    have HB11 := Lib.hid (nxt (nxt HB9.out hb10) hb11)
    rw [hw11] at k11 k9' HB11 ⊢
    rw [← hr] at k11 ⊢
    clear hw11 hr hb11 hb10 k9
    go_wp2_with (first
      | (refine wpList_row_at rfl _ _ rfl p rfl _ _ _ _ k9' Try.underlying31 rfl enInfo ?_)
      | (refine wpList_row_at rfl _ _ rfl r rfl _ _ _ _ k11 Try.underlying34 rfl rInfo ?_)
      | (refine wpList_binop rfl .eql _ _ _ _ rfl (enC x) (enC x) rfl rfl (by kernel_rfl) (v := .bool true) (eqlE x w11) ?_)
      | go_in)
    go_ret
    exact ⟨rfl, HB11.out⟩
end Go.Proofs.Ythhjdielananeaa
