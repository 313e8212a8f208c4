/-
  No roll, and no tape: the statement's walk.
-/
import Derived.Test.YthhjdielananeaaAlive
set_option linter.unusedSimpArgs false
set_option linter.unusedVariables false
set_option maxRecDepth 10000
namespace Go.Proofs.Ythhjdielananeaa
open Go.RowKit Go.Lib
open L3 (Blk Reads block_of_add add_of_add)
open L6 (Turn moreB fresh From In Apart)

set_option maxHeartbeats 1000000 in
set_option maxRecDepth 100000 in
theorem put_nil (k v : Value) (w : World) : Calls Try.prog 45 #[.pointer none, k, v] w (gives (.tuple #[.int .i64 0, .int .i64 3]) w) := by
  go_enter Try.func45, Try.ntmps45
  go_wp2
  go_ret2
  exact ⟨rfl, Below.refl _ _⟩
set_option maxHeartbeats 1000000 in
set_option maxRecDepth 100000 in
theorem add_nil (v : Value) (w : World) : Calls Try.prog 29 #[.pointer none, v] w (gives (.int .i64 3) w) := by
  have HP := Lib.hid (fun W => put_nil (.int .i64 1) v W)
  go_enter Try.func29, Try.ntmps29
  go_wp2_with (first
    | (go_at_call 45; refine (HP.out _).mono ?_; unfold gives; rintro e w1 ⟨rfl, hb1⟩)
    | go_in)
  go_ret
  exact ⟨rfl, hb1⟩
set_option maxHeartbeats 1000000 in
set_option maxRecDepth 100000 in
theorem sum_nil (v : Value) (w : World) : Calls Try.prog 27 #[.pointer none, v] w (gives (.int .i64 3) w) := by
  have HP := Lib.hid (fun W => put_nil (.int .i64 2) v W)
  go_enter Try.func27, Try.ntmps27
  go_wp2_with (first
    | (go_at_call 45; refine (HP.out _).mono ?_; unfold gives; rintro e w1 ⟨rfl, hb1⟩)
    | go_in)
  go_ret
  exact ⟨rfl, hb1⟩
set_option maxHeartbeats 1000000 in
set_option maxRecDepth 100000 in
theorem summary_nil (w : World) : Calls Try.prog 21 #[.pointer none] w (gives (.slice none 0 0) w) := by
  go_enter Try.func21, Try.ntmps21
  go_wp2
  go_ret
  exact ⟨rfl, Below.refl _ _⟩
set_option maxHeartbeats 1000000 in
set_option maxRecDepth 100000 in
theorem records_nil (w : World) : Calls Try.prog 22 #[.pointer none] w (gives (.slice none 0 0) w) := by
  go_enter Try.func22, Try.ntmps22
  go_wp2
  go_ret
  exact ⟨rfl, Below.refl _ _⟩
set_option maxHeartbeats 1000000 in
set_option maxRecDepth 100000 in
theorem next_nil (w : World) : Calls Try.prog 26 #[.pointer none] w (gives (.int .i64 0) w) := by
  go_enter Try.func26, Try.ntmps26
  go_wp2
  go_ret
  exact ⟨rfl, Below.refl _ _⟩
set_option maxHeartbeats 1000000 in
set_option maxRecDepth 100000 in
theorem open_nil (w : World) : Calls Try.prog 19 #[.pointer none] w (gives (.tuple #[.pointer none, .int .i64 3]) w) := by
  have HR := Lib.hid (fun W => read_nil W)
  go_enter Try.func19, Try.ntmps19
  go_wp2_with (first
    | (go_at_call 28; refine (HR.out _).mono ?_; unfold gives; rintro e w1 ⟨rfl, hb1⟩)
    | go_in)
  go_ret2
  exact ⟨rfl, hb1⟩
set_option maxHeartbeats 4000000 in
set_option maxRecDepth 100000 in
theorem nil_walk (s : ByteArray) (w : World) : Calls Try.prog 7 #[.string s] w (gives (.bool true) w) := by
  have HA := Lib.hid (fun W => alive_any W)
  have HO := Lib.hid (fun W => open_nil W)
  have HSB := Lib.hid (show ∀ W, ∃ c w', (convert 9 53 (.string s)).run Try.prog W = .ok (.slice (some ⟨W.heap.size, 0, none⟩) s.size c) w' ∧ Below W.heap.size W w' from fun W => by
    obtain ⟨c, w', h1, _, h2⟩ := str_bytes W s.data.toList
    rw [str_of] at h1
    exact ⟨c, w', by rw [Array.length_toList] at h1; exact h1, h2⟩)
  have H1 := Lib.hid (fun v W => add_nil v W)
  have H2 := Lib.hid (fun v W => sum_nil v W)
  go_enter Try.func7, Try.ntmps7
  go_wp2_with (first
    | (go_at_call 8; refine (HA.out _).mono ?_; unfold gives; rintro e w1 ⟨rfl, hb1⟩)
    | (go_at_call 19; refine (HO.out _).mono ?_; unfold gives; rintro e w2 ⟨rfl, hb2⟩; obtain ⟨c2, v2, hcv2, hd2⟩ := HSB.out w2)
    | (go_at_call 29; refine (H1.out _ _).mono ?_; unfold gives; rintro e w3 ⟨rfl, hb3⟩; obtain ⟨c3, v3, hcv3, hd3⟩ := HSB.out w3)
    | (go_at_call 27; refine (H2.out _ _).mono ?_; unfold gives; rintro e w4 ⟨rfl, hb4⟩)
    | (go_at_call 21; refine (summary_nil _).mono ?_; unfold gives; rintro e w5 ⟨rfl, hb5⟩)
    | (go_at_call 22; refine (records_nil _).mono ?_; unfold gives; rintro e w6 ⟨rfl, hb6⟩)
    | (go_at_call 26; refine (next_nil _).mono ?_; unfold gives; rintro e w7 ⟨rfl, hb7⟩)
    | go_in)
  go_ret
  exact ⟨rfl, nxt (nxt (nxt (nxt (nxt (nxt (nxt (nxt hb1 hb2) hd2) hb3) hd3) hb4) hb5) hb6) hb7⟩
end Go.Proofs.Ythhjdielananeaa
