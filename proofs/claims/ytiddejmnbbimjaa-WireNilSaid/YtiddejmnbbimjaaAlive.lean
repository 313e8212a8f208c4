/-
  No reader: what each call tells; the chapter's examples hold.
-/
import Derived.Test.YtiddejmnbbimjaaReader
import Derived.Test.YtiddejmnbbimjaaRefWire
set_option linter.unusedSimpArgs false
set_option linter.unusedVariables false
namespace Go.Proofs.Ytiddejmnbbimjaa
open Go.RowKit Go.Lib

theorem fail_nil (e2 : Int) (w : World) : Calls Try.prog 17 #[.pointer none, .int .i64 e2] w fun e w' => e = .returned (.tuple #[]) ∧ w = w' := by
  go_enter Try.func17, Try.ntmps17
  go_wp2
  refine bodyPost_ret (v := .tuple #[]) (results_none rfl _ _ _) rfl ?_
  exact ⟨rfl, rfl⟩
theorem rnum_nil (w : World) : Calls Try.prog 13 #[.pointer none] w fun e w' => e = .returned (.int .i64 0) ∧ w = w' := by
  go_enter Try.func13, Try.ntmps13
  go_wp2
  go_ret
  exact ⟨rfl, rfl⟩
theorem rmost_nil (most : Int) (w : World) : Calls Try.prog 18 #[.pointer none, .int .i64 most] w fun e w' => e = .returned (.int .i64 0) ∧ w = w' := by
  go_enter Try.func18, Try.ntmps18
  go_wp2_with (first
    | (go_at_call 13; refine (rnum_nil _).mono ?_; rintro e w1 ⟨rfl, rfl⟩)
    | (go_at_call 17; refine (fail_nil _ _).mono ?_; rintro e w2 ⟨rfl, rfl⟩))
  all_goals
    go_ret
    exact ⟨rfl, rfl⟩
theorem rtext_nil (w : World) : Calls Try.prog 14 #[.pointer none] w fun e w' => e = .returned (.string ⟨#[]⟩) ∧ w = w' := by
  go_enter Try.func14, Try.ntmps14
  go_wp2
  go_ret
  exact ⟨rfl, rfl⟩
theorem rrest_nil (w : World) : Calls Try.prog 15 #[.pointer none] w fun e w' => e = .returned (.int .i64 0) ∧ w = w' := by
  go_enter Try.func15, Try.ntmps15
  go_wp2
  go_ret
  exact ⟨rfl, rfl⟩
theorem rdone_nil (w : World) : Calls Try.prog 16 #[.pointer none] w fun e w' => e = .returned (.int .i64 3) ∧ w = w' := by
  go_enter Try.func16, Try.ntmps16
  go_wp2
  go_ret
  exact ⟨rfl, rfl⟩

/-- Bytes that were written and are kept: what a new reader of them is asked, and a text of them. -/
theorem num_nil (k : Nat) (w : World) (hk : k ≤ 4611686018427387904) : Calls Try.prog 7 #[.slice none 0 0, .int .i64 k] w (wrote (encN k) w) :=
  num_ok 0 none 0 0 [] k w Reads.none_ (Nat.zero_le _) (Nat.zero_le _) hk
theorem nxt {a b c : World} (h : Below a.heap.size a b) {n : Nat} (k : Below n b c) (hn : a.heap.size ≤ n) : Below a.heap.size a c := h.trans (k.mono hn)
theorem leaves.below {g : Nat} {p : List UInt8 × Int} {w w' : World} (h : leaves g p w w') {B : Nat} (hB : B ≤ g) (hs : B ≤ w.heap.size) : Below B w w' := (Below.refl B w).grown h.2 hs (fun k hk => by cases hk; exact hB)
def alivePost (w : World) (e : Ending) (w' : World) : Prop := e = .returned (.bool true) ∧ Below w.heap.size w w'

set_option maxHeartbeats 1000000 in
set_option maxRecDepth 100000 in
theorem alive_any (w : World) : Calls Try.prog 6 #[] w (alivePost w) := by
  go_enter Try.func6, Try.ntmps6
  go_wp2_with (go_at_call 7; refine (num_nil 300 _ (by omega)).mono ?_)
  rintro e w1 ⟨v1, rfl, ho1⟩
  obtain ⟨A1, c1, rfl, hr1, hc1⟩ := ho1.form
  have e300 : encN 300 = [172, 2] := by rw [encN_big (by omega), encN_small (by omega)]; rfl
  rw [e300] at hr1
  rw [e300]
  have hb1 := ho1.2.1
  have hs1 := ho1.2.2
  clear e300 ho1 hc1
  have hrd : Reads (w1.alloc (.cells #[.int .u8 128, .int .u8 0] 5)) (w1.heap.size + 1) 1 (some ⟨w1.heap.size, 0, none⟩) 2 (byteCells [128, 0]) := by
    refine ⟨rfl, fun _ => ⟨_, rfl, Nat.lt_succ_self _, fun j u hu => ?_⟩⟩
    match j, hu with
    | 0, hu => simp [byteCells] at hu; subst hu; simp [Addr.add]
    | 1, hu => simp [byteCells] at hu; subst hu; simp [Addr.add]
  go_wp2_with (go_at_call 12; refine (new_any _ _ _ _ [128, 0] _ hrd (by omega) (by simp)).mono ?_)
  rintro e w2 ⟨g, rfl, hg, hrdr, hb2⟩
  have hr2 := (hr1.alloc (Nat.le_refl _) (.cells #[.int .u8 128, .int .u8 0] 5)).below (hb2.mono (by simp))
  have hcv := conv_reads (c := c1) (k := 2) hr2 (Nat.le_refl _)
  have hb2' : Below w.heap.size w w2 := nxt (hb1.alloc hs1 _) hb2 (by simp; omega)
  have hg' : w.heap.size ≤ g := by simp at hg; omega
  clear hr1 hr2 hrd hg hb2 hb1 hs1
  have hn := rnum_any g _ _ hrdr
  have hn0 : rdN 0 0 [128, 0] = (0, 0, 31) := by decide +kernel
  have hn1 : numS ([128, 0], 0) = ([], 31) := by decide +kernel
  simp only [hn0, hn1] at hn
  have HN := Lib.hid hn
  clear hn hn0 hn1 hrdr
  go_wp2_with (go_at_call 13; refine HN.out.mono ?_)
  rintro e w3 ⟨rfl, hlv⟩
  have hd := rdone_any g _ _ hlv.1
  have hd0 : doneV ([], 31) = 31 := by decide +kernel
  rw [hd0] at hd
  have hb3 := nxt hb2' (hlv.below hg' hb2'.size) (Nat.le_refl _)
  have HD := Lib.hid hd
  clear hd hd0 hlv
  go_wp2_with (go_at_call 16; refine HD.out.mono ?_)
  rintro e w4 ⟨rfl, rfl⟩
  go_wp2
  go_ret
  exact ⟨rfl, hb3⟩
end Go.Proofs.Ytiddejmnbbimjaa
