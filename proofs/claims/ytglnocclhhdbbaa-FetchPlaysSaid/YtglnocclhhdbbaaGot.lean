/-
  Got and Clear; what no table answers.
-/
import Derived.Test.YtglnocclhhdbbaaWant
set_option linter.unusedSimpArgs false
set_option linter.unusedVariables false
set_option maxRecDepth 10000
namespace Go.Proofs.Ytglnocclhhdbbaa
open Go.RowKit Go.Lib
open L3 (Blk Reads block_of_add add_of_add)
open L6 (Turn moreB fresh From In)

theorem got_fit {s : FS} (h : s.ok ∧ s.fit) (n : Int) : (({ s with L := gotL s.L n } : FS).ok ∧ ({ s with L := gotL s.L n } : FS).fit) :=
  ⟨gotL_ok h.1 n, h.2.tr, fun x hx => h.2.n x (List.mem_filter.1 hx).1⟩
set_option maxHeartbeats 4000000 in
set_option maxRecDepth 100000 in
theorem got_any {w : World} {S : Nat → Prop} {g : Nat} {s : FS} (h : Ft w S g s) (n : Int) :
    Calls Try.prog 11 #[.pointer (some ⟨g, 0, none⟩), .int .i64 n] w (FtPost (.int .i64 (gotE s.L n)) S g { s with L := gotL s.L n } w) := by
  have HP := Lib.hid (place_any h n)
  have HH := Lib.hid h
  have hfit := got_fit h.ok n
  obtain ⟨r, hr⟩ : ∃ r, r = spot s.L n := ⟨_, rfl⟩
  obtain ⟨b, hbb⟩ : ∃ b, b = decide (wanted s.L n) := ⟨_, rfl⟩
  rw [← hr, ← hbb] at HP
  have HR := Lib.hid hr
  have HB := Lib.hid hbb
  have HF := Lib.hid hfit
  clear h hr hbb hfit
  cases b with
  | false =>
    have hnw : ¬ wanted s.L n := of_decide_eq_false HB.out.symm
    have HE : Hid (gotE s.L n = 160) := Lib.hid (if_neg hnw)
    have HL : Hid (gotL s.L n = s.L) := Lib.hid (gotL_not hnw)
    clear hnw
    go_enter Try.func11, Try.ntmps11
    go_wp2_with (first
      | (go_at_call 23; refine HP.out.mono ?_; unfold gives; rintro e w1 ⟨rfl, hb1⟩)
      | go_in)
    go_ret
    rw [HL.out]
    exact FtPost.same HH.out (by rw [HE.out]; rfl) hb1
  | true =>
    have hw : wanted s.L n := of_decide_eq_true HB.out.symm
    have HE : Hid (gotE s.L n = 0) := Lib.hid (if_pos hw)
    obtain ⟨A, c, hblk, hrd, hrow, hok, hSg, hSk⟩ := HH.out.open_
    obtain ⟨hrl, _⟩ := (wanted_spot hok.1.rising n).1 hw
    have HL : Hid (gotL s.L n = delAt s.L r) := Lib.hid (by rw [gotL_is hok.1.rising hw, HR.out])
    obtain ⟨bb, cc, hv, _, hX⟩ := row_of hrow (fun e => by rw [e] at hrl; simp at hrl)
    injection hv with hv1 hv2 hv3
    subst hv1 hv3
    rw [← HR.out] at hrl
    have hng : (Value.slice (some ⟨bb, 0, none⟩) s.L.length c).ownBlock ≠ some g := row_ne hrow hblk (by decide)
    have HD := Lib.hid (fun W (hb : Below w.heap.size w W) => deleteX_any (hX.below hb) hrl (by have := hok.1.small; omega))
    have HK := Lib.hid (And.intro hblk (And.intro hng (And.intro hSg hSk)))
    obtain ⟨z, hz⟩ : ∃ z, z = s.L.length := ⟨_, rfl⟩
    rw [← hz] at HD HK hrl
    have HZ := Lib.hid hz
    clear hz hblk hrd hrow hok hSg hSk hX hv2 hng hw
    have hr64 : (r : Int) + 1 ≤ 1000 := by have := HH.out.ok.1.small; have := HZ.out; omega
    go_enter Try.func11, Try.ntmps11
    go_upto_region 6 with (first
      | (go_at_call 23; refine HP.out.mono ?_; unfold gives; rintro e w1 ⟨rfl, hb1⟩)
      | go_in)
    have b1 := HK.out.1.below hb1 HK.out.1.lt
    have c4 : w1.cell? ⟨g, 4, none⟩ = some (.slice (some ⟨bb, 0, none⟩) z c) := b1.cell 4
    have HD1 := Lib.hid (HD.out w1 hb1)
    have HB1 := Lib.hid b1
    clear b1
    go_wp2_with (first
      | (go_at_call 26; refine HD1.out.mono ?_; unfold RowPost; rintro e w4 ⟨v', rfl, ho4, hv4, ht4⟩
         obtain ⟨A4, d4, rfl, _, _⟩ := Rd.of_row (f := wnL) (k := 2) (fun _ => rfl) ho4
         have b4 := ht4.blk HB1.out HK.out.2.1
         have e4 : w4.cell? ⟨g, 4, none⟩ = some (.slice (some ⟨bb, 0, none⟩) z c) := b4.cell 4
         have f4 := b4.frozen 4)
      | go_in)
    go_ret
    have hF := HF.out
    rw [HL.out] at hF ⊢
    have hp := Ft.put (s' := { s with L := delAt s.L r }) HK.out.2.2.1 HB1.out HK.out.2.2.2 HK.out.2.1 ht4 ho4 hv4 hF ⟨rfl, rfl, rfl, rfl⟩
    exact FtPost.back hb1 ⟨by rw [HE.out]; rfl, hp.1, hp.2⟩
theorem clear_fit {s : FS} (h : s.ok ∧ s.fit) : (({ s with L := [] } : FS).ok ∧ ({ s with L := [] } : FS).fit) := ⟨clear_ok h.1, h.2.tr, fun x hx => nomatch hx⟩
set_option maxHeartbeats 1000000 in
set_option maxRecDepth 100000 in
theorem clear_any {w : World} {S : Nat → Prop} {g : Nat} {s : FS} (h : Ft w S g s) :
    Calls Try.prog 15 #[.pointer (some ⟨g, 0, none⟩)] w (FtPost (.tuple #[]) S g { s with L := [] } w) := by
  obtain ⟨A, c, hblk, hrd, hrow, hok, hSg, hSk⟩ := h.open_
  have hng : (Value.slice A s.L.length c).ownBlock ≠ some g := row_ne hrow hblk (by decide)
  have hp := Lib.hid (Ft.put (w1 := w) (v' := .slice none 0 0) (s' := { s with L := [] }) hSg hblk hSk hng (L6.Turn.refl _ _) ⟨by simp, .inl ⟨rfl, rfl⟩⟩ (fun k hk => by simp [Value.ownBlock] at hk) (clear_fit hok) ⟨rfl, rfl, rfl, rfl⟩)
  have e4 : w.cell? ⟨g, 4, none⟩ = some (.slice A s.L.length c) := hblk.cell 4
  have f4 := hblk.frozen 4
  obtain ⟨z, hz⟩ : ∃ z, z = s.L.length := ⟨_, rfl⟩
  rw [← hz] at e4
  clear hblk hrd hrow hok hSk hng hz h
  go_enter Try.func15, Try.ntmps15
  go_wp2
  refine bodyPost_ret (v := .tuple #[]) (results_none rfl _ _ _) rfl ?_
  exact ⟨rfl, hp.out.1, hp.out.2⟩

/-! Of nil -/
set_option maxRecDepth 100000 in
theorem want_nil (n : Int) (w : World) : Calls Try.prog 9 #[.pointer none, .int .i64 n] w (gives (.int .i64 3) w) := by
  go_enter Try.func9, Try.ntmps9
  go_wp2
  go_ret
  exact ⟨rfl, Below.refl _ _⟩
set_option maxRecDepth 100000 in
theorem got_nil (n : Int) (w : World) : Calls Try.prog 11 #[.pointer none, .int .i64 n] w (gives (.int .i64 3) w) := by
  go_enter Try.func11, Try.ntmps11
  go_wp2
  go_ret
  exact ⟨rfl, Below.refl _ _⟩
set_option maxRecDepth 100000 in
theorem tick_nil (w : World) : Calls Try.prog 13 #[.pointer none] w (gives (.slice none 0 0) w) := by
  go_enter Try.func13, Try.ntmps13
  go_wp2
  go_ret
  exact ⟨rfl, (Below.refl _ _).alloc (Nat.le_refl _) _⟩
set_option maxRecDepth 100000 in
theorem wants_nil (w : World) : Calls Try.prog 16 #[.pointer none] w (gives (.slice none 0 0) w) := by
  go_enter Try.func16, Try.ntmps16
  go_wp2
  go_ret
  exact ⟨rfl, Below.refl _ _⟩
set_option maxRecDepth 100000 in
theorem clear_nil (w : World) : Calls Try.prog 15 #[.pointer none] w (gives (.tuple #[]) w) := by
  go_enter Try.func15, Try.ntmps15
  go_wp2
  refine bodyPost_ret (v := .tuple #[]) (results_none rfl _ _ _) rfl ?_
  exact ⟨rfl, Below.refl _ _⟩
end Go.Proofs.Ytglnocclhhdbbaa
