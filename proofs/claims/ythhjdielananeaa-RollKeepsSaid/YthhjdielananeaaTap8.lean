/-
  What a tape tells of its bytes.
-/
import Derived.Test.YthhjdielananeaaTap4
set_option linter.unusedSimpArgs false
set_option linter.unusedVariables false
set_option maxRecDepth 10000
namespace Go.Proofs.Ythhjdielananeaa
open Go.RowKit Go.Lib
open L3 (Blk Reads block_of_add add_of_add wpList_append_any)
open L6 (Turn moreB fresh From In)

/-- Bytes of the call's own in w': nothing but new blocks. -/
structure Told (w w' : World) (A : Option Addr) (c : Nat) (l : List UInt8) : Prop where
  rd : Reads w' w'.heap.size 1 A l.length (bcs l)
  le : l.length ≤ c
  new : ∀ ad, A = some ad → w.heap.size ≤ ad.block
  bw : Below w.heap.size w w'
set_option maxHeartbeats 1000000 in
set_option maxRecDepth 100000 in
theorem clone_any (B : Nat) (A : Option Addr) (c : Nat) (l : List UInt8) (w : World) (h : Reads w B 1 A l.length (bcs l)) (hl : l.length ≤ 1000000000) (hB : B ≤ w.heap.size) :
    Calls Try.prog 49 #[.slice A l.length c] w fun e w' => ∃ A' c', e = .returned (.slice A' l.length c') ∧ Told w w' A' c' l := by
  obtain ⟨i0, hi, hz0, hz1, hz2⟩ := u8_info
  rcases A with _ | ad
  · have hl0 : l = [] := by
      rcases Nat.eq_zero_or_pos l.length with h0 | h0
      · exact List.eq_nil_of_length_eq_zero h0
      · obtain ⟨ad, h', _⟩ := h.2 h0
        cases h'
    subst hl0
    have hq : ∀ w : World, (binOp .eql 53 (.slice none 0 c) (.slice none 0 0)).run Try.prog w = .ok (.bool true) w := fun w => _root_.Go.run_eql_slice_nil w 53 5 none 0 c Try.underlying53
    have HT := Lib.hid (show Told w w none 0 [] from ⟨Reads.none_, Nat.le_refl _, (fun ad h => by cases h), Below.refl _ _⟩)
    clear h
    go_enter Try.func49, Try.ntmps49
    go_wp2
    go_ret
    exact ⟨none, 0, rfl, HT.out⟩
  · have hq : ∀ w : World, (binOp .eql 53 (.slice (some ad) l.length c) (.slice none 0 0)).run Try.prog w = .ok (.bool false) w := fun w => _root_.Go.run_eql_slice_nil w 53 5 (some ad) l.length c Try.underlying53
    go_enter Try.func49, Try.ntmps49
    go_wp2_with (at_builtin; refine wpList_append_any _ rfl _ _ _ rfl w.heap.size 5 i0 (.int .u8 0) 1 1 Try.underlying53 hi hz0 hz1 hz2 rfl (by decide) (.slice (some ⟨w.heap.size, 0, none⟩) 0 0) 0 [] rfl (World.ownsRow_made _ _ 0 (by simp) (by decide) rfl) B (some ad) l.length c (bcs l) rfl (h.alloc hB _) (bcs_one l) (by unfold maxLen; omega) (by omega) (by simp) ?_)
    intro v' w' ho hg hat
    have hbw : Below w.heap.size w w' := ((Below.refl _ _).alloc (Nat.le_refl _) _).grown hg (by simp) (fun k hk => by simp [Value.ownBlock] at hk; omega)
    have hT : ∃ A' c', v' = .slice A' l.length c' ∧ Told w w' A' c' l := by
      obtain ⟨A', c', rfl, hc, hrd⟩ := L6.row_reads ho
      exact ⟨A', c', rfl, hrd, hc, fun ad e => (ho.lt ad.block (by rw [e]; rfl)).1, hbw⟩
    obtain ⟨A', c', rfl, hT⟩ := hT
    have HT := Lib.hid hT
    clear ho hg hat hbw hT
    go_wp2_with fail
    go_ret
    exact ⟨A', c', rfl, HT.out⟩
set_option maxHeartbeats 1000000 in
set_option maxRecDepth 100000 in
theorem read_off {w : World} {S : Nat → Prop} {g : Nat} {t : Tp} (h : Tpe w S g t) (ho : t.on = false) : Calls Try.prog 28 #[.pointer (some ⟨g, 0, none⟩)] w (gives (.tuple #[.int .i64 0, .slice none 0 0, .int .i64 170]) w) := by
  have HR := Lib.hid (ready_any h)
  rw [if_pos ho] at HR
  clear h ho
  go_enter Try.func28, Try.ntmps28
  go_wp2_with (first
    | (go_at_call 48; refine HR.out.mono ?_; unfold gives; rintro e w2 ⟨rfl, hb2⟩)
    | go_in)
  go_ret3
  exact ⟨rfl, hb2⟩
/-- What it tells with the power on. -/
def ReadPost (t : Tp) (w : World) (e : Ending) (w' : World) : Prop := ∃ A c, e = .returned (.tuple #[.int .i64 t.first, .slice A t.held.length c, .int .i64 0]) ∧ Told w w' A c t.held
theorem Told.back {w w1 w2 : World} {A : Option Addr} {c : Nat} {l : List UInt8} (hb : Below w.heap.size w w1) (h : Told w1 w2 A c l) : Told w w2 A c l := ⟨h.rd, h.le, fun ad e => Nat.le_trans hb.size (h.new ad e), nxt hb h.bw⟩
set_option maxHeartbeats 1000000 in
set_option maxRecDepth 100000 in
theorem read_on {w : World} {S : Nat → Prop} {g : Nat} {t : Tp} (h : Tpe w S g t) (ho : t.on = true) : Calls Try.prog 28 #[.pointer (some ⟨g, 0, none⟩)] w (ReadPost t w) := by
  have HR := Lib.hid (ready_any h)
  rw [if_neg (by rw [ho]; decide)] at HR
  obtain ⟨A, c, hb, hr, hf, _⟩ := h
  have hs := hf.2.stop
  have HC := Lib.hid (fun W (hW : Below w.heap.size w W) => clone_any w.heap.size A c t.held W (hr.reads.1.below hW) (by omega) hW.size)
  have HB := Lib.hid (fun W (hW : Below w.heap.size w W) => And.intro ((hb.below hW hb.lt).cell 1) ((hb.below hW hb.lt).cell 3))
  unfold ReadPost
  obtain ⟨n, hn⟩ : ∃ n, n = t.held.length := ⟨_, rfl⟩
  rw [← hn] at HC HB ⊢
  clear hb hr hf hs ho hn
  go_enter Try.func28, Try.ntmps28
  go_upto_region 4 with (first
    | (go_at_call 48; refine HR.out.mono ?_; unfold gives; rintro e w2 ⟨rfl, hb2⟩)
    | go_in)
  have d1 : w2.cell? ⟨g, 1, none⟩ = some (.int .i64 t.first) := (HB.out _ hb2).1
  have d3 : w2.cell? ⟨g, 3, none⟩ = some (.slice A n c) := (HB.out _ hb2).2
  have hb3 : Below w.heap.size w w2.drew := hb2.drew
  have e1 : w2.drew.cell? ⟨g, 1, none⟩ = some (.int .i64 t.first) := d1
  have HC2 := Lib.hid (HC.out _ hb3)
  have HB2 := Lib.hid HB.out
  clear HC HR HB
  go_region_held3 (fun wx => wx.cell? ⟨g, 1, none⟩ = some (.int .i64 t.first) ∧ wx.cell? ⟨g, 3, none⟩ = some (.slice A n c))
    (first | exact ⟨by assumption, by assumption⟩)
    (first
      | (go_at_call 49; refine HC2.out.mono ?_; rintro e w3 ⟨A3, c3, rfl, hT3⟩; have hb4 := nxt hb3 hT3.bw; have k1 : w3.cell? ⟨g, 1, none⟩ = some (.int .i64 t.first) := (HB2.out _ hb4).1; have k3 : w3.cell? ⟨g, 3, none⟩ = some (.slice A n c) := (HB2.out _ hb4).2))
  go_wp2
  go_ret3
  exact ⟨A3, c3, rfl, hT3.back hb3⟩
end Go.Proofs.Ythhjdielananeaa
