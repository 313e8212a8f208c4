/-
  A binary search in a rising list.
-/
import Derived.Test.YtglnocclhhdbbaaFind
set_option linter.unusedSimpArgs false
set_option linter.unusedVariables false
set_option maxRecDepth 10000
namespace Go.Proofs.Ytglnocclhhdbbaa
open Go.RowKit Go.Lib
open L3 (Blk Reads block_of_add add_of_add)
open L6 (Turn moreB fresh From In)

theorem Rd.wn {w : World} {A : Option Addr} {L : List Wnt} (h : Rd wnL 2 w A L) {j : Nat} (hj : j < L.length) : ∃ ad, A = some ad ∧ ad.block < w.heap.size ∧ ∀ i u, (wnL L[j])[i]? = some u → w.cell? ((ad.add (j * 2)).add i) = some u := h j hj
set_option maxHeartbeats 4000000 in
set_option maxRecDepth 100000 in
theorem search_any (A : Option Addr) (c : Nat) (L : List Wnt) (n : Int) (w : World) (hr : Rd wnL 2 w A L) (hs : risingW L) (hl : L.length ≤ 1000) :
    Calls Try.prog 34 #[.slice A L.length c, .int .i64 n, .func (.func 35) #[] #[]] w (gives (.tuple #[.int .i64 (spot L n), .bool (decide (wanted L n))]) w) := by
  have HR := Lib.hid hr
  have HS := Lib.hid hs
  have HC := Lib.hid (show ∀ (x : Wnt) (W : World), Calls Try.prog 35 #[.agg (wnL x).toArray, .int .i64 n] W (gives (.int .i64 (cmpI x.n n)) W) from fun x W => placeF_any x n W)
  obtain ⟨z, hz⟩ : ∃ z, z = L.length := ⟨_, rfl⟩
  obtain ⟨b, hb⟩ : ∃ b, b = decide (wanted L n) := ⟨_, rfl⟩
  obtain ⟨s, hsp⟩ : ∃ s, s = spot L n := ⟨_, rfl⟩
  have hsl : s ≤ z := by rw [hsp, hz]; exact spot_le L n
  rw [← hz, ← hb, ← hsp]
  rw [← hz] at hl
  have HZ := Lib.hid hz
  have HB := Lib.hid hb
  have HP := Lib.hid hsp
  clear hr hs hz hb hsp
  go_enter Try.func34, Try.ntmps34
  go_wp2
  go_loopw [9, 10] (fun lo hi wr => ∃ l h : Nat, lo = .int .i64 l ∧ hi = .int .i64 h ∧ l ≤ s ∧ s ≤ h ∧ h ≤ z ∧ Below w.heap.size w wr) (fun lo hi _ => (RowKit.intOf hi).toNat - (RowKit.intOf lo).toNat)
  case atStart => exact ⟨0, z, rfl, rfl, Nat.zero_le _, hsl, Nat.le_refl _, Below.refl _ _⟩
  case round =>
    obtain ⟨l, h, rfl, rfl, hls, hsh, hhz, hbw⟩ := hrel
    by_cases hlt : l < h
    · obtain ⟨m, hm⟩ : ∃ m, m = (l + h) / 2 := ⟨_, rfl⟩
      have hm1 : l ≤ m := by omega
      have hm2 : m < h := by omega
      have hmi : ((l : Int) + (h : Int)) / 2 = (m : Int) := by omega
      have hmL : m < L.length := by have := HZ.out; omega
      obtain ⟨ad, rfl, hadl, hcs⟩ := (HR.out.below hbw).wn hmL
      obtain ⟨y, hy⟩ : ∃ y, y = L[m] := ⟨_, rfl⟩
      rw [← hy] at hcs
      have hcs1 : ∀ j u, (wnL y)[j]? = some u → wr.cell? ((ad.add (m * 2)).add j) = some u := hcs
      by_cases hyn : y.n < n
      · have e1 := HC.out y wr
        rw [cmpI_neg hyn] at e1
        have HC1 := Lib.hid e1
        have hms : m < s := by
          rcases Nat.lt_or_ge m s with g | g
          · exact g
          · have := spot_ge HS.out (by rw [← HP.out]; exact g) hmL
            rw [← hy] at this
            omega
        clear e1 hcs hy hmL hm
        go_wp2_with (first
          | (refine wpList_cells_at rfl _ _ rfl (ad.add (m * 2)) rfl (wnL y) _ hcs1 Try.underlying63 rfl wnInfo ?_)
          | (go_at_call 35; refine HC1.out.mono ?_; unfold gives; rintro e w2 ⟨rfl, hb2⟩)
          | go_in)
        go_roundw
        case rel => exact ⟨m + 1, h, by go_num, rfl, by omega, hsh, hhz, nxt hbw hb2⟩
        case measure => simp [RowKit.intOf]; omega
      · have hms : s ≤ m := by
          rcases Nat.lt_or_ge m s with g | g
          · have := spot_lt HS.out (n := n) (t := m) (by rw [← HP.out]; exact g)
            rw [← hy] at this
            omega
          · exact g
        obtain ⟨k, hk, hk0⟩ : ∃ k, cmpI y.n n = k ∧ 0 ≤ k := by
          rcases (show n < y.n ∨ y.n = n by omega) with g | g
          · exact ⟨1, cmpI_pos g, by decide⟩
          · exact ⟨0, cmpI_zero g, by decide⟩
        have e1 := HC.out y wr
        rw [hk] at e1
        have HC1 := Lib.hid e1
        have hkn : ¬ k < 0 := by omega
        clear e1 hcs hy hmL hm hk hyn
        go_wp2_with (first
          | (refine wpList_cells_at rfl _ _ rfl (ad.add (m * 2)) rfl (wnL y) _ hcs1 Try.underlying63 rfl wnInfo ?_)
          | (go_at_call 35; refine HC1.out.mono ?_; unfold gives; rintro e w2 ⟨rfl, hb2⟩)
          | go_in)
        go_roundw
        case rel => exact ⟨l, m, rfl, by go_num, hls, hms, by omega, nxt hbw hb2⟩
        case measure => simp [RowKit.intOf]; omega
    · obtain rfl : l = s := by omega
      obtain rfl : h = l := by omega
      clear hls hsh
      by_cases hz : h < z
      · have hmL : h < L.length := by have := HZ.out; omega
        obtain ⟨ad, rfl, hadl, hcs⟩ := (HR.out.below hbw).wn hmL
        obtain ⟨y, hy⟩ : ∃ y, y = L[h] := ⟨_, rfl⟩
        rw [← hy] at hcs
        have hcs1 : ∀ j u, (wnL y)[j]? = some u → wr.cell? ((ad.add (h * 2)).add j) = some u := hcs
        have hwb : b = decide (y.n = n) := by
          rw [HB.out]
          have h1 := wanted_spot HS.out n
          rw [← HP.out] at h1
          have h2 : wanted L n ↔ y.n = n := by
            rw [h1, hy]
            exact ⟨fun ⟨_, e⟩ => e, fun e => ⟨hmL, e⟩⟩
          exact decide_eq_decide.2 h2
        have e1 := HC.out y wr
        by_cases hyn : y.n = n
        · rw [cmpI_zero hyn] at e1
          have HC1 := Lib.hid e1
          have HW : Hid (b = true) := Lib.hid (by rw [hwb]; exact decide_eq_true hyn)
          clear e1 hcs hy hmL hwb hyn
          go_wp2_with (first
            | (refine wpList_cells_at rfl _ _ rfl (ad.add (h * 2)) rfl (wnL y) _ hcs1 Try.underlying63 rfl wnInfo ?_)
            | (go_at_call 35; refine HC1.out.mono ?_; unfold gives; rintro e w2 ⟨rfl, hb2⟩)
            | go_in)
          go_ret2
          exact ⟨by rw [HW.out]; rfl, nxt hbw hb2⟩
        · obtain ⟨k, hk, hk0⟩ : ∃ k, cmpI y.n n = k ∧ k ≠ 0 := by
            rcases (show n < y.n ∨ y.n < n by omega) with g | g
            · exact ⟨1, cmpI_pos g, by decide⟩
            · exact ⟨-1, cmpI_neg g, by decide⟩
          rw [hk] at e1
          have HC1 := Lib.hid e1
          have hkn : (k == 0) = false := by simpa using hk0
          have HW : Hid (b = false) := Lib.hid (by rw [hwb]; exact decide_eq_false hyn)
          clear e1 hcs hy hmL hwb hyn hk hk0
          go_wp2_with (first
            | (refine wpList_cells_at rfl _ _ rfl (ad.add (h * 2)) rfl (wnL y) _ hcs1 Try.underlying63 rfl wnInfo ?_)
            | (go_at_call 35; refine HC1.out.mono ?_; unfold gives; rintro e w2 ⟨rfl, hb2⟩)
            | go_in)
          go_ret2
          exact ⟨by rw [HW.out]; rfl, nxt hbw hb2⟩
      · have HW : Hid (b = false) := Lib.hid (by
          rw [HB.out]
          refine decide_eq_false fun hw => ?_
          obtain ⟨hx, _⟩ := (wanted_spot HS.out n).1 hw
          have := HP.out
          have := HZ.out
          omega)
        go_wp2
        go_ret2
        exact ⟨by rw [HW.out]; rfl, hbw⟩
end Go.Proofs.Ytglnocclhhdbbaa
