/-
  Numbers struck out of a row by a function: slices.IndexFunc and slices.DeleteFunc, at this struct.
-/
import Derived.Test.YtglnocclhhdbbaaIns
set_option linter.unusedSimpArgs false
set_option linter.unusedVariables false
set_option maxRecDepth 10000
namespace Go.Proofs.Ytglnocclhhdbbaa
open Go.RowKit Go.Lib
open L3 (Blk Reads block_of_add add_of_add)
open L6 (Turn moreB fresh From In)

/-- What a function that is asked about numbers answers, whatever has turned in these blocks. -/
def Asks (g : Nat) (lb : Array Value) (p : Wnt → Bool) (S : Nat → Prop) (w : World) : Prop :=
  ∀ W x, Turn S w W → Calls Try.prog g (#[.agg (wnL x).toArray] ++ lb) W (gives (.bool (p x)) W)
theorem Asks.later {g : Nat} {lb : Array Value} {p : Wnt → Bool} {S : Nat → Prop} {w w1 : World} (h : Asks g lb p S w) (ht : Turn S w w1) : Asks g lb p S w1 := fun W x hW => h W x (ht.trans hW fun i hi => .inl hi)
theorem Asks.mono {g : Nat} {lb : Array Value} {p : Wnt → Bool} {S T : Nat → Prop} {w : World} (h : Asks g lb p S w) (hs : ∀ k, T k → S k) : Asks g lb p T w := fun W x hW => h W x (hW.mono fun i _ hi => hs i hi)
/-- The first that it tells yes of. -/
def FirstAt (L : List Wnt) (p : Wnt → Bool) (k : Int) : Prop := (k = -1 ∧ ∀ t ∈ L, p t = false) ∨ ∃ (j : Nat) (h : j < L.length), k = j ∧ p L[j] = true ∧ ∀ i (hi : i < j), p (L[i]'(by omega)) = false
theorem first_ex (L : List Wnt) (p : Wnt → Bool) : ∃ k, FirstAt L p k := by
  induction L with
  | nil => exact ⟨-1, .inl ⟨rfl, fun t h => nomatch h⟩⟩
  | cons x L ih =>
    rcases Bool.eq_false_or_eq_true (p x) with h | h
    · exact ⟨0, .inr ⟨0, by simp, rfl, h, fun i hi => absurd hi (by omega)⟩⟩
    · obtain ⟨k, ⟨rfl, hk⟩ | ⟨j, hj, rfl, h1, h2⟩⟩ := ih
      · refine ⟨-1, .inl ⟨rfl, fun t ht => ?_⟩⟩
        rcases List.mem_cons.1 ht with e | e
        · rw [e]; exact h
        · exact hk t e
      · refine ⟨((j + 1 : Nat) : Int), .inr ⟨j + 1, by simpa using hj, rfl, by simpa using h1, fun i hi => ?_⟩⟩
        cases i with
        | zero => exact h
        | succ i => simpa using h2 i (by omega)
set_option maxHeartbeats 4000000 in
set_option maxRecDepth 100000 in
theorem idx_any (A : Option Addr) (c : Nat) (g : Nat) (lb : Array Value) (p : Wnt → Bool) (L : List Wnt) (w : World) (eg : ∀ args w, (callFunc g args).run Try.prog w = .ok (.enter g args) w) (hp : Asks g lb p (fun _ => False) w) (hr : Rd wnL 2 w A L) (hl : L.length ≤ 1000) {k : Int} (hk : FirstAt L p k) :
    Calls Try.prog 39 #[.slice A L.length c, .func (.func g) #[] lb] w (gives (.int .i64 k) w) := by
  have HR := Lib.hid hr
  have HP := Lib.hid hp
  have HK := Lib.hid hk
  obtain ⟨z, hz⟩ : ∃ z, z = L.length := ⟨_, rfl⟩
  rw [← hz]
  rw [← hz] at hl
  have HZ := Lib.hid hz
  clear hr hz hp hk
  go_enter Try.func39, Try.ntmps39
  go_wp2
  go_loopw [8] (fun i wr => ∃ j : Nat, i = .int .i64 j ∧ j ≤ z ∧ Hid (∀ i (h : i < L.length), i < j → p L[i] = false) ∧ Below w.heap.size w wr) (fun i _ => z - (RowKit.intOf i).toNat)
  case atStart => exact ⟨0, rfl, Nat.zero_le _, Lib.hid (fun i _ h => absurd h (by omega)), Below.refl _ _⟩
  case round =>
    obtain ⟨j, rfl, hj, hno, hbw⟩ := hrel
    by_cases hlt : j < z
    · have hjL : j < L.length := by have := HZ.out; omega
      obtain ⟨ad, rfl, hadl, hcs⟩ := (HR.out.below hbw).wn hjL
      obtain ⟨y, hy⟩ : ∃ y, y = L[j] := ⟨_, rfl⟩
      rw [← hy] at hcs
      have hcs1 : ∀ i u, (wnL y)[i]? = some u → wr.cell? ((ad.add (j * 2)).add i) = some u := hcs
      have hcall := HP.out wr y (L6.Turn.of_keep hbw)
      rcases Bool.eq_false_or_eq_true (p y) with hq | hq
      · rw [hq] at hcall
        have HC := Lib.hid hcall
        have HE : Hid (k = (j : Int)) := Lib.hid (by
          rcases HK.out with ⟨_, h⟩ | ⟨i, hi, rfl, h1, h2⟩
          · have := h y (by rw [hy]; exact List.getElem_mem hjL)
            rw [hq] at this; cases this
          · rcases Nat.lt_trichotomy i j with h | h | h
            · have := hno.out i hi h
              rw [h1] at this; cases this
            · rw [h]
            · have := h2 j h
              rw [← hy, hq] at this; cases this)
        clear hcall hcs hy hjL hq
        go_wp2_with (first
          | (refine wpList_cells_at rfl _ _ rfl (ad.add (j * 2)) rfl (wnL y) _ hcs1 Try.underlying63 rfl wnInfo ?_)
          | (go_at_fn g; refine HC.out.mono ?_; unfold gives; rintro e w2 ⟨rfl, hb2⟩)
          | go_in)
        go_ret
        exact ⟨by rw [HE.out]; rfl, nxt hbw hb2⟩
      · rw [hq] at hcall
        have HC := Lib.hid hcall
        have HE : Hid (∀ i (h : i < L.length), i < j + 1 → p L[i] = false) := Lib.hid (fun i hi h => by
          by_cases c : i < j
          · exact hno.out i hi c
          · obtain rfl : i = j := by omega
            rw [← hy]; exact hq)
        clear hcall hcs hy hjL hq
        go_wp2_with (first
          | (refine wpList_cells_at rfl _ _ rfl (ad.add (j * 2)) rfl (wnL y) _ hcs1 Try.underlying63 rfl wnInfo ?_)
          | (go_at_fn g; refine HC.out.mono ?_; unfold gives; rintro e w2 ⟨rfl, hb2⟩)
          | go_in)
        go_roundw
        case rel => exact ⟨j + 1, by go_num, by omega, HE, nxt hbw hb2⟩
        case measure => simp [RowKit.intOf]; omega
    · obtain rfl : j = z := by omega
      have HE : Hid (k = -1) := Lib.hid (by
        rcases HK.out with ⟨h, _⟩ | ⟨i, hi, rfl, h1, _⟩
        · exact h
        · have := hno.out i hi (by have := HZ.out; omega)
          rw [h1] at this; cases this)
      go_wp2
      go_ret
      exact ⟨by rw [HE.out]; rfl, hbw⟩
end Go.Proofs.Ytglnocclhhdbbaa
