/-
  What Print of layer 1 tells, of the code and of the document's answer: the decimal numeral. Memory that was there stays as it was.
-/
import Derived.Test.YtfoabgjcndgflaaDoorL1Read
import Derived.Laws.IdiomStrings
import Derived.Lib.ItoaMem
import Derived.Lib.ItoaLen
set_option linter.unusedSimpArgs false
set_option linter.unusedVariables false
namespace Go.Proofs.YtfoabgjcndgflaaDoor.L1
open Go.RowKit Go.Lib

/-- The table of powers of ten. -/
abbrev Tab (w : World) : Prop := Lib.TabIs Tryd.prog w "internal/strconv.uint64pow10" .u64 Lib.pow10Tab

theorem below_grown (B : Nat) (w : World) (k : Nat) (os : Array Obj) (h : B ≤ w.heap.size) : Below B w (Go.Sort.grow (w.drewN k) os) := by
  refine ⟨rfl, rfl, rfl, by simp, fun i hi => ?_⟩
  rw [Go.Sort.heap_grow_old (w.drewN k) os (by simp; omega)]
  simp
theorem nxt {W a b : World} (h : Below W.heap.size W a) (k : Below a.heap.size a b) : Below W.heap.size W b := h.trans (k.mono h.size)
theorem tab_below {B : Nat} {w w' : World} (h : Tab w) (hb : Below B w w') (hB : B = w.heap.size) : Tab w' := by
  unfold Tab TabIs World.var? at *
  cases hg : Tryd.prog.globalNamed "internal/strconv.uint64pow10" with
  | none => simp [hg] at h
  | some g =>
    simp only [hg, Option.bind_some] at h ⊢
    have hlt : g < w.heap.size := by
      rcases Nat.lt_or_ge g w.heap.size with h' | h'
      · exact h'
      · rw [Array.getElem?_eq_none h'] at h; simp at h
    rw [hb.block g (by omega)]
    exact h

theorem print_any (n : Int) (w : World) (h0 : -9223372036854775808 ≤ n) (h1 : n ≤ 9223372036854775807) (ht : Tab w) :
    Calls Tryd.prog 22 #[.int .i64 n] w fun e w' => e = .returned (.string (strOf (itoa n))) ∧ Below w.heap.size w w' := by
  go_enter Tryd.func22, Tryd.ntmps22
  go_wp2_with (go_at_call 43; refine (Tryd.strconv_FormatInt_10 n h0 h1 _ ht).mono ?_; rintro e w' ⟨rfl, k, os, rfl⟩)
  go_ret
  exact ⟨rfl, below_grown _ _ _ _ (Nat.le_refl _)⟩

theorem strOf_app (l : List UInt8) (t : ByteArray) : strOf l ++ t = strOf (l ++ t.data.toList) := by
  apply ByteArray.ext
  rw [ByteArray.data_append]
  simp [strOf]
def dgt (m : Nat) : UInt8 := UInt8.ofNat (48 + m % 10)
theorem one_digit (w : World) (m : Nat) :
    (convert 26 9 (.slice (some ⟨w.heap.size, 0, none⟩) 1 1)).run Tryd.prog (w.alloc (.cells #[.int .u8 (48 + (m : Int) % 10)] 5)) =
      .ok (.string (strOf [dgt m])) (w.alloc (.cells #[.int .u8 (48 + (m : Int) % 10)] 5)) := by
  refine run_convert_bytes_back (P := Tryd.prog) _ _ _ 5 ⟨w.heap.size, 0, none⟩ 1 [dgt m] Tryd.underlying26 Tryd.underlying5 Tryd.underlying9 ?_
  intro j hj
  obtain rfl : j = 0 := by simpa using hj
  rw [add_plain, World.cell?_alloc_new]
  have : (dgt m).toNat = 48 + m % 10 := by unfold dgt; rw [UInt8.toNat_ofNat']; omega
  simp only [List.getElem_cons_zero, this]
  simp

theorem refprint_up (n : Nat) (w : World) (h1 : n ≤ 9223372036854775807) :
    Calls Tryd.prog 31 #[.int .i64 n] w fun e w' => e = .returned (.string (strOf (decDigits n))) ∧ Below w.heap.size w w' := by
  have h0 : ((n : Int) == -9223372036854775808) = false := by rw [beq_eq_false_iff_ne]; omega
  go_enter Tryd.func31, Tryd.ntmps31
  go_wp2
  go_loopw [0, 3] (fun a b wr => ∃ (m : Nat) (t : ByteArray), a = .int .i64 m ∧ b = .string t ∧ m ≤ 9223372036854775807 ∧ decDigits n = decDigits m ++ t.data.toList ∧ Below w.heap.size w wr) (fun a _ _ => (RowKit.intOf a).toNat)
  case atStart => exact ⟨n, ByteArray.mk #[], rfl, rfl, h1, (List.append_nil _).symm, Below.refl _ _⟩
  case round =>
    obtain ⟨m, t, rfl, rfl, hm, hd, hb⟩ := hrel
    have HD := Lib.hid hd
    clear hd
    have hmod : 0 ≤ (m : Int) % 10 ∧ (m : Int) % 10 ≤ 9 := by omega
    obtain ⟨q0, q1⟩ := hmod
    have hcv := one_digit wr m
    have hl1 : (strOf [dgt m]).size ≤ 1 := by rw [strOf_size]; simp
    have hl2 : t.size ≤ 9223372036854775000 := by
      have h := congrArg List.length HD.out
      rw [List.length_append, ← size_len, decDigits_length, decDigits_length] at h
      have := nDigits_le20 n (by omega)
      omega
    have hsz := hb.size
    by_cases hz : m < 10
    · have hdz : (m : Int) / 10 = 0 := by omega
      have he : decDigits m = [dgt m] := by unfold dgt; rw [decDigits, dif_pos hz, Nat.mod_eq_of_lt hz]
      have HE := Lib.hid he
      clear he
      go_wp2
      go_ret
      have hout : strOf [dgt m] ++ t = strOf (decDigits n) := by rw [strOf_app, HD.out, HE.out]
      exact ⟨by rw [← hout]; rfl, hb.alloc hsz _⟩
    · have hdz : ((m : Int) / 10 == 0) = false := by simp; omega
      have he : decDigits m = decDigits (m / 10) ++ [dgt m] := by unfold dgt; rw [decDigits, dif_neg hz]
      have HE := Lib.hid he
      clear he
      go_wp2
      go_roundw
      case rel =>
        refine ⟨m / 10, _, ?_, rfl, by omega, ?_, hb.alloc hsz _⟩
        · congr 1
        · rw [HD.out, HE.out, strOf_app, strOf_list, List.append_assoc]
      case measure => simp [RowKit.intOf]; omega

theorem refprint_any (n : Int) (w : World) (h0 : -9223372036854775808 ≤ n) (h1 : n ≤ 9223372036854775807) :
    Calls Tryd.prog 31 #[.int .i64 n] w fun e w' => e = .returned (.string (strOf (itoa n))) ∧ Below w.heap.size w w' := by
  by_cases hp : 0 ≤ n
  · obtain ⟨u, rfl⟩ : ∃ u : Nat, n = u := ⟨n.toNat, by omega⟩
    rw [itoa_nonneg]
    exact refprint_up u w (by omega)
  by_cases hm : n = -9223372036854775808
  · subst hm
    have he : strOf (itoa (-9223372036854775808)) = { data := #[45, 57, 50, 50, 51, 51, 55, 50, 48, 51, 54, 56, 53, 52, 55, 55, 53, 56, 48, 56] } := by
      rw [show (-9223372036854775808 : Int) = -((9223372036854775808 : Nat) : Int) by rfl, itoa_neg _ (by omega)]
      rw [show decDigits 9223372036854775808 = [57, 50, 50, 51, 51, 55, 50, 48, 51, 54, 56, 53, 52, 55, 55, 53, 56, 48, 56] by decide +kernel]
      rfl
    rw [he]
    clear he
    go_enter Tryd.func31, Tryd.ntmps31
    go_wp2
    go_ret
    exact ⟨rfl, Below.refl _ _⟩
  obtain ⟨u, rfl⟩ : ∃ u : Nat, n = -(u : Int) := ⟨n.natAbs, by omega⟩
  have hu : 1 ≤ u := by omega
  have hu2 : u ≤ 9223372036854775807 := by omega
  have he : itoa (-(u : Int)) = 45 :: decDigits u := itoa_neg u hu
  rw [he]
  have hl2 : (strOf (decDigits u)).size ≤ 20 := by rw [strOf_size, decDigits_length]; exact nDigits_le20 u (by omega)
  have hmb : (-(u : Int) == -9223372036854775808) = false := by rw [beq_eq_false_iff_ne]; omega
  clear he hm
  go_enter Tryd.func31, Tryd.ntmps31
  go_wp2_with (go_at_call 31; refine (refprint_up u _ hu2).mono ?_; rintro e w' ⟨rfl, hb⟩)
  go_ret
  have hout : ({ data := #[45] } : ByteArray) ++ strOf (decDigits u) = strOf (45 :: decDigits u) := by
    rw [show ({ data := #[45] } : ByteArray) = strOf [45] by rfl, strOf_app, strOf_list]; rfl
  exact ⟨by rw [← hout]; rfl, hb⟩
end Go.Proofs.YtfoabgjcndgflaaDoor.L1
