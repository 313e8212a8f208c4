/-
  The bytes of a block's lists: by the code.
-/
import Derived.Test.YtkjkkbionlmohaaDoorNumsB
import Derived.Test.YtkjkkbionlmohaaDoorTxsB
set_option linter.unusedSimpArgs false
set_option linter.unusedVariables false
set_option maxRecDepth 10000
namespace Go.Proofs.YtkjkkbionlmohaaDoor
open Go.RowKit Go.Maps Go.Lib
open L3 (Blk Reads Owned encN encs intCells)
open L11 (Crt zeroC crtL crtC mayV bytesV okW crtInfo crtC_ones endV)

theorem listB_snoc {α : Type} (f : α → List UInt8) (pre : List UInt8) (L : List α) {k : Nat} (hk : k < L.length) : pre ++ ((L.take (k + 1)).map f).flatten = (pre ++ ((L.take k).map f).flatten) ++ f L[k] := by
  rw [List.take_succ_eq_append_getElem hk, List.map_append, List.flatten_append]; simp
theorem enters_Ts : ∀ args w, (callFunc 32 args).run Tryd.prog w = .ok (.enter 32 args) w := enters_of Tryd.func32 (by kernel_rfl) rfl
set_option maxHeartbeats 2000000 in
set_option maxRecDepth 100000 in
theorem writeTs_any (A : Option Addr) (c : Nat) (L : List Tmo) (w : World) (hr : Rd tmL 10 w A L) (hl : ∀ t ∈ L, t.wf ∧ tmoV t = true) (hn : L.length ≤ 100) :
    Calls Tryd.prog 31 #[.slice A L.length c, .func (.func 32) #[] #[]] w (owns (listB tmB L) w) := by
  have eg := enters_Ts
  have hHL := Lib.hid hl
  have hHR := Lib.hid hr
  have hbits : ∀ k, (encN L.length ++ ((L.take k).map tmB).flatten).length ≤ 50000 := fun k => by
    have h1 := encN9 (n := L.length) (by omega)
    have h2 := flat_len_le tmB 429 (L.take k) fun t ht => Nat.le_trans (tmB_len (hl t (List.mem_of_mem_take ht)).2) (by omega)
    have h3 : (L.take k).length ≤ 100 := by rw [List.length_take]; omega
    have h4 : (L.take k).length * 429 ≤ 100 * 429 := Nat.mul_le_mul_right _ h3
    rw [List.length_append]; omega
  have HBITS := Lib.hid hbits
  obtain ⟨n, hN⟩ : ∃ n, n = L.length := ⟨_, rfl⟩
  have hok : [(n : Int)].all L3.okN = true := by simp [L3.okN_mk (n := (n : Int)) (by omega) (by omega)]
  have hrd := rowI_reads w #[.int .i64 (n : Int)] 1 (by omega) rfl
  have hnum := numsB_any (some ⟨w.heap.size, 0, none⟩) 1 1 [(n : Int)] (w.alloc (.cells #[.int .i64 (n : Int)] 3)) hrd (by omega) hok
  have e1 : encs [(n : Int)] = encN n := by simp [L3.encs]
  rw [e1] at hnum
  have HNUM := Lib.hid hnum
  have HNL := Lib.hid hN
  rw [← hN] at hn ⊢
  clear hl hr hbits hnum hrd hok e1 hN
  go_enter Tryd.func31, Tryd.ntmps31
  go_upto_region 2 with (first
    | (go_at_call 30; refine HNUM.out.mono ?_; rintro e w1 ⟨v1, rfl, ho1⟩))
  have ho0 : Owned w.heap.size v1 (encN n) w w1 := owned_rebase ho1 (below_new _ _) (by simp)
  clear ho1 HNUM
  go_wp2
  go_loopw [5, 16] (fun b i wr => ∃ k : Nat, i = .int .i64 k ∧ k ≤ n ∧ Owned w.heap.size b (encN n ++ ((L.take k).map tmB).flatten) w wr) (fun _ i _ => n - (RowKit.intOf i).toNat)
  case atStart => exact ⟨0, rfl, Nat.zero_le _, by simpa using ho0⟩
  case round =>
    obtain ⟨k, rfl, hk, ho⟩ := hrel
    clear ho0
    by_cases hlt : k < n
    · have hkL : k < L.length := by have := HNL.out; omega
      have hrw := hHR.out.below ho.2.1
      obtain ⟨ad, rfl, hadl, hcs⟩ := hrw k hkL
      have hx := hHL.out _ (List.getElem_mem hkL)
      have hsn := listB_snoc tmB (encN n) L hkL
      have hlen := HBITS.out k
      rw [← HNL.out] at hlen
      obtain ⟨x, hxe⟩ : ∃ x, x = L[k] := ⟨_, rfl⟩
      rw [← hxe] at hcs hx hsn
      have hcs1 : ∀ j u, (tmL x)[j]? = some u → wr.cell? ((ad.add (k * 10)).add j) = some u := hcs
      have hyb : Blk (wr.alloc (.cells (tmC x) 43)) wr.heap.size 43 (tmC x) := Blk.new _ _ _
      have hb1 := below_new wr (.cells (tmC x) 43)
      have hW := writeTm_any x (wr.alloc (.cells (tmC x) 43)) hx.1 hx.2
      have hpos : 0 < (tmB x).length := by unfold tmB; have := L3.encN_pos x.signer.toNat; rw [List.length_append]; omega
      have hlx : (tmB x).length ≤ 429 := Nat.le_trans (tmB_len hx.2) (by omega)
      obtain ⟨y, hy⟩ : ∃ y, y = tmB x := ⟨_, rfl⟩
      rw [← hy] at hW hsn hpos hlx
      obtain ⟨z, hz⟩ : ∃ z, z = encN n ++ ((L.take k).map tmB).flatten := ⟨_, rfl⟩
      rw [← hz] at ho hsn hlen
      obtain ⟨A2, c2, rfl, _, _⟩ := ho.form
      have HW := Lib.hid hW
      have HS := Lib.hid hsn
      clear hxe hcs hsn hW hy hz hrw
      go_wp2_with (first
        | (refine wpList_cells_at rfl _ _ rfl (ad.add (k * 10)) rfl (tmL x) _ hcs1 Tryd.underlying43 rfl tmInfo ?_)
        | (refine wpList_store_new rfl _ _ _ rfl _ (tmC x) rfl rfl _ _ tmInfo rfl (tmC_ones _) ?_)
        | (refine wpList_row_at rfl _ _ rfl wr.heap.size rfl _ _ _ _ hyb Tryd.underlying43 rfl tmInfo ?_)
        | (go_at_fn 32; refine HW.out.mono ?_; rintro e w3 ⟨A3, d3, rfl, r3, q3, hb3⟩; have ho3 := owned_below (owned_below ho hb1) hb3)
        | (at_builtin; refine wpList_append_buf rfl _ _ _ rfl Tryd.underlying33 _ _ z _ rfl ho3 A3 y.length d3 y rfl rfl r3 hpos (by omega) ?_; intro v4 w4 ho4 hg4))
      go_round
      case rel => exact ⟨k + 1, by go_num, by omega, by rw [HS.out]; exact ho4⟩
      case measure => simp [RowKit.intOf]; omega
    · have hkn : L.take k = L := List.take_of_length_le (by have := HNL.out; omega)
      rw [hkn] at ho
      have E : Hid (listB tmB L = encN n ++ (L.map tmB).flatten) := Lib.hid (by unfold listB; rw [HNL.out])
      clear hkn
      go_wp2_with fail
      go_ret
      rw [E.out]
      exact ⟨_, rfl, ho⟩
theorem enters_Xs : ∀ args w, (callFunc 34 args).run Tryd.prog w = .ok (.enter 34 args) w := enters_of Tryd.func34 (by kernel_rfl) rfl
set_option maxHeartbeats 2000000 in
set_option maxRecDepth 100000 in
theorem writeXs_any (A : Option Addr) (c : Nat) (L : List Txx) (w : World) (hr : Rd txL 7 w A L) (hl : ∀ t ∈ L, right t = true) (hT : Tabs w) (hn : L.length ≤ 100) :
    Calls Tryd.prog 33 #[.slice A L.length c, .func (.func 34) #[] #[]] w (owns (listB bytesT L) w) := by
  have eg := enters_Xs
  have hHL := Lib.hid hl
  have hHR := Lib.hid hr
  have HTB := Lib.hid (fun W (hb : Below w.heap.size w W) => hT.kept hb)
  have hbits : ∀ k, (encN L.length ++ ((L.take k).map bytesT).flatten).length ≤ 50000 := fun k => by
    have h1 := encN9 (n := L.length) (by omega)
    have h2 := flat_len_le bytesT 429 (L.take k) fun t ht => bytesT_len (hl t (List.mem_of_mem_take ht))
    have h3 : (L.take k).length ≤ 100 := by rw [List.length_take]; omega
    have h4 : (L.take k).length * 429 ≤ 100 * 429 := Nat.mul_le_mul_right _ h3
    rw [List.length_append]; omega
  have HBITS := Lib.hid hbits
  obtain ⟨n, hN⟩ : ∃ n, n = L.length := ⟨_, rfl⟩
  have hok : [(n : Int)].all L3.okN = true := by simp [L3.okN_mk (n := (n : Int)) (by omega) (by omega)]
  have hrd := rowI_reads w #[.int .i64 (n : Int)] 1 (by omega) rfl
  have hnum := numsB_any (some ⟨w.heap.size, 0, none⟩) 1 1 [(n : Int)] (w.alloc (.cells #[.int .i64 (n : Int)] 3)) hrd (by omega) hok
  have e1 : encs [(n : Int)] = encN n := by simp [L3.encs]
  rw [e1] at hnum
  have HNUM := Lib.hid hnum
  have HNL := Lib.hid hN
  rw [← hN] at hn ⊢
  clear hT hl hr hbits hnum hrd hok e1 hN
  go_enter Tryd.func33, Tryd.ntmps33
  go_upto_region 2 with (first
    | (go_at_call 30; refine HNUM.out.mono ?_; rintro e w1 ⟨v1, rfl, ho1⟩))
  have ho0 : Owned w.heap.size v1 (encN n) w w1 := owned_rebase ho1 (below_new _ _) (by simp)
  clear ho1 HNUM
  go_wp2
  go_loopw [5, 16] (fun b i wr => ∃ k : Nat, i = .int .i64 k ∧ k ≤ n ∧ Owned w.heap.size b (encN n ++ ((L.take k).map bytesT).flatten) w wr) (fun _ i _ => n - (RowKit.intOf i).toNat)
  case atStart => exact ⟨0, rfl, Nat.zero_le _, by simpa using ho0⟩
  case round =>
    obtain ⟨k, rfl, hk, ho⟩ := hrel
    clear ho0
    by_cases hlt : k < n
    · have hkL : k < L.length := by have := HNL.out; omega
      have hrw := hHR.out.below ho.2.1
      obtain ⟨ad, rfl, hadl, hcs⟩ := hrw k hkL
      have hx := hHL.out _ (List.getElem_mem hkL)
      have hsn := listB_snoc bytesT (encN n) L hkL
      have hlen := HBITS.out k
      rw [← HNL.out] at hlen
      obtain ⟨x, hxe⟩ : ∃ x, x = L[k] := ⟨_, rfl⟩
      rw [← hxe] at hcs hx hsn
      have hcs1 : ∀ j u, (txL x)[j]? = some u → wr.cell? ((ad.add (k * 7)).add j) = some u := hcs
      have hyb : Blk (wr.alloc (.cells (txC x) 53)) wr.heap.size 53 (txC x) := Blk.new _ _ _
      have hb1 := below_new wr (.cells (txC x) 53)
      have hW := bytes_ok x (wr.alloc (.cells (txC x) 53)) (HTB.out _ (ho.2.1.trans (hb1.mono ho.2.2))) hx
      have hpos : 0 < (bytesT x).length := by unfold bytesT; have := L3.encN_pos x.kind.toNat; rw [List.length_append]; omega
      have hlx : (bytesT x).length ≤ 429 := bytesT_len hx
      obtain ⟨y, hy⟩ : ∃ y, y = bytesT x := ⟨_, rfl⟩
      rw [← hy] at hW hsn hpos hlx
      obtain ⟨z, hz⟩ : ∃ z, z = encN n ++ ((L.take k).map bytesT).flatten := ⟨_, rfl⟩
      rw [← hz] at ho hsn hlen
      obtain ⟨A2, c2, rfl, _, _⟩ := ho.form
      have HW := Lib.hid hW
      have HS := Lib.hid hsn
      clear hxe hcs hsn hW hy hz hrw
      go_wp2_with (first
        | (refine wpList_cells_at rfl _ _ rfl (ad.add (k * 7)) rfl (txL x) _ hcs1 Tryd.underlying53 rfl (by kernel_rfl) ?_)
        | (refine wpList_store_new rfl _ _ _ rfl _ (txC x) rfl rfl _ _ (by kernel_rfl) rfl (txC_ones _) ?_)
        | (refine wpList_row_at rfl _ _ rfl wr.heap.size rfl _ _ _ _ hyb Tryd.underlying53 rfl (by kernel_rfl) ?_)
        | (go_at_fn 34; refine HW.out.mono ?_; rintro e w3 ⟨A3, d3, rfl, r3, q3, hb3⟩; have ho3 := owned_below (owned_below ho hb1) hb3)
        | (at_builtin; refine wpList_append_buf rfl _ _ _ rfl Tryd.underlying33 _ _ z _ rfl ho3 A3 y.length d3 y rfl rfl r3 hpos (by omega) ?_; intro v4 w4 ho4 hg4))
      go_round
      case rel => exact ⟨k + 1, by go_num, by omega, by rw [HS.out]; exact ho4⟩
      case measure => simp [RowKit.intOf]; omega
    · have hkn : L.take k = L := List.take_of_length_le (by have := HNL.out; omega)
      rw [hkn] at ho
      have E : Hid (listB bytesT L = encN n ++ (L.map bytesT).flatten) := Lib.hid (by unfold listB; rw [HNL.out])
      clear hkn
      go_wp2_with fail
      go_ret
      rw [E.out]
      exact ⟨_, rfl, ho⟩
end Go.Proofs.YtkjkkbionlmohaaDoor
