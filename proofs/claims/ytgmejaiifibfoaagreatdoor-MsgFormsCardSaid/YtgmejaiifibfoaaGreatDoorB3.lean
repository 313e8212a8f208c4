/-
  Texts of one layer in one: NumsB, WriteB, ConB, BytB.
-/
import Derived.Test.YtgmejaiifibfoaaGreatDoorB2
import Derived.Test.YtgmejaiifibfoaaGreatDoorT2
import Derived.Lib.FrozenHead2
import Derived.Test.YtgmejaiifibfoaaGreatDoorLays

/-
  The bytes of numbers and of a timeout in a block: by the code.
-/
set_option linter.unusedSimpArgs false
set_option linter.unusedVariables false
set_option maxRecDepth 10000
namespace Go.Proofs.YtgmejaiifibfoaaGreatDoor
open Go.RowKit Go.Maps Go.Lib
open L3 (Blk Reads Owned encN encs intCells)
open L11 (Crt zeroC crtL crtC mayV bytesV okW crtInfo crtC_ones endV)

theorem owned_rebase {B B' : Nat} {v : Value} {l : List UInt8} {w w1 w2 : World} (h : Owned B' v l w1 w2) (hb : Below B w w1) (hB : B ≤ B') : Owned B v l w w2 := by
  obtain ⟨⟨h1, h2⟩, h3, h4⟩ := h
  refine ⟨⟨h1, ?_⟩, hb.trans (h3.mono hB), by omega⟩
  rcases h2 with h2 | ⟨g, cap, cur, fz, e, hg, rest⟩
  · exact .inl h2
  · exact .inr ⟨g, cap, cur, fz, e, by omega, rest⟩
theorem owned_below {B : Nat} {v : Value} {l : List UInt8} {w w1 w2 : World} (h : Owned B v l w w1) (hb : Below w1.heap.size w1 w2) : Owned B v l w w2 := by
  obtain ⟨⟨h1, h2⟩, h3, h4⟩ := h
  refine ⟨⟨h1, ?_⟩, h3.trans (hb.mono h4), by have := hb.size; omega⟩
  rcases h2 with h2 | ⟨g, cap, cur, fz, e, hg, hh, rest⟩
  · exact .inl h2
  · exact .inr ⟨g, cap, cur, fz, e, hg, by rw [hb.block g (Array.getElem?_eq_some_iff.1 hh).1]; exact hh, rest⟩
/-- Bytes that a call made and that it owns. -/
def owns (l : List UInt8) (w : World) (e : Ending) (w' : World) : Prop := ∃ v, e = .returned v ∧ Owned w.heap.size v l w w'
section
variable {ops : Array Oper} {rest : List Oper} {o : Oper} {a : Act} {Q : Exit → Act → World → Prop}
/-- An append of bytes that are read onto bytes that the call owns. -/
theorem wpList_append_buf {w : World} (hgd : o.guard = none) (s x : Operand) (t : TypeId)
    (ho : o.op = .call { callee := .builtin .append, args := #[s, x], argTypes := #[t, t] }) (ht : Tryz.prog.underlying t = some (.slice 5))
    (B : Nat) (v : Value) (l : List UInt8) (W0 : World) (hs : a.eval s = v) (hb : Owned B v l W0 w) (A : Option Addr) (m c : Nat) (y : List UInt8) (hm : m = y.length) (hx : a.eval x = .slice A m c) (hr : Reads w w.heap.size 1 A m (Lib.byteCells y)) (hy : 0 < y.length) (hlen : l.length + y.length ≤ 100000000)
    (h : ∀ v' w', Owned B v' (l ++ y) W0 w' → w.grownBy w' v.ownBlock → wpList Tryz.prog ops Q rest (a.put o.dst v') w') : wpList Tryz.prog ops Q (o :: rest) a w := by
  obtain ⟨i0, hi, hz0, hz1, hz2⟩ := info_parts L3.byteInfo
  subst hm
  obtain ⟨ad, rfl, _, hc⟩ := hr.2 hy
  refine wpList_append_ownF _ hgd s x t ho B 5 i0 (.int .u8 0) 1 1 ht hi hz0 hz1 hz2 rfl (by decide) v l.length (Lib.byteCells l) hs hb.1 ad y.length c (Lib.byteCells y) hx (by simp [Lib.byteCells]) hc (L3.byteCells_one y) (by unfold maxLen; omega) (by omega) hb.2.2 ?_
  intro v' w' h2 h3 _
  have e : Lib.byteCells l ++ Lib.byteCells y = Lib.byteCells (l ++ y) := by simp [Lib.byteCells]
  rw [e] at h2
  refine h v' w' ?_ h3
  have := OwnBuf.grown hb h2 h3
  unfold L3.Owned
  rw [List.length_append]
  exact this
end
/-- A row of ints that was just laid. -/
theorem rowI_reads (w : World) (cs : Array Value) (n : Nat) (hn : n ≤ 100) (hs : cs.size = n) : Reads (w.alloc (.cells cs 3)) (w.alloc (.cells cs 3)).heap.size 1 (some ⟨w.heap.size, 0, none⟩) n cs.toList :=
  L3.Reads.of_own (base := w.heap.size) (World.ownsRow_lit w cs n (Nat.le_refl _) (by unfold maxLen; omega) (by omega))
theorem numsB_le (zs : List Int) (h : zs.all L3.okN = true) (hn : zs.length ≤ 100) : (encs zs).length ≤ 900 := by have := L3.encs_le zs h; omega
set_option maxHeartbeats 1000000 in
set_option maxRecDepth 100000 in
theorem numsB_any (A : Option Addr) (n c : Nat) (zs : List Int) (w : World) (h : Reads w w.heap.size 1 A n (intCells zs)) (hl : n ≤ 100) (hok : zs.all L3.okN = true) :
    Calls Tryz.prog 90 #[.slice A n c] w (owns (encs zs) w) := by
  have hn : zs.length = n := by have := h.1; simpa [L3.intCells] using this
  have HOK := Lib.hid hok
  clear hok
  go_enter Tryz.func90, Tryz.ntmps90
  go_wp2
  go_loopw [3, 8] (fun b i wr => ∃ k : Nat, i = .int .i64 k ∧ k ≤ n ∧ Owned w.heap.size b (encs (zs.take k)) w wr) (fun _ i _ => n - (RowKit.intOf i).toNat)
  case atStart => exact ⟨0, rfl, Nat.zero_le _, by simpa [L3.encs] using Owned.nil w _ (Nat.le_refl _)⟩
  case round =>
    obtain ⟨k, rfl, hk, ho⟩ := hrel
    by_cases hlt : k < n
    · obtain ⟨ad, u, rfl, _, hx, hc⟩ := (h.below ho.2.1).at_ hlt
      have hkz : k < zs.length := by omega
      have hz : u = .int .i64 zs[k] := by
        simp only [L3.intCells, List.getElem?_map, List.getElem?_eq_getElem hkz, Option.map_some, Option.some.injEq] at hx
        exact hx.symm
      subst hz
      have hall := List.all_eq_true.1 HOK.out
      have hzk := L3.okN_le (hall _ (List.getElem_mem hkz))
      have hle := numsB_le (zs.take k) (by rw [List.all_eq_true]; exact fun x hx => hall x (List.mem_of_mem_take hx)) (by rw [List.length_take]; omega)
      have hsn := L3.take_snoc_int zs k hkz
      obtain ⟨z, hz⟩ : ∃ z, z = zs[k] := ⟨_, rfl⟩
      rw [← hz] at hc hsn hzk
      obtain ⟨A2, c2, rfl, hr2, hc2⟩ := ho.form
      have hnum := L3.num_ok wr.heap.size A2 (encs (zs.take k)).length c2 (encs (zs.take k)) z.toNat wr hr2 (by omega) (Nat.le_refl _) (by omega)
      rw [Int.toNat_of_nonneg hzk.1] at hnum
      have HS := Lib.hid hsn
      have HN := Lib.hid hnum
      clear hx hall hsn hz hnum hzk hle
      go_wp2_with (first
        | (go_at_call 54; refine HN.out.mono ?_; rintro e w3 ⟨v3, rfl, ho3⟩))
      go_round
      case rel =>
        refine ⟨k + 1, by go_num, by omega, ?_⟩
        rw [HS.out, L3.encs_snoc]
        exact owned_rebase ho3 ho.2.1 ho.2.2
      case measure => simp [RowKit.intOf]; omega
    · have hkn : zs.take k = zs := List.take_of_length_le (by omega)
      rw [hkn] at ho
      clear hkn
      go_wp2_with fail
      go_ret
      exact ⟨_, rfl, ho⟩
theorem bytesV_pos {c : Crt} : 0 < (bytesV c).length := by
  have h : ∀ (z : Int) (l : List Int), 0 < (encs (z :: l)).length := fun z l => by
    have := L3.encN_pos z.toNat
    simp only [L3.encs, List.map_cons, List.flatten_cons, List.length_append]; omega
  unfold L11.bytesV L11.numsV
  split
  · exact h _ _
  · split <;> exact h _ _
set_option maxHeartbeats 1000000 in
set_option maxRecDepth 100000 in
theorem writeTm_any (t : Tmo) (w : World) (h : t.wf) (hm : tmoV t = true) : Calls Tryz.prog 92 #[.agg (tmC t)] w (made (tmB t) w) := by
  obtain ⟨s1, s2, s3, s4⟩ := tmo_facts hm
  have hb0 : Below w.heap.size w (w.alloc (.cells (tmC t) 26)) := below_new _ _
  have k0 := tmo_new w 26 t
  obtain ⟨c0, c1, c2⟩ := tmo_box (w := w) (ty := 26) (t := t)
  have hB := L11.bytes_ok t.high (w.alloc (.cells (tmC t) 26)) h.2.2 s4
  have hlen := L11.bytes_len s4
  have hp := bytesV_pos (c := t.high)
  have K0 := Lib.hid (fun w1 (hb : Below (w.alloc (.cells (tmC t) 26)).heap.size (w.alloc (.cells (tmC t) 26)) w1) => k0.below hb (by simp))
  have e : tmB t = encs [t.signer] ++ bytesV t.high := by unfold tmB; simp [L3.encs]
  have hok : [t.signer].all L3.okN = true := by simp [L3.okN_mk s1.1 (by omega : t.signer ≤ 4611686018427387904)]
  have hl1 := numsB_le [t.signer] hok (by simp)
  rw [e]
  obtain ⟨y, hy⟩ : ∃ y, y = bytesV t.high := ⟨_, rfl⟩
  rw [← hy] at hB hlen hp ⊢
  obtain ⟨x, hx⟩ : ∃ x, x = encs [t.signer] := ⟨_, rfl⟩
  rw [← hx] at hl1 ⊢
  have HX := Lib.hid (And.intro hx hok)
  have HB := Lib.hid hB
  clear hB e s1 s2 s3 s4 hm h hx hy hok
  go_enter Tryz.func92, Tryz.ntmps92
  go_upto_region 2 with (first
    | (refine wpList_cells_at rfl _ _ rfl ⟨w.heap.size, 2, none⟩ rfl (crtL t.high) _ c2 Tryz.underlying24 rfl crtInfo ?_)
    | (go_at_call 56; refine HB.out.mono ?_; rintro e w1 ⟨A1, d1, rfl, r1, q1, hb1⟩))
  have k1 := K0.out _ hb1
  have e0 : w1.cell? ⟨w.heap.size, 0, none⟩ = some (.int .i64 t.signer) := k1.cell 0
  have hrd := rowI_reads w1 #[.int .i64 t.signer] 1 (by omega) rfl
  have hbA := nxt hb0 hb1
  clear hb1 K0 k0 c0 c1 c2 HB hb0
  have hN2 := numsB_any (some ⟨w1.heap.size, 0, none⟩) 1 1 [t.signer] (w1.alloc (.cells #[.int .i64 t.signer] 3)) hrd (by omega) HX.out.2
  rw [← HX.out.1] at hN2
  have HN2 := Lib.hid hN2
  clear hN2 hrd
  go_wp2_with (first
    | (go_at_call 90; refine HN2.out.mono ?_; rintro e w2 ⟨v2, rfl, ho2⟩; have hb2 := below_new w1 (.cells #[.int .i64 t.signer] 3); have r2 := (r1.below hb2).more hb2.size; have r3 := (r2.below ho2.2.1).more ho2.2.1.size)
    | (at_builtin; refine wpList_append_buf rfl _ _ _ rfl Tryz.underlying52 _ v2 x _ rfl ho2 A1 y.length d1 y rfl rfl r3 hp (by omega) ?_; intro v3 w3 ho3 hg3))
  go_ret2
  obtain ⟨A4, c4, rfl, r4, q4⟩ := ho3.form
  exact ⟨A4, c4, rfl, r4, q4, nxt hbA (nxt hb2 ho3.2.1)⟩
end Go.Proofs.YtgmejaiifibfoaaGreatDoor

/-
  The bytes of a block's lists: by the code.
-/
set_option linter.unusedSimpArgs false
set_option linter.unusedVariables false
set_option maxRecDepth 10000
namespace Go.Proofs.YtgmejaiifibfoaaGreatDoor
open Go.RowKit Go.Maps Go.Lib
open L3 (Blk Reads Owned encN encs intCells)
open L11 (Crt zeroC crtL crtC mayV bytesV okW crtInfo crtC_ones endV)

theorem listB_snoc {α : Type} (f : α → List UInt8) (pre : List UInt8) (L : List α) {k : Nat} (hk : k < L.length) : pre ++ ((L.take (k + 1)).map f).flatten = (pre ++ ((L.take k).map f).flatten) ++ f L[k] := by
  rw [List.take_succ_eq_append_getElem hk, List.map_append, List.flatten_append]; simp
theorem enters_Ts : ∀ args w, (callFunc 92 args).run Tryz.prog w = .ok (.enter 92 args) w := enters_of Tryz.func92 (by kernel_rfl) rfl
set_option maxHeartbeats 2000000 in
set_option maxRecDepth 100000 in
theorem writeTs_any (A : Option Addr) (c : Nat) (L : List Tmo) (w : World) (hr : Rd tmL 10 w A L) (hl : ∀ t ∈ L, t.wf ∧ tmoV t = true) (hn : L.length ≤ 100) :
    Calls Tryz.prog 91 #[.slice A L.length c, .func (.func 92) #[] #[]] w (owns (listB tmB L) w) := by
  have eg := enters_Ts
  have hHL := Lib.hid hl
  have hHR := Lib.hid hr
  have hbits : ∀ k, (encN L.length ++ ((L.take k).map tmB).flatten).length ≤ 50000 := fun k => by
    have h1 := encN9 (n := L.length) (by omega)
    have h2 := flat_len_le tmB 429 (L.take k) fun t ht => Nat.le_trans (tmB_len (hl t (List.mem_of_mem_take ht)).2) (by omega)
    have h3 : (L.take k).length ≤ 100 := by rw [List.length_take]; omega
    have h4 : (L.take k).length * 429 ≤ 100 * 429 := Nat.mul_le_mul_right _ h3
    rw [List.length_append]; omega
  have HBITS := Lib.hid hbits
  obtain ⟨n, hN⟩ : ∃ n, n = L.length := ⟨_, rfl⟩
  have hok : [(n : Int)].all L3.okN = true := by simp [L3.okN_mk (n := (n : Int)) (by omega) (by omega)]
  have hrd := rowI_reads w #[.int .i64 (n : Int)] 1 (by omega) rfl
  have hnum := numsB_any (some ⟨w.heap.size, 0, none⟩) 1 1 [(n : Int)] (w.alloc (.cells #[.int .i64 (n : Int)] 3)) hrd (by omega) hok
  have e1 : encs [(n : Int)] = encN n := by simp [L3.encs]
  rw [e1] at hnum
  have HNUM := Lib.hid hnum
  have HNL := Lib.hid hN
  rw [← hN] at hn ⊢
  clear hl hr hbits hnum hrd hok e1 hN
  go_enter Tryz.func91, Tryz.ntmps91
  go_upto_region 2 with (first
    | (go_at_call 90; refine HNUM.out.mono ?_; rintro e w1 ⟨v1, rfl, ho1⟩))
  have ho0 : Owned w.heap.size v1 (encN n) w w1 := owned_rebase ho1 (below_new _ _) (by simp)
  clear ho1 HNUM
  go_wp2
  go_loopw [5, 16] (fun b i wr => ∃ k : Nat, i = .int .i64 k ∧ k ≤ n ∧ Owned w.heap.size b (encN n ++ ((L.take k).map tmB).flatten) w wr) (fun _ i _ => n - (RowKit.intOf i).toNat)
  case atStart => exact ⟨0, rfl, Nat.zero_le _, by simpa using ho0⟩
  case round =>
    obtain ⟨k, rfl, hk, ho⟩ := hrel
    clear ho0
    by_cases hlt : k < n
    · have hkL : k < L.length := by have := HNL.out; omega
      have hrw := hHR.out.below ho.2.1
      obtain ⟨ad, rfl, hadl, hcs⟩ := hrw k hkL
      have hx := hHL.out _ (List.getElem_mem hkL)
      have hsn := listB_snoc tmB (encN n) L hkL
      have hlen := HBITS.out k
      rw [← HNL.out] at hlen
      obtain ⟨x, hxe⟩ : ∃ x, x = L[k] := ⟨_, rfl⟩
      rw [← hxe] at hcs hx hsn
      have hcs1 : ∀ j u, (tmL x)[j]? = some u → wr.cell? ((ad.add (k * 10)).add j) = some u := hcs
      have hyb : Blk (wr.alloc (.cells (tmC x) 26)) wr.heap.size 26 (tmC x) := Blk.new _ _ _
      have hb1 := below_new wr (.cells (tmC x) 26)
      have hW := writeTm_any x (wr.alloc (.cells (tmC x) 26)) hx.1 hx.2
      have hpos : 0 < (tmB x).length := by unfold tmB; have := L3.encN_pos x.signer.toNat; rw [List.length_append]; omega
      have hlx : (tmB x).length ≤ 429 := Nat.le_trans (tmB_len hx.2) (by omega)
      obtain ⟨y, hy⟩ : ∃ y, y = tmB x := ⟨_, rfl⟩
      rw [← hy] at hW hsn hpos hlx
      obtain ⟨z, hz⟩ : ∃ z, z = encN n ++ ((L.take k).map tmB).flatten := ⟨_, rfl⟩
      rw [← hz] at ho hsn hlen
      obtain ⟨A2, c2, rfl, _, _⟩ := ho.form
      have HW := Lib.hid hW
      have HS := Lib.hid hsn
      clear hxe hcs hsn hW hy hz hrw
      go_wp2_with (first
        | (refine wpList_cells_at rfl _ _ rfl (ad.add (k * 10)) rfl (tmL x) _ hcs1 Tryz.underlying26 rfl tmInfo ?_)
        | (refine wpList_store_new rfl _ _ _ rfl _ (tmC x) rfl rfl _ _ tmInfo rfl (tmC_ones _) ?_)
        | (refine wpList_row_at rfl _ _ rfl wr.heap.size rfl _ _ _ _ hyb Tryz.underlying26 rfl tmInfo ?_)
        | (go_at_fn 92; refine HW.out.mono ?_; rintro e w3 ⟨A3, d3, rfl, r3, q3, hb3⟩; have ho3 := owned_below (owned_below ho hb1) hb3)
        | (at_builtin; refine wpList_append_buf rfl _ _ _ rfl Tryz.underlying52 _ _ z _ rfl ho3 A3 y.length d3 y rfl rfl r3 hpos (by omega) ?_; intro v4 w4 ho4 hg4))
      go_round
      case rel => exact ⟨k + 1, by go_num, by omega, by rw [HS.out]; exact ho4⟩
      case measure => simp [RowKit.intOf]; omega
    · have hkn : L.take k = L := List.take_of_length_le (by have := HNL.out; omega)
      rw [hkn] at ho
      have E : Hid (listB tmB L = encN n ++ (L.map tmB).flatten) := Lib.hid (by unfold listB; rw [HNL.out])
      clear hkn
      go_wp2_with fail
      go_ret
      rw [E.out]
      exact ⟨_, rfl, ho⟩
theorem enters_Xs : ∀ args w, (callFunc 57 args).run Tryz.prog w = .ok (.enter 57 args) w := enters_of Tryz.func57 (by kernel_rfl) rfl
set_option maxHeartbeats 2000000 in
set_option maxRecDepth 100000 in
theorem writeXs_any (A : Option Addr) (c : Nat) (L : List Txx) (w : World) (hr : Rd txL 7 w A L) (hl : ∀ t ∈ L, right t = true) (hT : Tabs w) (hn : L.length ≤ 100) :
    Calls Tryz.prog 93 #[.slice A L.length c, .func (.func 57) #[] #[]] w (owns (listB bytesT L) w) := by
  have eg := enters_Xs
  have hHL := Lib.hid hl
  have hHR := Lib.hid hr
  have HTB := Lib.hid (fun W (hb : Below w.heap.size w W) => hT.kept hb)
  have hbits : ∀ k, (encN L.length ++ ((L.take k).map bytesT).flatten).length ≤ 50000 := fun k => by
    have h1 := encN9 (n := L.length) (by omega)
    have h2 := flat_len_le bytesT 429 (L.take k) fun t ht => bytesT_len (hl t (List.mem_of_mem_take ht))
    have h3 : (L.take k).length ≤ 100 := by rw [List.length_take]; omega
    have h4 : (L.take k).length * 429 ≤ 100 * 429 := Nat.mul_le_mul_right _ h3
    rw [List.length_append]; omega
  have HBITS := Lib.hid hbits
  obtain ⟨n, hN⟩ : ∃ n, n = L.length := ⟨_, rfl⟩
  have hok : [(n : Int)].all L3.okN = true := by simp [L3.okN_mk (n := (n : Int)) (by omega) (by omega)]
  have hrd := rowI_reads w #[.int .i64 (n : Int)] 1 (by omega) rfl
  have hnum := numsB_any (some ⟨w.heap.size, 0, none⟩) 1 1 [(n : Int)] (w.alloc (.cells #[.int .i64 (n : Int)] 3)) hrd (by omega) hok
  have e1 : encs [(n : Int)] = encN n := by simp [L3.encs]
  rw [e1] at hnum
  have HNUM := Lib.hid hnum
  have HNL := Lib.hid hN
  rw [← hN] at hn ⊢
  clear hT hl hr hbits hnum hrd hok e1 hN
  go_enter Tryz.func93, Tryz.ntmps93
  go_upto_region 2 with (first
    | (go_at_call 90; refine HNUM.out.mono ?_; rintro e w1 ⟨v1, rfl, ho1⟩))
  have ho0 : Owned w.heap.size v1 (encN n) w w1 := owned_rebase ho1 (below_new _ _) (by simp)
  clear ho1 HNUM
  go_wp2
  go_loopw [5, 16] (fun b i wr => ∃ k : Nat, i = .int .i64 k ∧ k ≤ n ∧ Owned w.heap.size b (encN n ++ ((L.take k).map bytesT).flatten) w wr) (fun _ i _ => n - (RowKit.intOf i).toNat)
  case atStart => exact ⟨0, rfl, Nat.zero_le _, by simpa using ho0⟩
  case round =>
    obtain ⟨k, rfl, hk, ho⟩ := hrel
    clear ho0
    by_cases hlt : k < n
    · have hkL : k < L.length := by have := HNL.out; omega
      have hrw := hHR.out.below ho.2.1
      obtain ⟨ad, rfl, hadl, hcs⟩ := hrw k hkL
      have hx := hHL.out _ (List.getElem_mem hkL)
      have hsn := listB_snoc bytesT (encN n) L hkL
      have hlen := HBITS.out k
      rw [← HNL.out] at hlen
      obtain ⟨x, hxe⟩ : ∃ x, x = L[k] := ⟨_, rfl⟩
      rw [← hxe] at hcs hx hsn
      have hcs1 : ∀ j u, (txL x)[j]? = some u → wr.cell? ((ad.add (k * 7)).add j) = some u := hcs
      have hyb : Blk (wr.alloc (.cells (txC x) 32)) wr.heap.size 32 (txC x) := Blk.new _ _ _
      have hb1 := below_new wr (.cells (txC x) 32)
      have hW := bytes_ok x (wr.alloc (.cells (txC x) 32)) (HTB.out _ (ho.2.1.trans (hb1.mono ho.2.2))) hx
      have hpos : 0 < (bytesT x).length := by unfold bytesT; have := L3.encN_pos x.kind.toNat; rw [List.length_append]; omega
      have hlx : (bytesT x).length ≤ 429 := bytesT_len hx
      obtain ⟨y, hy⟩ : ∃ y, y = bytesT x := ⟨_, rfl⟩
      rw [← hy] at hW hsn hpos hlx
      obtain ⟨z, hz⟩ : ∃ z, z = encN n ++ ((L.take k).map bytesT).flatten := ⟨_, rfl⟩
      rw [← hz] at ho hsn hlen
      obtain ⟨A2, c2, rfl, _, _⟩ := ho.form
      have HW := Lib.hid hW
      have HS := Lib.hid hsn
      clear hxe hcs hsn hW hy hz hrw
      go_wp2_with (first
        | (refine wpList_cells_at rfl _ _ rfl (ad.add (k * 7)) rfl (txL x) _ hcs1 Tryz.underlying32 rfl (by kernel_rfl) ?_)
        | (refine wpList_store_new rfl _ _ _ rfl _ (txC x) rfl rfl _ _ (by kernel_rfl) rfl (txC_ones _) ?_)
        | (refine wpList_row_at rfl _ _ rfl wr.heap.size rfl _ _ _ _ hyb Tryz.underlying32 rfl (by kernel_rfl) ?_)
        | (go_at_fn 57; refine HW.out.mono ?_; rintro e w3 ⟨A3, d3, rfl, r3, q3, hb3⟩; have ho3 := owned_below (owned_below ho hb1) hb3)
        | (at_builtin; refine wpList_append_buf rfl _ _ _ rfl Tryz.underlying52 _ _ z _ rfl ho3 A3 y.length d3 y rfl rfl r3 hpos (by omega) ?_; intro v4 w4 ho4 hg4))
      go_round
      case rel => exact ⟨k + 1, by go_num, by omega, by rw [HS.out]; exact ho4⟩
      case measure => simp [RowKit.intOf]; omega
    · have hkn : L.take k = L := List.take_of_length_le (by have := HNL.out; omega)
      rw [hkn] at ho
      have E : Hid (listB bytesT L = encN n ++ (L.map bytesT).flatten) := Lib.hid (by unfold listB; rw [HNL.out])
      clear hkn
      go_wp2_with fail
      go_ret
      rw [E.out]
      exact ⟨_, rfl, ho⟩
end Go.Proofs.YtgmejaiifibfoaaGreatDoor

/-
  Bytes of several slices, one behind the other: slices.Concat, walked; slices.Grow by the library's contract.
-/
set_option linter.unusedSimpArgs false
set_option linter.unusedVariables false
set_option maxRecDepth 10000
namespace Go.Proofs.YtgmejaiifibfoaaGreatDoor
open Go.RowKit Go.Maps Go.Lib
open L3 (Blk Reads Owned encN encs intCells)

theorem grow_any (n : Nat) (w : World) (h0 : 0 < n) (h1 : n ≤ 10000000) : Calls Tryz.prog 52 #[.slice none 0 0, .int .i64 n] w (owns [] w) := by
  obtain ⟨i0, hi, hz0, hz1, hz2⟩ := info_parts L3.byteInfo
  have := Any8.slices_Grow_grow Tryz.growB i0 (.int .u8 0) hi hz0 (by omega) none 0 0 n [] w (Nat.le_refl _) (by omega) (by rw [hz2]; omega) (by omega) (by simp) (fun _ => rfl) (fun a e => by cases e)
  refine Calls.mono (show Calls Tryz.prog 52 #[.slice none 0 0, .int .i64 n] w _ from this) ?_
  rintro e w' ⟨rfl, rfl⟩
  refine ⟨_, rfl, ⟨rfl, .inr ⟨w.heap.size, _, _, (0, 0), rfl, Nat.le_refl _, heap_alloc_new w.drew _, Nat.zero_le _, Nat.zero_le _, grownCap_le_maxLen _ _ _ _ (by unfold maxLen; omega), ?_, ?_⟩⟩, ?_, ?_⟩
  · have hg := grownCap_ge w (0 + n) 0 5
    have e1 : (Value.int IntKind.u8 0).cells.size = 1 := rfl
    rw [Array.size_append, Array.size_append, size_zeroCells, size_zeroCells, e1]
    show 0 + (0 + n - 0) * 1 + (grownCap w (0 + n) 0 5 - (0 + n)) * 1 = grownCap w (0 + n) 0 5 * 1
    omega
  · rw [show ([] : List UInt8).length * 1 = 0 from rfl, List.take_zero]; rfl
  · exact ((Below.refl _ _).drew).alloc (Nat.le_refl _) _
  · exact Nat.le_of_lt ((Array.getElem?_eq_some_iff.1 (heap_alloc_new w.drew _)).1)
/-- A slice of bytes. -/
structure Sl where
  A : Option Addr
  c : Nat
  l : List UInt8
def slV (s : Sl) : Value := .slice s.A s.l.length s.c
def flatS (S : List Sl) : List UInt8 := (S.map (·.l)).flatten
theorem flatS_snoc (S : List Sl) {k : Nat} (hk : k < S.length) : flatS (S.take (k + 1)) = flatS (S.take k) ++ S[k].l := by
  unfold flatS; rw [List.take_succ_eq_append_getElem hk, List.map_append, List.flatten_append]; simp
theorem flatS_le (S : List Sl) (k : Nat) : (flatS (S.take k)).length ≤ (flatS S).length := by
  have : flatS S = flatS (S.take k) ++ flatS (S.drop k) := by
    unfold flatS; rw [← List.flatten_append, ← List.map_append, List.take_append_drop]
  rw [this, List.length_append]; omega
set_option maxHeartbeats 2000000 in
set_option maxRecDepth 100000 in
theorem concat_any (A : Option Addr) (n c : Nat) (S : List Sl) (w : World) (hn : n = S.length) (h : Reads w w.heap.size 1 A n (S.map slV)) (hs : ∀ s ∈ S, Reads w w.heap.size 1 s.A s.l.length (Lib.byteCells s.l) ∧ 0 < s.l.length) (h0 : 0 < n) (hn1 : n ≤ 100) (hb : (flatS S).length ≤ 1000000) :
    Calls Tryz.prog 19 #[.slice A n c] w (owns (flatS S) w) := by
  have hc : ∀ k (hk : k < n), ∃ ad, A = some ad ∧ ∃ s, S[k]? = some s ∧ w.cell? (ad.add k) = some (slV s) := fun k hk => by
    obtain ⟨ad, u, e, _, hx, hcc⟩ := h.at_ hk
    simp only [List.getElem?_map, List.getElem?_eq_getElem (show k < S.length by omega), Option.map_some, Option.some.injEq] at hx
    exact ⟨ad, e, S[k], List.getElem?_eq_getElem (by omega), by rw [hcc, ← hx]⟩
  have hpos : 0 < (flatS S).length := by
    cases S with
    | nil => simp at hn; omega
    | cons s S =>
      have := (hs s (List.mem_cons_self ..)).2
      unfold flatS; rw [List.map_cons, List.flatten_cons, List.length_append]; omega
  have HC := Lib.hid hc
  have HS := Lib.hid hs
  have HN := Lib.hid hn
  have HLE := Lib.hid (fun k => Nat.le_trans (flatS_le S k) hb)
  have HG := Lib.hid (grow_any (flatS S).length w hpos (by omega))
  obtain ⟨tot, htot⟩ : ∃ t, t = (flatS S).length := ⟨_, rfl⟩
  rw [← htot] at HG
  have HT := Lib.hid htot
  clear hc h hs hn hpos hb htot
  go_enter Tryz.func19, Tryz.ntmps19
  go_wp2
  go_loopw [3, 11] (fun z i wr => ∃ k : Nat, i = .int .i64 k ∧ k ≤ n ∧ z = .int .i64 ((flatS (S.take k)).length : Nat) ∧ w = wr) (fun _ i _ => n - (RowKit.intOf i).toNat)
  case atStart => exact ⟨0, rfl, Nat.zero_le _, by simp [flatS], rfl⟩
  case round =>
    obtain ⟨k, rfl, hk, rfl, rfl⟩ := hrel
    by_cases hlt : k < n
    · obtain ⟨ad, rfl, s, hsk, hcell⟩ := HC.out k hlt
      have hkS : k < S.length := by have := HN.out; omega
      have hsk2 : s = S[k] := by rw [List.getElem?_eq_getElem hkS] at hsk; injection hsk with hsk; exact hsk.symm
      have hsn := flatS_snoc S hkS
      rw [← hsk2] at hsn
      have h1 := HLE.out k
      have h2 := HLE.out (k + 1)
      rw [hsn, List.length_append] at h2
      have hsum : (flatS (S.take (k + 1))).length = (flatS (S.take k)).length + s.l.length := by rw [hsn, List.length_append]
      obtain ⟨m, hm⟩ : ∃ m, m = (flatS (S.take k)).length := ⟨_, rfl⟩
      obtain ⟨q, hq⟩ : ∃ q, q = s.l.length := ⟨_, rfl⟩
      unfold slV at hcell
      rw [← hm, ← hq] at h2
      rw [← hm, ← hq] at hsum
      rw [← hq] at hcell
      rw [← hm]
      have hw64 : wrap64 ((m : Int) + (q : Int)) = ((m + q : Nat) : Int) := by unfold wrap64; omega
      have hneg : ¬ (((m + q : Nat) : Int) < 0) := by omega
      have HSUM := Lib.hid hsum
      clear hsk hsk2 hsn h1 hsum hm hq
      go_wp2_with fail
      go_round
      case rel => exact ⟨k + 1, by go_num, by omega, by rw [HSUM.out]; simp, trivial⟩
      case measure => simp [RowKit.intOf]; omega
    · have hkn : S.take k = S := List.take_of_length_le (by have := HN.out; omega)
      rw [hkn, ← HT.out]
      clear hkn
      go_upto_region 10 with (first
        | (go_at_call 52; refine HG.out.mono ?_; rintro e w1 ⟨v1, rfl, ho1⟩))
      clear HG
      go_wp2
      go_loopw [6, 27] (fun b i wr => ∃ k : Nat, i = .int .i64 k ∧ k ≤ n ∧ Owned w.heap.size b (flatS (S.take k)) w wr) (fun _ i _ => n - (RowKit.intOf i).toNat)
      case atStart => exact ⟨0, rfl, Nat.zero_le _, by simpa [flatS] using ho1⟩
      case round =>
        obtain ⟨k, rfl, hk, ho⟩ := hrel
        clear ho1
        by_cases hlt : k < n
        · obtain ⟨ad, rfl, s, hsk, hcell⟩ := HC.out k hlt
          have hkS : k < S.length := by have := HN.out; omega
          have hsk2 : s = S[k] := by rw [List.getElem?_eq_getElem hkS] at hsk; injection hsk with hsk; exact hsk.symm
          have hsn := flatS_snoc S hkS
          rw [← hsk2] at hsn
          have hgood := HS.out s (by rw [hsk2]; exact List.getElem_mem _)
          have h1 := HLE.out k
          have h2 := HLE.out (k + 1)
          rw [hsn, List.length_append] at h2
          have hcw : wr.cell? (ad.add k) = some (slV s) := (ho.2.1.cell (p := ad.add k) (L2.cell_in hcell)).trans hcell
          unfold slV at hcw
          obtain ⟨y, hy⟩ : ∃ y, y = s.l := ⟨_, rfl⟩
          rw [← hy] at hgood hsn h2 hcw
          have hrd : Reads wr wr.heap.size 1 s.A y.length (Lib.byteCells y) := (hgood.1.below ho.2.1).more ho.2.1.size
          have hyp := hgood.2
          obtain ⟨z, hz⟩ : ∃ z, z = flatS (S.take k) := ⟨_, rfl⟩
          rw [← hz] at ho hsn h2
          have HSN := Lib.hid hsn
          obtain ⟨A2, c2, rfl, _, _⟩ := ho.form
          clear hsk hsk2 hsn hgood hcell h1 hy hz
          go_wp2_with (first
            | (at_builtin; refine wpList_append_buf rfl _ _ _ rfl Tryz.underlying52 _ _ z _ rfl ho s.A y.length s.c y rfl rfl hrd hyp (by omega) ?_; intro v4 w4 ho4 hg4))
          go_round
          case rel => exact ⟨k + 1, by go_num, by omega, by rw [HSN.out]; exact ho4⟩
          case measure => simp [RowKit.intOf]; omega
        · have hkn : S.take k = S := List.take_of_length_le (by have := HN.out; omega)
          rw [hkn] at ho
          clear hkn
          go_wp2_with fail
          go_ret
          exact ⟨_, rfl, ho⟩
end Go.Proofs.YtgmejaiifibfoaaGreatDoor

/-
  A block's bytes, by the code.
-/
set_option linter.unusedSimpArgs false
set_option linter.unusedVariables false
set_option maxRecDepth 10000
namespace Go.Proofs.YtgmejaiifibfoaaGreatDoor
open Go.RowKit Go.Maps Go.Lib
open L3 (Blk Reads Owned encN encs intCells)
open L11 (Crt zeroC crtL crtC mayV bytesV okW crtInfo crtC_ones endV)

theorem ChkAt.drew {w W : World} {b : Blo} {A : Option Addr} {c : Nat} {B : Option Addr} {d : Nat} (h : ChkAt w b A c B d W) : ChkAt w b A c B d W.drew := ⟨h.bb.drew, h.rp.below (Below.refl _ W).drew, h.rt.below (Below.refl _ W).drew, h.tb.kept (Below.refl _ W).drew, h.bw.drew⟩
theorem ChkAt.par {w W : World} {b : Blo} {A : Option Addr} {c : Nat} {B : Option Addr} {d : Nat} (h : ChkAt w b A c B d W) : ∀ j u, (crtL b.par)[j]? = some u → W.cell? ((⟨w.heap.size, 4, none⟩ : Addr).add j) = some u := sub_cells h.bb (par_at b _ _)
theorem bytesB_no (b : Blo) (P T : Value) (w : World) (hw : b.wf) (hl : Lies w b P T) (hT : Tabs w) (h0 : checkV b ≠ 0) : Calls Tryz.prog 55 #[.agg (bloC b P T)] w (gives (.tuple #[.slice none 0 0, .int .i64 (checkV b)]) w) := by
  have k0 := blo_new w 30 b P T
  have hb0 := below_new w (.cells (bloC b P T) 30)
  have hc := checkB_any b P T _ hw (hl.below hb0) (hT.kept hb0)
  obtain ⟨r, hr⟩ : ∃ r, r = checkV b := ⟨_, rfl⟩
  rw [← hr] at hc h0 ⊢
  have h1 : (r != 0) = true := by simpa using h0
  have h2 : (r == 0) = false := by simpa using h0
  have HC := Lib.hid hc
  clear hc hr hw hl hT h0
  go_enter Tryz.func55, Tryz.ntmps55
  go_wp2_with (first
    | (refine wpList_row_at rfl _ _ rfl w.heap.size rfl _ _ _ _ k0 Tryz.underlying30 rfl bloInfo ?_)
    | (go_at_call 43; refine HC.out.mono ?_; unfold gives; rintro e w1 ⟨rfl, hb1⟩))
  go_ret2
  exact ⟨rfl, nxt hb0 hb1⟩
theorem row_slices (w : World) (cs : Array Value) (n : Nat) (hn : n ≤ 100) (hs : cs.size = n) : Reads (w.alloc (.cells cs 52)) (w.alloc (.cells cs 52)).heap.size 1 (some ⟨w.heap.size, 0, none⟩) n cs.toList :=
  L3.Reads.of_own (base := w.heap.size) (World.ownsRow_lit w cs n (Nat.le_refl _) (by unfold maxLen; omega) (by omega))
theorem listB_pos {α : Type} (f : α → List UInt8) (L : List α) : 0 < (listB f L).length := by unfold listB; have := L3.encN_pos L.length; rw [List.length_append]; omega
set_option maxHeartbeats 4000000 in
set_option maxRecDepth 100000 in
theorem bytB_ok (b : Blo) (A : Option Addr) (c : Nat) (B : Option Addr) (d : Nat) (w : World) (hw : b.wf) (hp : Rd tmL 10 w A b.proof) (ht : Rd txL 7 w B b.txs) (hT : Tabs w) (h0 : checkV b = 0) :
    Calls Tryz.prog 55 #[.agg (bloC b (.slice A b.proof.length c) (.slice B b.txs.length d))] w (made (bytesB b) w) := by
  have F0 := Lib.hid (chk_mk (c := c) (d := d) hp ht hT)
  obtain ⟨hh, hpar, hpro⟩ := check_zero h0
  have F1 := head_facts hh
  have F2 := parent_facts hpar
  have Q1 := proof_mem hpro
  have Q2 := proof_len hpro
  have hlen := bytesB_len h0
  have hok : [b.view, b.round, b.height, b.author].all L3.okN = true := by
    have e : ∀ n : Int, 0 ≤ n → n ≤ 4611686018427387904 → L3.okN n = true := fun n a b => L3.okN_mk a b
    simp [e b.view (by omega) (by omega), e b.round (by omega) (by omega), e b.height (by omega) (by omega), e b.author (by omega) (by omega)]
  have hck := fun W (h : ChkAt w b A c B d W) => checkB_is b _ _ 0 W hw ⟨A, c, B, d, rfl, rfl, h.rp, h.rt⟩ h.tb h0
  have hcb := fun W => L11.bytes_ok b.par W hw.par F2.1
  have hws := fun W (h : Rd tmL 10 W A b.proof) => writeTs_any A c b.proof W h (fun t ht => ⟨hw.proof t ht, (Q1 t ht).1⟩) (by omega)
  have hwx := fun W (h : Rd txL 7 W B b.txs) (hT : Tabs W) => writeXs_any B d b.txs W h F1.2.2.2.2 hT (by omega)
  have hnb := fun W A1 n1 c1 (h : Reads W W.heap.size 1 A1 n1 (intCells [b.view, b.round, b.height, b.author])) (hl : n1 ≤ 100) => numsB_any A1 n1 c1 [b.view, b.round, b.height, b.author] W h hl hok
  obtain ⟨x1, e1⟩ : ∃ x, x = encs [b.view, b.round, b.height, b.author] := ⟨_, rfl⟩
  obtain ⟨x2, e2⟩ : ∃ x, x = bytesV b.par := ⟨_, rfl⟩
  obtain ⟨x3, e3⟩ : ∃ x, x = listB tmB b.proof := ⟨_, rfl⟩
  obtain ⟨x4, e4⟩ : ∃ x, x = listB bytesT b.txs := ⟨_, rfl⟩
  have hB : bytesB b = x1 ++ (x2 ++ (x3 ++ x4)) := by rw [e1, e2, e3, e4]; rfl
  have p1 : 0 < x1.length := by rw [e1]; have := L3.encN_pos b.view.toNat; simp only [L3.encs, List.map_cons, List.flatten_cons, List.length_append]; omega
  have p2 : 0 < x2.length := by rw [e2]; exact bytesV_pos
  have p3 : 0 < x3.length := by rw [e3]; exact listB_pos _ _
  have p4 : 0 < x4.length := by rw [e4]; exact listB_pos _ _
  rw [hB] at hlen ⊢
  rw [← e1] at hnb
  rw [← e2] at hcb
  rw [← e3] at hws
  rw [← e4] at hwx
  have HH := Lib.hid (And.intro hck (And.intro hcb (And.intro hws (And.intro hwx hnb))))
  have HL := Lib.hid hlen
  have HP := Lib.hid (And.intro p1 (And.intro p2 (And.intro p3 p4)))
  clear hck hcb hws hwx hnb hlen p1 p2 p3 p4 hok F1 F2 Q1 Q2 hh hpar hpro hw hp ht hT h0 e1 e2 e3 e4 hB
  go_enter Tryz.func55, Tryz.ntmps55
  go_upto_region 1 with fail
  refine name_world (fun w0 hw0 => ?_)
  have hA : ChkAt w b A c B d w0 := by rw [hw0]; exact F0.out
  clear hw0 F0
  go_upto_region 4 with (first
    | (refine wpList_row_at rfl _ _ rfl w.heap.size rfl _ _ _ _ hA.bb Tryz.underlying30 rfl bloInfo ?_)
    | (go_at_call 43; refine (HH.out.1 _ hA).mono ?_; unfold gives; rintro e w1 ⟨rfl, hb1⟩))
  have hC := hA.below hb1
  clear hA hb1
  have hpc := hC.par
  go_upto_region 5 with (first
    | (refine wpList_cells_at rfl _ _ rfl ⟨w.heap.size, 4, none⟩ rfl (crtL b.par) _ hpc Tryz.underlying24 rfl crtInfo ?_)
    | (go_at_call 56; refine (HH.out.2.1 _).mono ?_; rintro e w2 ⟨A2, c2, rfl, r2, q2, hb2⟩))
  have hS0 := hC.below hb2
  have hS := hS0.drew
  have r2d := (r2.below (Below.refl _ w2).drew)
  clear hpc hC hb2 hS0
  refine wp_region_K (ChkAt w b A c B d) [0, 1, 2, 3, 4, 5, 6, 7, 10, 11, 12, 14, 15] (by kernel_rfl) ?_
  refine wpK_quiet (f := 7) (by kernel_rfl) (fun _ x _ _ _ h => by cases x <;> exact h) hS [0, 1, 2, 3, 4, 5, 6, 7, 10, 11, 12, 14, 15] _ _ (by kernel_rfl) (by kernel_rfl) (by kernel_rfl) ?_
  have ne : Nonempty (WorldIn (ChkAt w b A c B d)) := ⟨⟨_, hS⟩⟩
  have g0 : ∀ y : WorldIn (ChkAt w b A c B d), y.w.cell? ⟨w.heap.size, 0, none⟩ = some (.int .i64 b.view) := fun y => y.h.bb.cell 0
  have g1 : ∀ y : WorldIn (ChkAt w b A c B d), y.w.cell? ⟨w.heap.size, 1, none⟩ = some (.int .i64 b.round) := fun y => y.h.bb.cell 1
  have g2 : ∀ y : WorldIn (ChkAt w b A c B d), y.w.cell? ⟨w.heap.size, 2, none⟩ = some (.int .i64 b.height) := fun y => y.h.bb.cell 2
  have g3 : ∀ y : WorldIn (ChkAt w b A c B d), y.w.cell? ⟨w.heap.size, 3, none⟩ = some (.int .i64 b.author) := fun y => y.h.bb.cell 3
  have g4 : ∀ y : WorldIn (ChkAt w b A c B d), y.w.cell? ⟨w.heap.size, 12, none⟩ = some (.slice A b.proof.length c) := fun y => y.h.bb.cell 12
  have g5 : ∀ y : WorldIn (ChkAt w b A c B d), y.w.cell? ⟨w.heap.size, 13, none⟩ = some (.slice B b.txs.length d) := fun y => y.h.bb.cell 13
  conv => arg 5; simp [pick]
  iterate 13 go_big_quiet_step (fail)
  refine wpQuiet_nil ?_
  obtain ⟨w3, hw3⟩ : ∃ w3, w3 = w2.drew := ⟨_, rfl⟩
  have r23 : Reads w3 w3.heap.size 1 A2 x2.length (Lib.byteCells x2) := by rw [hw3]; exact r2d.more (Nat.le_refl _)
  rw [← hw3] at hS ⊢
  clear hw3 r2 r2d ne g0 g1 g2 g3 g4 g5
  have hrd := rowI_reads w3 #[.int .i64 b.view, .int .i64 b.round, .int .i64 b.height, .int .i64 b.author] 4 (by omega) rfl
  have hb4 := below_new w3 (.cells #[.int .i64 b.view, .int .i64 b.round, .int .i64 b.height, .int .i64 b.author] 3)
  have hN := HH.out.2.2.2.2 _ _ _ 4 hrd (by omega)
  refine wpK_step 8 (by kernel_rfl) rfl ?_
  go_wp2
  refine stepQ.mk ⟨fun _ => hS.below hb4, ?_⟩
  refine wpK_step 9 (by kernel_rfl) rfl ?_
  go_wp2_with (go_at_call 90; refine hN.mono ?_; rintro e w5 ⟨v5, rfl, ho5⟩)
  have hb5 : Below w3.heap.size w3 w5 := nxt hb4 ho5.2.1
  have hS5 := hS.below hb5
  refine stepQ.mk ⟨fun _ => hS5, ?_⟩
  obtain ⟨A5, c5, rfl, r5, q5⟩ := ho5.form
  have r25 := (r23.below hb5).more hb5.size
  clear hN hrd hb4 ho5 r23 hS
  have hW := HH.out.2.2.1 w5 hS5.rp
  refine wpK_step 13 (by kernel_rfl) rfl ?_
  go_wp2_with (go_at_call 91; refine hW.mono ?_; rintro e w6 ⟨v6, rfl, ho6⟩)
  have hb6 := ho6.2.1
  have hS6 := hS5.below hb6
  refine stepQ.mk ⟨fun _ => hS6, ?_⟩
  obtain ⟨A6, c6, rfl, r6, q6⟩ := ho6.form
  have r26 := (r25.below hb6).more hb6.size
  have r56 := (r5.below hb6).more hb6.size
  clear hW ho6 hb6 r25 r5 hS5
  have hW := HH.out.2.2.2.1 w6 hS6.rt hS6.tb
  refine wpK_step 16 (by kernel_rfl) rfl ?_
  go_wp2_with (go_at_call 93; refine hW.mono ?_; rintro e w7 ⟨v7, rfl, ho7⟩)
  have hb7 := ho7.2.1
  have hS7 := hS6.below hb7
  refine stepQ.mk ⟨fun _ => hS7, ?_⟩
  obtain ⟨A7, c7, rfl, r7, q7⟩ := ho7.form
  have r27 := (r26.below hb7).more hb7.size
  have r57 := (r56.below hb7).more hb7.size
  have r67 := (r6.below hb7).more hb7.size
  clear hW ho7 hb7 r26 r56 r6 hS6
  refine wpK_step 17 (by kernel_rfl) rfl ?_
  go_wp2
  have hb8 := below_new w7 (.cells #[.slice A5 x1.length c5, .slice A2 x2.length c2, .slice A6 x3.length c6, .slice A7 x4.length c7] 52)
  have hS8 := hS7.below hb8
  refine stepQ.mk ⟨fun _ => hS8, ?_⟩
  have hrs := row_slices w7 #[.slice A5 x1.length c5, .slice A2 x2.length c2, .slice A6 x3.length c6, .slice A7 x4.length c7] 4 (by omega) rfl
  have hfl : flatS [⟨A5, c5, x1⟩, ⟨A2, c2, x2⟩, ⟨A6, c6, x3⟩, ⟨A7, c7, x4⟩] = x1 ++ (x2 ++ (x3 ++ x4)) := by unfold flatS; simp
  have hCon := concat_any (some ⟨w7.heap.size, 0, none⟩) 4 4 [⟨A5, c5, x1⟩, ⟨A2, c2, x2⟩, ⟨A6, c6, x3⟩, ⟨A7, c7, x4⟩] _ rfl hrs (fun s hs => by
    simp only [List.mem_cons, List.not_mem_nil, or_false] at hs
    rcases hs with rfl | rfl | rfl | rfl
    · exact ⟨(r57.below hb8).more hb8.size, HP.out.1⟩
    · exact ⟨(r27.below hb8).more hb8.size, HP.out.2.1⟩
    · exact ⟨(r67.below hb8).more hb8.size, HP.out.2.2.1⟩
    · exact ⟨(r7.below hb8).more hb8.size, HP.out.2.2.2⟩) (by omega) (by omega) (by rw [hfl]; have := HL.out; omega)
  rw [hfl] at hCon
  have HCon := Lib.hid hCon
  have hbw := hS8.bw
  obtain ⟨y, hy⟩ : ∃ y, y = x1 ++ (x2 ++ (x3 ++ x4)) := ⟨_, rfl⟩
  rw [← hy] at HCon HL
  have HY := Lib.hid hy
  clear hCon hrs hfl hS7 r27 r57 r67 r7 hy
  refine wpK_step 18 (by kernel_rfl) rfl ?_
  go_wp2_with (go_at_call 19; refine HCon.out.mono ?_; rintro e w9 ⟨v9, rfl, ho9⟩)
  have hb9 := ho9.2.1
  refine stepQ.mk ⟨fun _ => hS8.below hb9, ?_⟩
  obtain ⟨A9, c9, rfl, r9, q9⟩ := ho9.form
  have hfin := nxt hbw hb9
  have hle := HL.out
  clear HCon ho9 hb9 hS8 hb8 hbw
  refine wpK_seq [19] _ _ _ (by kernel_rfl) ?_
  conv => arg 4; simp [pick]
  go_wp2_with fail
  (try simp only [Act.put])
  go_ret2
  rw [← HY.out]
  exact ⟨A9, c9, rfl, r9, q9, hfin⟩
/-- The bytes of a block that may be. -/
theorem bytesB_ok (b : Blo) (P T : Value) (w : World) (hw : b.wf) (hl : Lies w b P T) (hT : Tabs w) (h0 : checkV b = 0) : Calls Tryz.prog 55 #[.agg (bloC b P T)] w (made (bytesB b) w) := by
  obtain ⟨A, c, B, d, rfl, rfl, hp, ht⟩ := hl
  exact bytB_ok b A c B d w hw hp ht hT h0
end Go.Proofs.YtgmejaiifibfoaaGreatDoor
