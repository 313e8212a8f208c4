/-
  The bytes of numbers and of a timeout in a block: by the code.
-/
import Derived.Test.YtkjkkbionlmohaaDoorOpenB
import Derived.Test.YtkjkkbionlmohaaDoorBytesT
import Derived.Lib.FrozenHead2
set_option linter.unusedSimpArgs false
set_option linter.unusedVariables false
set_option maxRecDepth 10000
namespace Go.Proofs.YtkjkkbionlmohaaDoor
open Go.RowKit Go.Maps Go.Lib
open L3 (Blk Reads Owned encN encs intCells)
open L11 (Crt zeroC crtL crtC mayV bytesV okW crtInfo crtC_ones endV)

theorem owned_rebase {B B' : Nat} {v : Value} {l : List UInt8} {w w1 w2 : World} (h : Owned B' v l w1 w2) (hb : Below B w w1) (hB : B ≤ B') : Owned B v l w w2 := by
  obtain ⟨⟨h1, h2⟩, h3, h4⟩ := h
  refine ⟨⟨h1, ?_⟩, hb.trans (h3.mono hB), by omega⟩
  rcases h2 with h2 | ⟨g, cap, cur, fz, e, hg, rest⟩
  · exact .inl h2
  · exact .inr ⟨g, cap, cur, fz, e, by omega, rest⟩
theorem owned_below {B : Nat} {v : Value} {l : List UInt8} {w w1 w2 : World} (h : Owned B v l w w1) (hb : Below w1.heap.size w1 w2) : Owned B v l w w2 := by
  obtain ⟨⟨h1, h2⟩, h3, h4⟩ := h
  refine ⟨⟨h1, ?_⟩, h3.trans (hb.mono h4), by have := hb.size; omega⟩
  rcases h2 with h2 | ⟨g, cap, cur, fz, e, hg, hh, rest⟩
  · exact .inl h2
  · exact .inr ⟨g, cap, cur, fz, e, hg, by rw [hb.block g (Array.getElem?_eq_some_iff.1 hh).1]; exact hh, rest⟩
/-- Bytes that a call made and that it owns. -/
def owns (l : List UInt8) (w : World) (e : Ending) (w' : World) : Prop := ∃ v, e = .returned v ∧ Owned w.heap.size v l w w'
section
variable {ops : Array Oper} {rest : List Oper} {o : Oper} {a : Act} {Q : Exit → Act → World → Prop}
/-- An append of bytes that are read onto bytes that the call owns. -/
theorem wpList_append_buf {w : World} (hgd : o.guard = none) (s x : Operand) (t : TypeId)
    (ho : o.op = .call { callee := .builtin .append, args := #[s, x], argTypes := #[t, t] }) (ht : Tryd.prog.underlying t = some (.slice 5))
    (B : Nat) (v : Value) (l : List UInt8) (W0 : World) (hs : a.eval s = v) (hb : Owned B v l W0 w) (A : Option Addr) (m c : Nat) (y : List UInt8) (hm : m = y.length) (hx : a.eval x = .slice A m c) (hr : Reads w w.heap.size 1 A m (byteCells y)) (hy : 0 < y.length) (hlen : l.length + y.length ≤ 100000000)
    (h : ∀ v' w', Owned B v' (l ++ y) W0 w' → w.grownBy w' v.ownBlock → wpList Tryd.prog ops Q rest (a.put o.dst v') w') : wpList Tryd.prog ops Q (o :: rest) a w := by
  obtain ⟨i0, hi, hz0, hz1, hz2⟩ := info_parts L3.byteInfo
  subst hm
  obtain ⟨ad, rfl, _, hc⟩ := hr.2 hy
  refine wpList_append_ownF _ hgd s x t ho B 5 i0 (.int .u8 0) 1 1 ht hi hz0 hz1 hz2 rfl (by decide) v l.length (byteCells l) hs hb.1 ad y.length c (byteCells y) hx (by simp [byteCells]) hc (L3.byteCells_one y) (by unfold maxLen; omega) (by omega) hb.2.2 ?_
  intro v' w' h2 h3 _
  have e : byteCells l ++ byteCells y = byteCells (l ++ y) := by simp [byteCells]
  rw [e] at h2
  refine h v' w' ?_ h3
  have := OwnBuf.grown hb h2 h3
  unfold L3.Owned
  rw [List.length_append]
  exact this
end
/-- A row of ints that was just laid. -/
theorem rowI_reads (w : World) (cs : Array Value) (n : Nat) (hn : n ≤ 100) (hs : cs.size = n) : Reads (w.alloc (.cells cs 3)) (w.alloc (.cells cs 3)).heap.size 1 (some ⟨w.heap.size, 0, none⟩) n cs.toList :=
  L3.Reads.of_own (base := w.heap.size) (World.ownsRow_lit w cs n (Nat.le_refl _) (by unfold maxLen; omega) (by omega))
theorem numsB_le (zs : List Int) (h : zs.all L3.okN = true) (hn : zs.length ≤ 100) : (encs zs).length ≤ 900 := by have := L3.encs_le zs h; omega
set_option maxHeartbeats 1000000 in
set_option maxRecDepth 100000 in
theorem numsB_any (A : Option Addr) (n c : Nat) (zs : List Int) (w : World) (h : Reads w w.heap.size 1 A n (intCells zs)) (hl : n ≤ 100) (hok : zs.all L3.okN = true) :
    Calls Tryd.prog 30 #[.slice A n c] w (owns (encs zs) w) := by
  have hn : zs.length = n := by have := h.1; simpa [L3.intCells] using this
  have HOK := Lib.hid hok
  clear hok
  go_enter Tryd.func30, Tryd.ntmps30
  go_wp2
  go_loopw [3, 8] (fun b i wr => ∃ k : Nat, i = .int .i64 k ∧ k ≤ n ∧ Owned w.heap.size b (encs (zs.take k)) w wr) (fun _ i _ => n - (RowKit.intOf i).toNat)
  case atStart => exact ⟨0, rfl, Nat.zero_le _, by simpa [L3.encs] using Owned.nil w _ (Nat.le_refl _)⟩
  case round =>
    obtain ⟨k, rfl, hk, ho⟩ := hrel
    by_cases hlt : k < n
    · obtain ⟨ad, u, rfl, _, hx, hc⟩ := (h.below ho.2.1).at_ hlt
      have hkz : k < zs.length := by omega
      have hz : u = .int .i64 zs[k] := by
        simp only [L3.intCells, List.getElem?_map, List.getElem?_eq_getElem hkz, Option.map_some, Option.some.injEq] at hx
        exact hx.symm
      subst hz
      have hall := List.all_eq_true.1 HOK.out
      have hzk := L3.okN_le (hall _ (List.getElem_mem hkz))
      have hle := numsB_le (zs.take k) (by rw [List.all_eq_true]; exact fun x hx => hall x (List.mem_of_mem_take hx)) (by rw [List.length_take]; omega)
      have hsn := L3.take_snoc_int zs k hkz
      obtain ⟨z, hz⟩ : ∃ z, z = zs[k] := ⟨_, rfl⟩
      rw [← hz] at hc hsn hzk
      obtain ⟨A2, c2, rfl, hr2, hc2⟩ := ho.form
      have hnum := L3.num_ok wr.heap.size A2 (encs (zs.take k)).length c2 (encs (zs.take k)) z.toNat wr hr2 (by omega) (Nat.le_refl _) (by omega)
      rw [Int.toNat_of_nonneg hzk.1] at hnum
      have HS := Lib.hid hsn
      have HN := Lib.hid hnum
      clear hx hall hsn hz hnum hzk hle
      go_wp2_with (first
        | (go_at_call 55; refine HN.out.mono ?_; rintro e w3 ⟨v3, rfl, ho3⟩))
      go_round
      case rel =>
        refine ⟨k + 1, by go_num, by omega, ?_⟩
        rw [HS.out, L3.encs_snoc]
        exact owned_rebase ho3 ho.2.1 ho.2.2
      case measure => simp [RowKit.intOf]; omega
    · have hkn : zs.take k = zs := List.take_of_length_le (by omega)
      rw [hkn] at ho
      clear hkn
      go_wp2_with fail
      go_ret
      exact ⟨_, rfl, ho⟩
theorem bytesV_pos {c : Crt} : 0 < (bytesV c).length := by
  have h : ∀ (z : Int) (l : List Int), 0 < (encs (z :: l)).length := fun z l => by
    have := L3.encN_pos z.toNat
    simp only [L3.encs, List.map_cons, List.flatten_cons, List.length_append]; omega
  unfold L11.bytesV L11.numsV
  split
  · exact h _ _
  · split <;> exact h _ _
set_option maxHeartbeats 1000000 in
set_option maxRecDepth 100000 in
theorem writeTm_any (t : Tmo) (w : World) (h : t.wf) (hm : tmoV t = true) : Calls Tryd.prog 32 #[.agg (tmC t)] w (made (tmB t) w) := by
  obtain ⟨s1, s2, s3, s4⟩ := tmo_facts hm
  have hb0 : Below w.heap.size w (w.alloc (.cells (tmC t) 43)) := below_new _ _
  have k0 := tmo_new w 43 t
  obtain ⟨c0, c1, c2⟩ := tmo_box (w := w) (ty := 43) (t := t)
  have hB := L11.bytes_ok t.high (w.alloc (.cells (tmC t) 43)) h.2.2 s4
  have hlen := L11.bytes_len s4
  have hp := bytesV_pos (c := t.high)
  have K0 := Lib.hid (fun w1 (hb : Below (w.alloc (.cells (tmC t) 43)).heap.size (w.alloc (.cells (tmC t) 43)) w1) => k0.below hb (by simp))
  have e : tmB t = encs [t.signer] ++ bytesV t.high := by unfold tmB; simp [L3.encs]
  have hok : [t.signer].all L3.okN = true := by simp [L3.okN_mk s1.1 (by omega : t.signer ≤ 4611686018427387904)]
  have hl1 := numsB_le [t.signer] hok (by simp)
  rw [e]
  obtain ⟨y, hy⟩ : ∃ y, y = bytesV t.high := ⟨_, rfl⟩
  rw [← hy] at hB hlen hp ⊢
  obtain ⟨x, hx⟩ : ∃ x, x = encs [t.signer] := ⟨_, rfl⟩
  rw [← hx] at hl1 ⊢
  have HX := Lib.hid (And.intro hx hok)
  have HB := Lib.hid hB
  clear hB e s1 s2 s3 s4 hm h hx hy hok
  go_enter Tryd.func32, Tryd.ntmps32
  go_upto_region 2 with (first
    | (refine wpList_cells_at rfl _ _ rfl ⟨w.heap.size, 2, none⟩ rfl (crtL t.high) _ c2 Tryd.underlying24 rfl crtInfo ?_)
    | (go_at_call 28; refine HB.out.mono ?_; rintro e w1 ⟨A1, d1, rfl, r1, q1, hb1⟩))
  have k1 := K0.out _ hb1
  have e0 : w1.cell? ⟨w.heap.size, 0, none⟩ = some (.int .i64 t.signer) := k1.cell 0
  have hrd := rowI_reads w1 #[.int .i64 t.signer] 1 (by omega) rfl
  have hbA := nxt hb0 hb1
  clear hb1 K0 k0 c0 c1 c2 HB hb0
  have hN2 := numsB_any (some ⟨w1.heap.size, 0, none⟩) 1 1 [t.signer] (w1.alloc (.cells #[.int .i64 t.signer] 3)) hrd (by omega) HX.out.2
  rw [← HX.out.1] at hN2
  have HN2 := Lib.hid hN2
  clear hN2 hrd
  go_wp2_with (first
    | (go_at_call 30; refine HN2.out.mono ?_; rintro e w2 ⟨v2, rfl, ho2⟩; have hb2 := below_new w1 (.cells #[.int .i64 t.signer] 3); have r2 := (r1.below hb2).more hb2.size; have r3 := (r2.below ho2.2.1).more ho2.2.1.size)
    | (at_builtin; refine wpList_append_buf rfl _ _ _ rfl Tryd.underlying33 _ v2 x _ rfl ho2 A1 y.length d1 y rfl rfl r3 hp (by omega) ?_; intro v3 w3 ho3 hg3))
  go_ret2
  obtain ⟨A4, c4, rfl, r4, q4⟩ := ho3.form
  exact ⟨A4, c4, rfl, r4, q4, nxt hbA (nxt hb2 ho3.2.1)⟩
end Go.Proofs.YtkjkkbionlmohaaDoor
