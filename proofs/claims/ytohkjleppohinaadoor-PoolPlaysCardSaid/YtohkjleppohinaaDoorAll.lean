/-
  All that waits: the code.
-/
import Derived.Test.YtohkjleppohinaaDoorAdds
set_option linter.unusedSimpArgs false
set_option linter.unusedVariables false
set_option maxRecDepth 10000
namespace Go.Proofs.YtohkjleppohinaaDoor
open Go.RowKit Go.Lib
open L3 (Blk Reads block_of_add add_of_add)
open L6 (Turn moreB fresh From In)

theorem clone_any (v : Value) (L : List Txx) (w : World) (hr : w.ownsRow 0 35 7 v L.length (L.flatMap txL)) (hn : L.length ≤ 1000000) :
    Calls Tryd.prog 31 #[v] w fun e w' => ∃ A c, e = .returned (.slice A L.length c) ∧ w'.ownsRow w.heap.size 35 7 (.slice A L.length c) L.length (L.flatMap txL) ∧ Below w.heap.size w w' := by
  obtain ⟨i0, hi, hz0, hz1, hz2⟩ := tx_parts
  have hlen := flat_len (f := txL) (k := 7) (fun _ => rfl) L
  have h1 : ∀ u ∈ L.flatMap txL, u.oneCell' = true := by intro u hu; obtain ⟨x, _, hx⟩ := List.mem_flatMap.1 hu; exact one_txL x u hx
  rcases hr.2 with ⟨rfl, h0⟩ | ⟨b, cap, cur, rfl, _, hk, hc1, hc2, hc3, hc4⟩
  · have := AnyE.slices_Clone_nil Tryd.cloneL 0 0 w
    refine Calls.mono (show Calls Tryd.prog 31 #[.slice none 0 0] w _ from this) ?_
    rintro e w' ⟨rfl, rfl⟩
    exact ⟨none, 0, by rw [h0], ⟨hlen, .inl ⟨by rw [h0], h0⟩⟩, Below.refl _ _⟩
  · have := AnyE.slices_Clone Tryd.cloneL i0 _ 7 88 hi hz0 hz1 hz2 rfl (by decide) Tryd.sizeOf35 b 0 L.length cap (L.flatMap txL) w hlen (by unfold maxLen; omega) (by omega) (fun j u hj => by
      have hjl : j < L.length * 7 := by
        rcases Nat.lt_or_ge j (L.length * 7) with h | h
        · exact h
        · rw [List.getElem?_eq_none (by omega)] at hj; cases hj
      rw [Nat.zero_add, show w.cell? ⟨b, j, none⟩ = cur[j]? from cell_of_row w b j cur _ (0, 0) hk]
      rw [← hc4, List.getElem?_take, if_pos hjl] at hj
      simpa using hj) h1
    refine Calls.mono (show Calls Tryd.prog 31 #[.slice (some ⟨b, 0, none⟩) L.length cap] w _ from this) ?_
    rintro e w' ⟨v', rfl, hr', _, hb'⟩
    obtain ⟨A, c, rfl, _⟩ := L6.row_reads hr'
    exact ⟨A, c, rfl, hr', hb'⟩
/-- A list handed back: in new memory. -/
def backL (L : List Txx) (w : World) (e : Ending) (w' : World) : Prop :=
  ∃ A c, e = .returned (.slice A L.length c) ∧ Rd txL 7 w' A L ∧ (∀ ad, A = some ad → w.heap.size ≤ ad.block ∧ ad.block < w'.heap.size) ∧ Below w.heap.size w w'
theorem backL.of {L : List Txx} {w w' : World} {v : Value} (hr : w'.ownsRow w.heap.size 35 7 v L.length (L.flatMap txL)) (hb : Below w.heap.size w w') : backL L w (.returned v) w' := by
  obtain ⟨A, c, rfl, hrd, hA⟩ := Rd.of_row (f := txL) (k := 7) (fun _ => rfl) hr
  exact ⟨A, c, rfl, hrd, hA, hb⟩
/-- A row that the call owns stays, whatever is laid. -/
theorem row_below {w w' : World} {base size n : Nat} {e : TypeId} {v : Value} {xs : List Value} (h : w.ownsRow base e size v n xs) (hb : Below w.heap.size w w') : w'.ownsRow base e size v n xs := (show Turn (fun _ => False) w w' from L6.Turn.of_keep hb).row h (fun k _ h => h)
theorem set_same {L : List Txx} {k : Nat} (h : k < L.length) : L.set k L[k] = L := List.set_getElem_self h
theorem below_cells {B g : Nat} {a : World} (hg : B ≤ g) : ∀ (vs : List Value) (o : Nat) {w : World}, Below B a w → Below B a (w.setCells g o vs)
  | [], _, _, h => h
  | v :: r, o, w, h => below_cells hg r (o + 1) (h.setCell (p := ⟨g, o, none⟩) hg v)
set_option maxHeartbeats 2000000 in
set_option maxRecDepth 100000 in
theorem all_any {w : World} {S : Nat → Prop} {g : Nat} {most : Int} {L : List Txx} (h : Pl w S g most L) : Calls Tryd.prog 18 #[.pointer (some ⟨g, 0, none⟩)] w (backL L w) := by
  obtain ⟨A, c, hb, hrd, hrow, hf, hg, hv⟩ := h.open_
  have HCL := Lib.hid (clone_any _ L w hrow (by have := hf.len; omega))
  have hwf := hf.wf
  obtain ⟨n, hn⟩ : ∃ n, n = L.length := ⟨_, rfl⟩
  have hn64 : n ≤ 64 := by rw [hn]; exact hf.len
  have c1 : w.cell? ⟨g, 1, none⟩ = some (.slice A L.length c) := hb.cell 1
  rw [← hn] at c1 HCL
  have HN := Lib.hid hn
  have HW := Lib.hid hwf
  clear hb hrd hrow hf hg hv h hn hwf
  go_enter Tryd.func18, Tryd.ntmps18
  go_wp2_with (first
    | (go_at_call 31; refine HCL.out.mono ?_; rintro e w1 ⟨A1, cp1, rfl, hr1, hb1⟩)
    | go_in)
  go_loopw [15] (fun i wr => ∃ k : Nat, i = .int .i64 k ∧ k ≤ n ∧ wr.ownsRow w.heap.size 35 7 (.slice A1 n cp1) n (L.flatMap txL) ∧ Below w.heap.size w wr) (fun i _ => n - (RowKit.intOf i).toNat)
  case atStart => exact ⟨0, rfl, Nat.zero_le _, hr1, hb1⟩
  case round =>
    obtain ⟨k, rfl, hk, hrow, hbw⟩ := hrel
    by_cases hlt : k < n
    · have hkL : k < L.length := by have := HN.out; omega
      have hrow' := hrow
      rw [HN.out] at hrow'
      obtain ⟨b, cap, hv, hbb, hX⟩ := row_of hrow' (fun e => by rw [e] at hkL; exact absurd hkL (by simp))
      injection hv with hv1 hv2 hv3
      subst hv1 hv3
      have hcs := hX.cells hkL
      have hx := HW.out _ (List.getElem_mem hkL)
      have hset := set_same hkL
      have hbl := hX.lt
      obtain ⟨x, hxe⟩ : ∃ x, x = L[k] := ⟨_, rfl⟩
      rw [← hxe] at hcs hx hset
      have HS := Lib.hid hset
      have hyb : Blk (wr.alloc (.cells (txC x) 35)) wr.heap.size 35 (txC x) := box_new wr _ x
      have hba : Below wr.heap.size wr (wr.alloc (.cells (txC x) 35)) := below_box _ x
      have hXa := hX.below hba
      have HO := Lib.hid (own_any x (wr.alloc (.cells (txC x) 35)) (hx.le (by omega)))
      clear hxe hX hrow hrow' hv2 hx hset
      go_upto_region 7 with (first
        | (refine wpList_load_mid rfl _ _ rfl b (k * 7) rfl (txL x) _ hcs Tryd.underlying35 rfl txInfo ?_)
        | (refine wpList_store_new rfl _ _ _ rfl wr (txC x) rfl rfl _ _ tx_info rfl (txC_ones _) ?_)
        | go_in)
      clear hcs
      have hcap : k * 7 + 7 ≤ cp1 * 7 := by obtain ⟨_, _, _, _, hm, _⟩ := hXa; omega
      go_upto_region 8 with (first
        | (refine wpList_row_at rfl _ _ rfl wr.heap.size rfl _ _ _ _ hyb Tryd.underlying35 rfl (by kernel_rfl) ?_)
        | (go_at_call 24; refine HO.out.mono ?_; unfold gives; rintro e w2 ⟨rfl, hb2⟩
           have hXc := hXa.below hb2
           have hth := hXc.there (i := k) (n := 7) hcap)
        | (refine wpList_store_mid rfl _ _ _ rfl b (k * 7) (txC x) rfl rfl hth (by kernel_rfl) (txC_ones _) ?_)
        | go_in)
      have hX3 : RowX (w2.setCells b (k * 7) (txC x).toList) b cp1 (L.set k x) := hXc.store (i := k) hkL x
      rw [HS.out] at hX3
      have hb3 : Below w.heap.size w (w2.setCells b (k * 7) (txC x).toList) := below_cells hbb (txC x).toList (k * 7) (nxt (nxt hbw hba) hb2)
      refine name_world (fun w3 hw3 => ?_)
      rw [← hw3] at hX3 hb3
      clear hw3 hXc hth hb2 hyb hXa hba hbw
      go_wp2
      go_roundw
      case rel =>
        refine ⟨k + 1, by go_num, by omega, ?_, hb3⟩
        have := hX3.row hbb
        rw [← HN.out] at this
        exact this
      case measure => simp [RowKit.intOf]; omega
    · obtain rfl : k = n := by omega
      go_wp2
      go_ret
      rw [HN.out] at hrow ⊢
      exact backL.of hrow hbw
end Go.Proofs.YtohkjleppohinaaDoor
