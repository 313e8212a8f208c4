/-
  Which of two names stands ahead, and that nothing of the tape comes back.
-/
import Derived.Test.YthkgadjiiapfgaaGreatDoorDec
set_option linter.unusedSimpArgs false
set_option linter.unusedVariables false
namespace Go.Proofs.YthkgadjiiapfgaaGreatDoor
open Go.RowKit Go.Lib
open L2

def lessD (a b : ByteArray) (w : World) (r : Value) (wr : World) : Prop :=
  ∃ (pos : Nat) (x : ByteArray), pos ≤ a.size ∧ x.size ≤ b.size ∧ r = .string x ∧ wr.heap[w.heap.size]? = some (.stringIter a pos) ∧ BelD w wr ∧ Hid (∀ c ∈ nums x.data.toList, c < 2048) ∧ lexF (nums (a.data.toList.drop pos)) (nums x.data.toList) = lexF (nums a.data.toList) (nums b.data.toList)
set_option maxHeartbeats 2000000 in
set_option maxRecDepth 100000 in
theorem less_d (a b : ByteArray) (w : World) (ha : a.size ≤ 1000000) (hb : b.size ≤ 1000000) (hT : Tab w) (hL : ∀ c ∈ nums b.data.toList, c < 2048) :
    Calls Tryz.prog 58 #[.string a, .string b] w fun e w' => e = .returned (.bool (less a.data.toList b.data.toList)) ∧ BelD w w' := by
  have HT := Lib.hid hT
  have HL := Lib.hid hL
  clear hT hL
  go_enter Tryz.func58, Tryz.ntmps58
  go_wp2
  go_loopw [5] (fun r wr => lessD a b w r wr) (fun _ wr => a.size - wr.iterPos w.heap.size)
  case atStart => exact ⟨0, b, Nat.zero_le _, Nat.le_refl _, rfl, World.iter_heap w a 0, (BelD.refl w).alloc _, HL, rfl⟩
  case round =>
    obtain ⟨pos, x, hp, hxb, rfl, hit, hbwD, hLx, hk⟩ := hrel
    have hbw := hbwD.1
    have hdr := hbwD.2
    have hsz : w.heap.size < wr.heap.size := (Array.getElem?_eq_some_iff.1 hit).1
    by_cases hlt : pos < a.size
    · have hne := drop_ne hlt
      have hf := dec_facts _ hne
      have hda := dec_at a pos
      rw [List.length_drop, ← size_len] at hf
      obtain ⟨f1, f2, f3, _⟩ := hf
      have hnx : ∀ ty, (Instr.next (.pointer (some ⟨w.heap.size, 0, none⟩)) true ty).run Tryz.prog wr = _ := fun ty => (Lib.run_next_any_at wr w.heap.size a pos ty hit hlt).trans (by rw [hda])
      have hit2 := Lib.iterAt_heap wr w.heap.size a pos (pos + (dec (a.data.toList.drop pos)).2) hit
      have hbw2 := Lib.below_iterAt hbw (k := w.heap.size) (Nat.le_refl _) a (pos + (dec (a.data.toList.drop pos)).2)
      have hT2 := HT.out.kept hbw2
      have hbw2D : BelD w (wr.iterAt w.heap.size a (pos + (dec (a.data.toList.drop pos)).2)) := ⟨hbw2, hdr⟩
      have HBD := Lib.hid hbw2D
      clear hbw2D
      have hsz2 : w.heap.size < (wr.iterAt w.heap.size a (pos + (dec (a.data.toList.drop pos)).2)).heap.size := by rw [Lib.iterAt_size]; exact hsz
      have HP : Hid (wr.iterPos w.heap.size = pos) := Lib.hid (by simp [World.iterPos, hit])
      have hcons := nums_cons hne
      rw [List.drop_drop] at hcons
      rw [hcons] at hk
      have HI2 := Lib.hid hit2
      have HB2 := Lib.hid hbw2
      have HT2 := Lib.hid hT2
      clear hda hcons hne hit hbw hit2 hbw2 hT2
      by_cases hx : 0 < x.size
      · have hfull := full_facts hx
        obtain ⟨e1, e2⟩ := hfull
        have hg := dec_facts x.data.toList (ne_nil hx)
        rw [← size_len] at hg
        obtain ⟨g1, g2, g3, _⟩ := hg
        have hxe := extract_to_end x (dec x.data.toList).2
        have hxs := tail_size x (dec x.data.toList).2
        have hxn := nums_cons (ne_nil hx)
        have hLh : (dec x.data.toList).1 < 2048 := by have := hLx.out _ (by rw [hxn]; exact List.mem_cons_self ..); omega
        have HLT : Hid (∀ c ∈ nums (x.data.toList.drop (dec x.data.toList).2), c < 2048) := Lib.hid (fun c hc => hLx.out c (by rw [hxn]; exact List.mem_cons_of_mem _ hc))
        clear hxn
        rw [nums_cons (ne_nil hx), lexF] at hk
        by_cases heq : (dec (a.data.toList.drop pos)).1 = (dec x.data.toList).1
        · rw [if_pos (by rw [heq]), ← hxe] at hk
          have hq : (((dec (a.data.toList.drop pos)).1 : Int) != ((dec x.data.toList).1 : Int)) = false := by rw [heq]; simp
          have HK := Lib.hid hk
          have HXS := Lib.hid hxs
          have hlu := HLT.out
          rw [← hxe] at hlu
          have HLU := Lib.hid hlu
          clear hk hxe hxs heq hlu
          go_wp2_with (go_at_call 75; refine (decode_d _ _ HT2.out hx hLh).mono ?_; rintro e w3 ⟨rfl, hb3⟩)
          have hi3 : w3.heap[w.heap.size]? = some (.stringIter a (pos + (dec (a.data.toList.drop pos)).2)) := (hb3.1.block _ hsz2).trans HI2.out
          go_roundw
          case rel => exact ⟨_, _, by omega, by rw [HXS.out]; omega, rfl, hi3, HBD.out.trans hb3, HLU, HK.out⟩
          case measure =>
            have e3 : w3.iterPos w.heap.size = pos + (dec (a.data.toList.drop pos)).2 := by simp [World.iterPos, hi3]
            show a.size - w3.iterPos w.heap.size < a.size - wr.iterPos w.heap.size
            rw [e3, HP.out]; omega
        · rw [if_neg (by omega)] at hk
          have hl := lex_some _ _ hk.symm
          have HL := Lib.hid hl
          have hq : (((dec (a.data.toList.drop pos)).1 : Int) != ((dec x.data.toList).1 : Int)) = true := by rw [bne_iff_ne]; omega
          clear hk hxe hxs heq hl
          go_wp2_with (go_at_call 75; refine (decode_d _ _ HT2.out hx hLh).mono ?_; rintro e w3 ⟨rfl, hb3⟩)
          go_ret
          exact ⟨by rw [HL.out]; exact ret_bool (decide_eq_decide.2 (by omega)), HBD.out.trans hb3⟩
      · have e0 := empty_facts hx
        rw [is_nil hx, nums_nil, lexF] at hk
        have hl := lex_some _ _ hk.symm
        have HL := Lib.hid hl
        clear hk hl
        go_wp2
        go_ret
        exact ⟨by rw [HL.out]; rfl, HBD.out⟩
    · have hnx : ∀ ty, (Instr.next (.pointer (some ⟨w.heap.size, 0, none⟩)) true ty).run Tryz.prog wr = _ := fun ty => Lib.run_next_end_at wr w.heap.size a pos ty hit hlt
      rw [drop_nil hlt, nums_nil] at hk
      by_cases hx : 0 < x.size
      · have hfull := full_facts hx
        obtain ⟨e1, e2⟩ := hfull
        rw [nums_cons (ne_nil hx), lexF] at hk
        have hl := lex_some _ _ hk.symm
        have HL := Lib.hid hl
        clear hk hl
        go_wp2
        go_ret
        exact ⟨by rw [HL.out]; rfl, hbwD⟩
      · have e0 := empty_facts hx
        rw [is_nil hx, nums_nil, lexF] at hk
        have hl := lex_none _ _ hk.symm
        have HL := Lib.hid hl
        clear hk hl
        go_wp2
        go_ret
        exact ⟨by rw [HL.out, ← toList_data, ← toList_data]; rfl, hbwD⟩

end Go.Proofs.YthkgadjiiapfgaaGreatDoor
