/-
  Names with small letters, by the code.
-/
import Derived.Test.YtpppefajahbpgaaDoorCheck
import Derived.Test.YtpppefajahbpgaaDoorBuilder
import Derived.Test.YtpppefajahbpgaaDoorCut
set_option linter.unusedSimpArgs false
set_option linter.unusedVariables false
namespace Go.Proofs.YtpppefajahbpgaaDoor
open Go.RowKit Go.Lib

/-- A text with the letter in the place of each great one; whether that is a name; what Fold tells. -/
def foldT (l : List UInt8) : List UInt8 := encAll ((nums l).map sml)
def foldB (l : List UInt8) : Bool := chk (foldT l)
def foldS (l : List UInt8) : List UInt8 := if foldB l then foldT l else []
def foldPost (l : List UInt8) (w : World) (e : Ending) (w' : World) : Prop :=
  e = .returned (.tuple #[.string (strOf (foldS l)), .int .i64 (errOf (foldB l))]) ∧ Below w.heap.size w w'
theorem sml_ok {c : Int} (h : okNum c) : okNum (sml c) := by
  unfold sml
  cases g : grt c
  · exact h
  · have : 65 ≤ c ∧ c ≤ 937 := by unfold grt at g; simp only [decide_eq_true_eq] at g; omega
    unfold okNum; simp only [if_true]; omega
theorem sml_sml (c : Int) : sml (sml c) = sml c := by
  have h : grt (sml c) = false := by
    unfold sml
    cases g : grt c
    · simpa using g
    · simp only [if_true]
      unfold grt at g ⊢
      simp only [decide_eq_true_eq, decide_eq_false_iff_not] at g ⊢
      omega
  have e : ∀ d, grt d = false → sml d = d := fun d hd => by unfold sml; rw [hd]; rfl
  exact e _ h
theorem nums_fold (l : List UInt8) : nums (foldT l) = (nums l).map sml := by
  unfold foldT
  refine nums_encAll _ ?_
  intro c hc
  obtain ⟨x, hx, rfl⟩ := List.mem_map.1 hc
  exact sml_ok (nums_ok l x hx)
theorem chkF_long : ∀ (r : List Int) (k : Nat), k ≤ 32 → 32 < k + r.length → chkF k r = false
  | [], k, h, h' => by simp at h'; omega
  | c :: r, k, h, h' => by
    rw [chkF]
    by_cases e : k = 32
    · simp [e]
    · rw [chkF_long r (k + 1) (by omega) (by simp at h'; omega), Bool.and_false]
theorem foldB_long {l : List UInt8} (h : 32 < (runes l).length) : foldB l = false := by
  unfold foldB chk
  rw [nums_fold]
  exact chkF_long _ 0 (by omega) (by rw [List.length_map, nums_len]; omega)
theorem foldT_len {l : List UInt8} (h : (runes l).length ≤ 32) : (foldT l).length ≤ 128 := by
  have := encAll_len ((nums l).map sml)
  unfold foldT
  rw [List.length_map, nums_len] at this
  omega
theorem builder_kept {T e : TypeId} {B b : Nat} {bs : List Value} {w w' : World} (h : Lib.IsBuilderF T e B b bs w) (hb : Below w.heap.size w w') : Lib.IsBuilderF T e B b bs w' := by
  have go : ∀ p, Lib.BuilderAtF T e B b p bs w → Lib.BuilderAtF T e B b p bs w' := by
    intro p h
    have hlt := h.lt
    obtain ⟨hB, v, hbk, hown, hne⟩ := h
    exact ⟨hB, v, (hb.block _ hlt).trans hbk, hown.kept (row := none) ⟨hb.os, hb.tape, hb.output, hb.size, fun k hk _ => hb.block k hk⟩ (by cases hv : v.ownBlock <;> simp), hne⟩
  exact h.elim (fun x => .inl (go _ x)) (fun x => .inr (go _ x))
theorem check_at (l : List UInt8) (w : World) (hl : l.length ≤ 1000000) {b : Bool} {n : Int} (h : chk l = b) (hn : errOf b = n) :
    Calls Tryd.prog 7 #[.string { data := l.toArray }] w fun e w' => e = .returned (.int .i64 n) ∧ Below w.heap.size w w' :=
  (check_any (strOf l) w (by rw [strOf_size]; exact hl)).mono fun e w' ⟨he, hb⟩ => ⟨by rw [he, strOf_list, h, hn], hb⟩

/-- What holds of the world while letters are written. -/
def foldRel (s : ByteArray) (w : World) (wr : World) : Prop :=
  ∃ (pos : Nat) (done : List Int), pos ≤ s.size ∧ wr.heap[w.heap.size + 1]? = some (.stringIter s pos) ∧ Lib.IsBuilderF 43 5 w.heap.size w.heap.size (Lib.byteCells (encAll (done.map sml))) wr ∧
    Below w.heap.size w wr ∧ nums s.data.toList = done ++ nums (s.data.toList.drop pos)

set_option maxHeartbeats 4000000 in
set_option maxRecDepth 100000 in
theorem fold_any (s : ByteArray) (w : World) (hs : s.size ≤ 1000000) : Calls Tryd.prog 11 #[.string s] w (foldPost s.data.toList w) := by
  by_cases hc : (runes s.data.toList).length ≤ 32
  · have hc' : ¬ 32 < ((runes s.data.toList).length : Int) := by omega
    have hT := foldT_len hc
    have hT' : (foldT s.data.toList).length ≤ 1000000 := by omega
    cases hB : foldB s.data.toList
    all_goals
      have HB := Lib.hid hB
      clear hB
      go_enter Tryd.func11, Tryd.ntmps11
      go_wp2_with (go_at_call 15; refine (count_any _ _ hs).mono ?_; rintro e w1 ⟨rfl, hb1⟩)
      go_loopw [6] (fun _ wr => foldRel s w1 wr) (fun _ wr => s.size - wr.iterPos (w1.heap.size + 1))
      case atStart =>
        refine ⟨0, [], Nat.zero_le _, ?_, (Lib.IsBuilderF.of (Lib.fresh_isBuilder 43 5 w1)).alloc _, ((Below.refl _ w1).alloc (Nat.le_refl _) _).alloc (by simp) _, rfl⟩
        have := World.iter_heap (w1.alloc (.cells #[.pointer none, .slice none 0 0] 43)) s 0
        simpa using this
      case round =>
        obtain ⟨pos, done, hp, hit, hI, hbw, hn⟩ := hrel
        have hsz : w1.heap.size + 1 < wr.heap.size := (Array.getElem?_eq_some_iff.1 hit).1
        have hnl := congrArg List.length hn
        rw [nums_len, List.length_append] at hnl
        by_cases hlt : pos < s.size
        · have hne := drop_ne hlt
          have hf := dec_facts _ hne
          have hda := dec_at s pos
          rw [List.length_drop, ← size_len] at hf
          obtain ⟨f1, f2, f3, f4⟩ := hf
          have g1 : ((dec (s.data.toList.drop pos)).1 : Int) ≤ 1114111 := by omega
          have hnx : ∀ ty, (Instr.next (.pointer (some ⟨w1.heap.size + 1, 0, none⟩)) true ty).run Tryd.prog wr = _ := fun ty => (Lib.run_next_any_at wr (w1.heap.size + 1) s pos ty hit hlt).trans (by rw [hda])
          have hI2 := hI.iterAt hit (pos + (dec (s.data.toList.drop pos)).2)
          have hit2 := Lib.iterAt_heap wr (w1.heap.size + 1) s pos (pos + (dec (s.data.toList.drop pos)).2) hit
          have hbw2 := Lib.below_iterAt hbw (k := w1.heap.size + 1) (by omega) s (pos + (dec (s.data.toList.drop pos)).2)
          have hsz2 : w1.heap.size ≤ (wr.iterAt (w1.heap.size + 1) s (pos + (dec (s.data.toList.drop pos)).2)).heap.size := by rw [Lib.iterAt_size]; omega
          have hn2 : nums s.data.toList = (done ++ [((dec (s.data.toList.drop pos)).1 : Int)]) ++ nums (s.data.toList.drop (pos + (dec (s.data.toList.drop pos)).2)) := by
            rw [hn, nums_cons hne, List.drop_drop]; simp
          have hbs : Lib.byteCells (encAll (done.map sml)) ++ Lib.runeCells (sml ((dec (s.data.toList.drop pos)).1 : Int)) = Lib.byteCells (encAll ((done ++ [((dec (s.data.toList.drop pos)).1 : Int)]).map sml)) := by
            rw [List.map_append, List.map_cons, List.map_nil, encAll_snoc, Lib.byteCells_append]; unfold enc; rw [Lib.byteCells_encodeRune]
          have hlen : (Lib.byteCells (encAll (done.map sml))).length + 4 ≤ 140737488355328 := by
            rw [Lib.byteCells_length]; have := encAll_len (done.map sml); rw [List.length_map] at this; omega
          have hr : -2147483648 ≤ sml ((dec (s.data.toList.drop pos)).1 : Int) ∧ sml ((dec (s.data.toList.drop pos)).1 : Int) ≤ 2147483647 := by
            unfold sml; split <;> omega
          have HN := Lib.hid hn2
          have HS := Lib.hid hbs
          have HL := Lib.hid hlen
          have HR := Lib.hid hr
          have HI := Lib.hid hI2
          have HT2 := Lib.hid hit2
          have HW := Lib.hid hbw2
          clear hda hne hn2 hbs hlen hr hn hnl hI hI2 hit2 hbw2 hbw f4
          go_wp2_with (first
            | (go_at_call 23; refine (small_any _ _ (by omega) (by omega)).mono ?_; rintro e w' ⟨rfl, rfl⟩)
            | (go_at_call 22; refine (writeRune_any w1.heap.size w1.heap.size _ _ HR.out.1 HR.out.2 _ HI.out HL.out hsz2).mono ?_; rintro e W1 ⟨rfl, h1, b1, k1⟩))
          go_roundw
          case rel =>
            refine ⟨pos + (dec (s.data.toList.drop pos)).2, _, by omega, k1.iter HT2.out (by omega), .inr (by rw [← HS.out]; exact h1), HW.out.trans b1, HN.out⟩
          case measure =>
            have := k1.iter HT2.out (by omega)
            simp [World.iterPos, this, hit]; omega
        · have hnx : ∀ ty, (Instr.next (.pointer (some ⟨w1.heap.size + 1, 0, none⟩)) true ty).run Tryd.prog wr = _ := fun ty => Lib.run_next_end_at wr (w1.heap.size + 1) s pos ty hit hlt
          rw [drop_nil hlt, nums_nil, List.append_nil] at hn
          have hI2 : Lib.IsBuilderF 43 5 w1.heap.size w1.heap.size (Lib.byteCells (foldT s.data.toList)) wr := by unfold foldT; rw [hn]; exact hI
          have HI := Lib.hid hI2
          clear hI hI2 hn hnl
          go_wp2_with fail
          refine (Tryd.Builder_String_any_f w1.heap.size w1.heap.size _ _ HI.out (by omega)).mono ?_
          rintro e w2 ⟨rfl, hI3, hb2⟩
          have HI3 := Lib.hid hI3
          clear hI3
          go_wp2_with fail
          first
            | (refine (check_at _ _ hT' HB.out (show errOf false = 20 from rfl)).mono ?_
               rintro e w3 ⟨rfl, hb3⟩
               go_wp2
               go_ret2
               have h := HB.out
               exact ⟨by unfold foldS; rw [h]; rfl, nxt hb1 (nxt (hbw.trans hb2) hb3 (hbw.trans hb2).size) hb1.size⟩)
            | (refine (check_at _ _ hT' HB.out (show errOf true = 0 from rfl)).mono ?_
               rintro e w3 ⟨rfl, hb3⟩
               have hw3 := nxt (hbw.trans hb2) hb3 (hbw.trans hb2).size
               have hI4 := builder_kept HI3.out hb3
               have HI4 := Lib.hid hI4
               have hsz3 := hw3.size
               clear hI4
               go_wp2_with fail
               refine (Tryd.Builder_String_any_f w1.heap.size w1.heap.size _ _ HI4.out hsz3).mono ?_
               rintro e w4 ⟨rfl, hI5, hb4⟩
               go_wp2
               go_ret2
               have h := HB.out
               exact ⟨by unfold foldS; rw [h]; rfl, nxt hb1 (hw3.trans hb4) hb1.size⟩)
  · have hB := foldB_long (l := s.data.toList) (by omega)
    have hc' : 32 < ((runes s.data.toList).length : Int) := by omega
    have HB := Lib.hid hB
    clear hB
    go_enter Tryd.func11, Tryd.ntmps11
    go_wp2_with (go_at_call 15; refine (count_any _ _ hs).mono ?_; rintro e w1 ⟨rfl, hb1⟩)
    go_ret2
    have h := HB.out
    exact ⟨by unfold foldS; rw [h]; rfl, hb1⟩
end Go.Proofs.YtpppefajahbpgaaDoor
