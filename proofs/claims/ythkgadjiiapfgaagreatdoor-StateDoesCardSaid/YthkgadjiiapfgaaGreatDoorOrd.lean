/-
  The orders of names and of places, as a sort asks for them, and what a sort leaves: the one rising list.
-/
import Derived.Test.YthkgadjiiapfgaaGreatDoorLessD
import Derived.Test.YthkgadjiiapfgaaGreatDoorSort
import Derived.Test.YthkgadjiiapfgaaGreatDoorAcc
import Derived.Test.YthkgadjiiapfgaaGreatDoorLays
import Derived.Test.YthkgadjiiapfgaaGreatDoorL6Foot
set_option linter.unusedSimpArgs false
set_option linter.unusedVariables false
set_option maxRecDepth 10000
namespace Go.Proofs.YthkgadjiiapfgaaGreatDoor
open Go.RowKit Go.Maps Go.Lib
open L2 (less nums chk Tab)
open L6 (Turn)

theorem lessOrd : Ordered L2.less := ⟨L2.less_self, fun h => L2.less_flip h, fun a b => L2.less_trans a b⟩
theorem chk_low {l : List UInt8} (h : chk l = true) : ∀ c ∈ nums l, c < 2048 := fun c hc => by
  have := List.all_eq_true.1 ((L2.chk_iff l).1 h).2.2.2 c hc
  unfold L2.ltr at this
  rw [decide_eq_true_eq] at this
  omega
/-- Below 0, 0, or above. -/
def cfO {κ : Type} (lt : κ → κ → Bool) (a b : κ) : Int := if lt a b = true then -1 else if lt b a = true then 1 else 0
theorem cfO_neg {κ : Type} (lt : κ → κ → Bool) (a b : κ) : decide (cfO lt a b < 0) = lt a b := by
  unfold cfO
  cases h : lt a b
  · cases h2 : lt b a <;> simp
  · simp
theorem cfO_pair (a b : Plc) : cfO (lt2 less) a b = if cfO less a.1 b.1 ≠ 0 then cfO less a.1 b.1 else cfO less a.2 b.2 := by
  by_cases h : a.1 = b.1
  · have e1 : cfO less a.1 b.1 = 0 := by unfold cfO; rw [h, L2.less_self]; simp
    rw [e1, if_neg (by omega)]
    unfold cfO lt2
    rw [h, L2.less_self]
    simp
  · have e1 : cfO less a.1 b.1 ≠ 0 := by
      unfold cfO
      rw [L2.less_flip h]
      cases less b.1 a.1 <;> simp
    rw [if_pos e1]
    have h2 : ¬ b.1 = a.1 := fun e => h e.symm
    unfold cfO lt2
    simp [h, h2]
theorem ltOf_cfO {κ α : Type} (lt : κ → κ → Bool) (f : α → κ) : Go.Proofs.ltOf (fun x y => cfO lt (f x) (f y)) = fun x y => lt (f x) (f y) := by
  funext x y
  exact cfO_neg lt (f x) (f y)
theorem swoO {κ α : Type} {lt : κ → κ → Bool} (h : Ordered lt) (f : α → κ) : Go.Sort.SWO (Go.Proofs.ltOf (fun x y : α => cfO lt (f x) (f y))) := by
  rw [ltOf_cfO]
  refine ⟨fun x => h.irr _, fun x y z h1 h2 => h.trans h1 h2, fun x y z h1 h2 => ?_⟩
  by_cases e1 : f x = f y
  · rw [e1]; exact h2
  by_cases e2 : f y = f z
  · rw [← e2]; exact h1
  have k1 := h.of_not (fun e => e1 e.symm) h1
  have k2 := h.of_not (fun e => e2 e.symm) h2
  exact h.not_back (h.trans k2 k1)
/-- What is sorted is the one rising list. -/
theorem sorted_isort {κ α : Type} [Inhabited α] {lt : κ → κ → Bool} (h : Ordered lt) (f : α → κ) {d d' : Array α} (ha : Apart f d.toList) (hp : Go.Sort.PermIn 0 d.size d d')
    (hs : Go.Sort.SortedIn (Go.Proofs.ltOf (fun x y : α => cfO lt (f x) (f y))) 0 d.size d') : d'.toList = isort lt f d.toList := by
  obtain ⟨hsz, _, hperm⟩ := hp
  have e1 : d'.extract 0 d.size = d' := by rw [← hsz]; exact Array.extract_size
  rw [e1, Array.extract_size] at hperm
  rw [ltOf_cfO] at hs
  have ha' : Apart f d'.toList := (hperm.pairwise_iff (fun h1 => Ne.symm h1)).2 ha
  refine rising_one h ?_ (isort_rising h ha) fun x => by rw [hperm.mem_iff, isort_mem]
  rw [Rising, List.pairwise_iff_getElem]
  intro i j hi hj hij
  have hi' : i < d'.size := by simpa using hi
  have hj' : j < d'.size := by simpa using hj
  have h1 := hs i j (Nat.zero_le _) hij (by omega)
  rw [getElem!_pos d' i hi', getElem!_pos d' j hj'] at h1
  have h2 := (List.pairwise_iff_getElem.1 ha') i j hi hj hij
  simp only [Array.getElem_toList] at h2 ⊢
  exact h.of_not h2 h1

/-! The code's orders -/
set_option maxHeartbeats 1000000 in
theorem order_d (a b : ByteArray) (w : World) (ha : a.size ≤ 1000000) (hb : b.size ≤ 1000000) (hT : Tab w) (hA : ∀ c ∈ nums a.data.toList, c < 2048) (hB : ∀ c ∈ nums b.data.toList, c < 2048) :
    Calls Tryz.prog 37 #[.string a, .string b] w fun e w' => e = .returned (.int .i64 (cfO less a.data.toList b.data.toList)) ∧ BelD w w' := by
  have h1 := less_d a b w ha hb hT hB
  have h2 := fun W (h : BelD w W) => less_d b a W hb ha (hT.kept h.1) hA
  rcases Bool.eq_false_or_eq_true (less a.data.toList b.data.toList) with e1 | e1
  · have hc : cfO less a.data.toList b.data.toList = -1 := by unfold cfO; rw [if_pos e1]
    rw [e1] at h1
    rw [hc]
    have H1 := Lib.hid h1
    clear h1 h2 hT hA hB e1 hc
    go_enter Tryz.func37, Tryz.ntmps37
    go_wp2_with (go_at_call 58; refine H1.out.mono ?_; rintro e w1 ⟨rfl, hb1⟩)
    go_ret
    exact ⟨rfl, hb1⟩
  · have hc : cfO less a.data.toList b.data.toList = if less b.data.toList a.data.toList = true then 1 else 0 := by unfold cfO; rw [if_neg (by rw [e1]; decide)]
    rw [e1] at h1
    rw [hc]
    rcases Bool.eq_false_or_eq_true (less b.data.toList a.data.toList) with e2 | e2
    all_goals
      rw [e2] at h2 ⊢
      have H1 := Lib.hid h1
      have H2 := Lib.hid h2
      clear h1 h2 hT hA hB e1 hc e2
      go_enter Tryz.func37, Tryz.ntmps37
      go_wp2_with (go_at_call 58; first
        | ((with_reducible refine H1.out.mono ?_); rintro e w1 ⟨rfl, hb1⟩)
        | ((with_reducible refine (H2.out _ hb1).mono ?_); rintro e w2 ⟨rfl, hb2⟩))
      go_ret
      exact ⟨rfl, hb1.trans hb2⟩
set_option maxHeartbeats 1000000 in
theorem orderP_d (p q : Plc) (w : World) (h1 : p.1.length ≤ 1000000) (h2 : p.2.length ≤ 1000000) (h3 : q.1.length ≤ 1000000) (h4 : q.2.length ≤ 1000000) (hT : Tab w)
    (l1 : ∀ c ∈ nums p.1, c < 2048) (l2 : ∀ c ∈ nums p.2, c < 2048) (l3 : ∀ c ∈ nums q.1, c < 2048) (l4 : ∀ c ∈ nums q.2, c < 2048) :
    Calls Tryz.prog 42 #[.agg (plcC p), .agg (plcC q)] w fun e w' => e = .returned (.int .i64 (cfO (lt2 less) p q)) ∧ BelD w w' := by
  have c1 := fun W (h : BelD w W) => order_d (str p.1) (str q.1) W (by rw [str_size]; exact h1) (by rw [str_size]; exact h3) (hT.kept h.1) l1 l3
  have c2 := fun W (h : BelD w W) => order_d (str p.2) (str q.2) W (by rw [str_size]; exact h2) (by rw [str_size]; exact h4) (hT.kept h.1) l2 l4
  simp only [str_list] at c1 c2
  rw [cfO_pair]
  obtain ⟨W, hW⟩ : ∃ W, W = (w.alloc (.cells (plcC p) 68)).alloc (.cells (plcC q) 68) := ⟨_, rfl⟩
  have k0 : L3.Blk W w.heap.size 68 (plcC p) := by rw [hW]; exact (L3.Blk.new _ _ _).alloc _
  have k1 : L3.Blk W (w.heap.size + 1) 68 (plcC q) := by rw [hW]; have := L3.Blk.new (w.alloc (.cells (plcC p) 68)) 68 (plcC q); simpa using this
  have hbW : BelD w W := by rw [hW]; exact ((BelD.refl w).alloc _).alloc _
  have d0 := k0.cell 0
  have d1 := k1.cell 0
  rw [hW] at d0 d1 hbW k0 k1
  clear hW W
  have z0 : (plcC p)[0]? = some (.string (str p.1)) := rfl
  have z1 : (plcC q)[0]? = some (.string (str q.1)) := rfl
  obtain ⟨n, hn⟩ : ∃ n, n = cfO less p.1 q.1 := ⟨_, rfl⟩
  obtain ⟨m, hm⟩ : ∃ m, m = cfO less p.2 q.2 := ⟨_, rfl⟩
  rw [← hn] at c1 ⊢
  rw [← hm] at c2 ⊢
  have H1 := Lib.hid c1
  have H2 := Lib.hid c2
  clear c1 c2 hn hm hT l1 l2 l3 l4 h1 h2 h3 h4
  by_cases h0 : n = 0
  · subst h0
    rw [if_neg (by omega)]
    go_enter Tryz.func42, Tryz.ntmps42
    go_wp2_with (first
      | (go_at_call 37; first
        | ((with_reducible refine (H1.out _ hbW).mono ?_); rintro e w1 ⟨rfl, hb1⟩
           have x0 : w1.cell? ⟨w.heap.size, 1, none⟩ = some (.string (str p.2)) := (hb1.1.cell (p := ⟨w.heap.size, 1, none⟩) k0.lt).trans (k0.cell 1)
           have x1 : w1.cell? ⟨w.heap.size + 1, 1, none⟩ = some (.string (str q.2)) := (hb1.1.cell (p := ⟨w.heap.size + 1, 1, none⟩) k1.lt).trans (k1.cell 1))
        | ((with_reducible refine (H2.out _ (hbW.trans hb1)).mono ?_); rintro e w2 ⟨rfl, hb2⟩))
      | go_in)
    go_ret
    exact ⟨rfl, (hbW.trans hb1).trans hb2⟩
  · have e0 : (n != 0) = true := by rw [bne_iff_ne]; exact h0
    rw [if_pos h0]
    have HN := Lib.hid h0
    clear h0
    go_enter Tryz.func42, Tryz.ntmps42
    go_wp2_with (first
      | (go_at_call 37; refine (H1.out _ hbW).mono ?_; rintro e w1 ⟨rfl, hb1⟩)
      | go_in)
    go_ret
    exact ⟨rfl, hbW.trans hb1⟩
end Go.Proofs.YthkgadjiiapfgaaGreatDoor
