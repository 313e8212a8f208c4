/-
  A table in memory: made, asked where a number stands, emptied; what is wanted is one more or one less.
-/
import Derived.Test.YtglnocclhhdbbaaIns3
import Derived.Test.YtglnocclhhdbbaaDel
import Derived.Test.YtglnocclhhdbbaaL4Sets
set_option linter.unusedSimpArgs false
set_option linter.unusedVariables false
set_option maxRecDepth 10000
namespace Go.Proofs.Ytglnocclhhdbbaa
open Go.RowKit Go.Lib
open L3 (Blk Reads block_of_add add_of_add)
open L6 (Turn moreB fresh From In)
open L4 (isF isF_mk isF_not isF_le isF_gt more)

/-! Lists -/
theorem filter_lt {L : List Wnt} (h : risingW L) (n : Int) : L.filter (fun x => decide (x.n < n)) = L.take (spot L n) := by
  have hs := spot_le L n
  conv => lhs; rw [← List.take_append_drop (spot L n) L]
  rw [List.filter_append]
  have e1 : (L.take (spot L n)).filter (fun x => decide (x.n < n)) = L.take (spot L n) := List.filter_eq_self.2 fun x hx => by
    obtain ⟨j, hj, rfl⟩ := List.getElem_of_mem hx
    rw [List.length_take] at hj
    rw [List.getElem_take]
    exact decide_eq_true (spot_lt h (by omega))
  have e2 : (L.drop (spot L n)).filter (fun x => decide (x.n < n)) = [] := List.filter_eq_nil_iff.2 fun x hx => by
    obtain ⟨j, hj, rfl⟩ := List.getElem_of_mem hx
    rw [List.length_drop] at hj
    rw [List.getElem_drop]
    have := spot_ge h (n := n) (t := spot L n + j) (by omega) (by omega)
    simpa using this
  rw [e1, e2, List.append_nil]
theorem filter_gt {L : List Wnt} (h : risingW L) {n : Int} (hx : ¬ wanted L n) : L.filter (fun x => decide (n < x.n)) = L.drop (spot L n) := by
  have hs := spot_le L n
  conv => lhs; rw [← List.take_append_drop (spot L n) L]
  rw [List.filter_append]
  have e1 : (L.take (spot L n)).filter (fun x => decide (n < x.n)) = [] := List.filter_eq_nil_iff.2 fun x hx => by
    obtain ⟨j, hj, rfl⟩ := List.getElem_of_mem hx
    rw [List.length_take] at hj
    rw [List.getElem_take]
    have := spot_lt h (n := n) (t := j) (by omega)
    simp; omega
  have e2 : (L.drop (spot L n)).filter (fun x => decide (n < x.n)) = L.drop (spot L n) := List.filter_eq_self.2 fun x hm => by
    obtain ⟨j, hj, rfl⟩ := List.getElem_of_mem hm
    rw [List.length_drop] at hj
    rw [List.getElem_drop]
    have h1 := spot_ge h (n := n) (t := spot L n + j) (by omega) (by omega)
    have h2 : (L[spot L n + j]'(by omega)).n ≠ n := fun e => hx ⟨_, List.getElem_mem _, e⟩
    exact decide_eq_true (by omega)
  rw [e1, e2, List.nil_append]
theorem insW_is {L : List Wnt} (h : risingW L) {n : Int} (hx : ¬ wanted L n) : insW n L = insAt L (spot L n) ⟨n, 0⟩ := by
  unfold insW insAt
  rw [filter_lt h, filter_gt h hx]
  simp
theorem gotL_is {L : List Wnt} (h : risingW L) {n : Int} (hx : wanted L n) : gotL L n = delAt L (spot L n) := by
  obtain ⟨hs, he⟩ := (wanted_spot h n).1 hx
  unfold gotL delAt
  conv => lhs; rw [← List.take_append_drop (spot L n) L]
  rw [List.filter_append]
  have e1 : (L.take (spot L n)).filter (fun x => decide (x.n ≠ n)) = L.take (spot L n) := List.filter_eq_self.2 fun x hm => by
    obtain ⟨j, hj, rfl⟩ := List.getElem_of_mem hm
    rw [List.length_take] at hj
    rw [List.getElem_take]
    have := spot_lt h (n := n) (t := j) (by omega)
    exact decide_eq_true (by omega)
  have e2 : (L.drop (spot L n)).filter (fun x => decide (x.n ≠ n)) = L.drop (spot L n + 1) := by
    rw [List.drop_eq_getElem_cons hs, List.filter_cons_of_neg (by simpa using he)]
    refine List.filter_eq_self.2 fun x hm => ?_
    obtain ⟨j, hj, rfl⟩ := List.getElem_of_mem hm
    rw [List.length_drop] at hj
    rw [List.getElem_drop]
    have := rising_get h (i := spot L n) (j := spot L n + 1 + j) (by omega) (by omega)
    exact decide_eq_true (by omega)
  rw [e1, e2]
theorem gotL_not {L : List Wnt} {n : Int} (hx : ¬ wanted L n) : gotL L n = L := List.filter_eq_self.2 fun x hm => decide_eq_true fun e => hx ⟨x, hm, e⟩

/-! A table -/
/-- Its numbers are of 64 bits. -/
structure FS.fit (s : FS) : Prop where
  tr : inI s.tries
  n : ∀ x ∈ s.L, inI x.n
def ftC (s : FS) (v : Value) : Array Value := #[.int .i64 s.f, .int .i64 s.me, .int .i64 s.most, .int .i64 s.tries, v]
/-- In w a table lies at g, its blocks among S. -/
def Ft (w : World) (S : Nat → Prop) (g : Nat) (s : FS) : Prop :=
  ∃ v, Blk w g 58 (ftC s v) ∧ w.ownsRow 0 63 2 v s.L.length (s.L.flatMap wnL) ∧ (s.ok ∧ s.fit) ∧ S g ∧ ∀ k, v.ownBlock = some k → S k
theorem Ft.ok {w : World} {S : Nat → Prop} {g : Nat} {s : FS} (h : Ft w S g s) : s.ok ∧ s.fit := by obtain ⟨v, _, _, hf, _⟩ := h; exact hf
theorem FS.ok.small {s : FS} (h : s.ok) : s.L.length ≤ 16 := by have := h.len; have := h.most2; omega
theorem Ft.kept {w w' : World} {S T : Nat → Prop} {g : Nat} {s : FS} (h : Ft w S g s) (ht : Turn T w w') (hd : ∀ k, S k → ¬ T k) : Ft w' S g s := by
  obtain ⟨v, hb, hr, hf, hg, hk⟩ := h
  exact ⟨v, ht.blk hb (hd _ hg), ht.row hr (fun k e => hd _ (hk k e)), hf, hg, hk⟩
theorem Ft.below {w w' : World} {S : Nat → Prop} {g : Nat} {s : FS} (h : Ft w S g s) (hb : Below w.heap.size w w') : Ft w' S g s := h.kept (T := fun _ => False) (L6.Turn.of_keep hb) (fun _ _ h => h)
theorem Ft.mono {w : World} {S S' : Nat → Prop} {g : Nat} {s : FS} (h : Ft w S g s) (hs : ∀ k, S k → S' k) : Ft w S' g s := by
  obtain ⟨v, hb, hr, hf, hg, hk⟩ := h
  exact ⟨v, hb, hr, hf, hs _ hg, fun k e => hs _ (hk k e)⟩
theorem row_ne {w : World} {base size n g : Nat} {e t : TypeId} {v : Value} {xs : List Value} {cs : Array Value} (h : w.ownsRow base e size v n xs) (hb : Blk w g t cs) (hne : e ≠ t) : v.ownBlock ≠ some g := by
  rcases h.2 with ⟨rfl, _⟩ | ⟨g', cap, cur, rfl, _, hh, _⟩
  · simp [Value.ownBlock]
  · intro he
    have hg : g' = g := by simpa [Value.ownBlock] using he
    subst hg
    have hb' : w.heap[g']? = some (.cells cs t (0, 0)) := hb
    rw [hh] at hb'
    injection hb' with hb'
    injection hb' with _ h2 _
    exact hne h2
theorem row_lt {w : World} {base size n k : Nat} {e : TypeId} {v : Value} {xs : List Value} (h : w.ownsRow base e size v n xs) (hk : v.ownBlock = some k) : k < w.heap.size := by
  rcases h.2 with ⟨rfl, _⟩ | ⟨g', cap, cur, rfl, _, hh, _⟩
  · simp [Value.ownBlock] at hk
  · have hg : g' = k := by simpa [Value.ownBlock] using hk
    subst hg
    exact (Array.getElem?_eq_some_iff.1 hh).1
/-- Its list, as a slice that is read. -/
theorem Ft.open_ {w : World} {S : Nat → Prop} {g : Nat} {s : FS} (h : Ft w S g s) : ∃ A c, Blk w g 58 (ftC s (.slice A s.L.length c)) ∧ Rd wnL 2 w A s.L ∧ w.ownsRow 0 63 2 (.slice A s.L.length c) s.L.length (s.L.flatMap wnL) ∧ (s.ok ∧ s.fit) ∧ S g ∧ (∀ k, (Value.slice A s.L.length c).ownBlock = some k → S k) := by
  obtain ⟨v, hb, hr, hf, hg, hk⟩ := h
  obtain ⟨A, c, rfl, hrd, _⟩ := Rd.of_row (f := wnL) (k := 2) (fun _ => rfl) hr
  exact ⟨A, c, hb, hrd, hr, hf, hg, hk⟩

/-! New -/
def newE (f me most tries : Int) : Int := if isF f = false ∨ most < 1 ∨ 16 < most ∨ tries < 1 then 1 else if me < 0 ∨ 3 * f + 1 ≤ me then 40 else 0
theorem has_full {f : Int} (hf : isF f = true) (k : Int) : L4.hasV (2 ^ (more 3 f).toNat - 1) k = decide (0 ≤ k ∧ k < 3 * f + 1) := by
  have hm : more 3 f = 3 * f + 1 := by unfold more; rw [if_pos hf]
  obtain ⟨h1, h2⟩ := isF_le hf
  unfold L4.hasV L4.fitsV
  rw [hm, Nat.testBit_two_pow_sub_one, Bool.eq_iff_iff]
  simp only [Bool.and_eq_true, decide_eq_true_eq]
  omega
theorem full_lt {f : Int} : 2 ^ (more 3 f).toNat - 1 < 4294967296 := by
  obtain ⟨m, hm, h10⟩ := L4.more_is f
  rw [hm, Int.toNat_natCast]
  have := L4.pow_lt32 (k := m) (by omega)
  omega
theorem build_ft (f me most tries : Int) (w : World) : (Instr.build 58 #[(0, .int .i64 f), (1, .int .i64 me), (2, .int .i64 most), (3, .int .i64 tries)]).run Try.prog w = .ok (.agg #[.int .i64 f, .int .i64 me, .int .i64 most, .int .i64 tries, .slice none 0 0]) w := run_build w _ _ _ (by kernel_rfl)
set_option maxHeartbeats 2000000 in
set_option maxRecDepth 100000 in
theorem new_arg (f me most tries : Int) (w : World) (h : isF f = false ∨ most < 1 ∨ 16 < most ∨ tries < 1) : Calls Try.prog 7 #[.int .i64 f, .int .i64 me, .int .i64 most, .int .i64 tries] w (gives (.tuple #[.pointer none, .int .i64 1]) w) := by
  have ha := fun W => L4.all_any f W
  rcases Bool.eq_false_or_eq_true (isF f) with hf | hf
  · obtain ⟨m, hm, hm10⟩ := L4.more_is f
    have hm0 : ((m : Int) == 0) = false := by
      have : more 3 f = 3 * f + 1 := by unfold more; rw [if_pos hf]
      have := isF_le hf
      exact beq_eq_false_iff_ne.2 (by omega)
    rw [hm] at ha
    rcases (show most < 1 ∨ (¬ most < 1 ∧ 16 < most) ∨ (¬ most < 1 ∧ ¬ 16 < most ∧ tries < 1) by rcases h with h | h; (rw [hf] at h; cases h); omega) with h1 | ⟨h1, h2⟩ | ⟨h1, h2, h3⟩
    all_goals
      clear h hm
      go_enter Try.func7, Try.ntmps7
      go_wp2_with (first
        | (go_at_call 17; refine (ha _).mono ?_; rintro e w1 ⟨rfl, rfl⟩)
        | go_in)
      go_ret2
      exact ⟨rfl, Below.refl _ _⟩
  · have hm : more 3 f = 0 := by unfold more; rw [if_neg (by rw [hf]; decide)]
    rw [hm] at ha
    clear h
    go_enter Try.func7, Try.ntmps7
    go_wp2_with (first
      | (go_at_call 17; refine (ha _).mono ?_; rintro e w1 ⟨rfl, rfl⟩)
      | go_in)
    go_ret2
    exact ⟨rfl, Below.refl _ _⟩
end Go.Proofs.Ytglnocclhhdbbaa
