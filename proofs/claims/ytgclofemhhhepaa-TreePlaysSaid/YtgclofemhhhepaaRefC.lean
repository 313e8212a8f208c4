/-
  The document's tree, pruned.
-/
import Derived.Test.YtgclofemhhhepaaRefMw
import Derived.Test.YtgclofemhhhepaaAbvP
set_option linter.unusedSimpArgs false
set_option linter.unusedVariables false
set_option maxRecDepth 10000
namespace Go.Proofs.Ytgclofemhhhepaa
open Go.RowKit Go.Maps Go.Lib
open L3 (Blk Reads block_of_add add_of_add)
open L6 (Turn moreB fresh From In)

/-! Plainly -/
open Classical in
/-- What stays. -/
noncomputable def stayP (r : Int) (L : List Ent) (n rd : Int) (e : Ent) : Bool := if e.isin then decide (Under r L n e.n) else decide (rd < e.b.rd)
noncomputable def cutP (r : Int) (L : List Ent) (n rd : Int) : List Ent := L.filter (stayP r L n rd)
open Classical in
theorem cutP_is {r n rd : Int} {L : List Ent} {K : List Int} (hK : ∀ k, k ∈ K ↔ Under r L n k) : cutL L K rd = cutP r L n rd := by
  unfold cutL cutP
  refine List.filter_congr fun e _ => ?_
  unfold stayP
  cases hi : e.isin with
  | false => rfl
  | true =>
    rw [if_pos rfl, if_pos rfl, Bool.eq_iff_iff, List.contains_iff_mem, decide_eq_true_eq]
    exact hK e.n
theorem under_mem {r n k : Int} {L : List Ent} {l : List Int} (h1 : OneN r L) (hp : PathIs r L k l) (hk : k ≠ n) (hn : n ≠ r) : Under r L n k ↔ n ∈ l := by
  constructor
  · rintro ⟨l1, l2, p1, p2, _⟩
    obtain ⟨l3, rfl⟩ := path_last p1 hn
    rw [path_one h1 hp p2]
    simp
  · intro hm
    obtain ⟨a, b, e, p1⟩ := path_cut hp hm
    refine ⟨a ++ [n], b, p1, by rw [e] at hp; simpa using hp, ?_⟩
    rintro rfl
    rw [e] at hp
    exact hk (path_end hp p1)
theorem stay_out {r n rd : Int} {L : List Ent} {e : Ent} (h : e.isin = false) : stayP r L n rd e = decide (rd < e.b.rd) := by
  unfold stayP; rw [h]; rfl
open Classical in
theorem stay_self {r n rd : Int} {L : List Ent} {e : Ent} (h1 : OneN r L) (h : e.isin = true) (hn : e.n = n) : stayP r L n rd e = false := by
  unfold stayP; rw [h, if_pos rfl]
  rw [decide_eq_false_iff_not]
  exact fun hu => under_ne h1 hu hn
open Classical in
theorem stay_in {r n rd : Int} {L : List Ent} {e : Ent} {l : List Int} (h1 : OneN r L) (h : e.isin = true) (hp : PathIs r L e.n l) (hk : e.n ≠ n) (hn : n ≠ r) : stayP r L n rd e = decide (n ∈ l) := by
  unfold stayP; rw [h, if_pos rfl]
  rw [Bool.eq_iff_iff, decide_eq_true_eq, decide_eq_true_eq]
  exact under_mem h1 hp hk hn
theorem stay_snoc {L : List Ent} {p : Ent → Bool} {k : Nat} (h : k < L.length) : (p L[k] = true → (L.take (k + 1)).filter p = (L.take k).filter p ++ [L[k]]) ∧ (p L[k] = false → (L.take (k + 1)).filter p = (L.take k).filter p) := by
  have := filter_snoc h p
  exact ⟨fun e => by rw [this, if_pos e], fun e => by rw [this, if_neg (by simp [e]), List.append_nil]⟩
/-- A tree behind a pruning. -/
noncomputable def pruneT (s : TS) (n : Int) : TS := if n = s.root ∨ lackE s n ≠ 0 then s else ⟨s.most, n, ((atV s.L n).getD zeroEn).b.rd, cutP s.root s.L n ((atV s.L n).getD zeroEn).b.rd⟩
/-! What a call of the document leaves -/
def RTPost (A : Option Addr) (M : TS) (k : Int) (w : World) (e : Ending) (w' : World) : Prop :=
  ∃ A' c', e = .returned (.tuple #[.agg (rtC M.most M.root M.round A' M.L.length c'), .int .i64 k]) ∧ Rd enL 16 w' A' M.L ∧ (∀ ad, A' = some ad → A = some ad ∨ (w.heap.size ≤ ad.block ∧ ad.block < w'.heap.size)) ∧ Below w.heap.size w w'
theorem enInfo3 : (Try.prog.info? 68).map (fun i => (i.zero, i.size, i.bytes)) = some (some (.agg (enC zeroEn)), 16, 152) := by kernel_rfl
theorem slice_en (e : Ent) (w : World) : (Instr.buildSlice 28 1 #[(0, .agg (enC e))]).run Try.prog w = .ok (.slice (some ⟨w.heap.size, 0, none⟩) 1 1) (w.alloc (.cells (enC e) 68)) := by kernel_rfl
/-- The end, where nothing turned: the answer's block is filled. -/
theorem rt_same {A : Option Addr} {c : Nat} {s : TS} {k : Int} {w X : World} {g : Nat} {z : Nat} (hz : z = s.L.length) (hr : Rd enL 16 w A s.L) (hb : Below w.heap.size w X) (hg : w.heap.size ≤ g) : RTPost A s k w (.returned (.tuple #[.agg (rtC s.most s.root s.round A z c), .int .i64 k])) (X.setRow g (rtC s.most s.root s.round A z c)) := by
  have hb2 : Below w.heap.size w (X.setRow g (rtC s.most s.root s.round A z c)) := below_setRow hb hg
  subst hz
  exact ⟨A, c, rfl, hr.below hb2, fun ad e => .inl e, hb2⟩
/-- .. where there is a new list. -/
theorem rt_new {A A2 : Option Addr} {c2 n2 : Nat} {M : TS} {k : Int} {w X : World} {g B : Nat} (hn : n2 = M.L.length) (hr : X.ownsRow B 68 16 (.slice A2 n2 c2) M.L.length (M.L.flatMap enL)) (hb : Below w.heap.size w X) (hg : w.heap.size ≤ g) (hB : g < B) :
    RTPost A M k w (.returned (.tuple #[.agg (rtC M.most M.root M.round A2 n2 c2), .int .i64 k])) (X.setRow g (rtC M.most M.root M.round A2 n2 c2)) := by
  obtain ⟨A3, c3, hv, hrd, hA⟩ := Rd.of_row (f := enL) (k := 16) enL_len hr
  injection hv with h1 h2 h3
  subst h1 h3 hn
  have ht := turn_row X g (rtC M.most M.root M.round A2 M.L.length c2)
  exact ⟨A2, c2, rfl, hrd.kept ht (fun ad e h2 => by have := (hA ad e).1; omega), fun ad e => .inr ⟨by have := (hA ad e).1; omega, Nat.lt_of_lt_of_le (hA ad e).2 ht.size⟩, below_setRow hb hg⟩
end Go.Proofs.Ytgclofemhhhepaa
