/-
  A coin, a register, and the document's two beside them, each in its own blocks, through any calls.
-/
import Derived.Test.YtjkfogjhakcnfaaDoorRowKit
import Derived.Test.YtjkfogjhakcnfaaDoorRefCoinC
set_option linter.unusedSimpArgs false
set_option linter.unusedVariables false
namespace Go.Proofs.YtjkfogjhakcnfaaDoor
open Go.RowKit Go.Maps Go.Lib

/-- Four sets of blocks, apart from each other, in U; nothing that was there in w has turned. -/
def Geo (w : World) (U S T X Y : Nat → Prop) (wr : World) : Prop :=
  (Apart S T ∧ Apart S X ∧ Apart S Y ∧ Apart T X ∧ Apart T Y ∧ Apart X Y) ∧ ((∀ j, S j → U j) ∧ (∀ j, T j → U j) ∧ (∀ j, X j → U j) ∧ (∀ j, Y j → U j)) ∧ From w.heap.size U ∧ In wr U ∧ Below w.heap.size w wr
section
variable {w wr w' : World} {U S T X Y : Nat → Prop}
theorem Geo.rot (g : Geo w U S T X Y wr) : Geo w U T X Y S wr := by
  obtain ⟨⟨a1, a2, a3, a4, a5, a6⟩, ⟨u1, u2, u3, u4⟩, h⟩ := g
  exact ⟨⟨a4, a5, a1.symm, a6, a2.symm, a3.symm⟩, ⟨u2, u3, u4, u1⟩, h⟩
theorem Geo.keep (g : Geo w U S T X Y wr) (hb : Below wr.heap.size wr w') : Geo w U S T X Y w' := by
  obtain ⟨a, u, hf, hi, hbw⟩ := g
  exact ⟨a, u, hf, hi.le hb.size, nxt hbw hb hbw.size⟩
/-- The first turns. -/
theorem Geo.one (g : Geo w U S T X Y wr) (ht : Turn S wr w') : Geo w (moreB U wr w') (moreB S wr w') T X Y w' := by
  obtain ⟨⟨a1, a2, a3, a4, a5, a6⟩, ⟨u1, u2, u3, u4⟩, hf, hi, hb⟩ := g
  have htU : Turn U wr w' := ht.mono fun j _ => u1 j
  exact ⟨⟨a1.more fun j hj => hi j (u2 j hj), a2.more fun j hj => hi j (u3 j hj), a3.more fun j hj => hi j (u4 j hj), a4, a5, a6⟩, ⟨fun j hj => hj.imp (u1 j) id, fun j hj => .inl (u2 j hj), fun j hj => .inl (u3 j hj), fun j hj => .inl (u4 j hj)⟩, hf.more hb.size, hi.more ht.size, nxtT hb htU hf⟩
theorem Geo.two (g : Geo w U S T X Y wr) (ht : Turn T wr w') : Geo w (moreB U wr w') S (moreB T wr w') X Y w' := (g.rot.one ht).rot.rot.rot
theorem Geo.three (g : Geo w U S T X Y wr) (ht : Turn X wr w') : Geo w (moreB U wr w') S T (moreB X wr w') Y w' := (g.rot.rot.one ht).rot.rot
theorem Geo.four (g : Geo w U S T X Y wr) (ht : Turn Y wr w') : Geo w (moreB U wr w') S T X (moreB Y wr w') w' := (g.rot.rot.rot.one ht).rot
end
/-- A coin in c, a register in g, the document's register in m, its coin in r; of the code: G chosen, N seen, L issued; of the document: G2, N2, L2; B bounds how many. -/
def Four (w : World) (U : Nat → Prop) (c g m r : Nat) (f h : Int) (bad : Nat) (G : List (Int × Int)) (N : List Int) (L : List Shr) (G2 : List (Int × Int)) (N2 : List Int) (L2 : List Shr) (B : Nat) (wr : World) : Prop :=
  ∃ S T X Y : Nat → Prop, Geo w U S T X Y wr ∧ (Cn wr S c f G N B ∧ Sg wr T g h bad L ∧ Rs wr X m h bad L2 ∧ Rc wr Y r f G2 N2) ∧ L.length ≤ B ∧ G2.length ≤ B ∧ N2.length ≤ B ∧ L2.length ≤ B ∧ ∀ y ∈ L2, y.wf
section
variable {w wr wx : World} {U : Nat → Prop} {c g m r B : Nat} {f h : Int} {bad : Nat} {G G2 : List (Int × Int)} {N N2 : List Int} {L L2 : List Shr}
theorem Four.keep (d : Four w U c g m r f h bad G N L G2 N2 L2 B wr) (hb : Below wr.heap.size wr wx) : Four w U c g m r f h bad G N L G2 N2 L2 B wx := by
  obtain ⟨S, T, X, Y, hg, ⟨h1, h2, h3, h4⟩, hr⟩ := d
  exact ⟨S, T, X, Y, hg.keep hb, ⟨h1.below hb, h2.below hb, h3.below hb, h4.below hb⟩, hr⟩
theorem Four.le {B' : Nat} (d : Four w U c g m r f h bad G N L G2 N2 L2 B wr) (hB : B ≤ B') : Four w U c g m r f h bad G N L G2 N2 L2 B' wr := by
  obtain ⟨S, T, X, Y, hg, ⟨h1, h2, h3, h4⟩, b1, b2, b3, b4, b5⟩ := d
  exact ⟨S, T, X, Y, hg, ⟨h1.le hB, h2, h3, h4⟩, by omega, by omega, by omega, by omega, b5⟩
theorem Four.below (d : Four w U c g m r f h bad G N L G2 N2 L2 B wr) : Below w.heap.size w wr := by obtain ⟨S, T, X, Y, ⟨_, _, _, _, hb⟩, _⟩ := d; exact hb
theorem Four.inU (d : Four w U c g m r f h bad G N L G2 N2 L2 B wr) : In wr U := by obtain ⟨S, T, X, Y, ⟨_, _, _, hi, _⟩, _⟩ := d; exact hi
theorem choose_len (f : Int) (G : List (Int × Int)) (N : List Int) (u k : Int) : (chooseG f G N u k).length ≤ G.length + 1 := by
  unfold chooseG
  split <;> simp
theorem see_len (f h : Int) (bad : Nat) (L : List Shr) (N : List Int) (u : Int) (n : Nat) : (seeN f h bad L N u n).length ≤ N.length + 1 := by
  unfold seeN putN
  split
  · split <;> simp
  · simp
theorem iss_len (f : Int) (L : List Shr) (x : Shr) : (issL f L x).length ≤ L.length + 1 := by
  unfold issL
  split
  · split <;> simp
  · simp
theorem iss_wf {f : Int} {L : List Shr} {x : Shr} (hL : ∀ y ∈ L, y.wf) (hx : x.wf) : ∀ y ∈ issL f L x, y.wf := by
  unfold issL
  split
  · split
    · exact hL
    · intro y hy
      rw [List.mem_append, List.mem_singleton] at hy
      rcases hy with hy | rfl
      · exact hL y hy
      · exact hx
  · exact hL
theorem four_choose (d : Four w U c g m r f h bad G N L G2 N2 L2 B wr) (hB : B ≤ 1000000000) (u k : Int) :
    Calls Tryd.prog 11 #[.pointer (some ⟨c, 0, none⟩), .int .i64 u, .int .i64 k] wr fun e w' => e = .returned (.int .i64 (chooseE f G N u k)) ∧ Four w (moreB U wr w') c g m r f h bad (chooseG f G N u k) N L G2 N2 L2 (B + 1) w' ∧ Turn U wr w' := by
  obtain ⟨S, T, X, Y, hg, ⟨h1, h2, h3, h4⟩, b1, b2, b3, b4, b5⟩ := d
  have hg' := hg
  obtain ⟨⟨a1, a2, a3, a4, a5, a6⟩, ⟨u1, u2, u3, u4⟩, _⟩ := hg'
  refine (choose_any S c f G N B u k wr h1 hB).mono ?_
  rintro e w' ⟨rfl, hC, ht⟩
  exact ⟨rfl, ⟨_, T, X, Y, hg.one ht, ⟨hC.mono fun j _ hj => .inl hj, h2.kept ht (fun j _ hj => a1.symm j hj), h3.kept ht (fun j _ hj => a2.symm j hj), h4.kept ht (fun j _ hj => a3.symm j hj)⟩, by omega, by omega, by omega, by omega, b5⟩, ht.mono fun j _ => u1 j⟩
theorem four_see (d : Four w U c g m r f h bad G N L G2 N2 L2 B wr) (hB : B ≤ 1000000000) (hbad : bad < 4294967296) (hT : Tab w) (u : Int) (n : Nat) (hn : n < 4294967296) :
    Calls Tryd.prog 13 #[.pointer (some ⟨c, 0, none⟩), .pointer (some ⟨g, 0, none⟩), .int .i64 u, .int .u32 n] wr fun e w' => e = .returned (.tuple #[.int .i64 (seeW f h bad L G u n), .int .i64 (seeE f h bad L u n)]) ∧ Four w (moreB U wr w') c g m r f h bad G (seeN f h bad L N u n) L G2 N2 L2 (B + 1) w' ∧ Turn U wr w' := by
  obtain ⟨S, T, X, Y, hg, ⟨h1, h2, h3, h4⟩, b1, b2, b3, b4, b5⟩ := d
  have hg' := hg
  obtain ⟨⟨a1, a2, a3, a4, a5, a6⟩, ⟨u1, u2, u3, u4⟩, _, _, hbw⟩ := hg'
  refine (see_any S T c g B f h bad G N L u n wr h1 hB h2 hbad hn (hT.kept hbw)).mono ?_
  rintro e w' ⟨rfl, hC, ht⟩
  exact ⟨rfl, ⟨_, T, X, Y, hg.one ht, ⟨hC.mono fun j _ hj => .inl hj, h2.kept ht (fun j _ hj => a1.symm j hj), h3.kept ht (fun j _ hj => a2.symm j hj), h4.kept ht (fun j _ hj => a3.symm j hj)⟩, by omega, by omega, by omega, by omega, b5⟩, ht.mono fun j _ => u1 j⟩
theorem four_issue (d : Four w U c g m r f h bad G N L G2 N2 L2 B wr) (hB : B ≤ 1000000000) (x : Shr) (hx : x.wf) :
    Calls Tryd.prog 16 #[.pointer (some ⟨g, 0, none⟩), .agg (shrC x)] wr fun e w' => e = .returned (.int .i64 (repE h x.k)) ∧ Four w (moreB U wr w') c g m r f h bad G N (issL h L x) G2 N2 L2 (B + 1) w' ∧ Turn U wr w' := by
  obtain ⟨S, T, X, Y, hg, ⟨h1, h2, h3, h4⟩, b1, b2, b3, b4, b5⟩ := d
  have hg' := hg
  obtain ⟨⟨a1, a2, a3, a4, a5, a6⟩, ⟨u1, u2, u3, u4⟩, _⟩ := hg'
  refine (issue_any T g h bad L x wr h2 hx (by omega)).mono ?_
  rintro e w' ⟨rfl, hS, ht⟩
  exact ⟨rfl, ⟨S, _, X, Y, hg.two ht, ⟨(h1.kept ht (fun j _ hj => a1 j hj)).le (by omega), hS, h3.kept ht (fun j _ hj => a4.symm j hj), h4.kept ht (fun j _ hj => a5.symm j hj)⟩, by have := iss_len h L x; omega, by omega, by omega, by omega, b5⟩, ht.mono fun j _ => u2 j⟩
theorem four_rissue (d : Four w U c g m r f h bad G N L G2 N2 L2 B wr) (hB : B ≤ 1000000000) (hh : inI h) (x : Shr) (hx : x.wf) :
    Calls Tryd.prog 17 #[.pointer (some ⟨m, 0, none⟩), .agg (shrC x)] wr fun e w' => e = .returned (.int .i64 (repE h x.k)) ∧ Four w (moreB U wr w') c g m r f h bad G N L G2 N2 (issL h L2 x) (B + 1) w' ∧ Turn U wr w' := by
  obtain ⟨S, T, X, Y, hg, ⟨h1, h2, h3, h4⟩, b1, b2, b3, b4, b5⟩ := d
  have hg' := hg
  obtain ⟨⟨a1, a2, a3, a4, a5, a6⟩, ⟨u1, u2, u3, u4⟩, _⟩ := hg'
  refine (refissue_any X m h bad L2 x wr h3 hh hx b5 (by omega)).mono ?_
  rintro e w' ⟨rfl, hS, ht⟩
  exact ⟨rfl, ⟨S, T, _, Y, hg.three ht, ⟨(h1.kept ht (fun j _ hj => a2 j hj)).le (by omega), h2.kept ht (fun j _ hj => a4 j hj), hS, h4.kept ht (fun j _ hj => a6.symm j hj)⟩, by omega, by omega, by omega, by have := iss_len h L2 x; omega, iss_wf b5 hx⟩, ht.mono fun j _ => u3 j⟩
theorem four_rchoose (d : Four w U c g m r f h bad G N L G2 N2 L2 B wr) (hB : B ≤ 1000000000) (hf : inI f) (u k : Int) :
    Calls Tryd.prog 12 #[.pointer (some ⟨r, 0, none⟩), .int .i64 u, .int .i64 k] wr fun e w' => e = .returned (.int .i64 (chooseE f G2 N2 u k)) ∧ Four w (moreB U wr w') c g m r f h bad G N L (chooseG f G2 N2 u k) N2 L2 (B + 1) w' ∧ Turn U wr w' := by
  obtain ⟨S, T, X, Y, hg, ⟨h1, h2, h3, h4⟩, b1, b2, b3, b4, b5⟩ := d
  have hg' := hg
  obtain ⟨⟨a1, a2, a3, a4, a5, a6⟩, ⟨u1, u2, u3, u4⟩, _⟩ := hg'
  refine (rchoose_any Y r f G2 N2 u k wr h4 hf (by omega) (by omega)).mono ?_
  rintro e w' ⟨rfl, hC, ht⟩
  exact ⟨rfl, ⟨S, T, X, _, hg.four ht, ⟨(h1.kept ht (fun j _ hj => a3 j hj)).le (by omega), h2.kept ht (fun j _ hj => a5 j hj), h3.kept ht (fun j _ hj => a6 j hj), hC⟩, by omega, by have := choose_len f G2 N2 u k; omega, by omega, by omega, b5⟩, ht.mono fun j _ => u4 j⟩
theorem four_rsee (d : Four w U c g m r f h bad G N L G2 N2 L2 B wr) (hB : B ≤ 1000000000) (hf : isF f = true) (hbad : bad < 4294967296) (u : Int) (n : Nat) (hn : n < 4294967296) :
    Calls Tryd.prog 14 #[.pointer (some ⟨r, 0, none⟩), .pointer (some ⟨m, 0, none⟩), .int .i64 u, .int .u32 n] wr fun e w' => e = .returned (.tuple #[.int .i64 (seeW f h bad L2 G2 u n), .int .i64 (seeE f h bad L2 u n)]) ∧ Four w (moreB U wr w') c g m r f h bad G N L G2 (seeN f h bad L2 N2 u n) L2 (B + 1) w' ∧ Turn U wr w' := by
  obtain ⟨S, T, X, Y, hg, ⟨h1, h2, h3, h4⟩, b1, b2, b3, b4, b5⟩ := d
  have hg' := hg
  obtain ⟨⟨a1, a2, a3, a4, a5, a6⟩, ⟨u1, u2, u3, u4⟩, _⟩ := hg'
  refine (rsee_any Y X r m f h bad G2 N2 L2 u n wr h4 h3 hf hbad b5 (by omega) (by omega) (by omega) hn).mono ?_
  rintro e w' ⟨rfl, hC, ht⟩
  exact ⟨rfl, ⟨S, T, X, _, hg.four ht, ⟨(h1.kept ht (fun j _ hj => a3 j hj)).le (by omega), h2.kept ht (fun j _ hj => a5 j hj), h3.kept ht (fun j _ hj => a6 j hj), hC⟩, by omega, by omega, by have := see_len f h bad L2 N2 u n; omega, by omega, b5⟩, ht.mono fun j _ => u4 j⟩
theorem four_seen (d : Four w U c g m r f h bad G N L G2 N2 L2 B wr) (u : Int) (hu : inI u) :
    Calls Tryd.prog 18 #[.pointer (some ⟨c, 0, none⟩), .int .i64 u] wr fun e w' => e = .returned (.bool (decide (u ∈ N))) ∧ wr = w' := by
  obtain ⟨S, T, X, Y, hg, ⟨h1, h2, h3, h4⟩, _⟩ := d
  exact seen_any S c f G N B u wr h1 hu
theorem four_was (d : Four w U c g m r f h bad G N L G2 N2 L2 B wr) (hB : B ≤ 1000000000) (u : Int) :
    Calls Tryd.prog 19 #[.pointer (some ⟨r, 0, none⟩), .int .i64 u] wr fun e w' => e = .returned (.bool (decide (u ∈ N2))) ∧ wr = w' := by
  obtain ⟨S, T, X, Y, hg, ⟨h1, h2, h3, h4⟩, b1, b2, b3, _⟩ := d
  exact was_any Y r f G2 N2 u wr h4 (by omega)
end
theorem fresh_apart {w1 w2 w3 w4 : World} (h : w2.heap.size ≤ w3.heap.size) : Apart (fresh w1 w2) (fresh w3 w4) := fun j hj hj' => Nat.lt_irrefl _ (Nat.lt_of_lt_of_le hj.2 (Nat.le_trans h hj'.1))
/-- They were made one behind the other. -/
theorem Four.made {w w1 w2 w3 w4 : World} {c g m : Nat} {f h : Int} {bad : Nat} (hb1 : Below w.heap.size w w1) (hS : Sg w2 (fresh w1 w2) g h bad []) (hb2 : Below w1.heap.size w1 w2) (hR : Rs w3 (fresh w2 w3) m h bad []) (hb3 : Below w2.heap.size w2 w3) (hC : Cn w4 (fresh w3 w4) c f [] [] 0) (hb4 : Below w3.heap.size w3 w4) :
    Four w (fresh w1 (w4.alloc (.cells #[.int .i64 f, .slice none 0 0, .slice none 0 0] 40))) c g m w4.heap.size f h bad [] [] [] [] [] [] 0 (w4.alloc (.cells #[.int .i64 f, .slice none 0 0, .slice none 0 0] 40)) := by
  obtain ⟨w5, hw5⟩ : ∃ w5, w5 = w4.alloc (.cells #[.int .i64 f, .slice none 0 0, .slice none 0 0] 40) := ⟨_, rfl⟩
  have hb5 : Below w4.heap.size w4 w5 := by rw [hw5]; exact (Below.refl _ _).alloc (Nat.le_refl _) _
  have s5 : w5.heap.size = w4.heap.size + 1 := by rw [hw5]; simp
  have hD : Rc w5 (fresh w4 w5) w4.heap.size f [] [] := ⟨.slice none 0 0, .slice none 0 0, by rw [hw5]; exact Blk.new _ _ _, World.ownsRow_nil _ _ _ _, World.ownsRow_nil _ _ _ _, ⟨Nat.le_refl _, by omega⟩, by simp [Value.ownBlock], by simp [Value.ownBlock]⟩
  rw [← hw5]
  have s1 := hb1.size
  have s2 := hb2.size
  have s3 := hb3.size
  have s4 := hb4.size
  have hb34 : Below w3.heap.size w3 w5 := nxt hb4 hb5 hb4.size
  have hb24 : Below w2.heap.size w2 w5 := nxt hb3 hb34 hb3.size
  have hb14 : Below w1.heap.size w1 w5 := nxt hb2 hb24 hb2.size
  refine ⟨fresh w3 w4, fresh w1 w2, fresh w2 w3, fresh w4 w5, ⟨⟨(fresh_apart s3).symm, (fresh_apart (Nat.le_refl _)).symm, fresh_apart (Nat.le_refl _), fresh_apart (Nat.le_refl _), fresh_apart (by omega), fresh_apart (by omega)⟩, ⟨fun j hj => ⟨?_, ?_⟩, fun j hj => ⟨?_, ?_⟩, fun j hj => ⟨?_, ?_⟩, fun j hj => ⟨?_, ?_⟩⟩, fun j hj => Nat.le_trans s1 hj.1, In.fresh _ _, nxt hb1 hb14 hb1.size⟩, ⟨hC.below hb5, hS.below hb24, hR.below hb34, hD⟩, by simp, by simp, by simp, by simp, fun y hy => by cases hy⟩
  all_goals
    have ha := hj.1
    have hz := hj.2
    omega
end Go.Proofs.YtjkfogjhakcnfaaDoor
