/-
  A coin and a register side by side, each in its own blocks: what each call tells and leaves; without them; the chapter's example.
-/
import Derived.Test.YtjkfogjhakcnfaaDoorSee
import Derived.Deep.Cut
set_option linter.unusedSimpArgs false
set_option linter.unusedVariables false
namespace Go.Proofs.YtjkfogjhakcnfaaDoor
open Go.RowKit Go.Maps Go.Lib

/-- A coin in c and a register in g, both in blocks of U, and nothing that was there in w has turned. -/
def Duo (w : World) (U : Nat → Prop) (c g : Nat) (f h : Int) (bad : Nat) (G : List (Int × Int)) (N : List Int) (L : List Shr) (m : Nat) (wr : World) : Prop :=
  ∃ S T : Nat → Prop, Cn wr S c f G N m ∧ Sg wr T g h bad L ∧ Apart S T ∧ (∀ j, S j → U j) ∧ (∀ j, T j → U j) ∧ From w.heap.size U ∧ In wr U ∧ Below w.heap.size w wr
/-- A block that is none of U's, and what is new is none of U's either. -/
theorem spare_more {U : Nat → Prop} {w w' : World} {p : Nat} (h : ¬ U p) (hp : p < w.heap.size) : ¬ moreB U w w' p := fun hm => hm.elim h fun hf => by have := hf.1; omega
section
variable {w wr wx : World} {U : Nat → Prop} {c g m : Nat} {f h : Int} {bad : Nat} {G : List (Int × Int)} {N : List Int} {L : List Shr}
theorem Duo.keep (d : Duo w U c g f h bad G N L m wr) (hb : Below wr.heap.size wr wx) : Duo w U c g f h bad G N L m wx := by
  obtain ⟨S, T, h1, h2, h3, h4, h5, h6, h7, h8⟩ := d
  exact ⟨S, T, h1.below hb, h2.below hb, h3, h4, h5, h6, h7.le hb.size, nxt h8 hb h8.size⟩
theorem Duo.below (d : Duo w U c g f h bad G N L m wr) : Below w.heap.size w wr := by obtain ⟨S, T, h1, h2, h3, h4, h5, h6, h7, h8⟩ := d; exact h8
theorem Duo.inU (d : Duo w U c g f h bad G N L m wr) : In wr U := by obtain ⟨S, T, h1, h2, h3, h4, h5, h6, h7, h8⟩ := d; exact h7
theorem Duo.le {m' : Nat} (d : Duo w U c g f h bad G N L m wr) (hm : m ≤ m') : Duo w U c g f h bad G N L m' wr := by
  obtain ⟨S, T, h1, h2⟩ := d
  exact ⟨S, T, h1.le hm, h2⟩
theorem Duo.good (d : Duo w U c g f h bad G N L m wr) : isF f = true ∧ ∀ p ∈ G, inN f p.2 = true := by
  obtain ⟨S, T, ⟨b, D, hb, hm, hf, h1, h2, h3, h4⟩, _⟩ := d
  exact ⟨h3, h4⟩
/-- They were made one behind the other. -/
theorem Duo.made {w1 w2 : World} (hb1 : Below w.heap.size w w1) (hS : Sg w1 (fresh w w1) g h bad L) (hC : Cn w2 (fresh w1 w2) c f G N m) (hb2 : Below w1.heap.size w1 w2) : Duo w (fresh w w2) c g f h bad G N L m w2 :=
  ⟨fresh w1 w2, fresh w w1, hC, hS.below hb2, fun j h h' => Nat.lt_irrefl _ (Nat.lt_of_lt_of_le h'.2 h.1), fun j h => ⟨Nat.le_trans hb1.size h.1, h.2⟩, fun j h => ⟨h.1, Nat.lt_of_lt_of_le h.2 hb2.size⟩, From.fresh _ _, In.fresh _ _, nxt hb1 hb2 hb1.size⟩
/-- The base may lie lower. -/
theorem Duo.base {v : World} (d : Duo w U c g f h bad G N L m wr) (hb : Below v.heap.size v w) : Duo v U c g f h bad G N L m wr := by
  obtain ⟨S, T, h1, h2, h3, h4, h5, h6, h7, h8⟩ := d
  exact ⟨S, T, h1, h2, h3, h4, h5, fun j hj => Nat.le_trans hb.size (h6 j hj), h7, nxt hb h8 hb.size⟩
theorem duo_choose (d : Duo w U c g f h bad G N L m wr) (hm : m ≤ 1000000000) (u k : Int) :
    Calls Tryd.prog 11 #[.pointer (some ⟨c, 0, none⟩), .int .i64 u, .int .i64 k] wr fun e w' => e = .returned (.int .i64 (chooseE f G N u k)) ∧ Duo w (moreB U wr w') c g f h bad (chooseG f G N u k) N L (m + 1) w' ∧ Turn U wr w' := by
  obtain ⟨S, T, h1, h2, h3, h4, h5, h6, h7, h8⟩ := d
  refine (choose_any S c f G N m u k wr h1 hm).mono ?_
  rintro e w' ⟨rfl, hC, ht⟩
  have htU : Turn U wr w' := ht.mono fun j _ => h4 j
  exact ⟨rfl, ⟨S, T, hC, h2.kept ht (fun j _ hj => h3.symm j hj), h3, fun j hj => .inl (h4 j hj), fun j hj => .inl (h5 j hj), h6.more h8.size, h7.more ht.size, nxtT h8 htU h6⟩, htU⟩
theorem duo_see (d : Duo w U c g f h bad G N L m wr) (hm : m ≤ 1000000000) (hbad : bad < 4294967296) (hT : Tab w) (u : Int) (n : Nat) (hn : n < 4294967296) :
    Calls Tryd.prog 13 #[.pointer (some ⟨c, 0, none⟩), .pointer (some ⟨g, 0, none⟩), .int .i64 u, .int .u32 n] wr fun e w' => e = .returned (.tuple #[.int .i64 (seeW f h bad L G u n), .int .i64 (seeE f h bad L u n)]) ∧ Duo w (moreB U wr w') c g f h bad G (seeN f h bad L N u n) L (m + 1) w' ∧ Turn U wr w' := by
  obtain ⟨S, T, h1, h2, h3, h4, h5, h6, h7, h8⟩ := d
  refine (see_any S T c g m f h bad G N L u n wr h1 hm h2 hbad hn (hT.kept h8)).mono ?_
  rintro e w' ⟨rfl, hC, ht⟩
  have htU : Turn U wr w' := ht.mono fun j _ => h4 j
  exact ⟨rfl, ⟨S, T, hC, h2.kept ht (fun j _ hj => h3.symm j hj), h3, fun j hj => .inl (h4 j hj), fun j hj => .inl (h5 j hj), h6.more h8.size, h7.more ht.size, nxtT h8 htU h6⟩, htU⟩
theorem duo_issue (d : Duo w U c g f h bad G N L m wr) (hl : L.length ≤ 1000000000) (x : Shr) (hx : x.wf) :
    Calls Tryd.prog 16 #[.pointer (some ⟨g, 0, none⟩), .agg (shrC x)] wr fun e w' => e = .returned (.int .i64 (repE h x.k)) ∧ Duo w (moreB U wr w') c g f h bad G N (issL h L x) m w' ∧ Turn U wr w' := by
  obtain ⟨S, T, h1, h2, h3, h4, h5, h6, h7, h8⟩ := d
  refine (issue_any T g h bad L x wr h2 hx hl).mono ?_
  rintro e w' ⟨rfl, hS, ht⟩
  have htU : Turn U wr w' := ht.mono fun j _ => h5 j
  have hiT : In wr S := fun j hj => h7 j (h4 j hj)
  exact ⟨rfl, ⟨S, moreB T wr w', h1.kept ht (fun j _ hj => h3 j hj), hS, (h3.symm.more hiT).symm, fun j hj => .inl (h4 j hj), fun j hj => hj.imp (h5 j) id, h6.more h8.size, h7.more ht.size, nxtT h8 htU h6⟩, htU⟩
theorem duo_seen (d : Duo w U c g f h bad G N L m wr) (u : Int) (hu : inI u) :
    Calls Tryd.prog 18 #[.pointer (some ⟨c, 0, none⟩), .int .i64 u] wr fun e w' => e = .returned (.bool (decide (u ∈ N))) ∧ wr = w' := by
  obtain ⟨S, T, h1, h2, h3, h4, h5, h6, h7, h8⟩ := d
  exact seen_any S c f G N m u wr h1 hu
end

/-- The example's shares. -/
def shL : Nat → List Shr
  | 0 => []
  | 1 => [⟨0, coinS 6⟩]
  | _ => [⟨0, coinS 6⟩, ⟨1, coinS 6⟩]
theorem bts_1 : bts 0 1 = [0] := by rw [bts_half, bts_zero]; rfl
theorem bts_3 : bts 0 3 = [0, 1] := by rw [bts_half, bts_half, bts_zero]; rfl
theorem cnt_1 : cnt 1 = 1 := by rw [← bts_length 1 0, bts_1]; rfl
theorem cnt_3 : cnt 3 = 2 := by rw [← bts_length 3 0, bts_3]; rfl
theorem cnt_0 : cnt 0 = 0 := by rw [← bts_length 0 0, bts_zero]; rfl
theorem new_0 : newE 1 0 = 0 := by unfold newE; rw [cnt_0]; rfl
theorem all_3 : allE 1 0 (shL 2) (coinS 6) 3 = 0 := by unfold allE; rw [bts_3]; decide +kernel
theorem all_1 : allE 1 0 (shL 2) (coinS 6) 1 = 0 := by unfold allE; rw [bts_1]; decide +kernel
theorem see_3 : seeE 1 1 0 (shL 2) 6 3 = 0 := by
  unfold seeE enoughE
  rw [all_3, cnt_3]
  rfl
theorem see_1 : seeE 1 1 0 (shL 2) 6 1 = 61 := by
  unfold seeE enoughE
  rw [all_1, cnt_1]
  rfl
theorem iss_sh (k : Nat) (hk : k < 2) : issL 1 (shL k) ⟨(k : Int), coinS 6⟩ = shL (k + 1) ∧ repE 1 (k : Int) = 0 := by
  match k, hk with
  | 0, _ => exact ⟨by decide +kernel, by decide +kernel⟩
  | 1, _ => exact ⟨by decide +kernel, by decide +kernel⟩
theorem six_in : inI 6 := ⟨by omega, by omega⟩
def alivePost (w : World) (e : Ending) (w' : World) : Prop := e = .returned (.bool true) ∧ Below w.heap.size w w'
set_option maxHeartbeats 1000000 in
set_option maxRecDepth 100000 in
theorem alive_any (w : World) (hT : Tab w) : Calls Tryd.prog 6 #[] w (alivePost w) := by
  have hnew := new_ok 1 0 w (by decide) new_0
  have hnc := fun w => newc_ok 1 w (by decide)
  have hiss : ∀ c g k wr U, k < 2 → Duo w U c g 1 1 0 [] [] (shL k) 0 wr → Calls Tryd.prog 16 #[.pointer (some ⟨g, 0, none⟩), .agg (shrC ⟨(k : Int), coinS 6⟩)] wr fun e w' => e = .returned (.int .i64 0) ∧ Duo w (moreB U wr w') c g 1 1 0 [] [] (shL (k + 1)) 0 w' ∧ Turn U wr w' := fun c g k wr U hk d => by
    have h := duo_issue d (by match k, hk with | 0, _ => decide | 1, _ => decide) ⟨(k : Int), coinS 6⟩ ⟨show inI (k : Int) from ⟨by omega, by omega⟩, coinS_wf six_in⟩
    obtain ⟨e1, e2⟩ := iss_sh k hk
    rw [e1, show repE 1 (Shr.mk (k : Int) (coinS 6)).k = 0 from e2] at h
    exact h
  have h3 : ∀ c g wr U, Duo w U c g 1 1 0 [] [] (shL 2) 0 wr → Calls Tryd.prog 13 #[.pointer (some ⟨c, 0, none⟩), .pointer (some ⟨g, 0, none⟩), .int .i64 6, .int .u32 3] wr fun e w' => e = .returned (.tuple #[.int .i64 2, .int .i64 0]) ∧ Duo w (moreB U wr w') c g 1 1 0 [] [6] (shL 2) 1 w' ∧ Turn U wr w' := fun c g wr U d => by
    have h := duo_see d (by decide) (by decide) hT 6 3 (by decide)
    have e1 : seeW 1 1 0 (shL 2) [] 6 3 = 2 := by unfold seeW; rw [see_3]; rfl
    have e2 : seeN 1 1 0 (shL 2) [] 6 3 = [6] := by unfold seeN; rw [see_3]; rfl
    rw [e1, e2, see_3] at h
    exact h
  have h1 : ∀ c g wr U, Duo w U c g 1 1 0 [] [6] (shL 2) 1 wr → Calls Tryd.prog 13 #[.pointer (some ⟨c, 0, none⟩), .pointer (some ⟨g, 0, none⟩), .int .i64 6, .int .u32 1] wr fun e w' => e = .returned (.tuple #[.int .i64 0, .int .i64 61]) ∧ Duo w (moreB U wr w') c g 1 1 0 [] [6] (shL 2) 2 w' ∧ Turn U wr w' := fun c g wr U d => by
    have h := duo_see d (by decide) (by decide) hT 6 1 (by decide)
    have e1 : seeW 1 1 0 (shL 2) [] 6 1 = 0 := by unfold seeW; rw [see_1]; rfl
    have e2 : seeN 1 1 0 (shL 2) [6] 6 1 = [6] := by unfold seeN; rw [see_1]; rfl
    rw [e1, e2, see_1] at h
    exact h
  have h0 : ∀ c g wr U, Duo w U c g 1 1 0 [] [6] (shL 2) 2 wr → Calls Tryd.prog 18 #[.pointer (some ⟨c, 0, none⟩), .int .i64 6] wr fun e w' => e = .returned (.bool true) ∧ wr = w' := fun c g wr U d => duo_seen d 6 six_in
  have HI := Lib.hid hiss
  have HH := Lib.hid (And.intro h3 (And.intro h1 h0))
  have HN := Lib.hid (And.intro hnew hnc)
  clear hiss h3 h1 h0 hT hnew hnc
  go_enter Tryd.func6, Tryd.ntmps6
  go_wp2_with (first
    | (go_at_call 7; refine HN.out.1.mono ?_; rintro e w1 ⟨g, rfl, hS1, hb1⟩)
    | (go_at_call 9; refine (HN.out.2 _).mono ?_; rintro e w2 ⟨c, rfl, hC2, hb2⟩))
  have hD2 : Duo w (fresh w w2) c g 1 1 0 [] [] (shL 0) 0 w2 := Duo.made hb1 hS1 hC2 hb2
  clear hS1 hC2 hb1 hb2
  go_loopw [5] (fun i wr => ∃ (k : Nat) (U : Nat → Prop), i = .int .i64 k ∧ k ≤ 2 ∧ Duo w U c g 1 1 0 [] [] (shL k) 0 wr) (fun i _ => 2 - (intOf i).toNat)
  case atStart => exact ⟨0, _, rfl, by omega, hD2⟩
  case round =>
    obtain ⟨k, U, rfl, hk, hd⟩ := hrel
    by_cases hlt : k < 2
    · have HD := Lib.hid hd
      go_wp2_with (first
        | (go_at_call 15; refine (stmt_any 6 _).mono ?_; rintro e w3 ⟨rfl, hb3⟩)
        | (refine wpList_build rfl _ _ rfl #[(0, .int .i64 (k : Int)), (1, .agg (stmC (coinS 6)))] rfl (build_shr _ (coinS 6) _) ?_)
        | (go_at_call 16; refine (HI.out c g k _ U hlt (HD.out.keep hb3)).mono ?_; rintro e w4 ⟨rfl, hd4, ht4⟩))
      go_roundw
      case rel => exact ⟨k + 1, _, by go_num, by omega, hd4⟩
      case measure => simp [intOf]; omega
    · have hk2 : k = 2 := by omega
      subst hk2
      have HD := Lib.hid hd
      go_wp2_with (first
        | (go_at_call 13; (with_reducible refine (HH.out.1 c g _ _ HD.out).mono ?_); rintro e w5 ⟨rfl, hd5, ht5⟩)
        | (go_at_call 13; (with_reducible refine (HH.out.2.1 c g _ _ hd5).mono ?_); rintro e w6 ⟨rfl, hd6, ht6⟩)
        | (go_at_call 18; (with_reducible refine (HH.out.2.2 c g _ _ hd6).mono ?_); rintro e w7 ⟨rfl, rfl⟩))
      go_ret
      exact ⟨rfl, hd6.below⟩
end Go.Proofs.YtjkfogjhakcnfaaDoor
