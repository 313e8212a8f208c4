/-
  The line of an entry, by the code.
-/
import Derived.Test.YthhjdielananeaaStp
import Derived.Test.YthhjdielananeaaL3Nums
set_option linter.unusedSimpArgs false
set_option linter.unusedVariables false
set_option maxRecDepth 10000
namespace Go.Proofs.Ythhjdielananeaa
open Go.RowKit Go.Lib
open L3 (Blk Reads block_of_add add_of_add)
open L6 (Turn moreB fresh From In)

def enC (x : Ent) : Array Value := #[.int .i64 x.num, .int .i64 x.kind, .string (str x.b)]
def enL (x : Ent) : List Value := [.int .i64 x.num, .int .i64 x.kind, .string (str x.b)]
/-- Its fields fit in. -/
structure Ent.fit (x : Ent) : Prop where
  n : inI x.num
  k : inI x.kind
  b : x.b.length ≤ maxLen
theorem fit_may {x : Ent} (h : mayE x = 0) : x.fit := by
  obtain ⟨h1, h2, h3, h4, h5⟩ := may_ok h
  exact ⟨⟨by omega, by omega⟩, ⟨by omega, by omega⟩, by unfold maxLen; omega⟩
theorem enInfo : (Try.prog.info? 31).map (·.size) = some 3 := by kernel_rfl
theorem enC_ones (x : Ent) : (enC x).all (·.oneCell') = true := by kernel_rfl
/-- A new row, read. -/
theorem row_read (w : World) (cs : Array Value) (t : TypeId) (hn : 0 < cs.size) : Reads (w.alloc (.cells cs t)) (w.alloc (.cells cs t)).heap.size 1 (some ⟨w.heap.size, 0, none⟩) cs.size cs.toList := by
  refine ⟨by simp, fun _ => ⟨_, rfl, by simp, fun j u hj => ?_⟩⟩
  rw [Addr.add_lit, Nat.zero_add, World.cell?_alloc_new]
  simpa using hj
theorem nums_ok {w : World} {A : Option Addr} {n : Nat} (c : Nat) (zs : List Int) (h : Reads w w.heap.size 1 A n (L3.intCells zs)) (hl : n ≤ 10000000) (hz : zs.all L3.okN = true) :
    Calls Try.prog 32 #[.slice A n c] w fun e w' => ∃ A' c', e = .returned (.tuple #[.slice A' (L3.encs zs).length c', .int .i64 0]) ∧ Reads w' w'.heap.size 1 A' (L3.encs zs).length (bcs (L3.encs zs)) ∧ Below w.heap.size w w' := by
  refine (L3.nums_any A n c zs w h hl).mono ?_
  rintro e w' (⟨_, v, rfl, ho⟩ | ⟨h', _⟩)
  · obtain ⟨A', c', rfl, hr, _⟩ := ho.form
    exact ⟨A', c', rfl, hr, ho.2.1⟩
  · rw [hz] at h'; cases h'
def encNN (z q : Int) : List UInt8 := L3.encN z.toNat ++ L3.encN q.toNat
/-- What Line tells. -/
def lineR (x : Ent) : Value := .tuple #[.string (str (if mayE x = 0 then lineE x else [])), .int .i64 (mayE x)]
theorem lineR_no {x : Ent} {n : Int} (h : mayE x = n) (hn : n ≠ 0) : lineR x = .tuple #[.string ⟨#[]⟩, .int .i64 n] := by
  unfold lineR
  rw [h, if_neg hn]
theorem mayE_arg {x : Ent} (h : x.num < 1 ∨ 4611686018427387904 < x.num ∨ x.kind < 1 ∨ 2 < x.kind) : mayE x = 1 := by unfold mayE; rw [if_pos h]
theorem bodyE_len {x : Ent} (h : mayE x = 0) : (bodyE x).length ≤ x.b.length + 18 := by
  obtain ⟨h1, h2, h3, h4, h5⟩ := may_ok h
  have e1 := L3.encN_le9 (n := x.num.toNat) (by omega)
  have e2 := L3.encN_le9 (n := x.kind.toNat) (by omega)
  unfold bodyE
  rw [List.length_append, List.length_append]
  omega
set_option maxHeartbeats 4000000 in
set_option maxRecDepth 100000 in
theorem line_ok (x : Ent) (w : World) (h : mayE x = 0) : Calls Try.prog 13 #[.agg (enC x)] w (gives (.tuple #[.string (str (lineE x)), .int .i64 0]) w) := by
  obtain ⟨h1, h2, h3, h4, h5⟩ := may_ok h
  obtain ⟨z, q, b⟩ := x
  dsimp only at h1 h2 h3 h4 h5
  obtain ⟨w1, hw1⟩ : ∃ w1, w.alloc (.cells (enC ⟨z, q, b⟩) 31) = w1 := ⟨_, rfl⟩
  have hb1 : Below w.heap.size w w1 := by rw [← hw1]; exact below_new _ _
  have hk : Blk w1 w.heap.size 31 (enC ⟨z, q, b⟩) := by rw [← hw1]; exact Blk.new _ _ _
  obtain ⟨p, hp⟩ : ∃ p, p = w.heap.size := ⟨_, rfl⟩
  rw [← hp] at hk
  have HP := Lib.hid hp
  have hcl : ∀ W, Below w1.heap.size w1 W → W.cell? ⟨p, 0, none⟩ = some (.int .i64 z) ∧ W.cell? ⟨p, 1, none⟩ = some (.int .i64 q) ∧ W.cell? ⟨p, 2, none⟩ = some (.string (str b)) := fun W hW => by
    have := hk.below hW hk.lt
    exact ⟨this.cell 0, this.cell 1, this.cell 2⟩
  have hall : [z, q].all L3.okN = true := by simp [L3.okN]; omega
  have hbl := bodyE_len h
  have hel : (L3.encs [z, q]).length ≤ 18 := by have := L3.encs_le [z, q] hall; simpa using this
  have hen : L3.encs [z, q] = encNN z q := by unfold L3.encs encNN; simp
  have HLN := Lib.hid (show dress (L3.encs [z, q]) ++ dress b ++ [0] = lineE ⟨z, q, b⟩ by unfold lineE bodyE; rw [← dress_app, hen]; rfl)
  have HN := Lib.hid (fun W => nums_ok (w := W.alloc (.cells #[.int .i64 z, .int .i64 q] 2)) 2 [z, q] (row_read W #[.int .i64 z, .int .i64 q] 2 (Nat.zero_lt_succ 1)) (of_decide_eq_true rfl) hall)
  obtain ⟨E, hE⟩ : ∃ E, E = L3.encs [z, q] := ⟨_, rfl⟩
  rw [← hE] at HLN hel HN
  obtain ⟨s, hs⟩ : ∃ s, s = str b := ⟨_, rfl⟩
  have hsn : s.size = b.length := by rw [hs, str_size]
  have HD2 := Lib.hid (fun W => dress_any b W (by omega))
  have HD1 := Lib.hid (fun W => dress_any E W (by omega))
  rw [← hs] at hcl HD2
  obtain ⟨c0, c1, c2⟩ := hcl w1 (Below.refl _ _)
  have HC := Lib.hid hcl
  have g1 : ¬ z < 1 := by omega
  have g2 : ¬ 4611686018427387904 < z := by omega
  have g3 : ¬ 4194304 < (s.size : Int) := by omega
  have hq : q = 1 ∨ q = 2 := by omega
  have HB1 := Lib.hid hb1
  have hdE := (dress_len E).2
  have hdb := (dress_len b).2
  have HLE := Lib.hid (show (dress E).length ≤ 36 ∧ (dress b).length ≤ 8388608 from ⟨by omega, by omega⟩)
  clear h hcl hall hbl hen hE hs hsn hp hk hb1 h1 h2 h3 h4 h5 hel hdE hdb
  rcases hq with rfl | rfl
  all_goals
    go_enter Try.func13, Try.ntmps13
    go_upto_region 1 with fail
    rw [← HP.out]
    clear hw1
    go_upto_region 5 with fail
    clear g1 g2 g3
    go_upto_region 6 with (first
      | (go_at_call 32; refine (HN.out _).mono ?_; rintro e w3 ⟨A3, c3, rfl, hr3, hb3⟩)
      | go_in)
    have hb3' : Below w1.heap.size w1 w3 := nxt (below_new _ _) hb3
    have hfr := Bd.fresh w3
    have hb4 := below_new w3 (.cells #[.pointer none, .slice none 0 0] 69)
    obtain ⟨w4, hw4⟩ : ∃ w4, w3.alloc (.cells #[.pointer none, .slice none 0 0] 69) = w4 := ⟨_, rfl⟩
    rw [hw4] at hfr hb4
    obtain ⟨G, hG⟩ : ∃ G, G = w3.heap.size := ⟨_, rfl⟩
    rw [← hG] at hfr
    have HG := Lib.hid hG
    have hcv : (convert 53 9 (.slice A3 E.length c3)).run Try.prog w4 = .ok (.string (str E)) w4 := by
      have := conv_reads (k := E.length) (c := c3) (hr3.below hb4) (Nat.le_refl _)
      rw [List.take_length] at this
      exact this
    have hGw4 : G ≤ w4.heap.size := by have := hb4.size; omega
    have HB4 := Lib.hid (nxt hb3' hb4)
    have HGL := Lib.hid (show w1.heap.size ≤ G by have := hb3'.size; omega)
    clear hr3 hb3 hb3' hb4 hG c0 c1 c2
    go_upto_region 7 with fail
    rw [← HG.out]
    clear hw4
    go_upto_region 8 with (first
      | (go_at_call 9; refine (HD1.out _).mono ?_; unfold gives; rintro e w5 ⟨rfl, hb5⟩; have hbd5 := hfr.below hb5; have hG5 := Nat.le_trans hGw4 hb5.size)
      | (go_at_call 33; refine (bwrite_any G G [] (dress E) _ hbd5 (by have := HLE.out; simp; omega) hG5).mono ?_; rintro e w6 ⟨rfl, hbd6, hk6⟩)
      | go_in)
    have hbw6 : Below w1.heap.size w1 w6 := (nxt HB4.out hb5).trans (hk6.1.mono HGL.out)
    have hG6 := Nat.le_trans hG5 hk6.1.size
    obtain ⟨-, -, c2⟩ := HC.out _ hbw6
    rw [List.nil_append] at hbd6
    clear hfr hcv hb5 hk6 hbd5
    go_upto_region 9 with (first
      | (go_at_call 9; refine (HD2.out _).mono ?_; unfold gives; rintro e w7 ⟨rfl, hb7⟩; have hbd7 := hbd6.below hb7; have hG7 := Nat.le_trans hG6 hb7.size)
      | (go_at_call 33; refine (bwrite_any G G (dress E) (dress b) _ hbd7 (by have := HLE.out; omega) hG7).mono ?_; rintro e w8 ⟨rfl, hbd8, hk8⟩)
      | go_in)
    have hG8 := Nat.le_trans hG7 hk8.1.size
    have HW8 := Lib.hid ((nxt hbw6 hb7).trans (hk8.1.mono HGL.out))
    obtain ⟨D, hD⟩ : ∃ D, D = dress E ++ dress b := ⟨_, rfl⟩
    have hDl : D.length ≤ 9000000 := by rw [hD, List.length_append]; have := HLE.out; omega
    rw [← hD] at hbd8 HLN
    clear hD hbd7 hb7 hk8 hbd6 hbw6 c2
    go_wp2_with (first
      | (go_at_call 30; refine (byte_any G G D 0 _ (by rfl) _ hbd8 (by omega) hG8).mono ?_; rintro e w9 ⟨rfl, hbd9, hk9⟩; have hG9 := Nat.le_trans hG8 hk9.1.size)
      | (go_at_call 31; refine (string_any G G (D ++ [0]) _ hbd9 hG9).mono ?_; rintro e w10 ⟨rfl, hb10⟩)
      | go_in)
    go_ret2
    rw [HLN.out]
    refine ⟨rfl, (HB1.out).trans ?_⟩
    have h9 : Below w1.heap.size w1 w10 := (HW8.out.trans (hk9.1.mono HGL.out)).trans (hb10.mono HGL.out)
    exact h9.mono HB1.out.size
end Go.Proofs.Ythhjdielananeaa
