/-
  Texts of one layer in one: RefTwo, RefTimes.
-/
import Derived.Test.YtgmejaiifibfoaaGreatDoorTwoM

/-
  Two of the document's messages: their boxes.
-/
set_option linter.unusedSimpArgs false
set_option linter.unusedVariables false
set_option maxRecDepth 10000
namespace Go.Proofs.YtgmejaiifibfoaaGreatDoor
open Go.RowKit Go.Maps Go.Lib
open L3 (Blk Reads)
open L11 (Crt zeroC crtL crtC mayV okW crtInfo crtC_ones eqlC neqC wpList_binop)

/-- Two messages' boxes, their lists. -/
structure TwoR (w : World) (a b : Mes) (P Q T P' Q' T' : Value) (W : World) : Prop where
  ba : Blk W w.heap.size 34 (mesC a P Q T)
  bb : Blk W (w.heap.size + 1) 34 (mesC b P' Q' T')
  la : LiesM W a P Q T
  lb : LiesM W b P' Q' T'
  bw : Below w.heap.size w W
section
variable {w W W' : World} {a b : Mes} {P Q T P' Q' T' : Value}
theorem TwoR.below (h : TwoR w a b P Q T P' Q' T' W) (hb : Below W.heap.size W W') : TwoR w a b P Q T P' Q' T' W' :=
  ⟨h.ba.below hb h.ba.lt, h.bb.below hb h.bb.lt, h.la.below hb, h.lb.below hb, nxt h.bw hb⟩
theorem twoR_mk (la : LiesM w a P Q T) (lb : LiesM w b P' Q' T') :
    TwoR w a b P Q T P' Q' T' ((w.alloc (.cells (mesC a P Q T) 34)).alloc (.cells (mesC b P' Q' T') 34)) := by
  have hb := below_new w (.cells (mesC a P Q T) 34)
  have hb2 := hb.alloc hb.size (.cells (mesC b P' Q' T') 34)
  refine ⟨(mes_new _ _ _ _ _ _).alloc _, ?_, la.below hb2, lb.below hb2, hb2⟩
  have := mes_new (w.alloc (.cells (mesC a P Q T) 34)) 34 b P' Q' T'
  simpa using this
end
theorem ne_d {x y : Int} {r : Bool} (s : Bool) (h : decide (x = y) = r) (hs : s = !r) : (x != y) = s := by rw [hs, ← h]; rfl
theorem ne_u {x y : Nat} {r : Bool} (s : Bool) (h : decide (x = y) = r) (hs : s = !r) : ((x : Int) != (y : Int)) = s := by
  rw [hs]; exact (beq_u h).2
/-- The order in which the document compares. -/
def refO : Nat → Nat
  | 7 => 9
  | 9 => 7
  | k => k
theorem refO_ways (d : Nat → Bool) : (∃ i, i < 10 ∧ (∀ j, j < i → d (refO j) = true) ∧ d (refO i) = false) ∨ (∀ j, j < 10 → d j = true) := by
  rcases ten_ways (fun k => d (refO k)) with h | h
  · exact .inl h
  · refine .inr (fun j hj => ?_)
    obtain rfl | rfl | rfl | rfl | rfl | rfl | rfl | rfl | rfl | rfl : j = 0 ∨ j = 1 ∨ j = 2 ∨ j = 3 ∨ j = 4 ∨ j = 5 ∨ j = 6 ∨ j = 7 ∨ j = 8 ∨ j = 9 := by omega
    · exact h 0 (by omega)
    · exact h 1 (by omega)
    · exact h 2 (by omega)
    · exact h 3 (by omega)
    · exact h 4 (by omega)
    · exact h 5 (by omega)
    · exact h 6 (by omega)
    · exact h 9 (by omega)
    · exact h 8 (by omega)
    · exact h 7 (by omega)
end Go.Proofs.YtgmejaiifibfoaaGreatDoor

/-
  Two lists of timeouts: are they the same, by the document.
-/
set_option linter.unusedSimpArgs false
set_option linter.unusedVariables false
set_option maxRecDepth 10000
namespace Go.Proofs.YtgmejaiifibfoaaGreatDoor
open Go.RowKit Go.Maps Go.Lib
open L3 (Blk Reads)
open L11 (Crt zeroC crtL crtC mayV okW crtInfo crtC_ones eqlC neqC wpList_binop)

theorem rd_at {α : Type} {f : α → List Value} {k : Nat} {w : World} {ad : Addr} {L : List α} (h : Rd f k w (some ad) L) {i : Nat} (hi : i < L.length) : ∀ j u, (f L[i])[j]? = some u → w.cell? ((ad.add (i * k)).add j) = some u := by
  obtain ⟨ad2, e, _, hc⟩ := h i hi
  injection e with e
  subst e
  exact hc
theorem times_eq {L M : List Tmo} (hn : L.length = M.length) : (L = M) ↔ ∀ k, k < L.length → L[k]! = M[k]! := by
  constructor
  · rintro rfl k hk; rfl
  · intro h
    apply List.ext_getElem hn
    intro i h1 h2
    have := h i h1
    rwa [getElem!_pos L i h1, getElem!_pos M i h2] at this
set_option maxHeartbeats 2000000 in
set_option maxRecDepth 100000 in
theorem times_len (A : Option Addr) (n c : Nat) (B : Option Addr) (m d : Nat) (w : World) (h : n ≠ m) (hn : n ≤ 100000) (hm : m ≤ 100000) :
    Calls Tryz.prog 36 #[.slice A n c, .slice B m d] w (gives (.bool false) w) := by
  have q : ((n : Int) != (m : Int)) = true := by rw [bne_iff_ne]; omega
  go_enter Tryz.func36, Tryz.ntmps36
  go_wp2
  go_ret
  exact ⟨rfl, Below.refl _ _⟩
set_option maxHeartbeats 4000000 in
set_option maxRecDepth 100000 in
theorem times_any (A : Option Addr) (c : Nat) (L : List Tmo) (B : Option Addr) (d : Nat) (M : List Tmo) (w : World) (hl : ∀ t ∈ L, t.wf) (hm : ∀ t ∈ M, t.wf) (hr : Rd tmL 10 w A L) (hs : Rd tmL 10 w B M) (hn : L.length ≤ 100000) (hn2 : M.length ≤ 100000) :
    Calls Tryz.prog 36 #[.slice A L.length c, .slice B M.length d] w (gives (.bool (decide (L = M))) w) := by
  by_cases h : L.length = M.length
  case neg =>
    have e : decide (L = M) = false := decide_eq_false (fun e => h (by rw [e]))
    rw [e]
    exact times_len A _ c B _ d w h hn hn2
  obtain ⟨n, hN⟩ : ∃ n, n = L.length := ⟨_, rfl⟩
  have hN2 : n = M.length := hN.trans h
  rw [← hN, ← hN2]
  obtain ⟨b, hb⟩ : ∃ b, b = decide (L = M) := ⟨_, rfl⟩
  rw [← hb]
  have HB := Lib.hid hb
  have HN := Lib.hid (And.intro hN hN2)
  have HL := Lib.hid (And.intro hl hm)
  have HR := Lib.hid (And.intro hr hs)
  have hn' : n ≤ 100000 := by omega
  have q : ((n : Int) != (n : Int)) = false := by simp
  clear hb hN hN2 hl hm hr hs hn hn2 h
  go_enter Tryz.func36, Tryz.ntmps36
  go_wp2
  go_loopw [5] (fun i wr => ∃ k : Nat, i = .int .i64 k ∧ k ≤ n ∧ Hid (∀ j, j < k → L[j]! = M[j]!) ∧ Below w.heap.size w wr) (fun i _ => n - (RowKit.intOf i).toNat)
  case atStart => exact ⟨0, rfl, Nat.zero_le _, Lib.hid (fun j hj => by omega), Below.refl _ _⟩
  case round =>
    obtain ⟨k, rfl, hk, hz, hb⟩ := hrel
    by_cases hlt : k < n
    · have hkL : k < L.length := by have := HN.out; omega
      have hkM : k < M.length := by have := HN.out; omega
      obtain ⟨ad, rfl, u1, u2⟩ := HR.out.1 k hkL
      obtain ⟨ad2, rfl, u3, u4⟩ := HR.out.2 k hkM
      have hx := HL.out.1 _ (List.getElem_mem hkL)
      have hy := HL.out.2 _ (List.getElem_mem hkM)
      have hbx : L[k]! = L[k] := getElem!_pos L k hkL
      have hby : M[k]! = M[k] := getElem!_pos M k hkM
      have HX : Hid (∀ z : WorldIn (Below w.heap.size w), ∀ j u, (tmL L[k])[j]? = some u → z.w.cell? ((ad.add (k * 10)).add j) = some u) := Lib.hid (fun z => rd_at (HR.out.1.below z.h) hkL)
      have HY : Hid (∀ z : WorldIn (Below w.heap.size w), ∀ j u, (tmL M[k])[j]? = some u → z.w.cell? ((ad2.add (k * 10)).add j) = some u) := Lib.hid (fun z => rd_at (HR.out.2.below z.h) hkM)
      obtain ⟨x, hxe⟩ : ∃ x, x = L[k] := ⟨_, rfl⟩
      obtain ⟨y, hye⟩ : ∃ y, y = M[k] := ⟨_, rfl⟩
      rw [← hxe] at hx hbx HX
      rw [← hye] at hy hby HY
      have hne := fun W => neqT hx hy W
      obtain ⟨r, hr⟩ : ∃ r, r = decide (x = y) := ⟨_, rfl⟩
      rw [← hr] at hne
      have HNE := Lib.hid hne
      have HXY := Lib.hid (And.intro hbx (And.intro hby hr))
      have HK := Lib.hid hkL
      have hD : Below w.heap.size w wr.drew := hb.drew
      clear hx hy hbx hby hxe hye hne hr u1 u2 u3 u4 hkL hkM
      go_upto_region 6 with fail
      have ne : Nonempty (WorldIn (Below w.heap.size w)) := ⟨⟨_, hD⟩⟩
      refine wp_region_S (Below w.heap.size w) (by kernel_rfl) (by kernel_rfl) hD ?_
      clear hD
      cases r
      · iterate 9 (first
          | (refine wpQuiet_cells rfl _ _ rfl (ad.add (k * 10)) rfl (tmL x) _ HX.out Tryz.underlying26 rfl tmInfo ?_
             conv => arg 6; simp only [Act.put, List.setIfInBounds_toArray, List.set_cons_zero, List.set_cons_succ])
          | (refine wpQuiet_cells rfl _ _ rfl (ad2.add (k * 10)) rfl (tmL y) _ HY.out Tryz.underlying26 rfl tmInfo ?_
             conv => arg 6; simp only [Act.put, List.setIfInBounds_toArray, List.set_cons_zero, List.set_cons_succ])
          | (refine wpQuiet_binop rfl _ _ _ _ _ rfl (tmC x) (tmC y) rfl rfl (by kernel_rfl) (v := .bool true) (fun W => by rw [HNE.out W]; rfl) ?_
             conv => arg 6; simp only [Act.put, List.setIfInBounds_toArray, List.set_cons_zero, List.set_cons_succ])
          | go_big_quiet_step (fail))
        refine wpQuiet_nil ?_
        intro z
        obtain ⟨W, hW⟩ := z
        dsimp only
        clear ne
        have E : Hid (b = false) := Lib.hid (by
          rw [HB.out]
          refine decide_eq_false (fun e => ?_)
          have := (times_eq (HN.out.1.symm.trans HN.out.2)).1 e k HK.out
          rw [HXY.out.1, HXY.out.2.1] at this
          exact absurd this (of_decide_eq_false HXY.out.2.2.symm))
        go_wp2
        go_ret
        exact ⟨by rw [E.out]; rfl, hW⟩
      · iterate 9 (first
          | (refine wpQuiet_cells rfl _ _ rfl (ad.add (k * 10)) rfl (tmL x) _ HX.out Tryz.underlying26 rfl tmInfo ?_
             conv => arg 6; simp only [Act.put, List.setIfInBounds_toArray, List.set_cons_zero, List.set_cons_succ])
          | (refine wpQuiet_cells rfl _ _ rfl (ad2.add (k * 10)) rfl (tmL y) _ HY.out Tryz.underlying26 rfl tmInfo ?_
             conv => arg 6; simp only [Act.put, List.setIfInBounds_toArray, List.set_cons_zero, List.set_cons_succ])
          | (refine wpQuiet_binop rfl _ _ _ _ _ rfl (tmC x) (tmC y) rfl rfl (by kernel_rfl) (v := .bool false) (fun W => by rw [HNE.out W]; rfl) ?_
             conv => arg 6; simp only [Act.put, List.setIfInBounds_toArray, List.set_cons_zero, List.set_cons_succ])
          | go_big_quiet_step (fail))
        refine wpQuiet_nil ?_
        intro z
        obtain ⟨W, hW⟩ := z
        dsimp only
        clear ne
        go_wp2
        go_roundw
        case rel =>
          refine ⟨k + 1, by go_num, by omega, Lib.hid (fun j hj => ?_), hW⟩
          rcases Nat.lt_or_ge j k with hjk | hjk
          · exact hz.out j hjk
          · obtain rfl : j = k := by omega
            rw [HXY.out.1, HXY.out.2.1]
            exact of_decide_eq_true HXY.out.2.2.symm
        case measure => simp [RowKit.intOf]; omega
    · have E : Hid (b = true) := Lib.hid (by
        rw [HB.out]
        exact decide_eq_true ((times_eq (HN.out.1.symm.trans HN.out.2)).2 (fun j hj => hz.out j (by have := HN.out; omega))))
      clear hz
      go_wp2_with fail
      go_ret
      exact ⟨by rw [E.out]; rfl, hb⟩
end Go.Proofs.YtgmejaiifibfoaaGreatDoor
