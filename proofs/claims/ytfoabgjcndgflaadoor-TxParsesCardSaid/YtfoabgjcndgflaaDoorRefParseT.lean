/-
  The transaction of words, by the document's answer.
-/
import Derived.Test.YtfoabgjcndgflaaDoorRefWordT
import Derived.Test.YtfoabgjcndgflaaDoorRefCheckT
import Derived.Test.YtfoabgjcndgflaaDoorParseT
import Derived.Deep.DeepCutAuto
set_option linter.unusedSimpArgs false
set_option linter.unusedVariables false
namespace Go.Proofs.YtfoabgjcndgflaaDoor
open Go.RowKit Go.Lib

/-- Six texts, some of them laid. -/
def arrL (d : List (List UInt8)) : List Value := svs d ++ List.replicate (6 - d.length) (.string ⟨#[]⟩)
def arrC (d : List (List UInt8)) : Array Value := (arrL d).toArray
theorem arr_set (d : List (List UInt8)) (a : List UInt8) (h : d.length < 6) : (arrC d).setIfInBounds d.length (sv a) = arrC (d ++ [a]) := by
  unfold arrC arrL
  rw [List.setIfInBounds_toArray]
  congr 1
  obtain ⟨k, hk⟩ : ∃ k, 6 - d.length = k + 1 := ⟨5 - d.length, by omega⟩
  have hl : (svs d).length = d.length := by simp [svs]
  rw [svs_snoc, hk, List.length_append, List.length_singleton, show 6 - (d.length + 1) = k by omega, List.replicate_succ, ← hl, List.set_append_right _ _ (Nat.le_refl _), Nat.sub_self]
  simp
theorem arr_at (d : List (List UInt8)) (h : d.length < 6) : (arrC d)[d.length]? = some (.string ⟨#[]⟩) := by
  unfold arrC arrL
  obtain ⟨k, hk⟩ : ∃ k, 6 - d.length = k + 1 := ⟨5 - d.length, by omega⟩
  have hl : (svs d).length = d.length := by simp [svs]
  rw [hk, List.replicate_succ]
  simp [hl]
theorem arr_zero : arrC [] = #[.string ⟨#[]⟩, .string ⟨#[]⟩, .string ⟨#[]⟩, .string ⟨#[]⟩, .string ⟨#[]⟩, .string ⟨#[]⟩] := rfl
/-- What holds of the world while words are read. -/
def RefAt (w : World) (d : List (List UInt8)) (W : World) : Prop :=
  L3.Blk W w.heap.size 23 (txC zeroX) ∧ L3.Blk W (w.heap.size + 1) 58 (arrC d) ∧ Below w.heap.size w W
theorem RefAt.below {w W W' : World} {d : List (List UInt8)} (h : RefAt w d W) (hb : Below W.heap.size W W') : RefAt w d W' := ⟨h.1.below hb h.1.lt, h.2.1.below hb h.2.1.lt, nxt h.2.2 hb⟩
theorem RefAt.put {w W : World} {d : List (List UInt8)} (h : RefAt w d W) (hd : d.length < 6) (a : List UInt8) : RefAt w (d ++ [a]) (W.setCell ⟨w.heap.size + 1, d.length, none⟩ (.string (str a))) := by
  refine ⟨h.1.far (by simp) _, ?_, h.2.2.setCell (p := ⟨w.heap.size + 1, d.length, none⟩) (Nat.le_succ _) _⟩
  rw [← arr_set d a hd]
  exact h.2.1.set_ d.length (sv a)
/-- What was read so far, and what is left to read. -/
def Left (l : List UInt8) (d : List (List UInt8)) (cur : List UInt8) : Prop := d.length ≤ 6 ∧ (cur.length ≤ l.length ∧ ∀ x ∈ d, x.length ≤ l.length) ∧ cuts 6 l = (cuts (6 - d.length) cur).map fun q => (d ++ q.1, q.2)
theorem Left.nil (l : List UInt8) : Left l [] l := by
  refine ⟨Nat.zero_le _, ⟨Nat.le_refl _, fun x hx => by cases hx⟩, ?_⟩
  simp
theorem Left.next {l : List UInt8} {d : List (List UInt8)} {cur a r : List UInt8} (h : Left l d cur) (h6 : d.length < 6) (hc : cutW cur = some (a, r)) : Left l (d ++ [a]) r := by
  obtain ⟨h1, h2, h3⟩ := h
  have hl := cutW_len cur a r hc
  refine ⟨by simp; omega, ⟨by omega, fun x hx => ?_⟩, ?_⟩
  · rcases List.mem_append.1 hx with hx | hx
    · exact h2.2 x hx
    · simp at hx; rw [hx]; omega
  obtain ⟨k, hk⟩ : ∃ k, 6 - d.length = k + 1 := ⟨5 - d.length, by omega⟩
  rw [h3, hk, List.length_append, List.length_singleton, show 6 - (d.length + 1) = k by omega, cuts, hc]
  simp only [Option.map_map]
  congr 1
  funext q
  simp [Function.comp]
theorem Left.none_ {l : List UInt8} {d : List (List UInt8)} {cur : List UInt8} (h : Left l d cur) (h6 : d.length < 6) (hc : cutW cur = none) : parseT l = none := by
  obtain ⟨k, hk⟩ : ∃ k, 6 - d.length = k + 1 := ⟨5 - d.length, by omega⟩
  unfold parseT
  rw [h.2.2, hk, cuts, hc]
  rfl
theorem Left.all {l : List UInt8} {d : List (List UInt8)} {cur : List UInt8} (h : Left l d cur) (h6 : d.length = 6) : parseT l = formT d cur := by
  unfold parseT
  rw [h.2.2, h6]
  simp [cuts]
/-- What the document's Parse hands back. -/
def outR (o : Option Txx) : Value := .tuple #[.agg (txC (o.getD zeroX)), .bool o.isSome]
theorem six_of {L : List (List UInt8)} (h : L.length = 6) : ∃ a0 a1 a2 a3 a4 a5, L = [a0, a1, a2, a3, a4, a5] := by
  match L, h with
  | [a0, a1, a2, a3, a4, a5], _ => exact ⟨_, _, _, _, _, _, rfl⟩
theorem RefAt.far {w W : World} {d : List (List UInt8)} (h : RefAt w d W) {G i : Nat} (hG : w.heap.size + 1 < G) (u : Value) : RefAt w d (W.setCell ⟨G, i, none⟩ u) :=
  ⟨h.1.far (by show w.heap.size ≠ G; omega) u, h.2.1.far (by show w.heap.size + 1 ≠ G; omega) u, h.2.2.setCell (p := ⟨G, i, none⟩) (by show w.heap.size ≤ G; omega) u⟩
/-- .. with a transaction in a block of its own. -/
def ResAt (w : World) (d : List (List UInt8)) (G : Nat) (t : Txx) (W : World) : Prop := RefAt w d W ∧ L3.Blk W G 23 (txC t) ∧ w.heap.size + 1 < G
theorem ResAt.below {w W W' : World} {d : List (List UInt8)} {G : Nat} {t : Txx} (h : ResAt w d G t W) (hb : Below W.heap.size W W') : ResAt w d G t W' := ⟨h.1.below hb, h.2.1.below hb h.2.1.lt, h.2.2⟩
theorem ResAt.set_ {w W : World} {d : List (List UInt8)} {G : Nat} {t : Txx} (h : ResAt w d G t W) (i : Nat) (u : Value) (t' : Txx) (he : (txC t).setIfInBounds i u = txC t') : ResAt w d G t' (W.setCell ⟨G, i, none⟩ u) := by
  refine ⟨h.1.far h.2.2 u, ?_, h.2.2⟩
  rw [← he]
  exact h.2.1.set_ i u
theorem build_two (n : Int) (a : List UInt8) (w : World) : (Instr.build 23 #[(6, .int .i64 n), (1, .string (str a))]).run Tryd.prog w = .ok (.agg (txC ⟨0, a, [], [], [], 0, n⟩)) w := run_build w _ _ _ (by kernel_rfl)
theorem extract_last (a : List UInt8) (m : Nat) (h : a.length = m + 1) : (str a).extract 0 m = str a.dropLast := by
  rw [extract_seg, List.dropLast_eq_take, h]
  unfold seg
  simp
theorem last_at (a : List UInt8) (m : Nat) (h : a.length = m + 1) (s : ByteArray) (hs : s = str a) (hm : m < s.size) : a.getLast? = some s[m] := by
  subst hs
  have hne : a ≠ [] := fun e => by rw [e] at h; simp at h
  rw [List.getLast?_eq_some_getLast hne, List.getLast_eq_getElem hne]
  congr 1
  have : a.length - 1 = m := by omega
  simp only [this]
  rfl
set_option maxHeartbeats 4000000 in
set_option maxRecDepth 100000 in
theorem refparse_any (l : List UInt8) (w : World) (hl : l.length ≤ 1000000) : Calls Tryd.prog 15 #[.string (str l)] w (gives (outR (parseT l)) w) := by
  go_enter Tryd.func15, Tryd.ntmps15
  go_upto_region 2 with fail
  refine name_world (fun w1 hw1 => ?_)
  have hA : RefAt w [] w1 := by
    rw [hw1]
    have e1 : (w.alloc (.cells (txC zeroX) 23)).heap.size = w.heap.size + 1 := by simp
    have hb1 : Below w.heap.size w (w.alloc (.cells (txC zeroX) 23)) := below_box _ zeroX
    refine ⟨(box_new w _ zeroX).alloc _, ?_, hb1.alloc hb1.size _⟩
    have := L3.Blk.new (w.alloc (.cells (txC zeroX) 23)) 58 (arrC [])
    rw [e1] at this
    exact this
  clear hw1
  go_wp2
  go_loopw [0, 5] (fun s i wr => ∃ (d : List (List UInt8)) (cur : List UInt8), s = .string (str cur) ∧ i = .int .i64 d.length ∧ Hid (Left l d cur) ∧ RefAt w d wr) (fun _ i _ => 6 - (RowKit.intOf i).toNat)
  case atStart => exact ⟨[], l, rfl, rfl, Lib.hid (Left.nil l), hA⟩
  case round =>
    clear hA
    obtain ⟨d, cur, rfl, rfl, hL, hR⟩ := hrel
    have hd6 := hL.out.1
    have hcl : cur.length ≤ 1000000 := Nat.le_trans hL.out.2.1.1 hl
    by_cases h6 : d.length < 6
    · have i0 : (0 : Int) ≤ (d.length : Int) := by omega
      have i1 : (d.length : Int) < 6 := by omega
      have hw := fun W => word_any cur W hcl
      cases hc : cutW cur with
      | none =>
        rw [hc] at hw
        have HX := Lib.hid (hL.out.none_ h6 hc)
        have HW := Lib.hid hw
        clear hw hc
        go_wp2_with (first
          | (go_at_call 35; refine (HW.out _).mono ?_; unfold gives wordP; rintro e w2 ⟨rfl, hb2⟩; have hR2 := hR.below hb2)
          | (refine wpList_build rfl _ _ rfl #[] rfl (build_zero _) ?_)
          | (refine wpList_store_row rfl _ _ _ rfl w.heap.size (txC zeroX) rfl rfl _ _ hR2.1 (by kernel_rfl) rfl (txC_ones _) ?_))
        (try simp only [Exit.inBlock, Exit.then])
        refine bodyPost_ret (v := .tuple #[.agg (txC zeroX), .bool false]) (results_row2 rfl _ _ w.heap.size rfl (.bool false) rfl _ (txC zeroX) _ _ (blk_setRow hR2.1) Tryd.underlying23 rfl (by kernel_rfl)) rfl ?_
        exact ⟨by rw [HX.out]; rfl, below_setRow hR2.2.2 (Nat.le_refl _)⟩
      | some p =>
        obtain ⟨a, r⟩ := p
        rw [hc] at hw
        have HX := Lib.hid (hL.out.next h6 hc)
        have HW := Lib.hid hw
        clear hw hc
        go_wp2_with (first
          | (go_at_call 35; refine (HW.out _).mono ?_; unfold gives wordP; rintro e w2 ⟨rfl, hb2⟩; have hR2 := hR.below hb2; have f2 := hR2.2.1.frozen d.length; have b2 : w2.cell? ⟨w.heap.size + 1, d.length, none⟩ = some (.string ⟨#[]⟩) := (hR2.2.1.cell d.length).trans (arr_at d h6)))
        go_roundw
        case rel => exact ⟨d ++ [a], r, rfl, by rw [List.length_append, List.length_singleton]; go_num, HX, hR2.put h6 a⟩
        case measure => simp [RowKit.intOf]; omega
    · have h6' : d.length = 6 := by omega
      have HL := Lib.hid (hL.out.all h6')
      have hlen : ∀ x ∈ d, x.length ≤ 1000000 := fun x hx => Nat.le_trans (hL.out.2.1.2 x hx) hl
      obtain ⟨a0, a1, a2, a3, a4, a5, rfl⟩ := six_of h6'
      have i6 : (([a0, a1, a2, a3, a4, a5] : List (List UInt8)).length : Int) = 6 := rfl
      have q0 : wr.cell? ⟨w.heap.size + 1, 0, none⟩ = some (.string (str a0)) := hR.2.1.cell 0
      have q1 : wr.cell? ⟨w.heap.size + 1, 1, none⟩ = some (.string (str a1)) := hR.2.1.cell 1
      have q2 : wr.cell? ⟨w.heap.size + 1, 2, none⟩ = some (.string (str a2)) := hR.2.1.cell 2
      have q3 : wr.cell? ⟨w.heap.size + 1, 3, none⟩ = some (.string (str a3)) := hR.2.1.cell 3
      have q4 : wr.cell? ⟨w.heap.size + 1, 4, none⟩ = some (.string (str a4)) := hR.2.1.cell 4
      have q5 : wr.cell? ⟨w.heap.size + 1, 5, none⟩ = some (.string (str a5)) := hR.2.1.cell 5
      clear hL hd6 h6 h6'
      have hF : parseT l = if a1.length < 2 ∨ a1.getLast? ≠ some 58 ∨ a5 ≠ wTo then none else if L1.readE a1.dropLast 1 top62 ≠ 0 then none
          else if a0 = wMove ∧ a3 = wGives then (if L1.readE a4 1 top62 ≠ 0 then none else rightO ⟨1, a2, cur, [], [], numW a4, numW a1.dropLast⟩)
          else if a0 = wPut ∧ a3 = wSets then rightO ⟨2, a2, [], a4, cur, 0, numW a1.dropLast⟩ else none := HL.out
      have l1 := hlen a1 (by simp)
      have l2 := hlen a2 (by simp)
      have l4 := hlen a4 (by simp)
      have hz1 := str_size a1
      obtain ⟨s1, hs1⟩ : ∃ s, s = str a1 := ⟨_, rfl⟩
      rw [← hs1] at hz1 q1
      have HS1 := Lib.hid hs1
      clear hs1 hlen HL
      by_cases hA2 : a1.length < 2
      · rw [if_pos (.inl hA2)] at hF
        have HX := Lib.hid hF
        have i2 : (a1.length : Int) < 2 := by omega
        clear hF hA2
        go_wp2_with (first
          | (refine wpList_build rfl _ _ rfl #[] rfl (build_zero _) ?_)
          | (refine wpList_store_row rfl _ _ _ rfl w.heap.size (txC zeroX) rfl rfl _ _ hR.1 (by kernel_rfl) rfl (txC_ones _) ?_))
        (try simp only [Exit.inBlock, Exit.then])
        refine bodyPost_ret (v := .tuple #[.agg (txC zeroX), .bool false]) (results_row2 rfl _ _ w.heap.size rfl (.bool false) rfl _ (txC zeroX) _ _ (blk_setRow hR.1) Tryd.underlying23 rfl (by kernel_rfl)) rfl ?_
        exact ⟨by rw [HX.out]; rfl, below_setRow hR.2.2 (Nat.le_refl _)⟩
      obtain ⟨m, hm⟩ : ∃ m, a1.length = m + 1 := ⟨a1.length - 1, by omega⟩
      have hm1 : m < s1.size := by omega
      have hlast := last_at a1 m hm s1 HS1.out hm1
      have hext : s1.extract 0 m = str a1.dropLast := by rw [HS1.out]; exact extract_last a1 m hm
      rw [hm] at hz1
      have i2 : ¬ ((m : Int) + 1 < 2) := by omega
      have i3 : (0 : Int) ≤ (m : Int) := by omega
      have i4 : (m : Int) ≤ (s1.size : Int) := by omega
      by_cases hB : s1[m] = 58
      case neg =>
        rw [if_pos (.inr (.inl (by rw [hlast]; intro e; injection e with e; exact hB e)))] at hF
        have HX := Lib.hid hF
        have hn : s1[m].toNat ≠ 58 := fun e => hB (UInt8.toNat_inj.1 (by rw [e]; rfl))
        have hb' : ((s1[m].toNat : Int) == 58) = false := by simp; omega
        have hb'' : ((s1[m].toNat : Int) != 58) = true := by simp; omega
        clear hF hB hn hlast hext HS1
        go_wp2_with (first
          | (refine wpList_build rfl _ _ rfl #[] rfl (build_zero _) ?_)
          | (refine wpList_store_row rfl _ _ _ rfl w.heap.size (txC zeroX) rfl rfl _ _ hR.1 (by kernel_rfl) rfl (txC_ones _) ?_))
        (try simp only [Exit.inBlock, Exit.then])
        refine bodyPost_ret (v := .tuple #[.agg (txC zeroX), .bool false]) (results_row2 rfl _ _ w.heap.size rfl (.bool false) rfl _ (txC zeroX) _ _ (blk_setRow hR.1) Tryd.underlying23 rfl (by kernel_rfl)) rfl ?_
        exact ⟨by rw [HX.out]; rfl, below_setRow hR.2.2 (Nat.le_refl _)⟩
      case pos =>
      have hb' : ((s1[m].toNat : Int) == 58) = true := by rw [hB]; rfl
      have hb'' : ((s1[m].toNat : Int) != 58) = false := by rw [hB]; rfl
      rw [hB] at hlast
      by_cases h5 : a5 = wTo
      case neg =>
        rw [if_pos (.inr (.inr h5))] at hF
        have HX := Lib.hid hF
        have h5' := str_not h5
        unfold wTo at h5'
        clear hF hB h5 hlast hext HS1
        go_wp2_with (first
          | (refine wpList_build rfl _ _ rfl #[] rfl (build_zero _) ?_)
          | (refine wpList_store_row rfl _ _ _ rfl w.heap.size (txC zeroX) rfl rfl _ _ hR.1 (by kernel_rfl) rfl (txC_ones _) ?_))
        (try simp only [Exit.inBlock, Exit.then])
        refine bodyPost_ret (v := .tuple #[.agg (txC zeroX), .bool false]) (results_row2 rfl _ _ w.heap.size rfl (.bool false) rfl _ (txC zeroX) _ _ (blk_setRow hR.1) Tryd.underlying23 rfl (by kernel_rfl)) rfl ?_
        exact ⟨by rw [HX.out]; rfl, below_setRow hR.2.2 (Nat.le_refl _)⟩
      case pos =>
      rw [if_neg (fun h => h.elim hA2 (fun h => h.elim (fun h => h hlast) (fun h => h h5)))] at hF
      have h5' := str_is h5
      unfold wTo at h5'
      have hd1 : a1.dropLast.length ≤ 1000000 := by rw [List.length_dropLast]; omega
      obtain ⟨d1, hd⟩ : ∃ d, d = a1.dropLast := ⟨_, rfl⟩
      rw [← hd] at hF hext hd1
      have hrd := fun W => c_refread d1 W hd1
      obtain ⟨n1, hn1⟩ : ∃ n, n = numW d1 := ⟨_, rfl⟩
      obtain ⟨k1, hk1⟩ : ∃ n, n = L1.readE d1 1 top62 := ⟨_, rfl⟩
      have hin : inI n1 := by rw [hn1]; exact num_in d1
      rw [← hn1, ← hk1] at hrd
      rw [← hn1, ← hk1] at hF
      have HRD := Lib.hid hrd
      clear hrd hn1 hk1 hd hlast h5 hB HS1 hA2 hd1
      by_cases hk : k1 = 0
      case neg =>
        rw [if_pos hk] at hF
        have HX := Lib.hid hF
        have hk' : (k1 == 0) = false := by simpa using hk
        have hk'' : (k1 != 0) = true := by simpa using hk
        clear hF hk
        go_wp2_with (first
          | (go_at_call 36; refine (HRD.out _).mono ?_; unfold gives; rintro e w3 ⟨rfl, hb3⟩; have hR3 := hR.below hb3)
          | (refine wpList_build rfl _ _ rfl #[] rfl (build_zero _) ?_)
          | (refine wpList_store_row rfl _ _ _ rfl w.heap.size (txC zeroX) rfl rfl _ _ hR3.1 (by kernel_rfl) rfl (txC_ones _) ?_))
        (try simp only [Exit.inBlock, Exit.then])
        refine bodyPost_ret (v := .tuple #[.agg (txC zeroX), .bool false]) (results_row2 rfl _ _ w.heap.size rfl (.bool false) rfl _ (txC zeroX) _ _ (blk_setRow hR3.1) Tryd.underlying23 rfl (by kernel_rfl)) rfl ?_
        exact ⟨by rw [HX.out]; rfl, below_setRow hR3.2.2 (Nat.le_refl _)⟩
      case pos =>
      subst hk
      rw [if_neg (by simp)] at hF
      have HF := Lib.hid hF
      clear hF
      go_upto_region 17 with (first
        | (go_at_call 36; refine (HRD.out _).mono ?_; unfold gives; rintro e w3 ⟨rfl, hb3⟩; have hR3 := hR.below hb3; have g2 : w3.cell? ⟨w.heap.size + 1, 2, none⟩ = some (.string (str a2)) := hR3.2.1.cell 2)
        | (refine wpList_build rfl _ _ rfl #[(6, .int .i64 n1), (1, .string (str a2))] rfl (build_two n1 a2 _) ?_)
        | (refine wpList_store_new rfl _ _ _ rfl _ (txC ⟨0, a2, [], [], [], 0, n1⟩) rfl rfl _ _ (by kernel_rfl) rfl (txC_ones _) ?_))
      obtain ⟨G, hG⟩ : ∃ G, G = w3.heap.size := ⟨_, rfl⟩
      have hQ : ResAt w [a0, a1, a2, a3, a4, a5] G ⟨0, a2, [], [], [], 0, n1⟩ (w3.alloc (.cells (txC ⟨0, a2, [], [], [], 0, n1⟩) 23)) :=
        ⟨⟨hR3.1.alloc _, hR3.2.1.alloc _, hR3.2.2.alloc hR3.2.2.size _⟩, by rw [hG]; exact box_new w3 _ _, by rw [hG]; exact hR3.2.1.lt⟩
      rw [← hG]
      clear hG g2 hb3 hR hext q0 q1 q2 q3 q4 q5
      refine name_world (fun w4 hw4 => ?_)
      rw [← hw4] at hQ
      clear hw4 hR3
      have q0 : w4.cell? ⟨w.heap.size + 1, 0, none⟩ = some (.string (str a0)) := hQ.1.2.1.cell 0
      have q3 : w4.cell? ⟨w.heap.size + 1, 3, none⟩ = some (.string (str a3)) := hQ.1.2.1.cell 3
      have q4 : w4.cell? ⟨w.heap.size + 1, 4, none⟩ = some (.string (str a4)) := hQ.1.2.1.cell 4
      have hF := HF.out
      clear HF
      have i0 : inI 0 := by unfold inI; omega
      have i1 : inI 1 := by unfold inI; omega
      have j2 : inI 2 := by unfold inI; omega
      by_cases e0 : a0 = wMove
      case pos =>
        have e0' := str_is e0
        have e0'' : ((str a0).toList == wPut) = false := str_not (by rw [e0]; decide)
        unfold wMove at e0'
        unfold wPut at e0''
        by_cases e3 : a3 = wGives
        case pos =>
          have e3' := str_is e3
          unfold wGives at e3'
          rw [if_pos ⟨e0, e3⟩] at hF
          have hrd := fun W => c_refread a4 W l4
          obtain ⟨n4, hn4⟩ : ∃ n, n = numW a4 := ⟨_, rfl⟩
          obtain ⟨k4, hk4⟩ : ∃ n, n = L1.readE a4 1 top62 := ⟨_, rfl⟩
          have hin4 : inI n4 := by rw [hn4]; exact num_in a4
          rw [← hn4, ← hk4] at hrd
          rw [← hn4, ← hk4] at hF
          have HRD4 := Lib.hid hrd
          clear hrd hn4 hk4 e0 e3 e0''
          by_cases hk : k4 = 0
          case neg =>
            rw [if_pos hk] at hF
            have HX := Lib.hid hF
            have hk' : (k4 == 0) = false := by simpa using hk
            have hk'' : (k4 != 0) = true := by simpa using hk
            clear hF hk
            go_wp2_with (first
              | (go_at_call 36; refine (HRD4.out _).mono ?_; unfold gives; rintro e w5 ⟨rfl, hb5⟩; have hR5 := hQ.1.below hb5)
              | (refine wpList_build rfl _ _ rfl #[] rfl (build_zero _) ?_)
              | (refine wpList_store_row rfl _ _ _ rfl w.heap.size (txC zeroX) rfl rfl _ _ hR5.1 (by kernel_rfl) rfl (txC_ones _) ?_))
            (try simp only [Exit.inBlock, Exit.then])
            refine bodyPost_ret (v := .tuple #[.agg (txC zeroX), .bool false]) (results_row2 rfl _ _ w.heap.size rfl (.bool false) rfl _ (txC zeroX) _ _ (blk_setRow hR5.1) Tryd.underlying23 rfl (by kernel_rfl)) rfl ?_
            exact ⟨by rw [HX.out]; rfl, below_setRow hR5.2.2 (Nat.le_refl _)⟩
          case pos =>
          subst hk
          rw [if_neg (by simp)] at hF
          have hwf : (⟨1, a2, cur, [], [], n4, n1⟩ : Txx).wf 1000000 := ⟨i1, l2, hcl, Nat.zero_le _, Nat.zero_le _, hin4, hin⟩
          have HF := Lib.hid hF
          clear hF
          go_upto_region 28 with (first
            | (go_at_call 36; refine (HRD4.out _).mono ?_; unfold gives; rintro e w5 ⟨rfl, hb5⟩; have hQ5 := hQ.below hb5; have f0 := hQ5.2.1.frozen 0; have f2 := hQ5.2.1.frozen 2; have f5 := hQ5.2.1.frozen 5; have b0 : w5.cell? ⟨G, 0, none⟩ = some (.int .i64 0) := hQ5.2.1.cell 0; have b2 : w5.cell? ⟨G, 2, none⟩ = some (.string ⟨#[]⟩) := hQ5.2.1.cell 2; have b5 : w5.cell? ⟨G, 5, none⟩ = some (.int .i64 0) := hQ5.2.1.cell 5))
          have hQ8 := ((hQ5.set_ 0 (.int .i64 1) ⟨1, a2, [], [], [], 0, n1⟩ rfl).set_ 2 (.string (str cur)) ⟨1, a2, cur, [], [], 0, n1⟩ rfl).set_ 5 (.int .i64 n4) ⟨1, a2, cur, [], [], n4, n1⟩ rfl
          clear hQ hQ5 f0 f2 f5 b0 b2 b5 hb5 q0 q3 q4
          refine name_world (fun w8 hw8 => ?_)
          rw [← hw8] at hQ8
          clear hw8
          have hF := HF.out
          clear HF
          have hck := fun W => refcheck_any ⟨1, a2, cur, [], [], n4, n1⟩ W hwf
          rcases (Bool.eq_false_or_eq_true (right ⟨1, a2, cur, [], [], n4, n1⟩)).symm with hr | hr
          · rw [hr] at hck
            unfold rightO at hF
            rw [if_neg (by rw [hr]; simp)] at hF
            have HX := Lib.hid hF
            have HC := Lib.hid hck
            clear hF hck hr hwf
            go_wp2_with (first
                | (refine wpList_row_at rfl _ _ rfl G rfl _ _ _ _ hQ8.2.1 Tryd.underlying23 rfl (by kernel_rfl) ?_)
                | (go_at_call 11; refine (HC.out _).mono ?_; unfold gives; rintro e w9 ⟨rfl, hb9⟩; have hR9 := (hQ8.below hb9).1)
                | (refine wpList_build rfl _ _ rfl #[] rfl (build_zero _) ?_)
                | (refine wpList_store_row rfl _ _ _ rfl w.heap.size (txC zeroX) rfl rfl _ _ hR9.1 (by kernel_rfl) rfl (txC_ones _) ?_))
            (try simp only [Exit.inBlock, Exit.then])
            refine bodyPost_ret (v := .tuple #[.agg (txC zeroX), .bool false]) (results_row2 rfl _ _ w.heap.size rfl (.bool false) rfl _ (txC zeroX) _ _ (blk_setRow hR9.1) Tryd.underlying23 rfl (by kernel_rfl)) rfl ?_
            exact ⟨by rw [HX.out]; rfl, below_setRow hR9.2.2 (Nat.le_refl _)⟩
          · rw [hr] at hck
            unfold rightO at hF
            rw [if_pos hr] at hF
            have HX := Lib.hid hF
            have HC := Lib.hid hck
            clear hF hck hr hwf
            go_wp2_with (first
                | (go_at_call 11; refine (HC.out _).mono ?_; unfold gives; rintro e w9 ⟨rfl, hb9⟩; have hQ9 := hQ8.below hb9; have hR9 := hQ9.1)
                | (refine wpList_row_at rfl _ _ rfl G rfl _ _ _ _ hQ9.2.1 Tryd.underlying23 rfl (by kernel_rfl) ?_)
                | (refine wpList_row_at rfl _ _ rfl G rfl _ _ _ _ hQ8.2.1 Tryd.underlying23 rfl (by kernel_rfl) ?_)
                | (refine wpList_store_row rfl _ _ _ rfl w.heap.size (txC ⟨1, a2, cur, [], [], n4, n1⟩) rfl rfl _ _ hR9.1 (by kernel_rfl) rfl (txC_ones _) ?_))
            (try simp only [Exit.inBlock, Exit.then])
            refine bodyPost_ret (v := .tuple #[.agg (txC ⟨1, a2, cur, [], [], n4, n1⟩), .bool true]) (results_row2 rfl _ _ w.heap.size rfl (.bool true) rfl _ (txC ⟨1, a2, cur, [], [], n4, n1⟩) _ _ (blk_setRow hR9.1) Tryd.underlying23 rfl (by kernel_rfl)) rfl ?_
            exact ⟨by rw [HX.out]; rfl, below_setRow hR9.2.2 (Nat.le_refl _)⟩
        case neg =>
          have e3' := str_not e3
          unfold wGives at e3'
          rw [if_neg (fun h => e3 h.2), if_neg (fun h => by have := h.1; rw [e0] at this; revert this; decide)] at hF
          clear e0 e3
          have hr : right ⟨0, a2, [], [], [], 0, n1⟩ = false := right_kind0 rfl
          have hck := fun W => refcheck_any ⟨0, a2, [], [], [], 0, n1⟩ W ⟨i0, l2, Nat.zero_le _, Nat.zero_le _, Nat.zero_le _, i0, hin⟩
          rw [hr] at hck
          have HX := Lib.hid hF
          have HC := Lib.hid hck
          clear hF hck hr
          go_wp2_with (first
            | (refine wpList_row_at rfl _ _ rfl G rfl _ _ _ _ hQ.2.1 Tryd.underlying23 rfl (by kernel_rfl) ?_)
            | (go_at_call 11; refine (HC.out _).mono ?_; unfold gives; rintro e w9 ⟨rfl, hb9⟩; have hR9 := (hQ.below hb9).1)
            | (refine wpList_build rfl _ _ rfl #[] rfl (build_zero _) ?_)
            | (refine wpList_store_row rfl _ _ _ rfl w.heap.size (txC zeroX) rfl rfl _ _ hR9.1 (by kernel_rfl) rfl (txC_ones _) ?_))
          (try simp only [Exit.inBlock, Exit.then])
          refine bodyPost_ret (v := .tuple #[.agg (txC zeroX), .bool false]) (results_row2 rfl _ _ w.heap.size rfl (.bool false) rfl _ (txC zeroX) _ _ (blk_setRow hR9.1) Tryd.underlying23 rfl (by kernel_rfl)) rfl ?_
          exact ⟨by rw [HX.out]; rfl, below_setRow hR9.2.2 (Nat.le_refl _)⟩
      case neg =>
        have e0' := str_not e0
        unfold wMove at e0'
        rw [if_neg (fun h => e0 h.1)] at hF
        clear e0
        by_cases p0 : a0 = wPut ∧ a3 = wSets
        case pos =>
          obtain ⟨p0, p3⟩ := p0
          have p0' := str_is p0
          have p3' := str_is p3
          unfold wPut at p0'
          unfold wSets at p3'
          rw [if_pos ⟨p0, p3⟩] at hF
          clear p0 p3
          have hwf : (⟨2, a2, [], a4, cur, 0, n1⟩ : Txx).wf 1000000 := ⟨j2, l2, Nat.zero_le _, l4, hcl, i0, hin⟩
          have HF := Lib.hid hF
          clear hF
          have f0 := hQ.2.1.frozen 0
          have f3 := hQ.2.1.frozen 3
          have f4 := hQ.2.1.frozen 4
          have b0 : w4.cell? ⟨G, 0, none⟩ = some (.int .i64 0) := hQ.2.1.cell 0
          have b3 : w4.cell? ⟨G, 3, none⟩ = some (.string ⟨#[]⟩) := hQ.2.1.cell 3
          have b4 : w4.cell? ⟨G, 4, none⟩ = some (.string ⟨#[]⟩) := hQ.2.1.cell 4
          have hG4 : ¬ w.heap.size + 1 = G := by have := hQ.2.2; omega
          have hG4' : ¬ G = w.heap.size + 1 := by have := hQ.2.2; omega
          go_upto_region 28 with fail
          have hQ8 := ((hQ.set_ 0 (.int .i64 2) ⟨2, a2, [], [], [], 0, n1⟩ rfl).set_ 3 (.string (str a4)) ⟨2, a2, [], a4, [], 0, n1⟩ rfl).set_ 4 (.string (str cur)) ⟨2, a2, [], a4, cur, 0, n1⟩ rfl
          clear hQ f0 f3 f4 b0 b3 b4 q0 q3 q4
          refine name_world (fun w8 hw8 => ?_)
          rw [← hw8] at hQ8
          clear hw8
          have hF := HF.out
          clear HF
          have hck := fun W => refcheck_any ⟨2, a2, [], a4, cur, 0, n1⟩ W hwf
          rcases (Bool.eq_false_or_eq_true (right ⟨2, a2, [], a4, cur, 0, n1⟩)).symm with hr | hr
          · rw [hr] at hck
            unfold rightO at hF
            rw [if_neg (by rw [hr]; simp)] at hF
            have HX := Lib.hid hF
            have HC := Lib.hid hck
            clear hF hck hr hwf
            go_wp2_with (first
                | (refine wpList_row_at rfl _ _ rfl G rfl _ _ _ _ hQ8.2.1 Tryd.underlying23 rfl (by kernel_rfl) ?_)
                | (go_at_call 11; refine (HC.out _).mono ?_; unfold gives; rintro e w9 ⟨rfl, hb9⟩; have hR9 := (hQ8.below hb9).1)
                | (refine wpList_build rfl _ _ rfl #[] rfl (build_zero _) ?_)
                | (refine wpList_store_row rfl _ _ _ rfl w.heap.size (txC zeroX) rfl rfl _ _ hR9.1 (by kernel_rfl) rfl (txC_ones _) ?_))
            (try simp only [Exit.inBlock, Exit.then])
            refine bodyPost_ret (v := .tuple #[.agg (txC zeroX), .bool false]) (results_row2 rfl _ _ w.heap.size rfl (.bool false) rfl _ (txC zeroX) _ _ (blk_setRow hR9.1) Tryd.underlying23 rfl (by kernel_rfl)) rfl ?_
            exact ⟨by rw [HX.out]; rfl, below_setRow hR9.2.2 (Nat.le_refl _)⟩
          · rw [hr] at hck
            unfold rightO at hF
            rw [if_pos hr] at hF
            have HX := Lib.hid hF
            have HC := Lib.hid hck
            clear hF hck hr hwf
            go_wp2_with (first
                | (go_at_call 11; refine (HC.out _).mono ?_; unfold gives; rintro e w9 ⟨rfl, hb9⟩; have hQ9 := hQ8.below hb9; have hR9 := hQ9.1)
                | (refine wpList_row_at rfl _ _ rfl G rfl _ _ _ _ hQ9.2.1 Tryd.underlying23 rfl (by kernel_rfl) ?_)
                | (refine wpList_row_at rfl _ _ rfl G rfl _ _ _ _ hQ8.2.1 Tryd.underlying23 rfl (by kernel_rfl) ?_)
                | (refine wpList_store_row rfl _ _ _ rfl w.heap.size (txC ⟨2, a2, [], a4, cur, 0, n1⟩) rfl rfl _ _ hR9.1 (by kernel_rfl) rfl (txC_ones _) ?_))
            (try simp only [Exit.inBlock, Exit.then])
            refine bodyPost_ret (v := .tuple #[.agg (txC ⟨2, a2, [], a4, cur, 0, n1⟩), .bool true]) (results_row2 rfl _ _ w.heap.size rfl (.bool true) rfl _ (txC ⟨2, a2, [], a4, cur, 0, n1⟩) _ _ (blk_setRow hR9.1) Tryd.underlying23 rfl (by kernel_rfl)) rfl ?_
            exact ⟨by rw [HX.out]; rfl, below_setRow hR9.2.2 (Nat.le_refl _)⟩
        case neg =>
          rw [if_neg p0] at hF
          have hr : right ⟨0, a2, [], [], [], 0, n1⟩ = false := right_kind0 rfl
          have hck := fun W => refcheck_any ⟨0, a2, [], [], [], 0, n1⟩ W ⟨i0, l2, Nat.zero_le _, Nat.zero_le _, Nat.zero_le _, i0, hin⟩
          rw [hr] at hck
          have HX := Lib.hid hF
          have HC := Lib.hid hck
          clear hF hck hr
          by_cases z0 : a0 = wPut
          · have z3 : ¬ a3 = wSets := fun h => p0 ⟨z0, h⟩
            have z0' := str_is z0
            have z3' := str_not z3
            unfold wPut at z0'
            unfold wSets at z3'
            clear z0 z3 p0
            go_wp2_with (first
              | (refine wpList_row_at rfl _ _ rfl G rfl _ _ _ _ hQ.2.1 Tryd.underlying23 rfl (by kernel_rfl) ?_)
              | (go_at_call 11; refine (HC.out _).mono ?_; unfold gives; rintro e w9 ⟨rfl, hb9⟩; have hR9 := (hQ.below hb9).1)
              | (refine wpList_build rfl _ _ rfl #[] rfl (build_zero _) ?_)
              | (refine wpList_store_row rfl _ _ _ rfl w.heap.size (txC zeroX) rfl rfl _ _ hR9.1 (by kernel_rfl) rfl (txC_ones _) ?_))
            (try simp only [Exit.inBlock, Exit.then])
            refine bodyPost_ret (v := .tuple #[.agg (txC zeroX), .bool false]) (results_row2 rfl _ _ w.heap.size rfl (.bool false) rfl _ (txC zeroX) _ _ (blk_setRow hR9.1) Tryd.underlying23 rfl (by kernel_rfl)) rfl ?_
            exact ⟨by rw [HX.out]; rfl, below_setRow hR9.2.2 (Nat.le_refl _)⟩
          · have z0' := str_not z0
            unfold wPut at z0'
            clear z0 p0
            go_wp2_with (first
              | (refine wpList_row_at rfl _ _ rfl G rfl _ _ _ _ hQ.2.1 Tryd.underlying23 rfl (by kernel_rfl) ?_)
              | (go_at_call 11; refine (HC.out _).mono ?_; unfold gives; rintro e w9 ⟨rfl, hb9⟩; have hR9 := (hQ.below hb9).1)
              | (refine wpList_build rfl _ _ rfl #[] rfl (build_zero _) ?_)
              | (refine wpList_store_row rfl _ _ _ rfl w.heap.size (txC zeroX) rfl rfl _ _ hR9.1 (by kernel_rfl) rfl (txC_ones _) ?_))
            (try simp only [Exit.inBlock, Exit.then])
            refine bodyPost_ret (v := .tuple #[.agg (txC zeroX), .bool false]) (results_row2 rfl _ _ w.heap.size rfl (.bool false) rfl _ (txC zeroX) _ _ (blk_setRow hR9.1) Tryd.underlying23 rfl (by kernel_rfl)) rfl ?_
            exact ⟨by rw [HX.out]; rfl, below_setRow hR9.2.2 (Nat.le_refl _)⟩
end Go.Proofs.YtfoabgjcndgflaaDoor
