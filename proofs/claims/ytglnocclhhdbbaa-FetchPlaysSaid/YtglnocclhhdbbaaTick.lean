/-
  A tick.
-/
import Derived.Test.YtglnocclhhdbbaaTickB
set_option linter.unusedSimpArgs false
set_option linter.unusedVariables false
set_option maxRecDepth 10000
namespace Go.Proofs.Ytglnocclhhdbbaa
open Go.RowKit Go.Lib
open L3 (Blk Reads block_of_add add_of_add)
open L6 (Turn moreB fresh From In)

/-- What a tick tells and leaves. -/
def TickPost (S : Nat → Prop) (g : Nat) (s : FS) (w : World) (e : Ending) (w' : World) : Prop :=
  ∃ v, e = .returned v ∧ w'.ownsRow w.heap.size 44 3 v (tickA s.f s.me s.tries s.L).length ((tickA s.f s.me s.tries s.L).flatMap akL) ∧ Ft w' (moreB S w w') g { s with L := tickL s.tries s.L } ∧ Turn S w w'
theorem tick_fit {s : FS} (h : s.ok ∧ s.fit) : (({ s with L := tickL s.tries s.L } : FS).ok ∧ ({ s with L := tickL s.tries s.L } : FS).fit) := by
  refine ⟨tickL_ok h.1, h.2.tr, fun x hx => ?_⟩
  obtain ⟨y, hy, e⟩ := List.mem_map.1 (show x ∈ tickL s.tries s.L from hx)
  subst e
  exact h.2.n y (List.mem_filter.1 hy).1
theorem left_ne {t : Int} {L M : List Wnt} (h : M = leftL t L) {x : Wnt} (hx : x ∈ M) : x.t ≠ t := by
  rw [h] at hx
  have := (List.mem_filter.1 hx).2
  simpa using this
/-- What a round's drawn region reads: besides the number's box. -/
structure TkP (B g p : Nat) (s : FS) (v : Value) (y : Wnt) (W : World) : Prop where
  h : TkH B g s v W
  p : Blk W p 63 (wnC y)
theorem TkP.turn {B g p : Nat} {s : FS} {v : Value} {y : Wnt} {W W' : World} {T : Nat → Prop} (h : TkP B g p s v y W) (ht : Turn T W W') (h1 : ¬ T B) (h2 : ¬ T g) (h3 : ¬ T p) : TkP B g p s v y W' := ⟨h.h.turn ht h1 h2, ht.blk h.p h3⟩
theorem TkP.below {B g p : Nat} {s : FS} {v : Value} {y : Wnt} {W W' : World} (h : TkP B g p s v y W) (hb : Below W.heap.size W W') : TkP B g p s v y W' := h.turn (T := fun _ => False) (L6.Turn.of_keep hb) (fun h => h) (fun h => h) (fun h => h)
theorem blk_ak {w : World} {g : Nat} {t : TypeId} {x : Askx} (h : Blk w g t (akC x)) : ∀ j u, (akL x)[j]? = some u → w.cell? ((⟨g, 0, none⟩ : Addr).add j) = some u := blk_cells w g t (akL x) h
theorem asks_snoc {f me : Int} {M : List Wnt} {k : Nat} (h : k < M.length) : ((M.take (k + 1)).map (askOf f me)).flatMap akL = ((M.take k).map (askOf f me)).flatMap akL ++ akL (askOf f me M[k]) := by
  rw [List.take_succ_eq_append_getElem h, List.map_append, List.flatMap_append]
  simp
set_option maxHeartbeats 4000000 in
set_option maxRecDepth 100000 in
theorem tick_any {w : World} {S : Nat → Prop} {g : Nat} {s : FS} (h : Ft w S g s) (hS : In w S) :
    Calls Try.prog 13 #[.pointer (some ⟨g, 0, none⟩)] w (TickPost S g s w) := by
  obtain ⟨i1, hi1, hz0, hz1, hz2⟩ := info_parts akInfo3
  obtain ⟨A, c, hblk, hrd, hrow, hok, hSg, hSk⟩ := h.open_
  obtain ⟨w1, hw1⟩ : ∃ w1, w1 = w.alloc (.cells #[.pointer (some ⟨g, 0, none⟩)] 24) := ⟨_, rfl⟩
  have hb1 : Below w.heap.size w w1 := by rw [hw1]; exact below_new _ _
  have hng : (Value.slice A s.L.length c).ownBlock ≠ some g := row_ne hrow hblk (by decide)
  have hnB : (Value.slice A s.L.length c).ownBlock ≠ some w.heap.size := fun e => by have := row_lt hrow e; omega
  have hH1 : TkH w.heap.size g s (.slice A s.L.length c) w1.drew := ⟨(by rw [hw1]; exact (Blk.new _ _ _).drew), (hblk.below hb1 hblk.lt).drew⟩
  have hr1 : w1.drew.ownsRow 0 63 2 (.slice A s.L.length c) s.L.length (s.L.flatMap wnL) := (show Turn (fun _ => False) w w1.drew from L6.Turn.of_keep hb1.drew).row hrow (fun k _ h => h)
  have hask : Asks 28 #[.pointer (some ⟨w.heap.size, 0, none⟩)] (fun x => decide (x.t = s.tries)) (fun k => (Value.slice A s.L.length c).ownBlock = some k) w1.drew := fun W x hW => by
    have hH := hH1.turn hW hnB hng
    exact tickF_any w.heap.size g s.tries x W (hH.bB.cell 0) (hH.bg.cell 3)
  have HD := Lib.hid (show Calls Try.prog 27 #[.slice A s.L.length c, .func (.func 28) #[] #[.pointer (some ⟨w.heap.size, 0, none⟩)]] w1.drew (fun e w2 =>
      ∃ A2 c2, e = .returned (.slice A2 (leftL s.tries s.L).length c2) ∧ TkA w S w.heap.size g { s with L := leftL s.tries s.L } (.slice A2 (leftL s.tries s.L).length c2) (w2.setCell ⟨g, 4, none⟩ (.slice A2 (leftL s.tries s.L).length c2)) ∧ TkH w.heap.size g s (.slice A s.L.length c) w2) from by
    refine (delete_any _ s.L w1.drew _ _ enters_tick (fun x => decide (x.t = s.tries)) (by have := hok.1.small; omega) hr1 hask).mono ?_
    rintro e w2 ⟨v2, rfl, hr2, hv2, ht2⟩
    obtain ⟨A2, c2, rfl, _, _⟩ := Rd.of_row (f := wnL) (k := 2) (fun _ => rfl) hr2
    have hH2 := hH1.turn ht2 hnB hng
    have hT2 : Turn S w w2 := (L6.Turn.of_keep (S := S) hb1.drew).trans ht2 (fun i e => .inl (hSk i e))
    have hT3 := ((L6.Turn.refl (fun k => k = g) w2).setCell (p := ⟨g, 4, none⟩) (.inl rfl) (.slice A2 (leftL s.tries s.L).length c2))
    have hnB2 : w.heap.size ≠ g := blk_ne hH2.bB hH2.bg (by decide)
    refine ⟨A2, c2, rfl, ⟨⟨hT3.blk hH2.bB hnB2, hH2.bg.set_ 4 _⟩, hT3.row hr2 (fun k hk e => hng (hv2 g (by rw [← e]; exact hk))), hT2.setCell (.inl hSg) _, Nat.le_refl _, hSg, fun k hk => hSk k (hv2 k hk)⟩, hH2⟩)
  have HFI := Lib.hid (left_fit hok)
  have HOK := Lib.hid hok
  obtain ⟨B, hB⟩ : ∃ B, B = w.heap.size := ⟨_, rfl⟩
  obtain ⟨n, hn⟩ : ∃ n, n = s.L.length := ⟨_, rfl⟩
  obtain ⟨m, hm⟩ : ∃ m, m = (leftL s.tries s.L).length := ⟨_, rfl⟩
  have hw1' : w.alloc (.cells #[.pointer (some ⟨g, 0, none⟩)] 24) = w1 := hw1.symm
  rw [← hB] at HD hH1
  rw [← hn] at HD hH1
  rw [← hm] at HD
  have HM := Lib.hid hm
  have HB := Lib.hid hB
  clear hblk hrd hrow hok hSk hng hnB hr1 hask hw1 hn hm h hB
  go_enter Try.func13, Try.ntmps13
  go_upto_region 1 with fail
  rw [← HB.out]
  clear hw1'
  have cB : w1.cell? ⟨B, 0, none⟩ = some (.pointer (some ⟨g, 0, none⟩)) := hH1.bB.cell 0
  go_upto_region 3 with fail
  (try simp only [Act.put])
  refine wp_region_K (TkH B g s (.slice A n c)) [0, 1, 2, 3, 4] (by kernel_rfl) ?_
  refine wpK_quiet (f := 5) (by kernel_rfl) (fun _ x _ _ _ h => by cases x <;> exact h) hH1 [0, 1, 2, 3, 4] _ _ (by kernel_rfl) (by kernel_rfl) (by kernel_rfl) ?_
  have ne : Nonempty (WorldIn (TkH B g s (.slice A n c))) := ⟨⟨_, hH1⟩⟩
  have g0 : ∀ y : WorldIn (TkH B g s (.slice A n c)), y.w.cell? ⟨B, 0, none⟩ = some (.pointer (some ⟨g, 0, none⟩)) := fun y => y.h.bB.cell 0
  have g1 : ∀ y : WorldIn (TkH B g s (.slice A n c)), y.w.cell? ⟨g, 4, none⟩ = some (.slice A n c) := fun y => y.h.bg.cell 4
  conv => arg 5; simp [pick]
  repeat go_big_quiet_step (fail)
  refine wpQuiet_nil ?_
  refine wpK_step 5 (by kernel_rfl) rfl ?_
  go_wp2
  refine stepQ.mk ⟨fun _ => hH1, ?_⟩
  refine wpK_step 6 (by kernel_rfl) rfl ?_
  go_wp2_with (go_at_call 27; refine HD.out.mono ?_; rintro e w2 ⟨A2, c2, rfl, hA2, hH2⟩)
  refine stepQ.mk ⟨fun _ => hH2, ?_⟩
  refine wpK_seq [7, 8, 9] _ _ _ (by kernel_rfl) ?_
  conv => arg 4; simp [pick]
  have e4 : w2.cell? ⟨g, 4, none⟩ = some (.slice A n c) := hH2.bg.cell 4
  have f4 := hH2.bg.frozen 4
  clear ne g0 g1 cB
  go_upto_region 4 with fail
  obtain ⟨M, hM⟩ : ∃ M, M = leftL s.tries s.L := ⟨_, rfl⟩
  rw [← hM] at HM HFI hA2
  obtain ⟨w3, hw3⟩ : ∃ w3, w3 = w2.setCell ⟨g, 4, none⟩ (.slice A2 m c2) := ⟨_, rfl⟩
  rw [← hw3] at hA2
  rw [← hw3]
  have hL0 : TkL w S B g s (.slice A2 m c2) 0 (.slice none 0 0) M w3 := ⟨by rw [tk_zero]; exact hA2, ⟨by simp, .inl ⟨rfl, rfl⟩⟩⟩
  have c4 : w3.cell? ⟨g, 4, none⟩ = some (.slice A2 m c2) := hA2.h.bg.cell 4
  have cB : w3.cell? ⟨B, 0, none⟩ = some (.pointer (some ⟨g, 0, none⟩)) := hA2.h.bB.cell 0
  have HL0 := Lib.hid hL0
  have HSM := Lib.hid hM
  have hm16 : m ≤ 16 := by rw [HM.out]; exact HFI.out.1.small
  clear hw3 e4 f4 hH2 hA2 hH1 hL0 hM HD
  go_wp2
  go_loopw [3, 22] (fun l i wr => ∃ k : Nat, i = .int .i64 k ∧ k ≤ m ∧ TkL w S B g s (.slice A2 m c2) k l M wr) (fun _ i _ => m - (RowKit.intOf i).toNat)
  case atStart => exact ⟨0, rfl, Nat.zero_le _, HL0.out⟩
  case round =>
    clear c4 cB
    obtain ⟨k, rfl, hk, hP⟩ := hrel
    by_cases hlt : k < m
    · have hkM : k < M.length := by rw [← HM.out]; exact hlt
      have hkt : k < (tk k M).length := by rw [tk_len (Nat.le_of_lt hkM)]; exact hkM
      obtain ⟨b, c3, hv, _, hX⟩ := row_of hP.a.row (fun e => by have : (tk k M) = [] := e; rw [this] at hkt; simp at hkt)
      injection hv with hv1 hv2 hv3
      subst hv1 hv3
      have hyk := tk_get hkM
      have hcs : wr.rangeAt b (k * 2) (wnL ((tk k M)[k]'hkt)) := hX.cells (i := k) hkt
      rw [hyk] at hcs
      have hym := List.getElem_mem hkM
      have hyt : 0 ≤ M[k].t ∧ M[k].t ≤ 9223372036854775806 := by
        have h1 := HFI.out.1.t _ hym
        have h2 := left_ne HSM.out hym
        have h3 := HOK.out.2.tr.2
        have h4 : M[k].t ≤ s.tries := h1.2
        exact ⟨h1.1, by omega⟩
      have hsn := asks_snoc (f := s.f) (me := s.me) hkM
      have hset := tk_set hkM
      obtain ⟨y, hy⟩ : ∃ y, y = M[k] := ⟨_, rfl⟩
      rw [← hy] at hcs hyt hsn hset hyk
      obtain ⟨hy0, hy1⟩ := hyt
      have HS2 := Lib.hid (And.intro hsn (And.intro hset hyk))
      have HX := Lib.hid hX
      have HP := Lib.hid hP
      clear hsn hset hyk hX hP hv2 hy hym
      go_upto_region 8 with (first
        | (refine wpList_load_mid rfl _ _ rfl b (k * 2) rfl (wnL y) _ hcs Try.underlying63 rfl wnInfo ?_)
        | (refine wpList_store_new rfl _ _ _ rfl wr (wnC y) rfl rfl _ _ wnInfo rfl (wnC_ones _) ?_)
        | go_in)
      have hb4 := below_new wr (.cells (wnC y) 63)
      have hP4 := HP.out.below hb4.drew
      have hX4 := HX.out.below hb4.drew
      have hH4 : TkP B g wr.heap.size s (.slice (some ⟨b, 0, none⟩) m c2) y (wr.alloc (.cells (wnC y) 63)).drew := ⟨⟨hP4.a.h.bB, hP4.a.h.bg⟩, (wbox_new wr _ y).drew⟩
      obtain ⟨p, hp⟩ : ∃ p, p = wr.heap.size := ⟨_, rfl⟩
      obtain ⟨w4, hw4⟩ : ∃ w4, w4 = wr.alloc (.cells (wnC y) 63) := ⟨_, rfl⟩
      rw [← hw4, ← hp] at hH4
      rw [← hw4] at hP4 hX4 hb4
      rw [← hw4, ← hp]
      have HPP := Lib.hid hp
      clear hw4 hcs hp
      (try simp only [Act.put])
      refine wp_region_K (TkP B g p s (.slice (some ⟨b, 0, none⟩) m c2) y) [0, 1, 2, 3, 4, 5, 7, 8] (by kernel_rfl) ?_
      refine wpK_quiet (f := 5) (by kernel_rfl) (fun _ x _ _ _ h => by cases x <;> exact h) hH4 [0, 1, 2, 3, 4, 5, 7, 8] _ _ (by kernel_rfl) (by kernel_rfl) (by kernel_rfl) ?_
      have ne : Nonempty (WorldIn (TkP B g p s (.slice (some ⟨b, 0, none⟩) m c2) y)) := ⟨⟨_, hH4⟩⟩
      have g0 : ∀ z : WorldIn (TkP B g p s (.slice (some ⟨b, 0, none⟩) m c2) y), z.w.cell? ⟨B, 0, none⟩ = some (.pointer (some ⟨g, 0, none⟩)) := fun z => z.h.h.bB.cell 0
      have g1 : ∀ z : WorldIn (TkP B g p s (.slice (some ⟨b, 0, none⟩) m c2) y), z.w.cell? ⟨p, 0, none⟩ = some (.int .i64 y.n) := fun z => z.h.p.cell 0
      have g2 : ∀ z : WorldIn (TkP B g p s (.slice (some ⟨b, 0, none⟩) m c2) y), z.w.cell? ⟨p, 1, none⟩ = some (.int .i64 y.t) := fun z => z.h.p.cell 1
      conv => arg 5; simp [pick]
      repeat go_big_quiet_step (fail)
      refine wpQuiet_nil ?_
      clear ne g0 g1 g2
      have HW := Lib.hid (whom_any g s _ y.t _ hH4.h.bg HOK.out.1 hy0 ⟨by omega, by omega⟩)
      refine wpK_step 6 (by kernel_rfl) rfl ?_
      go_wp2_with (go_at_call 29; refine HW.out.mono ?_; unfold gives; rintro e w5 ⟨rfl, hb5⟩)
      refine stepQ.mk ⟨fun _ => hH4.below hb5, ?_⟩
      have hH5 := hH4.below hb5
      have hP5 := hP4.below hb5
      clear hH4 hP4 HW
      refine wpK_step 9 (by kernel_rfl) rfl ?_
      refine wpList_build rfl _ _ rfl #[(0, .int .i64 y.n), (1, .int .i64 (whomV s.f s.me y.t)), (2, .int .i64 y.t)] rfl (build_ak _ _ _ _) ?_
      go_wp2
      refine stepQ.mk ⟨fun _ => hH5, ?_⟩
      refine wpK_step 10 (by kernel_rfl) rfl ?_
      refine wpList_buildSlice rfl _ _ _ rfl #[(0, .agg (akC (askOf s.f s.me y)))] rfl (slice_ak (askOf s.f s.me y) w5) ?_
      have hb6 := below_new w5 (.cells (akC (askOf s.f s.me y)) 44)
      have hH6 := hH5.below hb6
      have hP6 := hP5.below hb6
      have hk6 : Blk (w5.alloc (.cells (akC (askOf s.f s.me y)) 44)) w5.heap.size 44 (akC (askOf s.f s.me y)) := Blk.new _ _ _
      obtain ⟨w6, hw6⟩ : ∃ w6, w6 = w5.alloc (.cells (akC (askOf s.f s.me y)) 44) := ⟨_, rfl⟩
      rw [← hw6] at hH6 hP6 hk6 ⊢
      obtain ⟨q, hq⟩ : ∃ q, q = w5.heap.size := ⟨_, rfl⟩
      rw [← hq] at hk6 ⊢
      clear hw6 hq hb6 hH5 hP5 hb5
      go_wp2
      refine stepQ.mk ⟨fun _ => hH6, ?_⟩
      refine wpK_step 11 (by kernel_rfl) rfl ?_
      have hck6 := blk_ak hk6
      have hl6 := hP6.l
      have hmax : k + 1 ≤ maxLen := by unfold maxLen; omega
      have hbase : w.heap.size ≤ w6.heap.size := hP6.a.turn.size
      refine wpList_append_own _ rfl _ _ 37 rfl w.heap.size 44 i1 (.agg (akC zeroAk)) 3 24 Try.underlying37 hi1 hz0 hz1 hz2 rfl (by decide) _ _ _ rfl hl6 ⟨q, 0, none⟩ 1 1 (akL (askOf s.f s.me y)) rfl rfl hck6 (one_akL _) hmax (by omega) hbase ?_
      intro v7 w7 ho7 hg7 _
      go_wp2
      have hA7 := hP6.a.grown hl6 hg7
      have hT7 : Turn (fun i => u3.ownBlock = some i) w6 w7 := L6.Turn.of_grown hg7 (fun _ h => h)
      have hH7 : TkP B g p s (.slice (some ⟨b, 0, none⟩) m c2) y w7 := hH6.turn hT7 (row_ne hl6 hH6.h.bB (by decide)) (row_ne hl6 hH6.h.bg (by decide)) (row_ne hl6 hH6.p (by decide))
      refine stepQ.mk ⟨fun _ => hH7, ?_⟩
      refine wpK_seq [12] _ _ _ (by kernel_rfl) ?_
      conv => arg 4; simp [pick]
      have hml : m = (tk k M).length := by rw [tk_len (by rw [← HM.out]; omega), HM.out]
      have hkt : k < (tk k M).length := by rw [← hml]; exact hlt
      have hyk := HS2.out.2.2
      obtain ⟨b', c', hv, _, hX7⟩ := row_of hA7.row (fun e => by have : (tk k M) = [] := e; rw [this] at hkt; simp at hkt)
      injection hv with hv1 hv2 hv3
      injection hv1 with hv1
      injection hv1 with hv1
      subst hv1 hv3
      have hc7 : w7.rangeAt b (k * 2) (wnL ((tk k M)[k]'hkt)) := hX7.cells (i := k) hkt
      rw [hyk] at hc7
      have d1 : w7.cell? ⟨b, k * 2 + 1, none⟩ = some (.int .i64 y.t) := hc7 1 _ rfl
      have d2 : w7.frozen? ⟨b, k * 2 + 1, none⟩ = false := (hX7.there (i := k) (n := 2) (by have := hX7.le.2; omega) 1 (by omega)).2
      have dB : w7.cell? ⟨B, 0, none⟩ = some (.pointer (some ⟨g, 0, none⟩)) := hA7.h.bB.cell 0
      have dg : w7.cell? ⟨g, 4, none⟩ = some (.slice (some ⟨b, 0, none⟩) m c2) := hA7.h.bg.cell 4
      have hA8 := Lib.hid hA7
      have HO7 := Lib.hid ho7
      have HML := Lib.hid hml
      clear hX7 hc7 hA7 ho7 hH7 hT7 hH6 hP6 hk6 hck6 hl6 hg7 hmax hbase hv2 hml hkt hyk hX4 hb4
      go_wp2
      go_roundw
      case rel =>
        refine ⟨k + 1, by go_num, by omega, ?_⟩
        have hkM : k < M.length := by rw [← HM.out]; exact hlt
        have hkt : k < (tk k M).length := by rw [← HML.out]; exact hlt
        have hA := hA8.out
        have hr0 := hA.row
        obtain ⟨b', c', hv, _, cur, hcur, _⟩ := row_of hr0 (fun e => by have : (tk k M) = [] := e; rw [this] at hkt; simp at hkt)
        injection hv with hv1 hv2 hv3
        injection hv1 with hv1
        injection hv1 with hv1
        subst hv1
        rw [HML.out] at hA ⊢
        have hA9 := hA.tick hkt (y.t + 1)
        have hyk := HS2.out.2.2
        have hset := HS2.out.2.1
        have e1 : ({ s with L := tk k M } : FS).L[k]'hkt = y := hyk
        rw [e1] at hA9
        have e2 : ({ s with L := tk k M } : FS).L.set k ⟨y.n, y.t + 1⟩ = tk (k + 1) M := hset
        rw [e2] at hA9
        have hT := (L6.Turn.refl (fun i => i = b) w7).setCell (p := ⟨b, k * 2 + 1, none⟩) (.inl rfl) (.int .i64 (y.t + 1))
        refine ⟨hA9, ?_⟩
        rw [HS2.out.1]
        exact hT.row HO7.out (fun i hi e => row_ne HO7.out hcur (by decide) (by rw [hi, e]))
      case measure => simp [RowKit.intOf]; omega
    · obtain rfl : k = m := by omega
      go_wp2
      go_ret
      have hM1 := hP.a.row
      have ht := tick_is HOK.out.1
      rw [← HSM.out] at ht
      have e1 : tk k M = tickL s.tries s.L := by rw [ht.1, HM.out, tk_all]
      have e2 : (M.take k).map (askOf s.f s.me) = tickA s.f s.me s.tries s.L := by rw [ht.2, HM.out, List.take_length]
      have e3 : (tickA s.f s.me s.tries s.L).length = k := by rw [ht.2, List.length_map, HM.out]
      have hl := hP.l
      rw [e2] at hl
      refine ⟨_, rfl, by rw [e3]; exact hl, ⟨.slice A2 k c2, hP.a.h.bg, ?_, tick_fit HOK.out, .inl hP.a.sg, fun i hi => .inl (hP.a.sk i hi)⟩, hP.a.turn⟩
      rw [← e1]
      exact hM1
end Go.Proofs.Ytglnocclhhdbbaa
