/-
  The entry of a line, of the document's answer: as the program.
-/
import Derived.Test.YthhjdielananeaaRefM
import Derived.Test.YthhjdielananeaaRefS
import Derived.Test.YthhjdielananeaaRd3N
import Derived.Test.YthhjdielananeaaUnl
import Derived.Test.YthhjdielananeaaEns
set_option linter.unusedSimpArgs false
set_option linter.unusedVariables false
set_option maxRecDepth 10000
namespace Go.Proofs.Ythhjdielananeaa
open Go.RowKit Go.Lib
open L3 (Blk Reads block_of_add add_of_add numS failS rdN)
open L6 (Turn moreB fresh From In)

/-- What the document's Unline tells. -/
def unQ (o : Option Ent) : Value := .tuple #[.agg (enC (o.getD ⟨0, 0, []⟩)), .bool o.isSome]
theorem build_rz (w : World) : (Instr.build 34 #[]).run Try.prog w = .ok (.agg (enC ⟨0, 0, []⟩)) w := run_build w _ _ _ (by kernel_rfl)
theorem build_r3 (a b : Int) (s : ByteArray) (w : World) : (Instr.build 34 #[(0, .int .i64 a), (1, .int .i64 b), (2, .string s)]).run Try.prog w = .ok (.agg #[.int .i64 a, .int .i64 b, .string s]) w := run_build w _ _ _ (by kernel_rfl)
theorem num_zero (l : List UInt8) : (numS (l, 0)).2 = 0 ↔ (rdN 0 0 l).2.2 = 0 := by
  unfold L3.numS
  dsimp only
  split
  · next h => exact ⟨fun _ => h, fun _ => rfl⟩
  · next h =>
    unfold L3.failS
    dsimp only
    rw [if_neg (by rintro (h1 | h1); exact h1 rfl; exact h (by exact_mod_cast h1))]
    dsimp only
    omega
/-- The entry of undressed bytes, by the reader. -/
theorem body_num (m : List UInt8) : ofBody m = if (numS (numS (m, 0))).2 = 0 ∧ mayE ⟨numV (m, 0), numV (numS (m, 0)), (numS (numS (m, 0))).1⟩ = 0 then some ⟨numV (m, 0), numV (numS (m, 0)), (numS (numS (m, 0))).1⟩ else none := by
  obtain ⟨n, s, e, hp⟩ : ∃ n s e, rdN 0 0 m = (n, s, e) := ⟨_, _, _, rfl⟩
  by_cases he : e = 0
  · subst he
    have e1 : numS (m, 0) = (m.drop s, 0) := by unfold L3.numS; dsimp only; rw [hp, if_pos rfl]
    have e2 : numV (m, 0) = (n : Int) := by unfold numV; dsimp only; rw [hp]
    rw [e1, e2]
    obtain ⟨k, s2, e', hq⟩ : ∃ k s2 e', rdN 0 0 (m.drop s) = (k, s2, e') := ⟨_, _, _, rfl⟩
    have e4 : numV (m.drop s, 0) = (k : Int) := by unfold numV; dsimp only; rw [hq]
    rw [e4]
    unfold ofBody
    rw [hp]
    dsimp only
    rw [if_neg (by decide), hq]
    dsimp only
    by_cases he' : e' = 0
    · subst he'
      have e3 : numS (m.drop s, 0) = ((m.drop s).drop s2, 0) := by unfold L3.numS; dsimp only; rw [hq, if_pos rfl]
      rw [e3, if_neg (by decide)]
      dsimp only
      split
      · next h => rw [if_pos ⟨rfl, h⟩]
      · next h => rw [if_neg (fun h' => h h'.2)]
    · rw [if_pos he', if_neg]
      intro h
      have := (num_zero (m.drop s)).1 h.1
      rw [hq] at this
      exact he' this
  · unfold ofBody
    rw [hp]
    dsimp only
    rw [if_pos he, if_neg]
    intro h
    have hd : deadS (numS (m, 0)) := by
      unfold L3.numS
      dsimp only
      rw [hp, if_neg he]
      exact failS_dead (fun h => absurd rfl h) (by simpa using he)
    rw [(numV_dead hd).2] at h
    exact hd.1 h.1
set_option maxHeartbeats 4000000 in
set_option maxRecDepth 100000 in
theorem refunline_any (l : List UInt8) (w : World) (hl : l.length ≤ 100000) : Calls Try.prog 16 #[.string (str l)] w (gives (unQ (ulE l)) w) := by
  obtain ⟨w0, hw0⟩ : ∃ w0, w.alloc (.cells #[.int .i64 0, .int .i64 0, .string ⟨#[]⟩] 34) = w0 := ⟨_, rfl⟩
  have hb0 : Below w.heap.size w w0 := by rw [← hw0]; exact below_new _ _
  have hk0 : Blk w0 w.heap.size 34 (enC ⟨0, 0, []⟩) := by rw [← hw0]; exact Blk.new _ _ _
  obtain ⟨p, hp⟩ : ∃ p, p = w.heap.size := ⟨_, rfl⟩
  rw [← hp] at hk0
  have HP := Lib.hid hp
  have HB0 := Lib.hid hb0
  obtain ⟨s, hs⟩ : ∃ s, s = str l := ⟨_, rfl⟩
  have hn : s.size = l.length := by rw [hs, str_size]
  have hg : ∀ (k : Nat) (h : k < s.size) (h' : k < l.length), s[k] = l[k] := fun k h h' => by subst hs; rfl
  rw [← hs]
  have hn9 : s.size ≤ 100000 := by omega
  have hq0 : unQ none = .tuple #[.agg (enC ⟨0, 0, []⟩), .bool false] := rfl
  by_cases hz : s.size = 0
  · have hul : ulE l = none := by
      have : l = [] := List.eq_nil_of_length_eq_zero (by omega)
      rw [this]; rfl
    have HR := Lib.hid hul
    have g1 : ((s.size : Int) == 0) = true := by rw [beq_iff_eq]; omega
    have HBZ := Below.refl w0.heap.size w0
    clear hb0 hp hs hn hg hul hl hz
    go_enter Try.func16, Try.ntmps16
    go_upto_region 1 with fail
    rw [← HP.out]
    clear hw0
    go_wp2_with (first
      | (refine wpList_build rfl _ _ rfl #[] rfl (build_rz _) ?_)
      | (refine wpList_store_row rfl _ _ _ rfl p (enC ⟨0, 0, []⟩) rfl rfl _ _ hk0 rInfo rfl (enC_ones _) ?_)
      | go_in)
    (try simp only [Exit.inBlock, Exit.then])
    refine bodyPost_ret (v := .tuple #[.agg (enC ⟨0, 0, []⟩), .bool false]) (results_row2 rfl _ _ p rfl (.bool false) rfl _ (enC ⟨0, 0, []⟩) _ _ (blk_setRow hk0) Try.underlying34 rfl rInfo) rfl ?_
    exact ⟨by rw [HR.out]; rfl, below_setRow (nxt HB0.out HBZ) (by have := HP.out; omega)⟩
  have g1 : ((s.size : Int) == 0) = false := by rw [beq_eq_false_iff_ne]; omega
  have hsz1 : 1 ≤ s.size := by omega
  have hlt : s.size - 1 < s.size := by omega
  have hltl : s.size - 1 < l.length := by omega
  have hgl := hg (s.size - 1) hlt hltl
  have hlast : l.getLast? = some (l[s.size - 1]) := by
    rw [List.getLast?_eq_getElem?]
    have e : l.length - 1 = s.size - 1 := by omega
    rw [e, List.getElem?_eq_getElem hltl]
  obtain ⟨c, hc⟩ : ∃ c, c = l[s.size - 1] := ⟨_, rfl⟩
  rw [← hc] at hgl hlast
  have hzc : (s[s.size - 1].toNat : Int) = c.toNat := u8_int hgl
  by_cases hc0 : c = 0
  · have g2 : ((s[s.size - 1].toNat : Int) == 0) = true := by rw [hzc, hc0]; rfl
    have g3 : ((s[s.size - 1].toNat : Int) != 0) = false := by rw [bne, g2]; rfl
    have hul : ulE l = (strip l.dropLast).bind ofBody := by
      unfold ulE unlineE
      rw [hlast, hc0, if_pos rfl]
    have hdl : l.dropLast.length ≤ 100000 := by rw [List.length_dropLast]; omega
    have HS := Lib.hid (fun W => refstrip_any l.dropLast W (by omega))
    have hcut : str l.dropLast = s.extract 0 (s.size - 1) := by
      rw [hs, str_take _ _ (by rw [str_size]; omega), str_size, List.dropLast_eq_take]
    rw [hcut] at HS
    cases hst : strip l.dropLast with
    | none =>
      rw [hst, show stripQ none = .tuple #[.string (str []), .bool false] from rfl] at HS
      rw [hst] at hul
      have HR := Lib.hid (show ulE l = none from hul)
      clear hb0 hp hs hn hg hul hl hz hgl hlast hc hzc hc0 hdl hcut hst hltl
      go_enter Try.func16, Try.ntmps16
      go_upto_region 1 with fail
      rw [← HP.out]
      clear hw0
      go_upto_region 5 with (first
        | (go_at_call 12; refine (HS.out _).mono ?_; unfold gives; rintro e w1 ⟨rfl, hb1⟩)
        | go_in)
      have hk1 := hk0.below hb1 hk0.lt
      go_wp2_with (first
        | (refine wpList_build rfl _ _ rfl #[] rfl (build_rz _) ?_)
        | (refine wpList_store_row rfl _ _ _ rfl p (enC ⟨0, 0, []⟩) rfl rfl _ _ hk1 rInfo rfl (enC_ones _) ?_)
        | go_in)
      (try simp only [Exit.inBlock, Exit.then])
      refine bodyPost_ret (v := .tuple #[.agg (enC ⟨0, 0, []⟩), .bool false]) (results_row2 rfl _ _ p rfl (.bool false) rfl _ (enC ⟨0, 0, []⟩) _ _ (blk_setRow hk1) Try.underlying34 rfl rInfo) rfl ?_
      exact ⟨by rw [HR.out]; rfl, below_setRow (nxt HB0.out hb1) (by have := HP.out; omega)⟩
    | some m =>
      rw [hst, show stripQ (some m) = .tuple #[.string (str m), .bool true] from rfl] at HS
      rw [hst] at hul
      have hml := strip_le hst
      have hul2 : ulE l = ofBody m := hul
      rw [body_num] at hul2
      have hok0 : okE 0 (m, (0 : Int)) := ⟨⟨fun _ => rfl, fun _ => rfl⟩, fun h => absurd rfl h, by show m.length ≤ 1000000; omega⟩
      obtain ⟨p0, hp0⟩ : ∃ p0 : List UInt8 × Int, p0 = (m, 0) := ⟨_, rfl⟩
      have hm0 : m = p0.1 := by rw [hp0]
      rw [← hp0] at hok0 hul2
      have HN1 := Lib.hid (fun W => qnum_any p0 0 W hok0)
      have hv0 := rd_le p0.1
      have hv1 := rd_le (numS p0).1
      have hl2 : (numS (numS p0)).1.length ≤ m.length := by rw [hm0]; exact Nat.le_trans (numS_len _) (numS_len _)
      obtain ⟨p1, hp1⟩ : ∃ p1, p1 = numS p0 := ⟨_, rfl⟩
      obtain ⟨p2, hp2⟩ : ∃ p2, p2 = numS p1 := ⟨_, rfl⟩
      obtain ⟨a, ha⟩ : ∃ a, a = numV p0 := ⟨_, rfl⟩
      obtain ⟨b, hb⟩ : ∃ b, b = numV p1 := ⟨_, rfl⟩
      have har : 0 ≤ a ∧ a ≤ 4611686018427387904 := by rw [ha]; unfold numV; omega
      have hbr : 0 ≤ b ∧ b ≤ 4611686018427387904 := by rw [hb, hp1]; unfold numV; omega
      have HN2 := Lib.hid (fun E W (h : okE E p1) => qnum_any p1 E W h)
      unfold numP at HN1 HN2
      rw [← hp1, ← ha] at HN1
      rw [← hp2, ← hb] at HN2
      rw [← hp1, ← hp2, ← ha, ← hb] at hul2
      rw [← hp1, ← hp2] at hl2
      have hbS := build_rS m
      have hmr : rC m 0 = rC p0.1 0 := by rw [hm0]
      rw [hmr] at hbS
      obtain ⟨t, ht⟩ : ∃ t, t = str m := ⟨_, rfl⟩
      rw [← ht] at HS hbS
      obtain ⟨u, hu⟩ : ∃ u, u = str p2.1 := ⟨_, rfl⟩
      obtain ⟨x, hx⟩ : ∃ x : Ent, x = ⟨a, b, p2.1⟩ := ⟨_, rfl⟩
      rw [← hx] at hul2
      have hfx : x.fit := by rw [hx]; exact ⟨⟨by show _ ≤ a; omega, by show a ≤ _; omega⟩, ⟨by show _ ≤ b; omega, by show b ≤ _; omega⟩, by unfold maxLen; show p2.1.length ≤ _; omega⟩
      have HMY := Lib.hid (fun W => refmay_any x W hfx)
      have HXC := Lib.hid (show enC x = #[.int .i64 a, .int .i64 b, .string u] by rw [hx, hu]; rfl)
      have HXX := Lib.hid hx
      have HUL := Lib.hid hul2
      have HRC := Lib.hid (show ∀ E, rC p2.1 E = #[.string u, .int .i64 E] from fun E => by rw [hu]; rfl)
      clear hb0 hp hs hn hg hul hul2 hl hz hgl hlast hc hzc hc0 hdl hcut hst hltl hml hok0 hp0 hm0 hv0 hv1 hl2 hp1 hp2 ha hb hmr ht hu hx hfx
      go_enter Try.func16, Try.ntmps16
      go_upto_region 1 with fail
      rw [← HP.out]
      clear hw0
      go_upto_region 6 with (first
        | (go_at_call 12; refine (HS.out _).mono ?_; unfold gives; rintro e w1 ⟨rfl, hb1⟩)
        | go_in)
      have hk1 := hk0.below hb1 hk0.lt
      have HB1 := Lib.hid hb1
      clear hb1 hk0
      go_upto_region 7 with (first
        | (refine wpList_build rfl _ _ rfl #[(0, .string t)] rfl (hbS _) ?_)
        | (go_at_call 39; refine (HN1.out _).mono ?_; unfold leads; rintro e w2 ⟨E1, rfl, hE1, hb2⟩)
        | (refine wpList_store_new rfl _ _ _ rfl w2 (rC p1.1 E1) rfl rfl _ _ (qrInfo _ _) rfl (rC_ones _ _) ?_)
        | go_in)
      have hb3 := below_new w2 (.cells (rC p1.1 E1) 84)
      have kq3 := Blk.new w2 84 (rC p1.1 E1)
      have hk3 := (hk1.below hb2 hk1.lt).below hb3 (Nat.lt_of_lt_of_le hk1.lt hb2.size)
      have HB3 := Lib.hid (nxt (nxt HB1.out hb2) hb3)
      obtain ⟨w3, hw3⟩ : ∃ w3, w2.alloc (.cells (rC p1.1 E1) 84) = w3 := ⟨_, rfl⟩
      obtain ⟨q, hq⟩ : ∃ q, q = w2.heap.size := ⟨_, rfl⟩
      rw [hw3] at kq3 hk3 HB3 ⊢
      rw [← hq] at kq3 ⊢
      have hwq : w0.heap.size ≤ q := by rw [hq]; exact Nat.le_trans HB1.out.size hb2.size
      have hqp : p < q := by rw [hq]; exact Nat.lt_of_lt_of_le hk1.lt hb2.size
      clear hw3 hq hb3 hb2 hk1
      go_upto_region 8 with (first
        | (refine wpList_row_at rfl _ _ rfl q rfl _ _ _ _ kq3 Try.underlying84 rfl (qrInfo _ _) ?_)
        | (go_at_call 39; refine (HN2.out E1 _ hE1).mono ?_; unfold leads; rintro e w4 ⟨E2, rfl, hE2, hb4⟩; have kq4 := kq3.below hb4 kq3.lt)
        | (refine wpList_store_row rfl _ _ _ rfl q (rC p2.1 E2) rfl rfl _ _ kq4 (qrInfo _ _) rfl (rC_ones _ _) ?_)
        | go_in)
      have kq5 := blk_setRow (cs := rC p2.1 E2) kq4
      have hk5 := blk_far (G := q) (ds := rC p2.1 E2) (hk3.below hb4 hk3.lt) (by omega)
      have HB5 := Lib.hid (below_setRow (cs := rC p2.1 E2) (nxt HB3.out hb4) hwq)
      obtain ⟨w5, hw5⟩ : ∃ w5, w4.setRow q (rC p2.1 E2) = w5 := ⟨_, rfl⟩
      rw [hw5] at kq5 hk5 HB5 ⊢
      clear hw5 hb4 kq4 hk3 kq3
      have d0 : w5.cell? ⟨q, 0, none⟩ = some (.string u) := by have := kq5.cell 0; rw [HRC.out] at this; exact this
      have d1 : w5.cell? ⟨q, 1, none⟩ = some (.int .i64 E2) := by have := kq5.cell 1; rw [HRC.out] at this; exact this
      by_cases hE : E2 = 0
      · have he2 : p2.2 = 0 := hE2.1.1 hE
        subst hE
        by_cases hb2 : 2 < b
        · have HR := Lib.hid (show ulE l = none by
            rw [HUL.out, if_neg]
            intro h
            have h1 := (may_ok h.2).2.2.2.1
            rw [HXX.out] at h1
            have h1' : b ≤ 2 := h1
            omega)
          clear hE2 he2
          go_wp2_with (first
            | (refine wpList_build rfl _ _ rfl #[] rfl (build_rz _) ?_)
            | (refine wpList_store_row rfl _ _ _ rfl p (enC ⟨0, 0, []⟩) rfl rfl _ _ hk5 rInfo rfl (enC_ones _) ?_)
            | go_in)
          (try simp only [Exit.inBlock, Exit.then])
          refine bodyPost_ret (v := .tuple #[.agg (enC ⟨0, 0, []⟩), .bool false]) (results_row2 rfl _ _ p rfl (.bool false) rfl _ (enC ⟨0, 0, []⟩) _ _ (blk_setRow hk5) Try.underlying34 rfl rInfo) rfl ?_
          exact ⟨by rw [HR.out]; rfl, below_setRow (nxt HB0.out HB5.out) (by have := HP.out; omega)⟩
        · have g5 : ¬ 2 < b := hb2
          have hb3r := build_r3 a b u
          clear hE2
          go_upto_region 11 with (first
            | (refine wpList_build rfl _ _ rfl #[(0, .int .i64 a), (1, .int .i64 b), (2, .string u)] rfl (hb3r _) ?_)
            | (refine wpList_store_new rfl _ _ _ rfl w5 #[.int .i64 a, .int .i64 b, .string u] rfl rfl _ _ rInfo rfl (by kernel_rfl) ?_)
            | go_in)
          have hb6 := below_new w5 (.cells #[.int .i64 a, .int .i64 b, .string u] 34)
          have kx6 : Blk (w5.alloc (.cells #[.int .i64 a, .int .i64 b, .string u] 34)) w5.heap.size 34 (enC x) := by rw [HXC.out]; exact Blk.new _ _ _
          have hk6 := hk5.below hb6 hk5.lt
          obtain ⟨w6, hw6⟩ : ∃ w6, w5.alloc (.cells #[.int .i64 a, .int .i64 b, .string u] 34) = w6 := ⟨_, rfl⟩
          obtain ⟨r, hr⟩ : ∃ r, r = w5.heap.size := ⟨_, rfl⟩
          rw [hw6] at hb6 kx6 hk6 ⊢
          rw [← hr] at kx6 ⊢
          have HB6 := Lib.hid (nxt HB5.out hb6)
          clear hw6 hr hb6 hk5 kq5 d0 d1
          obtain ⟨n, hn⟩ : ∃ n, n = mayE x := ⟨_, rfl⟩
          rw [← hn] at HMY
          have HN := Lib.hid hn
          by_cases hm : n = 0
          · have HR := Lib.hid (show ulE l = some x by rw [HUL.out, if_pos ⟨he2, by rw [← HN.out]; exact hm⟩])
            subst hm
            clear he2 hn
            go_wp2_with (first
              | (go_at_call 34; refine (HMY.out _).mono ?_; unfold gives; rintro e w7 ⟨rfl, hb7⟩; have kx7 := kx6.below hb7 kx6.lt; have hk7 := hk6.below hb7 hk6.lt)
              | (refine wpList_row_at rfl _ _ rfl r rfl _ _ _ _ kx7 Try.underlying34 rfl rInfo ?_)
              | (refine wpList_row_at rfl _ _ rfl r rfl _ _ _ _ kx6 Try.underlying34 rfl rInfo ?_)
              | (refine wpList_store_row rfl _ _ _ rfl p (enC x) rfl rfl _ _ hk7 rInfo rfl (enC_ones _) ?_)
              | go_in)
            (try simp only [Exit.inBlock, Exit.then])
            refine bodyPost_ret (v := .tuple #[.agg (enC x), .bool true]) (results_row2 rfl _ _ p rfl (.bool true) rfl _ (enC x) _ _ (blk_setRow hk7) Try.underlying34 rfl rInfo) rfl ?_
            exact ⟨by rw [HR.out]; rfl, below_setRow (nxt HB0.out (nxt HB6.out hb7)) (by have := HP.out; omega)⟩
          · have HR := Lib.hid (show ulE l = none by
              rw [HUL.out, if_neg]
              intro h
              exact hm (by rw [HN.out]; exact h.2))
            have g6 : (n == 0) = false := by rw [beq_eq_false_iff_ne]; exact hm
            have g7 : (n != 0) = true := by rw [bne_iff_ne]; exact hm
            clear he2 hn hm
            go_upto_region 12 with (first
              | (refine wpList_row_at rfl _ _ rfl r rfl _ _ _ _ kx6 Try.underlying34 rfl rInfo ?_)
              | (go_at_call 34; refine (HMY.out _).mono ?_; unfold gives; rintro e w7 ⟨rfl, hb7⟩)
              | go_in)
            have hk7 := hk6.below hb7 hk6.lt
            have HB7 := nxt HB6.out hb7
            go_wp2_with (first
              | (refine wpList_build rfl _ _ rfl #[] rfl (build_rz _) ?_)
              | (refine wpList_store_row rfl _ _ _ rfl p (enC ⟨0, 0, []⟩) rfl rfl _ _ hk7 rInfo rfl (enC_ones _) ?_)
              | go_in)
            (try simp only [Exit.inBlock, Exit.then])
            refine bodyPost_ret (v := .tuple #[.agg (enC ⟨0, 0, []⟩), .bool false]) (results_row2 rfl _ _ p rfl (.bool false) rfl _ (enC ⟨0, 0, []⟩) _ _ (blk_setRow hk7) Try.underlying34 rfl rInfo) rfl ?_
            exact ⟨by rw [HR.out]; rfl, below_setRow (nxt HB0.out HB7) (by have := HP.out; omega)⟩
      · have HR := Lib.hid (show ulE l = none by
          rw [HUL.out, if_neg]
          intro h
          exact hE (hE2.1.2 h.1))
        have g5 : (E2 == 0) = false := by rw [beq_eq_false_iff_ne]; exact hE
        have g6 : (E2 != 0) = true := by rw [bne_iff_ne]; exact hE
        clear hE2 hE
        go_wp2_with (first
          | (refine wpList_build rfl _ _ rfl #[] rfl (build_rz _) ?_)
          | (refine wpList_store_row rfl _ _ _ rfl p (enC ⟨0, 0, []⟩) rfl rfl _ _ hk5 rInfo rfl (enC_ones _) ?_)
          | go_in)
        (try simp only [Exit.inBlock, Exit.then])
        refine bodyPost_ret (v := .tuple #[.agg (enC ⟨0, 0, []⟩), .bool false]) (results_row2 rfl _ _ p rfl (.bool false) rfl _ (enC ⟨0, 0, []⟩) _ _ (blk_setRow hk5) Try.underlying34 rfl rInfo) rfl ?_
        exact ⟨by rw [HR.out]; rfl, below_setRow (nxt HB0.out HB5.out) (by have := HP.out; omega)⟩
  · have g2 : ((s[s.size - 1].toNat : Int) == 0) = false := by rw [hzc]; exact u8_n0 hc0
    have g3 : ((s[s.size - 1].toNat : Int) != 0) = true := by rw [bne, g2]; rfl
    have HR := Lib.hid (show ulE l = none by
      unfold ulE
      rw [hlast, if_neg (fun h => hc0 (by injection h))])
    have HBZ := Below.refl w0.heap.size w0
    clear hb0 hp hs hn hg hl hz hgl hlast hc hzc hc0 hltl
    go_enter Try.func16, Try.ntmps16
    go_upto_region 1 with fail
    rw [← HP.out]
    clear hw0
    go_wp2_with (first
      | (refine wpList_build rfl _ _ rfl #[] rfl (build_rz _) ?_)
      | (refine wpList_store_row rfl _ _ _ rfl p (enC ⟨0, 0, []⟩) rfl rfl _ _ hk0 rInfo rfl (enC_ones _) ?_)
      | go_in)
    (try simp only [Exit.inBlock, Exit.then])
    refine bodyPost_ret (v := .tuple #[.agg (enC ⟨0, 0, []⟩), .bool false]) (results_row2 rfl _ _ p rfl (.bool false) rfl _ (enC ⟨0, 0, []⟩) _ _ (blk_setRow hk0) Try.underlying34 rfl rInfo) rfl ?_
    exact ⟨by rw [HR.out]; rfl, below_setRow (nxt HB0.out HBZ) (by have := HP.out; omega)⟩
end Go.Proofs.Ythhjdielananeaa
