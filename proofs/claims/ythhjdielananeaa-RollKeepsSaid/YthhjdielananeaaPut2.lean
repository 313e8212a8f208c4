/-
  One entry more on a roll and its tape.
-/
import Derived.Test.YthhjdielananeaaPut
import Derived.Test.YthhjdielananeaaEnt
set_option linter.unusedSimpArgs false
set_option linter.unusedVariables false
set_option maxRecDepth 10000
namespace Go.Proofs.Ythhjdielananeaa
open Go.RowKit Go.Lib
open L3 (Blk Reads block_of_add add_of_add)
open L6 (Turn moreB fresh From In Apart)

theorem wpQuiet_conv {P : Program} {ops : Array Oper} {S : World → Prop} {o : Oper} {rest : List Oper} {a : Act} {Qa : Act → Prop} (hg : Region.wanted o (yielded ops a.tmps) = true) (t u : TypeId) (x : Operand) (ho : o.op = .convert t u x) (v v' : Value)
    (hx : a.eval x = v) (hc : ∀ z : WorldIn S, (convert t u v).run P z.w = .ok v' z.w)
    (h : wpQuiet P ops (fun w' => ∃ x : WorldIn S, w' = x.w) Qa rest (a.put o.dst v')) : wpQuiet P ops (fun w' => ∃ x : WorldIn S, w' = x.w) Qa (o :: rest) a := by
  refine wpQuiet_value hg (fun z => ?_) h
  simp only [execOp, ho, hx, Sem.run_bind, hc z, Result.andThen_ok, Sem.run_pure]
theorem build_en3 (a b : Int) (s : ByteArray) (w : World) : (Instr.build 31 #[(0, .int .i64 a), (1, .int .i64 b), (2, .string s)]).run Try.prog w = .ok (.agg #[.int .i64 a, .int .i64 b, .string s]) w := run_build w _ _ _ (by kernel_rfl)
/-- What the drawn region's reads meet. -/
structure PtH (g : Nat) (n : Int) (G : Nat) (A : Option Addr) (c : Nat) (l : List UInt8) (W : World) : Prop where
  c1 : W.cell? ⟨g, 1, none⟩ = some (.int .i64 n)
  rd : Reads W G 1 A l.length (bcs l)
theorem PtH.conv {g G c : Nat} {n : Int} {A : Option Addr} {l : List UInt8} {W : World} (h : PtH g n G A c l W) : (convert 53 9 (.slice A l.length c)).run Try.prog W = .ok (.string (str l)) W := by
  have := conv_reads (c := c) h.rd (Nat.le_refl _)
  rw [List.take_length] at this
  exact this
theorem put_bad {r : Rl} {t : Tp} {kind : Int} {l : List UInt8} {n : Int} (h : askE r kind l = n) (hn : n ≠ 0) : putE r t kind l = n ∧ putP r t kind l = 0 ∧ putT r t kind l = t ∧ putR r t kind l = r := by
  have e : putE r t kind l = n := by unfold putE; rw [h, if_pos hn]
  exact ⟨e, by unfold putP; rw [e, if_pos hn], by unfold putT; rw [h, if_pos hn], by unfold putR; rw [h, if_pos hn]⟩
theorem put_off {r : Rl} {t : Tp} {kind : Int} {l : List UInt8} {n : Int} (h : askE r kind l = 0) (hk : keepE t (lineE ⟨r.next, kind, l⟩) = n) (hn : n ≠ 0) : putE r t kind l = n ∧ putP r t kind l = 0 ∧ putT r t kind l = keepT t (lineE ⟨r.next, kind, l⟩) ∧ putR r t kind l = toldR r n := by
  have h0 : ¬ askE r kind l ≠ 0 := fun x => x h
  have e : putE r t kind l = n := by unfold putE; rw [if_neg h0, hk]
  exact ⟨e, by unfold putP; rw [e, if_pos hn], by unfold putT; rw [if_neg h0], by unfold putR; rw [if_neg h0, hk, if_pos hn]⟩
theorem put_good {r : Rl} {t : Tp} {kind : Int} {l : List UInt8} (h : askE r kind l = 0) (hk : keepE t (lineE ⟨r.next, kind, l⟩) = 0) : putE r t kind l = 0 ∧ putP r t kind l = (t.stop : Nat) ∧ putT r t kind l = keepT t (lineE ⟨r.next, kind, l⟩) ∧ putR r t kind l = cntR r ⟨r.next, kind, l⟩ := by
  have h0 : ¬ askE r kind l ≠ 0 := fun x => x h
  have e : putE r t kind l = 0 := by unfold putE; rw [if_neg h0, hk]
  exact ⟨e, by unfold putP; rw [e, if_neg (by decide)], by unfold putT; rw [if_neg h0], by unfold putR; rw [if_neg h0, hk, if_neg (by decide)]⟩
theorem Rol.next_ {w : World} {U : Nat → Prop} {g gt : Nat} {r : Rl} {t : Tp} (h : Rol w U g gt r t) : w.cell? ⟨g, 1, none⟩ = some (.int .i64 r.next) ∧ w.cell? ⟨g, 4, none⟩ = some (.bool r.broken) ∧ w.cell? ⟨g, 0, none⟩ = some (.pointer (some ⟨gt, 0, none⟩)) ∧ w.cell? ⟨g, 2, none⟩ = some (.string (str r.sum)) := by
  obtain ⟨_, _, ⟨v, hb, _⟩, _⟩ := h
  exact ⟨hb.cell 1, hb.cell 4, hb.cell 0, hb.cell 2⟩
theorem Rol.places {w : World} {U : Nat → Prop} {g gt : Nat} {r : Rl} {t : Tp} (h : Rol w U g gt r t) : Calls Try.prog 62 #[.pointer (some ⟨gt, 0, none⟩)] w (gives (.tuple #[.int .i64 t.first, .int .i64 t.fast, .int .i64 (t.stop : Nat)]) w) := by
  obtain ⟨_, _, _, hT, _⟩ := h
  exact places_any hT
theorem Rol.count {w : World} {U : Nat → Prop} {g gt : Nat} {r : Rl} {t : Tp} (h : Rol w U g gt r t) (x : Ent) (hx : mayE x = 0) (hl : r.recs.length + 1 ≤ 10000000) : Calls Try.prog 42 #[.pointer (some ⟨g, 0, none⟩), .agg (enC x)] w (RolPost (.tuple #[]) U g gt (cntR r x) t w) := by
  obtain ⟨R, T, hR, hT, iR, iT, ha, hRU, hTU⟩ := h
  exact (count_any hR x hx hl).mono fun e w' ⟨he, h1, h2⟩ => Rol.own hT iR iT ha hRU hTU he h1 h2
set_option maxHeartbeats 4000000 in
set_option maxRecDepth 100000 in
theorem put_any {w : World} {U : Nat → Prop} {g gt : Nat} {r : Rl} {t : Tp} (h : Rol w U g gt r t) (hU : In w U) (kind : Int) (hk : inI kind) (A : Option Addr) (c : Nat) (l : List UInt8) (hrd : Reads w w.heap.size 1 A l.length (bcs l)) (hl : l.length ≤ maxLen)
    (hs : mayE ⟨r.next, kind, l⟩ = 0 → Small t (lineE ⟨r.next, kind, l⟩).length) (hrl : r.recs.length + 1 ≤ 10000000) :
    Calls Try.prog 45 #[.pointer (some ⟨g, 0, none⟩), .int .i64 kind, .slice A l.length c] w (RolPost (.tuple #[.int .i64 (putP r t kind l), .int .i64 (putE r t kind l)]) U g gt (putR r t kind l) (putT r t kind l) w) := by
  obtain ⟨c1, c4, c0, -⟩ := h.next_
  have HH := Lib.hid h
  rcases Bool.eq_false_or_eq_true r.broken with hb | hb
  · rw [hb] at c4
    obtain ⟨e1, e2, e3, e4⟩ := put_bad (t := t) (n := 170) (kind := kind) (l := l) (by unfold askE; rw [if_pos hb]) (by decide)
    rw [e1, e2, e3, e4]
    clear e1 e2 e3 e4 h hU hk hrd hl hs hrl c1 c0 hb
    go_enter Try.func45, Try.ntmps45
    go_wp2
    go_ret2
    exact RolPost.same HH.out rfl (Below.refl _ _)
  · rw [hb] at c4
    have hask : askE r kind l = mayE ⟨r.next, kind, l⟩ := by unfold askE; rw [if_neg (by rw [hb]; decide)]
    have hfx : (⟨r.next, kind, l⟩ : Ent).fit := ⟨⟨by have := h.fit.n.1; show _ ≤ r.next; omega, by have := h.fit.n.2; show r.next ≤ _; omega⟩, hk, hl⟩
    have HL := Lib.hid (fun W => line_any ⟨r.next, kind, l⟩ W hfx)
    have HOK := Lib.hid (fun (hm : mayE ⟨r.next, kind, l⟩ = 0) W => line_ok ⟨r.next, kind, l⟩ W hm)
    obtain ⟨n, hn⟩ : ∃ n, n = r.next := ⟨_, rfl⟩
    rw [← hn] at c1
    have hex : enC ⟨r.next, kind, l⟩ = #[.int .i64 n, .int .i64 kind, .string (str l)] := by rw [hn]; rfl
    have hP0 : PtH g n w.heap.size A c l w.drew := ⟨c1, hrd⟩
    have hPn : ∀ u, PtH g n w.heap.size A c l (w.drew.alloc u) := fun u => ⟨by rw [World.cell?_alloc_lt]; exact c1; exact World.block_lt_of_cell? w _ c1, (hrd.drew).alloc (Nat.le_refl _) u⟩
    obtain ⟨x, hx⟩ : ∃ x : Ent, x = ⟨r.next, kind, l⟩ := ⟨_, rfl⟩
    rw [← hx] at HL HOK hs hask hex
    have HX := Lib.hid hx
    have HEX := Lib.hid hex
    have hbd := build_en3 n kind (str l)
    obtain ⟨ln, hln⟩ : ∃ ln, ln = l.length := ⟨_, rfl⟩
    have HUU := Lib.hid hU
    have HASK := Lib.hid hask
    have HSM := Lib.hid hs
    have HRL := Lib.hid hrl
    have HCV := Lib.hid (fun W (z : PtH g n w.heap.size A c l W) => z.conv)
    rw [← hln] at HCV ⊢
    clear h hU hk hrd hl hs hrl hfx hask hn hex hx hb hln
    go_enter Try.func45, Try.ntmps45
    go_upto_region 5 with fail
    refine wp_region_K (PtH g n w.heap.size A c l) [0, 1, 2, 3, 4, 5, 6, 7] (by kernel_rfl) ?_
    refine wpK_quiet (f := 2) (by kernel_rfl) (fun _ x _ _ _ h => by cases x <;> exact h) hP0 [0, 1, 2, 3, 4, 5, 6, 7] _ _ (by kernel_rfl) (by kernel_rfl) (by kernel_rfl) ?_
    have ne : Nonempty (WorldIn (PtH g n w.heap.size A c l)) := ⟨⟨_, hP0⟩⟩
    have g1 : ∀ y : WorldIn (PtH g n w.heap.size A c l), y.w.cell? ⟨g, 1, none⟩ = some (.int .i64 n) := fun y => y.h.c1
    conv => arg 5; simp [pick]
    iterate 6 go_big_quiet_step (fail)
    refine wpQuiet_conv rfl _ _ _ rfl (.slice A ln c) (.string (str l)) rfl (fun z => HCV.out _ z.h) ?_
    conv => arg 6; simp only [Act.put]
    refine wpQuiet_build rfl _ _ rfl #[(0, .int .i64 n), (1, .int .i64 kind), (2, .string (str l))] rfl (v := .agg #[.int .i64 n, .int .i64 kind, .string (str l)]) (fun W => hbd W) ?_
    conv => arg 6; simp only [Act.put]
    refine wpQuiet_nil ?_
    clear ne g1
    refine wpK_step 8 (by kernel_rfl) rfl ?_
    go_wp2
    refine stepQ.mk ⟨fun _ => hPn _, ?_⟩
    refine wpK_step 9 (by kernel_rfl) rfl ?_
    refine wpList_store_new rfl _ _ _ rfl w.drew #[.int .i64 n, .int .i64 kind, .string (str l)] rfl rfl _ _ enInfo rfl (by kernel_rfl) ?_
    go_wp2
    refine stepQ.mk ⟨fun _ => hPn _, ?_⟩
    refine wpK_seq [] _ _ _ (by kernel_rfl) ?_
    conv => arg 4; simp [pick]
    go_upto_region 6 with fail
    have hb5 : Below w.heap.size w (w.drew.alloc (.cells #[.int .i64 n, .int .i64 kind, .string (str l)] 31)) := (L6.below_drew (Below.refl _ _)).alloc (Nat.le_refl _) _
    have hk5 : Blk (w.drew.alloc (.cells #[.int .i64 n, .int .i64 kind, .string (str l)] 31)) w.heap.size 31 (enC x) := by rw [HEX.out]; exact Blk.new w.drew _ _
    obtain ⟨w5, hw5⟩ : ∃ w5, w.drew.alloc (.cells #[.int .i64 n, .int .i64 kind, .string (str l)] 31) = w5 := ⟨_, rfl⟩
    rw [hw5] at hb5 hk5 ⊢
    obtain ⟨p, hp⟩ : ∃ p, p = w.heap.size := ⟨_, rfl⟩
    rw [← hp] at hk5 ⊢
    have HP := Lib.hid hp
    have HB5 := Lib.hid hb5
    clear hw5 hp hb5 hP0 hPn c1 c4 c0 hbd HCV
    by_cases hm : mayE x = 0
    · have HM := Lib.hid hm
      obtain ⟨s, hs⟩ : ∃ s, s = lineE x := ⟨_, rfl⟩
      have HLN := Lib.hid (HOK.out hm)
      rw [← hs] at HLN
      have HS := Lib.hid hs
      clear hm hs HOK HL
      go_upto_region 9 with (first
        | (refine wpList_row_at rfl _ _ rfl p rfl _ _ _ _ hk5 Try.underlying31 rfl enInfo ?_)
        | (go_at_call 13; refine (HLN.out _).mono ?_; unfold gives; rintro e w6 ⟨rfl, hb6⟩)
        | go_in)
      have HB6 := Lib.hid (nxt HB5.out hb6)
      have hk6 := hk5.below hb6 hk5.lt
      have h6 := HH.out.below HB6.out
      obtain ⟨-, -, c0, -⟩ := h6.next_
      have HPL := Lib.hid h6.places
      clear hb6 hk5
      go_upto_region 10 with (first
        | (go_at_call 62; refine HPL.out.mono ?_; unfold gives; rintro e w7 ⟨rfl, hb7⟩)
        | go_in)
      have HB7 := Lib.hid (nxt HB6.out hb7)
      have hk7 := hk6.below hb7 hk6.lt
      have h7 := h6.below hb7
      have hpU : ¬ U p := fun hu => by have := HUU.out p hu; have := HP.out; omega
      have HKP := Lib.hid (keep_any h7 s (by rw [HS.out]; exact HSM.out HM.out))
      obtain ⟨m, hm⟩ : ∃ m, m = keepE t s := ⟨_, rfl⟩
      obtain ⟨t', ht'⟩ : ∃ t', t' = keepT t s := ⟨_, rfl⟩
      rw [← hm, ← ht'] at HKP
      have HE := Lib.hid (And.intro hm ht')
      have HP7 := Lib.hid (show p < w7.heap.size from hk7.lt)
      have HK7 := Lib.hid (And.intro hk7 hpU)
      clear h6 hk6 hb7 c0 hk7 hpU h7 hm ht' HPL
      go_upto_region 11 with (first
        | (go_at_call 46; refine (told_any hR8 m).mono ?_; rintro e w9 hp9; obtain ⟨rfl, hR9, hU9⟩ := hp9)
        | (go_at_call 63; refine HKP.out.mono ?_; rintro e w8 hp8; obtain ⟨rfl, hR8, hU8⟩ := hp8)
        | go_in)
      have hT9 : Turn U w7 w9 := hU8.trans hU9 (fun i hi => hi.imp id fun h => h.1)
      have hk9 := hT9.blk HK7.out.1 HK7.out.2
      have hR9' := (RolPost.after hU8 ⟨rfl, hR9, hU9⟩ : RolPost (.int .i64 m) U g gt (toldR r m) t' w7 (.returned (.int .i64 m)) w9)
      have HR9 := Lib.hid (RolPost.back HB7.out hR9')
      clear hR8 hU8 hR9 hU9 hT9 hR9'
      by_cases h0 : m = 0
      · obtain ⟨e1, e2, e3, e4⟩ := put_good (r := r) (t := t) (kind := kind) (l := l) (by rw [HASK.out]; exact HM.out) (by rw [← HX.out, ← HS.out, ← HE.out.1]; exact h0)
        have HEQ := Lib.hid (And.intro e1 (And.intro e2 (And.intro e3 e4)))
        clear e1 e2 e3 e4
        subst h0
        have et : toldR r 0 = r := if_neg (by decide)
        rw [et] at HR9
        obtain ⟨-, hR9, hU9⟩ := HR9.out
        have HCT := Lib.hid (hR9.count x HM.out HRL.out)
        have HU9 := Lib.hid hU9
        clear hR9 hU9 et
        go_wp2_with (first
          | (refine wpList_row_at rfl _ _ rfl p rfl _ _ _ _ hk9 Try.underlying31 rfl enInfo ?_)
          | (go_at_call 42; refine HCT.out.mono ?_; rintro e w10 hp10; have HQ := Lib.hid hp10; obtain ⟨he, -, -⟩ := hp10; subst he)
          | go_in)
        go_ret2
        have := RolPost.after HU9.out HQ.out
        obtain ⟨e1, e2, e3, e4⟩ := HEQ.out
        rw [e1, e2, e3, e4, ← HX.out, ← HS.out, ← HE.out.2]
        exact ⟨rfl, this.2⟩
      · obtain ⟨e1, e2, e3, e4⟩ := put_off (r := r) (t := t) (kind := kind) (l := l) (n := m) (by rw [HASK.out]; exact HM.out) (by rw [← HX.out, ← HS.out, ← HE.out.1]) h0
        have HEQ := Lib.hid (And.intro e1 (And.intro e2 (And.intro e3 e4)))
        have g1 : (m == 0) = false := by rw [beq_eq_false_iff_ne]; exact h0
        have g2 : (m != 0) = true := by rw [bne_iff_ne]; exact h0
        clear e1 e2 e3 e4 h0 hk9
        go_wp2_with fail
        go_ret2
        obtain ⟨e1, e2, e3, e4⟩ := HEQ.out
        rw [e1, e2, e3, e4, ← HX.out, ← HS.out, ← HE.out.2]
        exact ⟨rfl, HR9.out.2⟩
    · obtain ⟨m, hm'⟩ : ∃ m, m = mayE x := ⟨_, rfl⟩
      obtain ⟨e1, e2, e3, e4⟩ := put_bad (r := r) (t := t) (kind := kind) (l := l) (n := m) (by rw [HASK.out, hm']) (by rw [hm']; exact hm)
      have HEQ := Lib.hid (And.intro e1 (And.intro e2 (And.intro e3 e4)))
      have hLR := lineR_no (x := x) (n := m) hm'.symm (by rw [hm']; exact hm)
      rw [hLR] at HL
      have g1 : (m == 0) = false := by rw [beq_eq_false_iff_ne, hm']; exact hm
      have g2 : (m != 0) = true := by rw [bne_iff_ne, hm']; exact hm
      clear e1 e2 e3 e4 hLR hm hm' HOK
      go_wp2_with (first
        | (refine wpList_row_at rfl _ _ rfl p rfl _ _ _ _ hk5 Try.underlying31 rfl enInfo ?_)
        | (go_at_call 13; refine (HL.out _).mono ?_; unfold gives; rintro e w6 ⟨rfl, hb6⟩)
        | go_in)
      go_ret2
      obtain ⟨e1, e2, e3, e4⟩ := HEQ.out
      rw [e1, e2, e3, e4]
      exact RolPost.same HH.out rfl (nxt HB5.out hb6)
end Go.Proofs.Ythhjdielananeaa
