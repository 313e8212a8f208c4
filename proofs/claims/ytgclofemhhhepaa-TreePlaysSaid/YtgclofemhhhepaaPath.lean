/-
  A path; a new tree.
-/
import Derived.Test.YtgclofemhhhepaaPut
import Derived.Test.YtgclofemhhhepaaShelf
import Derived.OwnWalk
import Derived.Maps.AppendAt
set_option linter.unusedSimpArgs false
set_option linter.unusedVariables false
set_option maxRecDepth 10000
namespace Go.Proofs.Ytgclofemhhhepaa
open Go.RowKit Go.Maps Go.Lib Go.Sort
open L3 (Blk Reads)
open L6 (Turn moreB fresh From In)

def ints (l : List Int) : List Value := l.map (Value.int .i64)
theorem ints_len (l : List Int) : (ints l).length = l.length := by simp [ints]
/-- In w the slice v owns the numbers l. -/
abbrev OwnI (w : World) (base : Nat) (v : Value) (l : List Int) : Prop := w.ownsRow base 3 1 v l.length (l.map (Value.int .i64))
theorem intInfo : (Try.prog.info? 3).map (fun i => (i.zero, i.size, i.bytes)) = some (some (.int .i64 0), 1, 8) := by kernel_rfl
/-- slices.Reverse of a row that the call owns. -/
theorem rev_any {w : World} {base : Nat} {v : Value} {l : List Int} (h : OwnI w base v l) (hl : l.length ≤ 1000000000) :
    Calls Try.prog 37 #[v] w fun e w' => e = .returned (.tuple #[]) ∧ OwnI w' base v l.reverse ∧ w.grownBy w' v.ownBlock := by
  rcases h.2 with ⟨rfl, h0⟩ | ⟨g, cap, cur, rfl, hg, hh, hn, hc, hs, ht⟩
  · have : l = [] := List.eq_nil_of_length_eq_zero h0
    subst this
    refine (Try.slices_Reverse_int_empty none 0 w).mono ?_
    rintro e w' ⟨rfl, rfl⟩
    exact ⟨rfl, h, ⟨rfl, rfl, rfl, Nat.le_refl _, fun _ _ _ => rfl⟩⟩
  · have hH : Holds (Value.int .i64) w g 0 l.toArray := holds_of_block_i hh (by simpa using ht)
    refine (Try.slices_Reverse_int g 0 cap l w hH (by omega)).mono ?_
    rintro e w' ⟨rfl, n, rfl⟩
    have e1 : putRow (Value.int .i64) (Sort.ahead w n) g 0 l.reverse.toArray = grow (putRow encZ (Sort.ahead w n) g 0 l.reverse.toArray) #[] := by rw [grow_empty]
    rw [e1]
    refine ⟨rfl, ?_, grownBy_sorted_i _⟩
    have := ownsRow_sorted_i (n := n) (os := #[]) (ss := l) (ts := l.reverse) (by simp) hg hh hn hc hs
    simpa [OwnI] using this

/-- How far a number is from the root. -/
noncomputable def dep (r : Int) (L : List Ent) (n : Int) : Nat := by
  classical exact if h : ∃ l, PathIs r L n l then h.choose.length else 0
theorem dep_is {r : Int} {L : List Ent} {n : Int} {l : List Int} (h1 : OneN r L) (h : PathIs r L n l) : dep r L n = l.length := by
  have hex : ∃ l, PathIs r L n l := ⟨l, h⟩
  unfold dep
  rw [dif_pos hex, path_one h1 hex.choose_spec h]
theorem path_nodup {r : Int} {L : List Ent} (h1 : OneN r L) {n : Int} {l : List Int} (h : PathIs r L n l) : l.Nodup := by
  induction h with
  | root => exact List.nodup_nil
  | up e l he hp ih =>
    rw [List.nodup_append]
    refine ⟨ih, by simp, fun a ha b hb => ?_⟩
    obtain rfl : b = e.n := by simpa using hb
    rintro rfl
    exact path_apart h1 he hp ha
theorem path_len {r : Int} {L : List Ent} (h1 : OneN r L) {n : Int} {l : List Int} (h : PathIs r L n l) : l.length ≤ L.length := by
  have := len_sub (m := L.map (·.n)) (path_nodup h1 h) fun x hx => by
    obtain ⟨e, he, hn, _⟩ := path_mem h hx
    exact List.mem_map.2 ⟨e, he, hn⟩
  simpa using this
theorem path_up {r : Int} {L : List Ent} {n : Int} {l : List Int} (h : PathIs r L n l) (hn : n ≠ r) : ∃ e ∈ L, e.n = n ∧ ∃ k, l = k ++ [n] ∧ PathIs r L e.p k := by
  cases h with
  | root => exact absurd rfl hn
  | up e k he hp => exact ⟨e, he, rfl, k, rfl, hp⟩
theorem path_root {r : Int} {L : List Ent} (h1 : OneN r L) {l : List Int} (h : PathIs r L r l) : l = [] := path_one h1 h .root
def crC (y : Bl) : Array Value := #[.int .i64 0, .int .i64 y.p, .int .i64 0, .int .i64 y.pr, .int .i64 0, .int .i64 0, .int .u32 0, .int .u32 0]
theorem fld_par (y : Bl) (w : World) : (Instr.field 39 (.agg (blC y)) 4).run Try.prog w = .ok (.agg (crC y)) w := by kernel_rfl
theorem fld_blk (y : Bl) (w : World) : (Instr.field 35 (.agg (crC y)) 1).run Try.prog w = .ok (.int .i64 y.p) w := by kernel_rfl
theorem fld_rd (y : Bl) (w : World) : (Instr.field 39 (.agg (blC y)) 1).run Try.prog w = .ok (.int .i64 y.rd) w := by kernel_rfl
/-- What Path tells. -/
def PathPost (s : TS) (n : Int) (w : World) (e : Ending) (w' : World) : Prop :=
  ((lackE s n ≠ 0 ∧ e = .returned (.tuple #[.slice none 0 0, .int .i64 (lackE s n)])) ∨ ∃ v l, lackE s n = 0 ∧ e = .returned (.tuple #[v, .int .i64 0]) ∧ PathIs s.root s.L n l ∧ OwnI w' w.heap.size v l) ∧ Below w.heap.size w w'
/-- What holds of a round: what is left of the path, what was gathered. -/
def PathAt (s : TS) (l : List Int) (w : World) (k : Int) (v : Value) (wr : World) : Prop :=
  ∃ lp acc, PathIs s.root s.L k lp ∧ lp ++ acc.reverse = l ∧ OwnI wr w.heap.size v acc ∧ Below w.heap.size w wr
set_option maxHeartbeats 4000000 in
set_option maxRecDepth 100000 in
theorem path_any {w : World} {S : Nat → Prop} {g : Nat} {s : TS} (h : Tr w S g s) (hs : s.wf) (hl : s.L.length ≤ 100000) (n : Int) (hn : inI n) :
    Calls Try.prog 17 #[.pointer (some ⟨g, 0, none⟩), .int .i64 n] w (PathPost s n w) := by
  have HL := Lib.hid (lacks_any h n hn)
  by_cases h0 : lackE s n = 0
  · rw [h0] at HL
    have H0 := Lib.hid h0
    have hv : hasV s.root s.L n := by
      unfold lackE at h0
      split at h0
      · assumption
      · split at h0 <;> cases h0
    obtain ⟨l, hlp⟩ := hang_path ((has_hang hs.ok).1 hv)
    have HP := Lib.hid hlp
    have hll := path_len hs.one hlp
    obtain ⟨i0, hi, hz0, hz1, hz2⟩ := info_parts intInfo
    have HT := Lib.hid h
    have HW := Lib.hid hs
    have hl2 : l.length ≤ 100000 := by omega
    clear h0 hv h hs hll
    go_enter Try.func17, Try.ntmps17
    go_wp2_with (first
      | (go_at_call 29; refine HL.out.mono ?_; unfold gives; rintro e w2 ⟨rfl, hb2⟩)
      | go_in)
    have hstart : PathAt s l w n (.slice none 0 0) w2 := ⟨l, [], hlp, by simp, World.ownsRow_nil _ _ _ _, hb2⟩
    clear hlp
    go_loopw [1, 7] (fun kk v wr => ∃ k : Int, kk = .int .i64 k ∧ inI k ∧ PathAt s l w k v wr) (fun kk _ _ => dep s.root s.L (RowKit.intOf kk))
    case atStart => exact ⟨n, rfl, hn, hstart⟩
    case round =>
      clear hstart hn HL hb2
      obtain ⟨k, rfl, hk, lp, acc, hpk, hla, hrow, hbw⟩ := hrel
      obtain ⟨bb, bo, DB, DO, hb, h1, h2, h3, h4, g1, g2, g3, hne⟩ := HT.out.below hbw
      have c1 : wr.cell? ⟨g, 1, none⟩ = some (.int .i64 s.root) := hb.cell 1
      have hal : acc.length ≤ 100000 := by
        have := congrArg List.length hla
        simp at this
        omega
      obtain ⟨rt, hrt⟩ : ∃ rt, rt = s.root := ⟨_, rfl⟩
      rw [← hrt] at c1
      by_cases hkr : k = rt
      · have hkq : (k != rt) = false := by simpa using hkr
        have hkk : k = s.root := hkr.trans hrt
        have hlp0 : lp = [] := path_root HW.out.one (by rw [hkk] at hpk; exact hpk)
        have HLA := Lib.hid (show acc.reverse = l by rw [hlp0] at hla; simpa using hla)
        have HREV := Lib.hid (rev_any hrow (by omega))
        have HOB := Lib.hid (fun j hj => (hrow.lt j hj).1)
        clear hlp0 hla hpk hrt hkr hkk hrow h1 h2 h3 h4 hb
        go_wp2_with (first
          | (go_at_call 37; refine HREV.out.mono ?_; rintro e w3 ⟨rfl, hown3, hg3⟩)
          | go_in)
        go_ret2
        rw [HLA.out] at hown3
        exact ⟨.inr ⟨_, l, H0.out, rfl, HP.out, hown3⟩, hbw.grown hg3 hbw.size HOB.out⟩
      · have hkq : (k != rt) = true := by simpa using hkr
        obtain ⟨e, he, hek, lq, hlq, hpq⟩ := path_up hpk (by rw [← hrt]; exact hkr)
        have hei : e.isin = true := (HW.out.ok e he).2 (.up e he (path_hang hpq))
        have hye : inF s.L k = some e.b := by rw [← hek]; exact inF_some HW.out.one.1 he hei
        have hd1 : dep s.root s.L k = lp.length := dep_is HW.out.one hpk
        have hd2 : dep s.root s.L e.p = lq.length := dep_is HW.out.one hpq
        have hdd : dep s.root s.L e.p < dep s.root s.L k := by rw [hd1, hd2, hlq]; simp
        have hla2 : lq ++ (acc ++ [k]).reverse = l := by rw [← hla, hlq]; simp
        have hpi : inI e.p := (HW.out.b e he).p
        have HOB := Lib.hid (fun j hj => (hrow.lt j hj).1)
        have HLA := Lib.hid hla2
        have HPQ := Lib.hid hpq
        have hmax : acc.length + 1 ≤ maxLen := by unfold maxLen; omega
        have hsz := hbw.size
        clear hpk hla hlq hkr hrt hd1 hd2 hla2 hpq hek he hei h1 h2 h3 h4 hb
        obtain ⟨y, hy⟩ : ∃ y, y = e.b := ⟨_, rfl⟩
        have hyp : e.p = y.p := by rw [hy]
        rw [hyp] at hdd hpi HPQ
        rw [← hy] at hye
        clear hy hyp
        go_upto_region 7 with (first
          | (at_builtin; refine wpList_append_own _ rfl _ _ 50 rfl w.heap.size 3 i0 (.int .i64 0) 1 8 Try.underlying50 hi hz0 hz1 hz2 rfl (by decide) _ _ _ rfl (hrow.alloc _) ⟨wr.heap.size, 0, none⟩ 1 1 [.int .i64 k] rfl rfl (cell_one_new _ _ _) (ints_oneCell .i64 [k]) hmax (by omega) (by simp; omega) ?_; intro v' w3 hown3 hg3 _)
          | go_in)
        have hb3 : Below w.heap.size w w3 := (hbw.alloc hbw.size _).grown hg3 (by simp; omega) HOB.out
        obtain ⟨bb', bo', DB, DO, hb, h1, h2, h3, h4, _⟩ := HT.out.below hb3
        have c3 : w3.cell? ⟨g, 3, none⟩ = some (.map (some bb')) := hb.cell 3
        obtain ⟨hat, _⟩ := look_in h3 hk
        rw [hye] at hat
        replace hat : DB.atKey (keyI k) (blD zeroBl) = blD y := hat
        have f1 := fun W => fld_par y W
        have f2 := fun W => fld_blk y W
        have hown4 : OwnI w3 w.heap.size v' (acc ++ [k]) := by
          have e1 : (acc ++ [k]).length = acc.length + 1 := by simp
          have e2 : (acc ++ [k]).map (Value.int .i64) = acc.map (Value.int .i64) ++ [.int .i64 k] := by simp
          unfold OwnI
          rw [e1, e2]
          exact hown3
        have HR := Lib.hid (show PathAt s l w y.p v' w3 from ⟨lq, acc ++ [k], HPQ.out, HLA.out, hown4, hb3⟩)
        have HD := Lib.hid hdd
        clear c1 hye hown3 hown4 hb3 hg3 hrow hbw h2 h3 h4 hb HPQ HLA hdd
        go_wp2_with (first
          | (at_lookup; refine wpList_look_bl _ rfl _ _ rfl bb' _ DB rfl h1 k rfl hk y hat ?_)
          | go_in)
        go_roundw
        case rel => exact ⟨y.p, rfl, hpi, HR.out⟩
        case measure => exact HD.out
  · have H0 := Lib.hid h0
    obtain ⟨q, hq⟩ : ∃ q, q = lackE s n := ⟨_, rfl⟩
    rw [← hq] at HL h0
    have hq0 : (q != 0) = true := by simpa using h0
    have HQ := Lib.hid hq
    clear hq h0
    go_enter Try.func17, Try.ntmps17
    go_wp2_with (first
      | (go_at_call 29; refine HL.out.mono ?_; unfold gives; rintro e w2 ⟨rfl, hb2⟩)
      | go_in)
    go_ret2
    exact ⟨.inl ⟨H0.out, by rw [HQ.out]; rfl⟩, hb2⟩
end Go.Proofs.Ytgclofemhhhepaa
