/-
  The document's coin: choices and views seen as lists; what each of its calls tells and leaves.
-/
import Derived.Test.YtjkfogjhakcnfaaDoorCoin
import Derived.Test.YtjkfogjhakcnfaaDoorRefSignC
set_option linter.unusedSimpArgs false
set_option linter.unusedVariables false
namespace Go.Proofs.YtjkfogjhakcnfaaDoor
open Go.RowKit Go.Maps Go.Lib

/-- A choice, as the document keeps it. -/
def gShr (p : Int × Int) : Shr := ⟨p.2, ⟨0, 0, p.1, 0, 0, 0, 0, 0, 0, 0⟩⟩
def ints (N : List Int) : List Value := N.map (Value.int .i64)
theorem ints_len (N : List Int) : (ints N).length = N.length := by simp [ints]
theorem ints_snoc (N : List Int) (u : Int) : ints (N ++ [u]) = ints N ++ [.int .i64 u] := by simp [ints]
theorem ints_one (N : List Int) : ∀ x ∈ ints N, x.oneCell' = true := by
  intro x hx
  simp only [ints, List.mem_map] at hx
  obtain ⟨s, _, rfl⟩ := hx
  rfl
/-- In w the struct in block r is the document's coin of F f, these choices, these views seen; all its blocks lie in S. -/
def Rc (w : World) (S : Nat → Prop) (r : Nat) (f : Int) (G : List (Int × Int)) (N : List Int) : Prop :=
  ∃ v1 v2, Blk w r 40 #[.int .i64 f, v1, v2] ∧ w.ownsRow 0 53 11 v1 G.length (shrs (G.map gShr)) ∧ w.ownsRow 0 3 1 v2 N.length (ints N) ∧ S r ∧ (∀ k, v1.ownBlock = some k → S k) ∧ (∀ k, v2.ownBlock = some k → S k)
section
variable {w w' : World} {S S' T : Nat → Prop} {r : Nat} {f : Int} {G : List (Int × Int)} {N : List Int}
theorem Rc.lt (h : Rc w S r f G N) : r < w.heap.size := by obtain ⟨_, _, hb, _⟩ := h; exact hb.lt
theorem Rc.mono (h : Rc w S r f G N) (hs : ∀ k, k < w.heap.size → S k → S' k) : Rc w S' r f G N := by
  obtain ⟨v1, v2, hb, hr1, hr2, h1, h2, h3⟩ := h
  exact ⟨v1, v2, hb, hr1, hr2, hs _ hb.lt h1, fun k hk => hs _ (hr1.lt k hk).2 (h2 k hk), fun k hk => hs _ (hr2.lt k hk).2 (h3 k hk)⟩
theorem Rc.kept (h : Rc w S r f G N) (ht : Turn T w w') (hd : ∀ k, k < w.heap.size → S k → ¬ T k) : Rc w' S r f G N := by
  obtain ⟨v1, v2, hb, hr1, hr2, h1, h2, h3⟩ := h
  exact ⟨v1, v2, ht.blk hb (hd _ hb.lt h1), ht.row hr1 (fun k hk => hd _ (hr1.lt k hk).2 (h2 k hk)), ht.row hr2 (fun k hk => hd _ (hr2.lt k hk).2 (h3 k hk)), h1, h2, h3⟩
theorem Rc.below (h : Rc w S r f G N) (hb : Below w.heap.size w w') : Rc w' S r f G N := h.kept (Turn.of_keep (S := fun _ => False) hb) (fun _ _ _ h => h)
end
/-- Rows of unlike elements lie in unlike blocks. -/
theorem row_ne_row {w : World} {b1 b2 s1 s2 n1 n2 : Nat} {e1 e2 : TypeId} {v1 v2 : Value} {x1 x2 : List Value} (h1 : w.ownsRow b1 e1 s1 v1 n1 x1) (h2 : w.ownsRow b2 e2 s2 v2 n2 x2) (hne : e1 ≠ e2) : ∀ k, v1.ownBlock = some k → v2.ownBlock ≠ some k := by
  intro k hk he
  rcases h1.2 with ⟨rfl, _⟩ | ⟨g1, c1, cur1, rfl, _, hh1, _⟩
  · simp [Value.ownBlock] at hk
  · rcases h2.2 with ⟨rfl, _⟩ | ⟨g2, c2, cur2, rfl, _, hh2, _⟩
    · simp [Value.ownBlock] at he
    · have e1' : g1 = k := by simpa [Value.ownBlock] using hk
      have e2' : g2 = k := by simpa [Value.ownBlock] using he
      subst e1'
      subst e2'
      rw [hh1] at hh2
      injection hh2 with hh2
      injection hh2 with _ ht
      exact hne ht
theorem may_any (u : Int) (w : World) : Calls Tryd.prog 28 #[.int .i64 u] w fun e w' => e = .returned (.bool (mayV u)) ∧ w = w' := by
  unfold mayV
  rcases Int.lt_or_le u 1 with h1 | h1
  · rw [decide_eq_false (by omega)]
    have h1' : decide (1 ≤ u) = false := by simp; omega
    go_enter Tryd.func28, Tryd.ntmps28
    go_wp2
    go_ret
    exact ⟨rfl, rfl⟩
  · have h1' : decide (1 ≤ u) = true := by simp; omega
    rcases Int.lt_or_le 1048576 u with h2 | h2
    · rw [decide_eq_false (by omega)]
      have h2' : decide (u ≤ 1048576) = false := by simp; omega
      go_enter Tryd.func28, Tryd.ntmps28
      go_wp2
      go_ret
      exact ⟨rfl, rfl⟩
    · rw [decide_eq_true (by omega)]
      have h2' : decide (u ≤ 1048576) = true := by simp; omega
      go_enter Tryd.func28, Tryd.ntmps28
      go_wp2
      go_ret
      exact ⟨rfl, rfl⟩
theorem ints_at {N : List Int} {k : Nat} {x : Value} (hk : k < N.length) (h : (ints N)[k]? = some x) : x = .int .i64 N[k] := by
  simp only [ints, List.getElem?_map, List.getElem?_eq_getElem hk, Option.map_some, Option.some.injEq] at h
  exact h.symm
set_option maxHeartbeats 1000000 in
set_option maxRecDepth 100000 in
theorem was_any (S : Nat → Prop) (r : Nat) (f : Int) (G : List (Int × Int)) (N : List Int) (u : Int) (w : World) (h : Rc w S r f G N) (hl : N.length ≤ 1000000000) :
    Calls Tryd.prog 19 #[.pointer (some ⟨r, 0, none⟩), .int .i64 u] w fun e w' => e = .returned (.bool (decide (u ∈ N))) ∧ w = w' := by
  obtain ⟨v1, v2, hb, hr1, hr2, h1, h2, h3⟩ := h
  obtain ⟨A, c, rfl, hc, hrd⟩ := row_reads hr2
  have c2 := hb.cell 2
  clear hb hr1 hr2 h2 h3
  go_enter Tryd.func19, Tryd.ntmps19
  go_wp2
  go_loopw [5] (fun i wr => ∃ k : Nat, i = .int .i64 k ∧ k ≤ N.length ∧ (∀ y ∈ N.take k, y ≠ u) ∧ w = wr) (fun i _ => N.length - (intOf i).toNat)
  case atStart => exact ⟨0, rfl, Nat.zero_le _, fun y hy => by simp at hy, rfl⟩
  case round =>
    obtain ⟨k, rfl, hk, hno, rfl⟩ := hrel
    by_cases hlt : k < N.length
    · obtain ⟨ad, x, rfl, _, hx, hcl⟩ := hrd.at_ hlt
      obtain rfl := ints_at hlt hx
      obtain ⟨y, hy⟩ : ∃ y, y = N[k] := ⟨_, rfl⟩
      have hym : y ∈ N := by rw [hy]; exact List.getElem_mem hlt
      have htk : N.take (k + 1) = N.take k ++ [y] := by rw [hy, List.take_succ_eq_append_getElem hlt]
      rw [← hy] at hcl
      have HT := Lib.hid htk
      have HN := Lib.hid hno
      have HM := Lib.hid hym
      have hw' : IntKind.i64.wrap (k : Int) = (k : Int) := IntWalk.i64_in _ (by omega)
      clear hx hy htk hno hym
      by_cases he : y = u
      · have he' : (y == u) = true := by simpa using he
        have HE := Lib.hid he
        clear he
        go_wp2_with fail
        go_ret
        exact ⟨by rw [decide_eq_true (HE.out ▸ HM.out)]; rfl, rfl⟩
      · have he' : (y == u) = false := by simpa using he
        have HE := Lib.hid he
        clear he
        go_wp2_with fail
        go_roundw
        case rel => exact ⟨k + 1, by go_num, by omega, fun z hz => by
          rw [HT.out, List.mem_append] at hz
          rcases hz with hz | hz
          · exact HN.out z hz
          · simp at hz; subst hz; exact HE.out, by first | rfl | trivial⟩
        case measure => simp [intOf]; omega
    · rw [List.take_of_length_le (by omega)] at hno
      have hn : u ∉ N := fun h => hno u h rfl
      have HN := Lib.hid hn
      clear hno hn
      go_wp2_with fail
      go_ret
      exact ⟨by rw [decide_eq_false HN.out]; rfl, rfl⟩
theorem add_pos (b : Addr) (f : Nat) (h : 0 < f) : b.add f = ⟨b.block, b.off + f, none⟩ := by
  unfold Addr.add
  rw [if_neg (by omega)]
set_option maxHeartbeats 1000000 in
set_option maxRecDepth 100000 in
theorem chosen_any (S : Nat → Prop) (r : Nat) (f : Int) (G : List (Int × Int)) (N : List Int) (u : Int) (w : World) (h : Rc w S r f G N) (hl : G.length ≤ 1000000000) :
    Calls Tryd.prog 29 #[.pointer (some ⟨r, 0, none⟩), .int .i64 u] w fun e w' => e = .returned (.int .i64 (chosenV G u)) ∧ w = w' := by
  obtain ⟨v1, v2, hb, hr1, hr2, h1, h2, h3⟩ := h
  obtain ⟨A, c, rfl, hc, hrd⟩ := row_reads hr1
  have c1 := hb.cell 1
  have hlen : (G.map gShr).length = G.length := by simp
  clear hb hr1 hr2 h2 h3
  go_enter Tryd.func29, Tryd.ntmps29
  go_wp2
  go_loopw [5] (fun i wr => ∃ k : Nat, i = .int .i64 k ∧ k ≤ G.length ∧ chosenV (G.drop k) u = chosenV G u ∧ w = wr) (fun i _ => G.length - (intOf i).toNat)
  case atStart => exact ⟨0, rfl, Nat.zero_le _, rfl, rfl⟩
  case round =>
    obtain ⟨k, rfl, hk, hi, rfl⟩ := hrel
    have HRD := Lib.hid hrd
    clear hrd
    by_cases hlt : k < G.length
    · have hlt' : k < (G.map gShr).length := by rw [hlen]; exact hlt
      obtain ⟨ad, rfl, had, hcl⟩ := Reads.shr (L := G.map gShr) (by rw [hlen]; exact HRD.out) hlt'
      obtain ⟨⟨gv, gk⟩, hp⟩ : ∃ p, p = G[k] := ⟨_, rfl⟩
      have e : (G.map gShr)[k] = gShr (gv, gk) := by rw [List.getElem_map, hp]
      rw [e] at hcl
      have d0 : w.cell? ((ad.add (k * 11)).add 0) = some (.int .i64 gk) := hcl 0 _ rfl
      have d3 : w.cell? ((ad.add (k * 11)).add 3) = some (.int .i64 gv) := hcl 3 _ rfl
      rw [add_pos _ _ (by decide)] at d3
      rw [show (ad.add (k * 11)).add 0 = ad.add (k * 11) by simp [Addr.add]] at d0
      rw [List.drop_eq_getElem_cons hlt, ← hp] at hi
      have hi' : (if gv = u then gk else chosenV (G.drop (k + 1)) u) = chosenV G u := hi
      have HI := Lib.hid hi'
      have hw' : IntKind.i64.wrap (k : Int) = (k : Int) := IntWalk.i64_in _ (by omega)
      clear hcl e hp hi hi' hlt' hlen
      by_cases he : gv = u
      · have he' : (gv == u) = true := by simpa using he
        have HE := Lib.hid he
        clear he
        go_wp2_with fail
        go_ret
        exact ⟨by rw [← HI.out, if_pos HE.out]; rfl, rfl⟩
      · have he' : (gv == u) = false := by simpa using he
        have HE := Lib.hid he
        clear he
        go_wp2_with fail
        go_roundw
        case rel => exact ⟨k + 1, by go_num, by omega, by rw [← HI.out, if_neg HE.out], by first | rfl | trivial⟩
        case measure => simp [intOf]; omega
    · rw [List.drop_eq_nil_of_le (by omega)] at hi
      have HI := Lib.hid hi
      clear hi
      go_wp2_with fail
      go_ret
      exact ⟨by rw [← HI.out]; rfl, rfl⟩
end Go.Proofs.YtjkfogjhakcnfaaDoor
