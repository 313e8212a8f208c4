import Derived.Test.YtomaaidhmccngaaGreatDoorL7C
import Derived.Test.YtomaaidhmccngaaGreatDoorL7R
set_option linter.unusedSimpArgs false
set_option linter.unusedVariables false
set_option maxRecDepth 100000
set_option maxHeartbeats 16000000
namespace Go.Proofs.YtomaaidhmccngaaGreatDoor.L7
open Go.RowKit Go.Maps Go.Lib L3 L4 L6
def gShr (p : Int × Int) : Shr := ⟨p.2, ⟨0, 0, p.1, 0, 0, 0, 0, 0, 0, 0⟩⟩
def ints (N : List Int) : List Value := N.map (Value.int .i64)
theorem qlC (N : List Int) (u : Int) : ints (N ++ [u]) = ints N ++ [.int .i64 u] := by simp [ints]
def Rc (w : World) (S : Nat -> Prop) (r : Nat) (f : Int) (G : List (Int × Int)) (N : List Int) : Prop :=
 ∃ v1 v2, Blk w r 99 #[.int .i64 f, v1, v2] /\ w.ownsRow 0 75 11 v1 G.length (shrs (G.map gShr)) /\ w.ownsRow 0 3 1 v2 N.length (ints N) /\ S r /\ (∀ k, v1.ownBlock = some k -> S k) /\ (∀ k, v2.ownBlock = some k -> S k)
section
variable {w w' : World} {S S' T : Nat -> Prop} {r : Nat} {f : Int} {G : List (Int × Int)} {N : List Int}
theorem Rc.lt (h : Rc w S r f G N) : r < w.heap.size := by obtain ⟨_, _, hb, _⟩ := h; exact hb.lt
theorem Rc.mono (h : Rc w S r f G N) (hs : ∀ k, k < w.heap.size -> S k -> S' k) : Rc w S' r f G N := by
 obtain ⟨v1, v2, hb, hr1, hr2, h1, h2, h3⟩ := h
 exact ⟨v1, v2, hb, hr1, hr2, hs _ hb.lt h1, fun k hk => hs _ (hr1.lt k hk).2 (h2 k hk), fun k hk => hs _ (hr2.lt k hk).2 (h3 k hk)⟩
theorem Rc.kept (h : Rc w S r f G N) (ht : Turn T w w') (hd : ∀ k, k < w.heap.size -> S k -> ¬ T k) : Rc w' S r f G N := by
 obtain ⟨v1, v2, hb, hr1, hr2, h1, h2, h3⟩ := h
 exact ⟨v1, v2, ht.blk hb (hd _ hb.lt h1), ht.row hr1 (fun k hk => hd _ (hr1.lt k hk).2 (h2 k hk)), ht.row hr2 (fun k hk => hd _ (hr2.lt k hk).2 (h3 k hk)), h1, h2, h3⟩
theorem Rc.below (h : Rc w S r f G N) (hb : Below w.heap.size w w') : Rc w' S r f G N := h.kept (Turn.of_keep (S := fun _ => False) hb) (fun _ _ _ h => h)
end
theorem qga {w : World} {b1 b2 s1 s2 n1 n2 : Nat} {e1 e2 : TypeId} {v1 v2 : Value} {x1 x2 : List Value} (h1 : w.ownsRow b1 e1 s1 v1 n1 x1) (h2 : w.ownsRow b2 e2 s2 v2 n2 x2) (hne : e1 ≠ e2) : ∀ k, v1.ownBlock = some k -> v2.ownBlock ≠ some k := by
 intro k hk he
 rcases h1.2 with ⟨rfl, _⟩ | ⟨g1, c1, cur1, rfl, _, hh1, _⟩
 ·simp [Value.ownBlock] at hk
 ·rcases h2.2 with ⟨rfl, _⟩ | ⟨g2, c2, cur2, rfl, _, hh2, _⟩
  ·simp [Value.ownBlock] at he
  ·have e1' : g1 = k := by simpa [Value.ownBlock] using hk
   have e2' : g2 = k := by simpa [Value.ownBlock] using he
   subst e1'
   subst e2'
   rw [hh1] at hh2
   injection hh2 with hh2
   injection hh2 with _ ht
   exact hne ht
theorem qcm (u : Int) (w : World) : Calls Tryz.prog 118 #[.int .i64 u] w fun e w' => e = .returned (.bool (mayV u)) /\ w = w' := by
 unfold mayV
 rcases Int.lt_or_le u 1 with h1 | h1
 ·rw [decide_eq_false (by omega)]
  have h1' : decide (1 <= u) = false := by simp; omega
  go_enter Tryz.func118, Tryz.ntmps118
  go_wp2
  go_ret
  exact ⟨rfl, rfl⟩
 ·have h1' : decide (1 <= u) = true := by simp; omega
  rcases Int.lt_or_le 1048576 u with h2 | h2
  ·rw [decide_eq_false (by omega)]
   have h2' : decide (u <= 1048576) = false := by simp; omega
   go_enter Tryz.func118, Tryz.ntmps118
   go_wp2
   go_ret
   exact ⟨rfl, rfl⟩
  ·rw [decide_eq_true (by omega)]
   have h2' : decide (u <= 1048576) = true := by simp; omega
   go_enter Tryz.func118, Tryz.ntmps118
   go_wp2
   go_ret
   exact ⟨rfl, rfl⟩
theorem ints_at {N : List Int} {k : Nat} {x : Value} (hk : k < N.length) (h : (ints N)[k]? = some x) : x = .int .i64 N[k] := by
 simp only [ints, List.getElem?_map, List.getElem?_eq_getElem hk, Option.map_some, Option.some.injEq] at h
 exact h.symm
theorem qgU (S : Nat -> Prop) (r : Nat) (f : Int) (G : List (Int × Int)) (N : List Int) (u : Int) (w : World) (h : Rc w S r f G N) (hl : N.length <= 1000000000) :
 Calls Tryz.prog 23 #[.pointer (some ⟨r, 0, none⟩), .int .i64 u] w fun e w' => e = .returned (.bool (decide (u ∈ N))) /\ w = w' := by
 obtain ⟨v1, v2, hb, hr1, hr2, h1, h2, h3⟩ := h
 obtain ⟨A, c, rfl, hc, hrd⟩ := qav hr2
 have c2 := hb.cell 2
 clear hb hr1 hr2 h2 h3
 go_enter Tryz.func23, Tryz.ntmps23
 go_wp2
 go_loopw [5] (fun i wr => ∃ k : Nat, i = .int .i64 k /\ k <= N.length /\ (∀ y ∈ N.take k, y ≠ u) /\ w = wr) (fun i _ => N.length - (intOf i).toNat)
 case atStart => exact ⟨0, rfl, Nat.zero_le _, fun y hy => by simp at hy, rfl⟩
 case round =>
  obtain ⟨k, rfl, hk, hno, rfl⟩ := hrel
  by_cases hlt : k < N.length
  ·obtain ⟨ad, x, rfl, _, hx, hcl⟩ := hrd.at_ hlt
   obtain rfl := ints_at hlt hx
   obtain ⟨y, hy⟩ := nm (N[k])
   have hym : y ∈ N := by rw [hy]; exact List.getElem_mem hlt
   have htk : N.take (k + 1) = N.take k ++ [y] := by rw [hy, List.take_succ_eq_append_getElem hlt]
   rw [<- hy] at hcl
   have HT := hid htk
   have HN := hid hno
   have HM := hid hym
   have hw' : IntKind.i64.wrap (k : Int) = (k : Int) := IntWalk.i64_in _ (by omega)
   clear hx hy htk hno hym
   by_cases he : y = u
   ·have he' : (y == u) = true := by simpa using he
    have HE := hid he
    clear he
    go_wp2_with fail
    go_ret
    exact ⟨by rw [decide_eq_true (HE.out ▸ HM.out)]; rfl, rfl⟩
   ·have he' : (y == u) = false := by simpa using he
    have HE := hid he
    clear he
    go_wp2_with fail
    go_roundw
    case rel => exact ⟨k + 1, by go_num, by omega, fun z hz => by
     rw [HT.out, List.mem_append] at hz
     rcases hz with hz | hz
     ·exact HN.out z hz
     ·simp at hz; subst hz; exact HE.out, by first | rfl | trivial⟩
    case measure => simp [intOf]; omega
  ·rw [List.take_of_length_le (by omega)] at hno
   have hn : u ∉ N := fun h => hno u h rfl
   have HN := hid hn
   clear hno hn
   go_wp2_with fail
   go_ret
   exact ⟨by rw [decide_eq_false HN.out]; rfl, rfl⟩
theorem add_pos (b : Addr) (f : Nat) (h : 0 < f) : b.add f = ⟨b.block, b.off + f, none⟩ := by
 unfold Addr.add
 rw [if_neg (by omega)]
theorem qep (S : Nat -> Prop) (r : Nat) (f : Int) (G : List (Int × Int)) (N : List Int) (u : Int) (w : World) (h : Rc w S r f G N) (hl : G.length <= 1000000000) :
 Calls Tryz.prog 119 #[.pointer (some ⟨r, 0, none⟩), .int .i64 u] w fun e w' => e = .returned (.int .i64 (chosenV G u)) /\ w = w' := by
 obtain ⟨v1, v2, hb, hr1, hr2, h1, h2, h3⟩ := h
 obtain ⟨A, c, rfl, hc, hrd⟩ := qav hr1
 have c1 := hb.cell 1
 have hlen : (G.map gShr).length = G.length := by simp
 clear hb hr1 hr2 h2 h3
 go_enter Tryz.func119, Tryz.ntmps119
 go_wp2
 go_loopw [5] (fun i wr => ∃ k : Nat, i = .int .i64 k /\ k <= G.length /\ chosenV (G.drop k) u = chosenV G u /\ w = wr) (fun i _ => G.length - (intOf i).toNat)
 case atStart => exact ⟨0, rfl, Nat.zero_le _, rfl, rfl⟩
 case round =>
  obtain ⟨k, rfl, hk, hi, rfl⟩ := hrel
  have HRD := hid hrd
  clear hrd
  by_cases hlt : k < G.length
  ·have hlt' : k < (G.map gShr).length := by rw [hlen]; exact hlt
   obtain ⟨ad, rfl, had, hcl⟩ := Reads.shr (L := G.map gShr) (by rw [hlen]; exact HRD.out) hlt'
   obtain ⟨⟨gv, gk⟩, hp⟩ : ∃ p, p = G[k] := ⟨_, rfl⟩
   have e : (G.map gShr)[k] = gShr (gv, gk) := by rw [List.getElem_map, hp]
   rw [e] at hcl
   have d0 : w.cell? ((ad.add (k * 11)).add 0) = some (.int .i64 gk) := hcl 0 _ rfl
   have d3 : w.cell? ((ad.add (k * 11)).add 3) = some (.int .i64 gv) := hcl 3 _ rfl
   rw [add_pos _ _ (by decide)] at d3
   rw [show (ad.add (k * 11)).add 0 = ad.add (k * 11) by simp [Addr.add]] at d0
   rw [List.drop_eq_getElem_cons hlt, <- hp] at hi
   have hi' : (if gv = u then gk else chosenV (G.drop (k + 1)) u) = chosenV G u := hi
   have HI := hid hi'
   have hw' : IntKind.i64.wrap (k : Int) = (k : Int) := IntWalk.i64_in _ (by omega)
   clear hcl e hp hi hi' hlt' hlen
   by_cases he : gv = u
   ·have he' : (gv == u) = true := by simpa using he
    have HE := hid he
    clear he
    go_wp2_with fail
    go_ret
    exact ⟨by rw [<- HI.out, if_pos HE.out]; rfl, rfl⟩
   ·have he' : (gv == u) = false := by simpa using he
    have HE := hid he
    clear he
    go_wp2_with fail
    go_roundw
    case rel => exact ⟨k + 1, by go_num, by omega, by rw [<- HI.out, if_neg HE.out], by first | rfl | trivial⟩
    case measure => simp [intOf]; omega
  ·rw [List.drop_eq_nil_of_le (by omega)] at hi
   have HI := hid hi
   clear hi
   go_wp2_with fail
   go_ret
   exact ⟨by rw [<- HI.out]; rfl, rfl⟩
end Go.Proofs.YtomaaidhmccngaaGreatDoor.L7
namespace Go.Proofs.YtomaaidhmccngaaGreatDoor.L7
open Go.RowKit Go.Maps Go.Lib L3 L4 L6
theorem qk8 (S : Nat -> Prop) (r : Nat) (f : Int) (G : List (Int × Int)) (N : List Int) (u : Int) (w : World) (h : Rc w S r f G N) (hf : inI f) (hl : G.length <= 1000000000) :
 Calls Tryz.prog 125 #[.pointer (some ⟨r, 0, none⟩), .int .i64 u] w fun e w' => e = .returned (.int .i64 (whoV f G u)) /\ w = w' := by
 have hch := qep S r f G N u w h hl
 have hld := fun w => qgD f u w hf.1 hf.2
 obtain ⟨v1, v2, hb, hr1, hr2, h1, h2, h3⟩ := h
 have c0 := hb.cell 0
 unfold whoV
 obtain ⟨q, hq⟩ := nm (chosenV G u)
 obtain ⟨l, hl⟩ := nm (leadV f u)
 rw [<- hq] at hch ⊢
 simp only [<- hl] at hld ⊢
 have HH := hid (And.intro hch hld)
 clear hb hr1 hr2 h2 h3 hch hld hq hl
 by_cases hlt : q < 0
 ·rw [if_pos hlt]
  have hlt' : decide (q < 0) = true := by simpa using hlt
  go_enter Tryz.func125, Tryz.ntmps125
  go_wp2_with (first
   | (go_at_call 119; refine HH.out.1.mono ?_; rintro e w1 ⟨rfl, rfl⟩)
   | (go_at_call 97; refine (HH.out.2 _).mono ?_; rintro e w1 ⟨rfl, rfl⟩))
  go_ret
  exact ⟨rfl, rfl⟩
 ·rw [if_neg hlt]
  have hlt' : decide (q < 0) = false := by simpa using hlt
  go_enter Tryz.func125, Tryz.ntmps125
  go_wp2_with (go_at_call 119; refine HH.out.1.mono ?_; rintro e w1 ⟨rfl, rfl⟩)
  go_ret
  exact ⟨rfl, rfl⟩
theorem qhb (u : Int) (w : World) : (Instr.build 73 #[(2, .int .i64 u)]).run Tryz.prog w = .ok (.agg (stmC ⟨0, 0, u, 0, 0, 0, 0, 0, 0, 0⟩)) w := run_build w _ _ _ (by kernel_rfl)
theorem qh9 (r : Nat) (u k : Int) (w : World) (hu : mayV u = false) : Calls Tryz.prog 48 #[.pointer (some ⟨r, 0, none⟩), .int .i64 u, .int .i64 k] w fun e w' => e = .returned (.int .i64 70) /\ Below w.heap.size w w' := by
 have hm := qcm u
 rw [hu] at hm
 go_enter Tryz.func48, Tryz.ntmps48
 go_wp2_with (go_at_call 118; refine (hm _).mono ?_; rintro e w1 ⟨rfl, rfl⟩)
 go_ret
 exact ⟨rfl, Below.refl _ _⟩
theorem qi5 (S : Nat -> Prop) (r : Nat) (f : Int) (G : List (Int × Int)) (N : List Int) (u k : Int) (w : World) (h : Rc w S r f G N) (hf : inI f) (hu : mayV u = true) (hk : inN f k = false) :
 Calls Tryz.prog 48 #[.pointer (some ⟨r, 0, none⟩), .int .i64 u, .int .i64 k] w fun e w' => e = .returned (.int .i64 40) /\ Below w.heap.size w w' := by
 have hm := qcm u
 rw [hu] at hm
 have ha := fun w => qaQ f w hf.1 hf.2
 obtain ⟨m, hmm, hm10⟩ := qbv f
 rw [hmm] at ha
 unfold inN at hk
 rw [hmm] at hk
 have hk := of_decide_eq_false hk
 obtain ⟨v1, v2, hb, hr1, hr2, h1, h2, h3⟩ := h
 have c0 := hb.cell 0
 have HH := hid (And.intro hm ha)
 clear hb hr1 hr2 h2 h3 hm ha hmm
 by_cases h0 : k < 0
 ·have h0' : decide (k < 0) = true := by simpa using h0
  go_enter Tryz.func48, Tryz.ntmps48
  go_wp2_with (go_at_call 118; refine (HH.out.1 _).mono ?_; rintro e w1 ⟨rfl, rfl⟩)
  go_ret
  exact ⟨rfl, Below.refl _ _⟩
 ·have h0' : decide (k < 0) = false := by simpa using h0
  have h1' : decide ((m : Int) <= k) = true := by simp; omega
  clear hk
  go_enter Tryz.func48, Tryz.ntmps48
  go_wp2_with (first
   | (go_at_call 118; refine (HH.out.1 _).mono ?_; rintro e w1 ⟨rfl, rfl⟩)
   | (go_at_call 96; refine (HH.out.2 _).mono ?_; rintro e w1 ⟨rfl, rfl⟩))
  go_ret
  exact ⟨rfl, Below.refl _ _⟩
theorem qg7 (S : Nat -> Prop) (r : Nat) (f : Int) (G : List (Int × Int)) (N : List Int) (u k : Int) (w : World) (h : Rc w S r f G N) (hf : inI f) (hlG : G.length <= 1000000000) (hlN : N.length <= 1000000000) (hu : mayV u = true) (hk : inN f k = true) (ht : thereV G N u = true) :
 Calls Tryz.prog 48 #[.pointer (some ⟨r, 0, none⟩), .int .i64 u, .int .i64 k] w fun e w' => e = .returned (.int .i64 100) /\ Below w.heap.size w w' := by
 have hm := qcm u
 rw [hu] at hm
 have ha := fun w => qaQ f w hf.1 hf.2
 have hch := qep S r f G N u w h hlG
 have hwas := qgU S r f G N u w h hlN
 obtain ⟨m, hmm, hm10⟩ := qbv f
 rw [hmm] at ha
 unfold inN at hk
 rw [hmm] at hk
 have hk := of_decide_eq_true hk
 have h0' : decide (k < 0) = false := by simp; omega
 have h1' : decide ((m : Int) <= k) = false := by simp; omega
 obtain ⟨v1, v2, hb, hr1, hr2, h1, h2, h3⟩ := h
 have c0 := hb.cell 0
 unfold thereV at ht
 obtain ⟨q, hq⟩ := nm (chosenV G u)
 obtain ⟨b, hbq⟩ := nm (decide (u ∈ N))
 rw [<- hq] at hch ht
 rw [<- hbq] at hwas ht
 have HH := hid (And.intro hm (And.intro ha (And.intro hch hwas)))
 clear hb hr1 hr2 h2 h3 hm ha hmm hk hch hwas hq hbq
 by_cases hq0 : 0 <= q
 ·have hq0' : decide (0 <= q) = true := by simpa using hq0
  clear ht
  go_enter Tryz.func48, Tryz.ntmps48
  go_wp2_with (first
   | (go_at_call 118; refine (HH.out.1 _).mono ?_; rintro e w1 ⟨rfl, rfl⟩)
   | (go_at_call 96; refine (HH.out.2.1 _).mono ?_; rintro e w1 ⟨rfl, rfl⟩)
   | (go_at_call 119; refine HH.out.2.2.1.mono ?_; rintro e w1 ⟨rfl, rfl⟩))
  go_ret
  exact ⟨rfl, Below.refl _ _⟩
 ·have hq0' : decide (0 <= q) = false := by simpa using hq0
  rw [hq0', Bool.false_or] at ht
  subst ht
  go_enter Tryz.func48, Tryz.ntmps48
  go_wp2_with (first
   | (go_at_call 118; refine (HH.out.1 _).mono ?_; rintro e w1 ⟨rfl, rfl⟩)
   | (go_at_call 96; refine (HH.out.2.1 _).mono ?_; rintro e w1 ⟨rfl, rfl⟩)
   | (go_at_call 119; refine HH.out.2.2.1.mono ?_; rintro e w1 ⟨rfl, rfl⟩)
   | (go_at_call 23; refine HH.out.2.2.2.mono ?_; rintro e w1 ⟨rfl, rfl⟩))
  go_ret
  exact ⟨rfl, Below.refl _ _⟩
theorem qi4 (S : Nat -> Prop) (r : Nat) (f : Int) (G : List (Int × Int)) (N : List Int) (u k : Int) (w : World) (h : Rc w S r f G N) (hf : inI f) (hlG : G.length <= 1000000000) (hlN : N.length <= 1000000000) (hu : mayV u = true) (hk : inN f k = true) (ht : thereV G N u = false) :
 Calls Tryz.prog 48 #[.pointer (some ⟨r, 0, none⟩), .int .i64 u, .int .i64 k] w fun e w' => e = .returned (.int .i64 0) /\ Rc w' (moreB S w w') r f (G ++ [(u, k)]) N /\ Turn S w w' := by
 have hm := qcm u
 rw [hu] at hm
 have ha := fun w => qaQ f w hf.1 hf.2
 have hch := qep S r f G N u w h hlG
 have hwas := qgU S r f G N u w h hlN
 obtain ⟨m, hmm, hm10⟩ := qbv f
 rw [hmm] at ha
 unfold inN at hk
 rw [hmm] at hk
 have hk := of_decide_eq_true hk
 have h0' : decide (k < 0) = false := by simp; omega
 have h1' : decide ((m : Int) <= k) = false := by simp; omega
 obtain ⟨v1, v2, hb, hr1, hr2, h1, h2, h3⟩ := h
 have c0 := hb.cell 0
 have c1 := hb.cell 1
 obtain ⟨ht1, ht2⟩ := qdd.1 ht
 rw [decide_eq_false ht2] at hwas
 obtain ⟨q, hq⟩ := nm (chosenV G u)
 rw [<- hq] at hch ht1
 have hq0' : decide (0 <= q) = false := by simp; omega
 obtain ⟨i0, hi, hz0, hz1, hz2⟩ := info_parts shrInfo
 have hlen : (G.map gShr).length = G.length := by simp
 have hvg1 := qa1 hr1 hb (by decide)
 have hv12 := qga hr1 hr2 (by decide)
 obtain ⟨A, cp, rfl, _, _⟩ := qav hr1
 have HH := hid (And.intro hm (And.intro ha (And.intro hch hwas)))
 have HR := hid (And.intro hr1 hr2)
 clear hr1 hr2 hm ha hmm hk hch hwas hq ht ht1 ht2
 go_enter Tryz.func48, Tryz.ntmps48
 go_wp2_with (first
  | (go_at_call 118; refine (HH.out.1 _).mono ?_; rintro e w1 ⟨rfl, rfl⟩)
  | (go_at_call 96; refine (HH.out.2.1 _).mono ?_; rintro e w1 ⟨rfl, rfl⟩)
  | (go_at_call 119; refine HH.out.2.2.1.mono ?_; rintro e w1 ⟨rfl, rfl⟩)
  | (go_at_call 23; refine HH.out.2.2.2.mono ?_; rintro e w1 ⟨rfl, rfl⟩)
  | (refine wpList_build rfl _ _ rfl #[(2, .int .i64 u)] rfl (qhb u _) ?_)
  | (refine wpList_build rfl _ _ rfl #[(0, .int .i64 k), (1, .agg (stmC ⟨0, 0, u, 0, 0, 0, 0, 0, 0, 0⟩))] rfl (qbN k ⟨0, 0, u, 0, 0, 0, 0, 0, 0, 0⟩ _) ?_)
  | (refine wpList_buildSlice rfl _ _ _ rfl #[(0, .agg (shrC (gShr (u, k))))] rfl (qco (gShr (u, k)) w) ?_)
  | (at_builtin
     refine qao _ rfl (.tmp 34) (.tmp 39) 25 rfl 0 75 i0 _ 11 88 Tryz.underlying25 hi hz0 hz1 hz2 rfl (by decide) (.slice A G.length cp) G.length (shrs (G.map gShr)) rfl
      (HR.out.1.alloc _) (w.heap.size + 1) (some ⟨w.heap.size, 0, none⟩) 1 1 (shrL (gShr (u, k))) rfl (qdT w (gShr (u, k)) _) (qct _) (by unfold maxLen; omega) (by omega) (Nat.zero_le _) ?_
     intro v6 w6 ho6 hg6 hat6
     have hb6 := (hb.alloc (.cells (shrC (gShr (u, k))) 75)).grown hg6 (fun e => hvg1 e.symm)
     obtain ⟨A6, cp6, rfl, hc6, hrd6⟩ := qav ho6
     have d1 := hb6.cell 1
     have f1 := hb6.frozen 1))
 go_ret
 have hv6 : ∀ j, (Value.slice A6 (G.length + 1) cp6).ownBlock = some j -> S j ∨ w.heap.size <= j := by
  intro j hj
  rcases hat6 with e | e
  ·rw [e] at hj; exact .inl (h2 j hj)
  ·rw [e] at hj; simp at hj; right; omega
 have hr2' : w6.ownsRow 0 3 1 v2 N.length (ints N) := (HR.out.2.alloc _).kept hg6 (by
  rcases hv : v2.ownBlock with _ | j
  ·exact .inl rfl
  ·right
   intro e
   exact hv12 j e.symm hv)
 have ht6 : Turn S w w6 := ((Turn.refl S w).alloc (.cells (shrC (gShr (u, k))) 75)).grown hg6 (fun i e => .inl (h2 i e))
 have hR7 := ((Turn.refl (fun j => j = r) w6).setCell (p := ⟨r, 1, none⟩) (.inl rfl) (.slice A6 (G.length + 1) cp6)).row ho6 (fun j hj e => qa1 ho6 hb6 (by decide) (by rw [hj, e]))
 have hR8 := ((Turn.refl (fun j => j = r) w6).setCell (p := ⟨r, 1, none⟩) (.inl rfl) (.slice A6 (G.length + 1) cp6)).row hr2' (fun j hj e => qa1 hr2' hb6 (by decide) (by rw [hj, e]))
 refine ⟨rfl, ⟨.slice A6 (G.length + 1) cp6, v2, hb6.set_ 1 _, ?_, hR8, .inl h1, fun j hj => (hv6 j hj).imp id (fun h => ⟨h, (hR7.lt j hj).2⟩), fun j hj => .inl (h3 j hj)⟩, ht6.setCell (.inl h1) _⟩
 rw [List.length_append, List.map_append, show List.map gShr [(u, k)] = [gShr (u, k)] from rfl, qda]
 exact hR7
theorem qi3 (S : Nat -> Prop) (r : Nat) (f : Int) (G : List (Int × Int)) (N : List Int) (u k : Int) (w : World) (h : Rc w S r f G N) (hf : inI f) (hlG : G.length <= 1000000000) (hlN : N.length <= 1000000000) :
 Calls Tryz.prog 48 #[.pointer (some ⟨r, 0, none⟩), .int .i64 u, .int .i64 k] w fun e w' => e = .returned (.int .i64 (chooseE f G N u k)) /\ Rc w' (moreB S w w') r f (chooseG f G N u k) N /\ Turn S w w' := by
 have low : ∀ w', Below w.heap.size w w' -> Rc w' (moreB S w w') r f G N /\ Turn S w w' := fun w' hb => ⟨(h.below hb).mono fun _ _ => .inl, Turn.of_keep hb⟩
 rcases Bool.eq_false_or_eq_true (mayV u) with hu | hu
 ·rcases Bool.eq_false_or_eq_true (inN f k) with hk | hk
  ·rcases Bool.eq_false_or_eq_true (thereV G N u) with ht | ht
   ·have e1 : chooseE f G N u k = 100 := by unfold chooseE; rw [if_pos hu, if_pos hk, if_pos ht]
    have e2 : chooseG f G N u k = G := by unfold chooseG; rw [if_neg (by rw [e1]; decide)]
    rw [e1, e2]
    refine (qg7 S r f G N u k w h hf hlG hlN hu hk ht).mono ?_
    rintro e w' ⟨rfl, hb⟩
    exact ⟨rfl, low w' hb⟩
   ·have e1 : chooseE f G N u k = 0 := by unfold chooseE; rw [if_pos hu, if_pos hk, if_neg (by rw [ht]; decide)]
    have e2 : chooseG f G N u k = G ++ [(u, k)] := by unfold chooseG; rw [if_pos e1]
    rw [e1, e2]
    exact qi4 S r f G N u k w h hf hlG hlN hu hk ht
  ·have e1 : chooseE f G N u k = 40 := by unfold chooseE; rw [if_pos hu, if_neg (by rw [hk]; decide)]
   have e2 : chooseG f G N u k = G := by unfold chooseG; rw [if_neg (by rw [e1]; decide)]
   rw [e1, e2]
   refine (qi5 S r f G N u k w h hf hu hk).mono ?_
   rintro e w' ⟨rfl, hb⟩
   exact ⟨rfl, low w' hb⟩
 ·have e1 : chooseE f G N u k = 70 := by unfold chooseE; rw [if_neg (by rw [hu]; decide)]
  have e2 : chooseG f G N u k = G := by unfold chooseG; rw [if_neg (by rw [e1]; decide)]
  rw [e1, e2]
  refine (qh9 r u k w hu).mono ?_
  rintro e w' ⟨rfl, hb⟩
  exact ⟨rfl, low w' hb⟩
end Go.Proofs.YtomaaidhmccngaaGreatDoor.L7
namespace Go.Proofs.YtomaaidhmccngaaGreatDoor.L7
open Go.RowKit Go.Maps Go.Lib L3 L4 L6
theorem qmE (u : Int) (w : World) : (Instr.buildSlice 79 1 #[(0, .int .i64 u)]).run Tryz.prog w = .ok (.slice (some ⟨w.heap.size, 0, none⟩) 1 1) (w.alloc (.cells #[.int .i64 u] 3)) := by kernel_rfl
theorem qbC (w : World) (u : Value) (e : TypeId) : Reads (w.alloc (.cells #[u] e)) (w.heap.size + 1) 1 (some ⟨w.heap.size, 0, none⟩) 1 [u] := by
 refine ⟨rfl, fun _ => ⟨_, rfl, by simp, fun j v hj => ?_⟩⟩
 match j, hj with
 | 0, hj => simp at hj; subst hj; simp [Addr.add]
 | (j + 1), hj => simp at hj
theorem qmy (r : Nat) (v : Value) (u : Int) (n : Nat) (w : World) (hu : mayV u = false) : Calls Tryz.prog 63 #[.pointer (some ⟨r, 0, none⟩), v, .int .i64 u, .int .u32 n] w fun e w' => e = .returned (.tuple #[.int .i64 0, .int .i64 70]) /\ Below w.heap.size w w' := by
 have hm := qcm u
 rw [hu] at hm
 go_enter Tryz.func63, Tryz.ntmps63
 go_wp2_with (go_at_call 118; refine (hm _).mono ?_; rintro e w1 ⟨rfl, rfl⟩)
 go_ret2
 exact ⟨rfl, Below.refl _ _⟩
theorem qkD (S T : Nat -> Prop) (r m : Nat) (f h : Int) (bad : Nat) (G : List (Int × Int)) (N : List Int) (L : List Shr) (u : Int) (n : Nat) (w : World) (hC : Rc w S r f G N) (hS : Rs w T m h bad L) (hu : mayV u = true) (he : h ≠ f) :
 Calls Tryz.prog 63 #[.pointer (some ⟨r, 0, none⟩), .pointer (some ⟨m, 0, none⟩), .int .i64 u, .int .u32 n] w fun e w' => e = .returned (.tuple #[.int .i64 0, .int .i64 1]) /\ Below w.heap.size w w' := by
 have hm := qcm u
 rw [hu] at hm
 obtain ⟨v1, v2, hb, hr1, hr2, h1, h2, h3⟩ := hC
 obtain ⟨v, hbs, hrs, h4, h5⟩ := hS
 have c0 := hb.cell 0
 have m0 := hbs.cell 0
 have hq : (h == f) = false := by simpa using he
 have hq' : (h != f) = true := by simpa using he
 clear hb hbs hr1 hr2 hrs h2 h3 h5 he
 go_enter Tryz.func63, Tryz.ntmps63
 go_wp2_with (go_at_call 118; refine (hm _).mono ?_; rintro e w1 ⟨rfl, rfl⟩)
 go_quiet (fail)
 go_wp2
 go_ret2
 exact ⟨rfl, below_drewN (Below.refl _ _) _⟩
theorem rsee_few (S T : Nat -> Prop) (r m : Nat) (f : Int) (bad : Nat) (G : List (Int × Int)) (N : List Int) (L : List Shr) (u : Int) (n : Nat) (w : World) (hC : Rc w S r f G N) (hS : Rs w T m f bad L) (hf : isF f = true) (hbad : bad < 4294967296) (hL : ∀ y ∈ L, y.wf) (hl : L.length <= 1000000000) (hn : n < 4294967296) (hu : mayV u = true) (hui : inI u) (he : enoughE f bad L (coinS u) n (f + 1) ≠ 0) :
 Calls Tryz.prog 63 #[.pointer (some ⟨r, 0, none⟩), .pointer (some ⟨m, 0, none⟩), .int .i64 u, .int .u32 n] w fun e w' => e = .returned (.tuple #[.int .i64 0, .int .i64 (enoughE f bad L (coinS u) n (f + 1))]) /\ Below w.heap.size w w' := by
 have hf' := qbP hf
 have hfi : inI f := ⟨by omega, by omega⟩
 have hm := qcm u
 rw [hu] at hm
 have hen := fun W (hW : Below w.heap.size w W) => qcJ T m f bad L (coinS u) n (f + 1) W (hS.below hW) hfi hbad (qgp hui) hL hl hn
 obtain ⟨e, hee⟩ := nm (enoughE f bad L (coinS u) n (f + 1))
 simp only [<- hee] at hen he ⊢
 have h0' : (e == 0) = false := by simpa using he
 have h1' : (e != 0) = true := by simpa using he
 obtain ⟨v1, v2, hb, hr1, hr2, h1, h2, h3⟩ := hC
 obtain ⟨v, hbs, hrs, h4, h5⟩ := hS
 have c0 := hb.cell 0
 have m0 := hbs.cell 0
 have hq : (f == f) = true := by simp
 have hq' : (f != f) = false := by simp
 have hlo := hf'.1
 have hhi := hf'.2
 have HH := hid (And.intro hm hen)
 clear hb hbs hr1 hr2 hrs h2 h3 h5 he hee hm hen hf'
 go_enter Tryz.func63, Tryz.ntmps63
 go_wp2_with (go_at_call 118; refine (HH.out.1 _).mono ?_; rintro e w1 ⟨rfl, rfl⟩)
 go_quiet (fail)
 go_wp2_with (first
  | (refine wpList_build rfl _ _ rfl #[(0, .int .i64 5), (2, .int .i64 u)] rfl (qdf u _) ?_)
  | (go_at_call 60; refine (HH.out.2 _ (below_drewN (Below.refl _ _) _)).mono ?_; rintro e w2 ⟨rfl, hb2⟩))
 go_ret2
 exact ⟨rfl, (below_drewN (Below.refl _ _) _).trans hb2⟩
theorem rsee_ok (S T : Nat -> Prop) (r m : Nat) (f : Int) (bad : Nat) (G : List (Int × Int)) (N : List Int) (L : List Shr) (u : Int) (n : Nat) (w : World) (hC : Rc w S r f G N) (hS : Rs w T m f bad L) (hf : isF f = true) (hbad : bad < 4294967296) (hL : ∀ y ∈ L, y.wf) (hl : L.length <= 1000000000) (hlG : G.length <= 1000000000) (hlN : N.length <= 1000000000) (hn : n < 4294967296) (hu : mayV u = true) (hui : inI u) (he : enoughE f bad L (coinS u) n (f + 1) = 0) :
 Calls Tryz.prog 63 #[.pointer (some ⟨r, 0, none⟩), .pointer (some ⟨m, 0, none⟩), .int .i64 u, .int .u32 n] w fun e w' => e = .returned (.tuple #[.int .i64 (whoV f G u), .int .i64 0]) /\ Rc w' (moreB S w w') r f G (putN N u) /\ Turn S w w' := by
 have hf' := qbP hf
 have hfi : inI f := ⟨by omega, by omega⟩
 have hm := qcm u
 rw [hu] at hm
 have hen := fun W (hW : Below w.heap.size w W) => qcJ T m f bad L (coinS u) n (f + 1) W (hS.below hW) hfi hbad (qgp hui) hL hl hn
 simp only [he] at hen
 have hwas := fun W (hW : Below w.heap.size w W) => qgU S r f G N u W (hC.below hW) hlN
 have hwho := fun W S' N' (hR : Rc W S' r f G N') => qk8 S' r f G N' u W hR hfi hlG
 have HC := hid hC
 have hc0 : ∀ W, Below w.heap.size w W -> W.cell? ⟨r, 0, none⟩ = some (.int .i64 f) := fun W hW => by
  obtain ⟨v1, v2, hb, _⟩ := hC
  exact (hb.below hW hb.lt).cell 0
 have c0 := hc0 w (Below.refl _ _)
 have hlt := hC.lt
 obtain ⟨v, hbs, hrs, h4, h5⟩ := hS
 have m0 := hbs.cell 0
 have hq : (f == f) = true := by simp
 have hq' : (f != f) = false := by simp
 have hlo := hf'.1
 have hhi := hf'.2
 obtain ⟨k, hk⟩ := nm (whoV f G u)
 simp only [<- hk] at hwho ⊢
 by_cases hun : u ∈ N
 ·have e1 : putN N u = N := by unfold putN; rw [if_pos hun]
  rw [e1]
  simp only [decide_eq_true hun] at hwas
  have HH := hid (And.intro hm (And.intro hen (And.intro hwas hwho)))
  clear hC hbs hrs h5 he hm hen hwas hwho hf' hc0 hun e1 hk
  go_enter Tryz.func63, Tryz.ntmps63
  go_wp2_with (go_at_call 118; refine (HH.out.1 _).mono ?_; rintro e w1 ⟨rfl, rfl⟩)
  go_quiet (fail)
  go_wp2_with (first
   | (refine wpList_build rfl _ _ rfl #[(0, .int .i64 5), (2, .int .i64 u)] rfl (qdf u _) ?_)
   | (go_at_call 60; refine (HH.out.2.1 _ (below_drewN (Below.refl _ _) _)).mono ?_; rintro e w2 ⟨rfl, hb2⟩; have hb02 : Below w.heap.size w w2 := (below_drewN (Below.refl _ _) _).trans hb2)
   | (go_at_call 23; refine (HH.out.2.2.1 _ hb02).mono ?_; rintro e w3 ⟨rfl, rfl⟩)
   | (go_at_call 125; refine (HH.out.2.2.2 _ S N (HC.out.below hb02)).mono ?_; rintro e w4 ⟨rfl, rfl⟩))
  go_ret2
  exact ⟨rfl, (HC.out.below hb02).mono fun _ _ => .inl, Turn.of_keep hb02⟩
 ·have e1 : putN N u = N ++ [u] := by unfold putN; rw [if_neg hun]
  rw [e1]
  simp only [decide_eq_false hun] at hwas
  have HH := hid (And.intro hm (And.intro hen (And.intro hwas hwho)))
  clear hC hbs hrs h5 he hm hen hwas hwho hf' hc0 hun e1 hk
  go_enter Tryz.func63, Tryz.ntmps63
  go_wp2_with (go_at_call 118; refine (HH.out.1 _).mono ?_; rintro e w1 ⟨rfl, rfl⟩)
  go_quiet (fail)
  go_upto_region 9 with (first
   | (refine wpList_build rfl _ _ rfl #[(0, .int .i64 5), (2, .int .i64 u)] rfl (qdf u _) ?_)
   | (go_at_call 60; refine (HH.out.2.1 _ (below_drewN (Below.refl _ _) _)).mono ?_; rintro e w2 ⟨rfl, hb2⟩; have hb02 : Below w.heap.size w w2 := (below_drewN (Below.refl _ _) _).trans hb2)
   | (go_at_call 23; refine (HH.out.2.2.1 _ hb02).mono ?_; rintro e w3 ⟨rfl, rfl⟩))
  obtain ⟨v1, v2, hb, hr1, hr2, h1, h2, h3⟩ := HC.out.below hb02
  have c2 := hb.cell 2
  obtain ⟨i0, hi, hz0, hz1, hz2⟩ := info_parts intInfo
  have hvg2 := qa1 hr2 hb (by decide)
  have hv12 := qga hr2 hr1 (by decide)
  obtain ⟨A, cp, rfl, _, _⟩ := qav hr2
  have HR := hid (And.intro hr1 hr2)
  clear hr1 hr2 hb2 c0 m0
  go_upto_region 10 with (first
   | (refine wpList_buildSlice rfl _ _ _ rfl #[(0, .int .i64 u)] rfl (qmE u w2) ?_)
   | (at_builtin
      refine qao _ rfl (.tmp 44) (.tmp 46) 79 rfl 0 3 i0 _ 1 8 Tryz.underlying79 hi hz0 hz1 hz2 rfl (by decide) (.slice A N.length cp) N.length (ints N) rfl
       (HR.out.2.alloc _) (w2.heap.size + 1) (some ⟨w2.heap.size, 0, none⟩) 1 1 [.int .i64 u] rfl (qbC w2 (.int .i64 u) _) (by simp [Value.oneCell']) (by unfold maxLen; omega) (by omega) (Nat.zero_le _) ?_
      intro v6 w6 ho6 hg6 hat6
      have hb6 := (hb.alloc (.cells #[.int .i64 u] 3)).grown hg6 (fun e => hvg2 e.symm)
      obtain ⟨A6, cp6, rfl, hc6, hrd6⟩ := qav ho6
      have d2 := hb6.cell 2
      have f2 := hb6.frozen 2))
  refine qab (fun w7 hw7 => ?_)
  have s2 := hb02.size
  have hv6 : ∀ j, (Value.slice A6 (N.length + 1) cp6).ownBlock = some j -> S j ∨ w2.heap.size <= j := by
   intro j hj
   rcases hat6 with e | e
   ·rw [e] at hj; exact .inl (h3 j hj)
   ·rw [e] at hj; simp at hj; right; omega
  have hr1' : w6.ownsRow 0 75 11 v1 G.length (shrs (G.map gShr)) := (HR.out.1.alloc _).kept hg6 (by
   rcases hv : v1.ownBlock with _ | j
   ·exact .inl rfl
   ·right
    intro e
    exact hv12 j e.symm hv)
  have ht6 : Turn S w w6 := ((Turn.of_keep hb02).alloc (.cells #[.int .i64 u] 3)).grown hg6 (fun i e => .inl (h3 i e))
  have hR7 := ((Turn.refl (fun j => j = r) w6).setCell (p := ⟨r, 2, none⟩) (.inl rfl) (.slice A6 (N.length + 1) cp6)).row ho6 (fun j hj e => qa1 ho6 hb6 (by decide) (by rw [hj, e]))
  have hR8 := ((Turn.refl (fun j => j = r) w6).setCell (p := ⟨r, 2, none⟩) (.inl rfl) (.slice A6 (N.length + 1) cp6)).row hr1' (fun j hj e => qa1 hr1' hb6 (by decide) (by rw [hj, e]))
  have ht7 : Turn S w w7 := by rw [hw7]; exact ht6.setCell (.inl h1) _
  have hC7 : Rc w7 (moreB S w w7) r f G (N ++ [u]) := by
   rw [hw7] at ht7 ⊢
   refine ⟨v1, .slice A6 (N.length + 1) cp6, hb6.set_ 2 _, hR8, ?_, .inl h1, fun j hj => .inl (h2 j hj), fun j hj => (hv6 j hj).imp id (fun h => ⟨Nat.le_trans s2 h, (hR7.lt j hj).2⟩)⟩
   rw [List.length_append, qlC]
   exact hR7
  clear hw7 hR7 hR8 ht6 hr1' hv6 hg6 ho6 d2 f2 hb6 hrd6 hat6
  go_wp2_with (go_at_call 125; refine (HH.out.2.2.2 _ _ (N ++ [u]) hC7).mono ?_; rintro e w4 ⟨rfl, rfl⟩)
  go_ret2
  exact ⟨rfl, hC7, ht7⟩
theorem rsee_any (S T : Nat -> Prop) (r m : Nat) (f h : Int) (bad : Nat) (G : List (Int × Int)) (N : List Int) (L : List Shr) (u : Int) (n : Nat) (w : World) (hC : Rc w S r f G N) (hS : Rs w T m h bad L) (hf : isF f = true) (hbad : bad < 4294967296) (hL : ∀ y ∈ L, y.wf) (hl : L.length <= 1000000000) (hlG : G.length <= 1000000000) (hlN : N.length <= 1000000000) (hn : n < 4294967296) :
 Calls Tryz.prog 63 #[.pointer (some ⟨r, 0, none⟩), .pointer (some ⟨m, 0, none⟩), .int .i64 u, .int .u32 n] w fun e w' => e = .returned (.tuple #[.int .i64 (seeW f h bad L G u n), .int .i64 (seeE f h bad L u n)]) /\ Rc w' (moreB S w w') r f G (seeN f h bad L N u n) /\ Turn S w w' := by
 have low : ∀ w', Below w.heap.size w w' -> Rc w' (moreB S w w') r f G N /\ Turn S w w' := fun w' hb => ⟨(hC.below hb).mono fun _ _ => .inl, Turn.of_keep hb⟩
 have es : ∀ x, seeE f h bad L u n = x -> x ≠ 0 -> seeW f h bad L G u n = 0 /\ seeN f h bad L N u n = N := fun x hx h0 => by
  unfold seeW seeN
  rw [hx, if_neg h0, if_neg h0]
  exact ⟨rfl, rfl⟩
 rcases Bool.eq_false_or_eq_true (mayV u) with hu | hu
 ·have hmv := qlS hu
  have hui : inI u := ⟨by omega, by omega⟩
  by_cases hh : h = f
  ·subst hh
   have e1 : seeE h h bad L u n = enoughE h bad L (coinS u) n (h + 1) := by unfold seeE; rw [if_pos hu, if_pos rfl]
   by_cases he : enoughE h bad L (coinS u) n (h + 1) = 0
   ·have e2 : seeW h h bad L G u n = whoV h G u := by unfold seeW; rw [e1, if_pos he]
    have e3 : seeN h h bad L N u n = putN N u := by unfold seeN; rw [e1, if_pos he]
    rw [e1, e2, e3, he]
    exact rsee_ok S T r m h bad G N L u n w hC hS hf hbad hL hl hlG hlN hn hu hui he
   ·obtain ⟨e2, e3⟩ := es _ e1 he
    rw [e1, e2, e3]
    refine (rsee_few S T r m h bad G N L u n w hC hS hf hbad hL hl hn hu hui he).mono ?_
    rintro e w' ⟨rfl, hb⟩
    exact ⟨rfl, low w' hb⟩
  ·have e1 : seeE f h bad L u n = 1 := by unfold seeE; rw [if_pos hu, if_neg hh]
   obtain ⟨e2, e3⟩ := es _ e1 (by decide)
   rw [e1, e2, e3]
   refine (qkD S T r m f h bad G N L u n w hC hS hu hh).mono ?_
   rintro e w' ⟨rfl, hb⟩
   exact ⟨rfl, low w' hb⟩
 ·have e1 : seeE f h bad L u n = 70 := by unfold seeE; rw [if_neg (by rw [hu]; decide)]
  obtain ⟨e2, e3⟩ := es _ e1 (by decide)
  rw [e1, e2, e3]
  refine (qmy r _ u n w hu).mono ?_
  rintro e w' ⟨rfl, hb⟩
  exact ⟨rfl, low w' hb⟩
end Go.Proofs.YtomaaidhmccngaaGreatDoor.L7
