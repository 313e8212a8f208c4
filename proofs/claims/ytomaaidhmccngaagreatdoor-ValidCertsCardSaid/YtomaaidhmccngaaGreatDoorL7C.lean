import Derived.Test.YtomaaidhmccngaaGreatDoorL7
import Derived.Deep.Cut
set_option linter.unusedSimpArgs false
set_option linter.unusedVariables false
set_option maxRecDepth 100000
set_option maxHeartbeats 16000000
namespace Go.Proofs.YtomaaidhmccngaaGreatDoor.L7
open Go.RowKit Go.Maps Go.Lib L3 L4 L6
def coinS (u : Int) : Stm := ⟨5, 0, u, 0, 0, 0, 0, 0, 0, 0⟩
theorem qgp {u : Int} (h : inI u) : (coinS u).wf := by
 refine ⟨?_, ?_, h, ?_, ?_, ?_, ?_, ?_, ?_, ?_⟩ <;> simp [inI, coinS]
def mayV (u : Int) : Bool := decide (1 <= u /\ u <= 1048576)
theorem qlS {u : Int} (h : mayV u = true) : 1 <= u /\ u <= 1048576 := of_decide_eq_true h
def chosenV : List (Int × Int) -> Int -> Int
 | [], _ => -1
 | p :: G, u => if p.1 = u then p.2 else chosenV G u
def whoV (f : Int) (G : List (Int × Int)) (u : Int) : Int := if chosenV G u < 0 then leadV f u else chosenV G u
def thereV (G : List (Int × Int)) (N : List Int) (u : Int) : Bool := decide (0 <= chosenV G u) || decide (u ∈ N)
theorem qjg {f k : Int} (h : inN f k = true) : 0 <= k /\ k < more 3 f := of_decide_eq_true h
theorem qhh {G : List (Int × Int)} {v k u : Int} (h : ∀ p ∈ G, 0 <= p.2) : chosenV (G ++ [(v, k)]) u = if chosenV G u < 0 then (if v = u then k else -1) else chosenV G u := by
 induction G with
 | nil => simp [chosenV]
 | cons p G ih =>
   have ih := ih fun q hq => h q (List.mem_cons_of_mem _ hq)
   have hp := h p (List.mem_cons_self ..)
   simp only [List.cons_append, chosenV]
   split
   ·rw [if_neg (by omega)]
   ·exact ih
def chooseE (f : Int) (G : List (Int × Int)) (N : List Int) (u k : Int) : Int := if mayV u = true then (if inN f k = true then (if thereV G N u = true then 100 else 0) else 40) else 70
def chooseG (f : Int) (G : List (Int × Int)) (N : List Int) (u k : Int) : List (Int × Int) := if chooseE f G N u k = 0 then G ++ [(u, k)] else G
def seeE (f h : Int) (bad : Nat) (L : List Shr) (u : Int) (n : Nat) : Int := if mayV u = true then (if h = f then enoughE h bad L (coinS u) n (f + 1) else 1) else 70
def seeW (f h : Int) (bad : Nat) (L : List Shr) (G : List (Int × Int)) (u : Int) (n : Nat) : Int := if seeE f h bad L u n = 0 then whoV f G u else 0
def putN (N : List Int) (u : Int) : List Int := if u ∈ N then N else N ++ [u]
def seeN (f h : Int) (bad : Nat) (L : List Shr) (N : List Int) (u : Int) (n : Nat) : List Int := if seeE f h bad L u n = 0 then putN N u else N
theorem qjp {N : List Int} {u x : Int} : x ∈ putN N u ↔ x ∈ N ∨ x = u := by
 unfold putN
 split
 ·rename_i h
  exact ⟨.inl, fun h' => h'.elim id fun e => e ▸ h⟩
 ·simp
def tossElem {H : Type} (v : Value) : Option (DataW H × List MemPlace) :=
 match v with
 | .agg xs => (match xs.toList with | [.int .i64 a, .bool b] => some (.agg [.lit (.int .i64 a), .lit (.bool b)], []) | _ => none)
 | _ => none
theorem qd9 {H : Type} (a : Int) (b : Bool) : tossElem (H := H) (.agg #[.int .i64 a, .bool b]) = some (.agg [.lit (.int .i64 a), .lit (.bool b)], []) := rfl
theorem qib {H : Type} {v : Value} {z : DataW H × List MemPlace} (h : tossElem v = some z) : ∃ a b, v = .agg #[.int .i64 a, .bool b] /\ z = (.agg [.lit (.int .i64 a), .lit (.bool b)], []) := by
 cases v with
 | agg xs =>
   obtain ⟨l⟩ := xs
   match l, h with
   | [.int .i64 a, .bool b], h => exact ⟨a, b, rfl, (Option.some.inj h).symm⟩
 | _ => simp [tossElem] at h
def tossD (a : Int) (b : Bool) : DataW Unit := .agg [.lit (.int .i64 a), .lit (.bool b)]
def keyI (u : Int) : Lit := .int .i64 u
theorem qdm {u : Int} (h : inI u) : keyOf Tryz.prog 3 (.int .i64 u) = some (keyI u) := keyOf_int_mk Tryz.underlying3 h.lit
theorem kdI : Keyed Tryz.prog 3 := int_keyed Tryz.underlying3
def FitsT (D : DataW Unit) (f : Int) (G : List (Int × Int)) (N : List Int) : Prop :=
 ∀ u, inI u -> Maps.has D (keyI u) = thereV G N u /\ (thereV G N u = true -> ∀ z, D.atKey (keyI u) z = tossD (whoV f G u) (decide (u ∈ N)))
theorem FitsT.nil (f : Int) : FitsT (.map []) f [] [] := fun u _ => ⟨by simp [thereV, chosenV, Maps.has], fun h => by simp [thereV, chosenV] at h⟩
theorem qeL {u : Int} (h : inI u) : WideAt.IsKeyLit (keyI u) := kdI.key (qdm h)
theorem qlL {u v : Int} (h : u ≠ v) : keyI u ≠ keyI v := fun e => h (by simpa [keyI] using e)
theorem qdd {G : List (Int × Int)} {N : List Int} {u : Int} : thereV G N u = false ↔ chosenV G u < 0 /\ u ∉ N := by
 unfold thereV
 rw [Bool.or_eq_false_iff, decide_eq_false_iff_not, decide_eq_false_iff_not]
 exact ⟨fun h => ⟨by omega, h.2⟩, fun h => ⟨by omega, h.2⟩⟩
theorem FitsT.choose {D : DataW Unit} {f : Int} {G : List (Int × Int)} {N : List Int} {u k : Int} (h : FitsT D f G N) (hm : IsMap D) (hG : ∀ p ∈ G, inN f p.2 = true) (hu : inI u) (hk : inN f k = true) (hn : thereV G N u = false) :
 FitsT (D.put (keyI u) (tossD k false)) f (G ++ [(u, k)]) N := by
 have hG0 : ∀ p ∈ G, 0 <= p.2 := fun p hp => (qjg (hG p hp)).1
 have hk0 := (qjg hk).1
 obtain ⟨hc, hN⟩ := qdd.1 hn
 intro v hv
 have hs := qhh (G := G) (v := u) (k := k) (u := v) hG0
 by_cases he : u = v
 ·subst he
  rw [if_pos hc, if_pos rfl] at hs
  refine ⟨by rw [has_put_same hm (qeL hu)]; simp [thereV, hs, hk0], fun _ z => ?_⟩
  rw [atKey_put_same hm (qeL hu)]
  unfold whoV
  rw [hs, if_neg (by omega), decide_eq_false hN]
 ·have hne := qlL (Ne.symm he)
  obtain ⟨h1, h2⟩ := h v hv
  have e1 : thereV (G ++ [(u, k)]) N v = thereV G N v := by
   unfold thereV
   rw [hs, if_neg he]
   split
   ·rename_i hlt
    rw [decide_eq_false (by omega : ¬ (0 : Int) <= -1), decide_eq_false (by omega : ¬ 0 <= chosenV G v)]
   ·rfl
  have e2 : whoV f (G ++ [(u, k)]) v = whoV f G v := by
   unfold whoV
   rw [hs, if_neg he]
   by_cases hlt : chosenV G v < 0
   ·rw [if_pos hlt, if_pos hlt, if_pos (by omega)]
   ·rw [if_neg hlt, if_neg hlt]
  refine ⟨by rw [has_put_other hne, h1, e1], fun ht z => ?_⟩
  rw [atKey_put_other hne, e2]
  exact h2 (by rw [<- e1]; exact ht) z
theorem FitsT.see {D : DataW Unit} {f : Int} {G : List (Int × Int)} {N : List Int} {u : Int} (h : FitsT D f G N) (hm : IsMap D) (hu : inI u) : FitsT (D.put (keyI u) (tossD (whoV f G u) true)) f G (putN N u) := by
 intro v hv
 by_cases he : u = v
 ·subst he
  have hin : u ∈ putN N u := qjp.2 (.inr rfl)
  refine ⟨by rw [has_put_same hm (qeL hu)]; simp [thereV, hin], fun _ z => ?_⟩
  rw [atKey_put_same hm (qeL hu), decide_eq_true hin]
 ·have hne := qlL (Ne.symm he)
  obtain ⟨h1, h2⟩ := h v hv
  have e0 : decide (v ∈ putN N u) = decide (v ∈ N) := by
   apply decide_eq_decide.2
   rw [qjp]
   exact ⟨fun h => h.elim id fun e => absurd e.symm he, .inl⟩
  have e1 : thereV G (putN N u) v = thereV G N v := by unfold thereV; rw [e0]
  refine ⟨by rw [has_put_other hne, h1, e1], fun ht z => ?_⟩
  rw [atKey_put_other hne, e0]
  exact h2 (by rw [<- e1]; exact ht) z
theorem FitsT.look {D : DataW Unit} {f : Int} {G : List (Int × Int)} {N : List Int} {u : Int} (h : FitsT D f G N) (hu : inI u) : D.atKey (keyI u) (tossD 0 false) = tossD (if thereV G N u = true then whoV f G u else 0) (decide (u ∈ N)) := by
 obtain ⟨h1, h2⟩ := h u hu
 rcases Bool.eq_false_or_eq_true (thereV G N u) with ht | ht
 ·rw [if_pos ht]; exact h2 ht _
 ·rw [if_neg (by rw [ht]; decide), atKey_of_not_has (by rw [h1, ht]), decide_eq_false (qdd.1 ht).2]
theorem zeroT (w : World) : (zeroValue 127).run Tryz.prog w = .ok (.agg #[.int .i64 0, .bool false]) w := by kernel_rfl
section
variable {ops : Array Oper} {rest : List Oper} {o : Oper} {a : Act} {Q : Exit -> Act -> World -> Prop}
theorem qmS {v : Value} {ps : List MemPlace} {x : DataW Unit} {k : Int} {s : Bool} (hv : tossElem v = some (x, ps)) (hat : x = tossD k s) : v = .agg #[.int .i64 k, .bool s] := by
 obtain ⟨a0, b0, rfl, hz⟩ := qib hv
 have h1 : x = .agg [.lit (.int .i64 a0), .lit (.bool b0)] := congrArg Prod.fst hz
 rw [hat] at h1
 unfold tossD at h1
 simp only [DataW.agg.injEq, List.cons.injEq, DataW.lit.injEq, Lit.int.injEq, Lit.bool.injEq, true_and, and_true] at h1
 rw [h1.1, h1.2]
theorem qb0 (w : World) (hg : o.guard = none) (m x : Operand) (hop : o.op = Op.lookup 128 m x true) (b n : Nat) (D : DataW Unit) (hm : a.eval m = .map (some b)) (hown : w.ownsMap Tryz.prog 3 tossElem b n D)
 (u : Int) (hx : a.eval x = .int .i64 u) (hu : inI u) (k : Int) (s r : Bool) (hat : D.atKey (keyI u) (tossD 0 false) = tossD k s) (hh : Maps.has D (keyI u) = r)
 (h : wpList Tryz.prog ops Q rest (a.put o.dst (.tuple #[.agg #[.int .i64 k, .bool s], .bool r])) w) : wpList Tryz.prog ops Q (o :: rest) a w :=
 wpList_lookup_own_ok w hg m x 128 hop 3 127 kdI Tryz.underlying128 tossElem (zeroT w) (tossD 0 false) [] rfl b n D hm hown _ (keyI u) hx (qdm hu) (fun v ps hv => by
  obtain rfl := qmS hv hat
  rw [hh]
  exact h)
theorem qeG (w : World) (hg : o.guard = none) (m x : Operand) (hop : o.op = Op.lookup 128 m x false) (b n : Nat) (D : DataW Unit) (hm : a.eval m = .map (some b)) (hown : w.ownsMap Tryz.prog 3 tossElem b n D)
 (u : Int) (hx : a.eval x = .int .i64 u) (hu : inI u) (k : Int) (s : Bool) (hat : D.atKey (keyI u) (tossD 0 false) = tossD k s)
 (h : wpList Tryz.prog ops Q rest (a.put o.dst (.agg #[.int .i64 k, .bool s])) w) : wpList Tryz.prog ops Q (o :: rest) a w := by
 refine wpList_plain hg fun K' hK' => ?_
 obtain ⟨v, ps, hrun, hv⟩ := hown.lookup kdI Tryz.underlying128 (zeroT w) (show tossElem (.agg #[.int .i64 0, .bool false]) = some (tossD 0 false, []) from rfl) (qdm hu)
 obtain rfl := qmS hv hat
 unfold Oper.wp
 simp [execOp, hop, hm, hx, hrun, Result.andThen]
 exact hK' _ _ h
end
end Go.Proofs.YtomaaidhmccngaaGreatDoor.L7
namespace Go.Proofs.YtomaaidhmccngaaGreatDoor.L7
open Go.RowKit Go.Maps Go.Lib L3 L4 L6
def Cn (w : World) (S : Nat -> Prop) (c : Nat) (f : Int) (G : List (Int × Int)) (N : List Int) (n : Nat) : Prop :=
 ∃ b D, Blk w c 130 #[.int .i64 f, .map (some b)] /\ w.ownsMap Tryz.prog 3 (tossElem (H := Unit)) b n D /\ FitsT D f G N /\ S c /\ S b /\ isF f = true /\ (∀ p ∈ G, inN f p.2 = true)
section
variable {w w' : World} {S S' T : Nat -> Prop} {c n n' : Nat} {f : Int} {G : List (Int × Int)} {N : List Int}
theorem Cn.le (h : Cn w S c f G N n) (hn : n <= n') : Cn w S c f G N n' := by
 obtain ⟨b, D, hb, hm, hr⟩ := h
 exact ⟨b, D, hb, hm.mono hn, hr⟩
theorem Cn.kept (h : Cn w S c f G N n) (ht : Turn T w w') (hd : ∀ k, k < w.heap.size -> S k -> ¬ T k) : Cn w' S c f G N n := by
 obtain ⟨b, D, hb, hm, hf, h1, h2, h3⟩ := h
 exact ⟨b, D, ht.blk hb (hd _ hb.lt h1), ht.map hm (hd _ hm.lt h2), hf, h1, h2, h3⟩
theorem Cn.below (h : Cn w S c f G N n) (hb : Below w.heap.size w w') : Cn w' S c f G N n := h.kept (Turn.of_keep (S := fun _ => False) hb) (fun _ _ _ h => h)
end
theorem qan {P : Program} {fn : Func} {d : Tmp} {ty : TypeId} (h : fn.results = #[.cell d ty]) (tmps : Array Value) (w : World) (g : Nat) (hx : tmps.getD d undef = .pointer (some ⟨g, 0, none⟩)) (t : TypeId) (cs : Array Value) (fr : Nat × Nat) (ds : TypeDesc)
 (hb : w.heap[g]? = some (.cells cs t fr)) (hu : P.underlying ty = some ds) (hd : (match ds with | .struct _ | .array _ _ => true | _ => false) = true) (hi : (P.info? ty).map (·.size) = some cs.size) : (results fn tmps).run P w = .ok (.agg cs) w := by
 have hx' : tmps[d]?.getD undef = .pointer (some ⟨g, 0, none⟩) := by simpa using hx
 simp [results, h, hx', asAddr, run_loadVar_row w g t ty cs fr ds hb hu hd hi]
theorem qkl (k : Int) (s : Bool) (w : World) : (Instr.field 127 (.agg #[.int .i64 k, .bool s]) 1).run Tryz.prog w = .ok (.bool s) w := by kernel_rfl
theorem qdf (u : Int) (w : World) : (Instr.build 73 #[(0, .int .i64 5), (2, .int .i64 u)]).run Tryz.prog w = .ok (.agg (stmC (coinS u))) w := run_build w _ _ _ (by kernel_rfl)
theorem qgL (u : Int) (w : World) : Calls Tryz.prog 180 #[.int .i64 u] w fun e w' => e = .returned (.agg (stmC (coinS u))) /\ Below w.heap.size w w' := by
 have hb0 : Below w.heap.size w (w.alloc (.cells (stmC (coinS u)) 73)) := (Below.refl _ _).alloc (Nat.le_refl _) _
 go_enter Tryz.func180, Tryz.ntmps180
 go_wp2_with (first
  | (refine wpList_build rfl _ _ rfl #[(0, .int .i64 5), (2, .int .i64 u)] rfl (qdf u _) ?_)
  | (refine qaf rfl _ _ _ rfl w (stmC (coinS u)) rfl rfl _ _ (by kernel_rfl) rfl (by kernel_rfl) ?_))
 (try simp only [Exit.inBlock, Exit.then])
 exact bodyPost_ret (v := .agg (stmC (coinS u))) (qan rfl _ _ w.heap.size rfl _ _ _ _ (Blk.new w 73 (stmC (coinS u))) Tryz.underlying73 rfl (by kernel_rfl)) rfl ⟨rfl, hb0⟩
def hasE (u : Int) : Int := if mayV u = true then 0 else 70
theorem qcD (c : Nat) (u : Int) (w : World) : Calls Tryz.prog 116 #[.pointer (some ⟨c, 0, none⟩), .int .i64 u] w fun e w' => e = .returned (.int .i64 (hasE u)) /\ w = w' := by
 unfold hasE
 rcases Int.lt_or_le u 1 with h1 | h1
 ·rw [if_neg (by simp [mayV]; omega)]
  go_enter Tryz.func116, Tryz.ntmps116
  go_wp2
  go_ret
  exact ⟨rfl, rfl⟩
 ·have h1' : decide (u < 1) = false := by simp; omega
  rcases Int.lt_or_le 1048576 u with h2 | h2
  ·rw [if_neg (by simp [mayV]; omega)]
   go_enter Tryz.func116, Tryz.ntmps116
   go_wp2
   go_ret
   exact ⟨rfl, rfl⟩
  ·have h2' : decide (1048576 < u) = false := by simp; omega
   rw [if_pos (by simp [mayV]; omega)]
   go_enter Tryz.func116, Tryz.ntmps116
   go_wp2
   go_ret
   exact ⟨rfl, rfl⟩
def newCE (f : Int) : Int := checkV f 0
theorem qjs (f : Int) : newCE f = if isF f = true then 0 else 1 := by
 unfold newCE checkV
 split
 ·rw [if_pos (Nat.two_pow_pos _)]
 ·rfl
theorem qlU (f : Int) (w : World) (he : isF f = true) :
 Calls Tryz.prog 42 #[.int .i64 f] w fun e w' => ∃ c, e = .returned (.tuple #[.pointer (some ⟨c, 0, none⟩), .int .i64 0]) /\ Cn w' (fresh w w') c f [] [] 0 /\ Below w.heap.size w w' := by
 have hcheck := fun w => qaD f 0 w (by decide)
 have e0 : checkV f 0 = 0 := by have := qjs f; rw [if_pos he] at this; exact this
 rw [e0] at hcheck
 have hmm := @run_makeMap Tryz.prog
 go_enter Tryz.func42, Tryz.ntmps42
 go_wp2_with (go_at_call 109; refine (hcheck _).mono ?_; rintro e w1 ⟨rfl, rfl⟩)
 go_ret2
 have hs : (w.alloc (.map #[] 0)).heap.size = w.heap.size + 1 := by simp
 refine ⟨w.heap.size + 1, rfl, ⟨w.heap.size, .map [], by rw [<- hs]; exact Blk.new _ _ _, (World.ownsMap_made w _ _ _).alloc _, FitsT.nil f, by simp [fresh] <;> omega, by simp [fresh] <;> omega, he, fun p hp => by cases hp⟩, ((Below.refl _ _).alloc (Nat.le_refl _) _).alloc (by simp) _⟩
theorem newc_not (f : Int) (w : World) (he : isF f = false) :
 Calls Tryz.prog 42 #[.int .i64 f] w fun e w' => e = .returned (.tuple #[.pointer none, .int .i64 1]) /\ w = w' := by
 have hcheck := fun w => qaD f 0 w (by decide)
 have e0 : checkV f 0 = 1 := by have := qjs f; rw [if_neg (by rw [he]; decide)] at this; exact this
 rw [e0] at hcheck
 go_enter Tryz.func42, Tryz.ntmps42
 go_wp2_with (go_at_call 109; refine (hcheck _).mono ?_; rintro e w1 ⟨rfl, rfl⟩)
 go_ret2
 exact ⟨rfl, rfl⟩
theorem seen_any (S : Nat -> Prop) (c : Nat) (f : Int) (G : List (Int × Int)) (N : List Int) (n : Nat) (u : Int) (w : World) (h : Cn w S c f G N n) (hu : inI u) :
 Calls Tryz.prog 22 #[.pointer (some ⟨c, 0, none⟩), .int .i64 u] w fun e w' => e = .returned (.bool (decide (u ∈ N))) /\ w = w' := by
 obtain ⟨b, D, hb, hm, hf, h1, h2, h3, h4⟩ := h
 have c1 := hb.cell 1
 have hat := hf.look hu
 obtain ⟨k, hk⟩ := nm (if thereV G N u = true then whoV f G u else 0)
 obtain ⟨s, hs⟩ := nm (decide (u ∈ N))
 rw [<- hk, <- hs] at hat
 rw [<- hs]
 have hfl := qkl k s
 clear hf h3 h4 hk hs
 go_enter Tryz.func22, Tryz.ntmps22
 go_wp2_with (first
  | (at_lookup; refine qeG _ rfl _ _ rfl b n D rfl hm u rfl hu k s hat ?_)
  | go_in)
 go_ret
 exact ⟨rfl, rfl⟩
end Go.Proofs.YtomaaidhmccngaaGreatDoor.L7
namespace Go.Proofs.YtomaaidhmccngaaGreatDoor.L7
open Go.RowKit Go.Maps Go.Lib L3 L4 L6
theorem qg0 {u : Int} (h : mayV u = true) : inI u := by have := qlS h; exact ⟨by omega, by omega⟩
theorem qjR (k : Int) (w : World) : (Instr.build 127 #[(0, .int .i64 k)]).run Tryz.prog w = .ok (.agg #[.int .i64 k, .bool false]) w := run_build w _ _ _ (by kernel_rfl)
theorem qip (S : Nat -> Prop) (c : Nat) (f : Int) (G : List (Int × Int)) (N : List Int) (n : Nat) (u k : Int) (w : World) (h : Cn w S c f G N n) (hu : mayV u = false) :
 Calls Tryz.prog 47 #[.pointer (some ⟨c, 0, none⟩), .int .i64 u, .int .i64 k] w fun e w' => e = .returned (.int .i64 70) /\ Below w.heap.size w w' := by
 have hh := qcD c u
 rw [show hasE u = 70 by unfold hasE; rw [if_neg (by rw [hu]; decide)]] at hh
 clear h
 go_enter Tryz.func47, Tryz.ntmps47
 go_wp2_with (go_at_call 116; refine (hh _).mono ?_; rintro e w1 ⟨rfl, rfl⟩)
 go_ret
 exact ⟨rfl, Below.refl _ _⟩
theorem qkb (S : Nat -> Prop) (c : Nat) (f : Int) (G : List (Int × Int)) (N : List Int) (n : Nat) (u k : Int) (w : World) (h : Cn w S c f G N n) (hu : mayV u = true) (hk : inN f k = false) :
 Calls Tryz.prog 47 #[.pointer (some ⟨c, 0, none⟩), .int .i64 u, .int .i64 k] w fun e w' => e = .returned (.int .i64 40) /\ Below w.heap.size w w' := by
 have hh := qcD c u
 rw [show hasE u = 0 by unfold hasE; rw [if_pos hu]] at hh
 obtain ⟨m, hm, hm10⟩ := qbv f
 have hf := qdl f
 have hq := fun w => qd3 (2 ^ (more 3 f).toNat - 1) k w (by have := qbM (k := (more 3 f).toNat) (by omega); omega)
 rw [qdJ, hk] at hq
 obtain ⟨y, hy⟩ := nm (2 ^ (more 3 f).toNat - 1)
 rw [<- hy] at hf hq
 have HH := hid (And.intro hh (And.intro hf hq))
 obtain ⟨b, D, hb, hmm, hft, h1, h2, h3, h4⟩ := h
 have c0 := hb.cell 0
 clear hf hq hy hm hh hft h3 h4 hmm hb hm10
 go_enter Tryz.func47, Tryz.ntmps47
 go_wp2_with (first
  | (go_at_call 116; refine (HH.out.1 _).mono ?_; rintro e w1 ⟨rfl, rfl⟩)
  | (go_at_call 117; refine (HH.out.2.1 _).mono ?_; rintro e w1 ⟨rfl, rfl⟩)
  | (go_at_call 104; refine (HH.out.2.2 _).mono ?_; rintro e w1 ⟨rfl, rfl⟩))
 go_ret
 exact ⟨rfl, Below.refl _ _⟩
theorem qhg (S : Nat -> Prop) (c : Nat) (f : Int) (G : List (Int × Int)) (N : List Int) (n : Nat) (u k : Int) (w : World) (h : Cn w S c f G N n) (hu : mayV u = true) (hk : inN f k = true) (ht : thereV G N u = true) :
 Calls Tryz.prog 47 #[.pointer (some ⟨c, 0, none⟩), .int .i64 u, .int .i64 k] w fun e w' => e = .returned (.int .i64 100) /\ Below w.heap.size w w' := by
 have hh := qcD c u
 rw [show hasE u = 0 by unfold hasE; rw [if_pos hu]] at hh
 obtain ⟨m, hm, hm10⟩ := qbv f
 have hf := qdl f
 have hq := fun w => qd3 (2 ^ (more 3 f).toNat - 1) k w (by have := qbM (k := (more 3 f).toNat) (by omega); omega)
 rw [qdJ, hk] at hq
 obtain ⟨y, hy⟩ := nm (2 ^ (more 3 f).toNat - 1)
 rw [<- hy] at hf hq
 have HH := hid (And.intro hh (And.intro hf hq))
 have hui := qg0 hu
 obtain ⟨b, D, hb, hmm, hft, h1, h2, h3, h4⟩ := h
 have c0 := hb.cell 0
 have c1 := hb.cell 1
 have hat := hft.look hui
 have hhas := (hft u hui).1
 rw [ht] at hhas
 obtain ⟨k0, hk0⟩ := nm (if thereV G N u = true then whoV f G u else 0)
 obtain ⟨s0, hs0⟩ := nm (decide (u ∈ N))
 rw [<- hk0, <- hs0] at hat
 clear hf hq hy hm hh hft h3 h4 hb hm10 hk0 hs0
 go_enter Tryz.func47, Tryz.ntmps47
 go_wp2_with (first
  | (go_at_call 116; refine (HH.out.1 _).mono ?_; rintro e w1 ⟨rfl, rfl⟩)
  | (go_at_call 117; refine (HH.out.2.1 _).mono ?_; rintro e w1 ⟨rfl, rfl⟩)
  | (go_at_call 104; refine (HH.out.2.2 _).mono ?_; rintro e w1 ⟨rfl, rfl⟩)
  | (at_lookup; refine qb0 _ rfl _ _ rfl b n D rfl hmm u rfl hui k0 s0 true hat hhas ?_)
  | (refine qaf rfl _ _ _ rfl w #[.int .i64 k0, .bool s0] rfl rfl _ _ (by kernel_rfl) rfl (by kernel_rfl) ?_))
 go_ret
 exact ⟨rfl, (Below.refl _ _).alloc (Nat.le_refl _) _⟩
theorem qka (S : Nat -> Prop) (c : Nat) (f : Int) (G : List (Int × Int)) (N : List Int) (n : Nat) (u k : Int) (w : World) (h : Cn w S c f G N n) (hn : n <= 1000000000) (hu : mayV u = true) (hk : inN f k = true) (ht : thereV G N u = false) :
 Calls Tryz.prog 47 #[.pointer (some ⟨c, 0, none⟩), .int .i64 u, .int .i64 k] w fun e w' => e = .returned (.int .i64 0) /\ Cn w' S c f (G ++ [(u, k)]) N (n + 1) /\ Turn S w w' := by
 have hh := qcD c u
 rw [show hasE u = 0 by unfold hasE; rw [if_pos hu]] at hh
 obtain ⟨m, hm, hm10⟩ := qbv f
 have hf := qdl f
 have hq := fun w => qd3 (2 ^ (more 3 f).toNat - 1) k w (by have := qbM (k := (more 3 f).toNat) (by omega); omega)
 rw [qdJ, hk] at hq
 obtain ⟨y, hy⟩ := nm (2 ^ (more 3 f).toNat - 1)
 rw [<- hy] at hf hq
 have HH := hid (And.intro hh (And.intro hf hq))
 have hui := qg0 hu
 obtain ⟨b, D, hb, hmm, hft, h1, h2, h3, h4⟩ := h
 have c0 := hb.cell 0
 have c1 := hb.cell 1
 have hat := hft.look hui
 have hhas := (hft u hui).1
 rw [ht] at hhas
 rw [if_neg (by rw [ht]; decide), decide_eq_false (qdd.1 ht).2] at hat
 have HF := hid hft
 have H4 := hid h4
 have HK := hid hk
 have HT := hid ht
 have hcb := qcd hb hmm
 have c1' := (hb.alloc (.cells #[.int .i64 0, .bool false] 127)).cell 1
 have hma := hmm.alloc (.cells #[.int .i64 0, .bool false] 127)
 clear hf hq hy hm hh hft h4 hm10 hk ht
 go_enter Tryz.func47, Tryz.ntmps47
 go_wp2_with (first
  | (go_at_call 116; refine (HH.out.1 _).mono ?_; rintro e w1 ⟨rfl, rfl⟩)
  | (go_at_call 117; refine (HH.out.2.1 _).mono ?_; rintro e w1 ⟨rfl, rfl⟩)
  | (go_at_call 104; refine (HH.out.2.2 _).mono ?_; rintro e w1 ⟨rfl, rfl⟩)
  | (at_lookup; refine qb0 _ rfl _ _ rfl b n D rfl hmm u rfl hui 0 false false hat hhas ?_)
  | (refine qaf rfl _ _ _ rfl w #[.int .i64 0, .bool false] rfl rfl _ _ (by kernel_rfl) rfl (by kernel_rfl) ?_)
  | (refine wpList_build rfl _ _ rfl #[(0, .int .i64 k)] rfl (qjR k _) ?_)
  | (at_mapUpdate
     refine wpList_mapUpdate_own _ rfl _ _ _ 128 rfl 3 127 kdI Tryz.underlying128 _ b n D rfl hma (by unfold maxLen; omega) _ _ (keyI u) rfl rfl (qdm hui) (tossD k false) [] (qd9 k false) ?_
     intro w5 hm5 hg5))
 go_ret
 refine ⟨rfl, ⟨b, D.put (keyI u) (tossD k false), (hb.alloc _).grown hg5 (fun e => hcb (by simpa using e)), hm5, HF.out.choose hmm.isMap H4.out hui HK.out HT.out, h1, h2, h3, ?_⟩, ((Turn.refl S w).alloc _).grown hg5 (fun i e => by cases e; exact .inl h2)⟩
 intro p hp
 rw [List.mem_append, List.mem_singleton] at hp
 rcases hp with hp | hp
 ·exact H4.out p hp
 ·rw [hp]; exact HK.out
theorem qjZ (S : Nat -> Prop) (c : Nat) (f : Int) (G : List (Int × Int)) (N : List Int) (n : Nat) (u k : Int) (w : World) (h : Cn w S c f G N n) (hn : n <= 1000000000) :
 Calls Tryz.prog 47 #[.pointer (some ⟨c, 0, none⟩), .int .i64 u, .int .i64 k] w fun e w' => e = .returned (.int .i64 (chooseE f G N u k)) /\ Cn w' S c f (chooseG f G N u k) N (n + 1) /\ Turn S w w' := by
 have low : ∀ w', Below w.heap.size w w' -> Cn w' S c f G N (n + 1) /\ Turn S w w' := fun w' hb => ⟨(h.below hb).le (by omega), Turn.of_keep hb⟩
 rcases Bool.eq_false_or_eq_true (mayV u) with hu | hu
 ·rcases Bool.eq_false_or_eq_true (inN f k) with hk | hk
  ·rcases Bool.eq_false_or_eq_true (thereV G N u) with ht | ht
   ·have e1 : chooseE f G N u k = 100 := by unfold chooseE; rw [if_pos hu, if_pos hk, if_pos ht]
    have e2 : chooseG f G N u k = G := by unfold chooseG; rw [if_neg (by rw [e1]; decide)]
    rw [e1, e2]
    refine (qhg S c f G N n u k w h hu hk ht).mono ?_
    rintro e w' ⟨rfl, hb⟩
    exact ⟨rfl, low w' hb⟩
   ·have e1 : chooseE f G N u k = 0 := by unfold chooseE; rw [if_pos hu, if_pos hk, if_neg (by rw [ht]; decide)]
    have e2 : chooseG f G N u k = G ++ [(u, k)] := by unfold chooseG; rw [if_pos e1]
    rw [e1, e2]
    exact qka S c f G N n u k w h hn hu hk ht
  ·have e1 : chooseE f G N u k = 40 := by unfold chooseE; rw [if_pos hu, if_neg (by rw [hk]; decide)]
   have e2 : chooseG f G N u k = G := by unfold chooseG; rw [if_neg (by rw [e1]; decide)]
   rw [e1, e2]
   refine (qkb S c f G N n u k w h hu hk).mono ?_
   rintro e w' ⟨rfl, hb⟩
   exact ⟨rfl, low w' hb⟩
 ·have e1 : chooseE f G N u k = 70 := by unfold chooseE; rw [if_neg (by rw [hu]; decide)]
  have e2 : chooseG f G N u k = G := by unfold chooseG; rw [if_neg (by rw [e1]; decide)]
  rw [e1, e2]
  refine (qip S c f G N n u k w h hu).mono ?_
  rintro e w' ⟨rfl, hb⟩
  exact ⟨rfl, low w' hb⟩
end Go.Proofs.YtomaaidhmccngaaGreatDoor.L7
namespace Go.Proofs.YtomaaidhmccngaaGreatDoor.L7
open Go.RowKit Go.Maps Go.Lib L3 L4 L6
theorem qaj {P : Program} {ops : Array Oper} {S : World -> Prop} {o : Oper} {rest : List Oper} {a : Act} {Qa : Act -> Prop} (hg : Region.wanted o (yielded ops a.tmps) = true) (f : FuncId) (xs : Array Operand) (ts : Array TypeId)
 (ho : o.op = .call { callee := .value (.func f), args := xs, argTypes := ts }) (hc : ∀ args w, (callFunc f args).run P w = .ok (.enter f args) w) (args : List Value) (ha : xs.toList.map a.eval = args) {v : Value}
 (hv : ∀ x : qad S, Calls P f args.toArray x.w fun e w' => e = .returned v /\ S w')
 (h : wpQuiet P ops (fun w' => ∃ x : qad S, w' = x.w) Qa rest (a.put o.dst v)) : wpQuiet P ops (fun w' => ∃ x : qad S, w' = x.w) Qa (o :: rest) a := by
 refine qeF hg f args.toArray (fun w => ?_) hv h
 have ha' : xs.map a.eval = args.toArray := by apply Array.toList_inj.1; rw [Array.toList_map]; exact ha
 simp [execOp, ho, resolve, invoke, Deferred.ofValue, hc, <- ha', Act.eval]
def cenE (f h : Int) (bad : Nat) (L : List Shr) (u : Int) (n : Nat) : Int := if h = f then enoughE h bad L (coinS u) n (f + 1) else 1
theorem qeX (S T : Nat -> Prop) (c g m : Nat) (f h : Int) (bad : Nat) (G : List (Int × Int)) (N : List Int) (L : List Shr) (u : Int) (n : Nat) (w : World) (hC : Cn w S c f G N m) (hS : Sg w T g h bad L) (hu : inI u) (hbad : bad < 4294967296) (hn : n < 4294967296) (hT : Tab w) :
 Calls Tryz.prog 156 #[.pointer (some ⟨c, 0, none⟩), .pointer (some ⟨g, 0, none⟩), .int .i64 u, .int .u32 n] w fun e w' => e = .returned (.int .i64 (cenE f h bad L u n)) /\ Below w.heap.size w w' := by
 have hF := fun W (hW : Below w.heap.size w W) => f_any T g h bad L W (hS.below hW)
 obtain ⟨b, D, hb, hm, hf, h1, h2, h3, h4⟩ := hC
 have c0 := hb.cell 0
 have hlt := hb.lt
 have hmore : more 1 f = f + 1 := by unfold more; rw [if_pos h3]; omega
 have hsome := some_any f
 rw [hmore] at hsome
 unfold cenE
 by_cases he : h = f
 ·rw [if_pos he]
  have hq : (h == f) = true := by simpa using he
  have hq' : (h != f) = false := by simp [he]
  have hen : ∀ W, Below w.heap.size w W -> Calls Tryz.prog 55 #[.pointer (some ⟨g, 0, none⟩), .agg (stmC (coinS u)), .int .u32 n, .int .i64 (f + 1)] W fun e w' => e = .returned (.int .i64 (enoughE h bad L (coinS u) n (f + 1))) /\ Below w.heap.size w w' := fun W hW =>
   (qfN T g h bad L (coinS u) n (f + 1) W (hS.below hW) (qgp hu) hbad hn (hT.kept hW)).mono fun e w' ⟨he, hb⟩ => ⟨he, nxt hW hb hW.size⟩
  have HH := hid (And.intro hsome (And.intro hen hF))
  obtain ⟨r, hr⟩ := nm (enoughE h bad L (coinS u) n (f + 1))
  rw [<- hr] at HH ⊢
  clear hm hf h1 h2 h4 hb hsome hen hF hS hT he hr
  go_enter Tryz.func156, Tryz.ntmps156
  go_wp2
  go_quiet ((go_at_call 120; exact qaY (HH.out.2.2 _ (below_drewN (Below.refl _ _) _))))
  go_wp2
  have ne : Nonempty (qad (Below w.heap.size w)) := ⟨⟨w, Below.refl _ _⟩⟩
  have p0 : ∀ y : qad (Below w.heap.size w), y.w.cell? ⟨c, 0, none⟩ = some (.int .i64 f) := fun y => (y.h.cell (p := ⟨c, 0, none⟩) hlt).trans c0
  refine qat (Below w.heap.size w) (by kernel_rfl) (by kernel_rfl) (qbp (below_drewN (Below.refl _ _) _)) ?_
  go_big_quiet_step (fail)
  go_big_quiet_step (fail)
  refine qaj rfl 180 _ _ rfl Tryz.call180 [.int .i64 u] rfl (v := .agg (stmC (coinS u))) (fun x => (qgL u x.w).mono fun e w' ⟨he, hb⟩ => ⟨he, nxt x.h hb x.h.size⟩) ?_
  conv => arg 6; simp only [Act.put, sA, sB, sC]
  go_big_quiet_step (fail)
  go_big_quiet_step (fail)
  go_big_quiet_step (fail)
  go_big_quiet_step (fail)
  go_big_quiet_step (fail)
  refine qaj rfl 32 _ _ rfl Tryz.call32 [.int .i64 f] rfl (v := .int .i64 (f + 1)) (fun x => (HH.out.1 x.w).mono fun e w' ⟨he, hb⟩ => ⟨he, hb ▸ x.h⟩) ?_
  conv => arg 6; simp only [Act.put, sA, sB, sC]
  refine qaj rfl 55 _ _ rfl Tryz.call55 [.pointer (some ⟨g, 0, none⟩), .agg (stmC (coinS u)), .int .u32 n, .int .i64 (f + 1)] rfl (v := .int .i64 r) (fun x => HH.out.2.1 x.w x.h) ?_
  conv => arg 6; simp only [Act.put, sA, sB, sC]
  go_big_quiet_step (fail)
  refine wpQuiet_nil ?_
  intro x
  obtain ⟨W, hW⟩ := x
  dsimp only
  go_wp2
  go_ret
  exact ⟨rfl, hW⟩
 ·rw [if_neg he]
  have hq : (h == f) = false := by simpa using he
  have hq' : (h != f) = true := by simpa using he
  have HH := hid hF
  clear hm hf h1 h2 h4 hb hsome hF hS hT he
  go_enter Tryz.func156, Tryz.ntmps156
  go_wp2
  go_quiet ((go_at_call 120; exact qaY (HH.out _ (below_drewN (Below.refl _ _) _))))
  go_wp2
  go_ret
  exact ⟨rfl, below_drewN (Below.refl _ _) _⟩
end Go.Proofs.YtomaaidhmccngaaGreatDoor.L7
namespace Go.Proofs.YtomaaidhmccngaaGreatDoor.L7
open Go.RowKit Go.Maps Go.Lib L3 L4 L6
theorem see_view (c : Nat) (v : Value) (u : Int) (n : Nat) (w : World) (hu : mayV u = false) : Calls Tryz.prog 123 #[.pointer (some ⟨c, 0, none⟩), v, .int .i64 u, .int .u32 n] w fun e w' => e = .returned (.tuple #[.int .i64 0, .int .i64 70]) /\ w = w' := by
 have hh := qcD c u
 rw [show hasE u = 70 by unfold hasE; rw [if_neg (by rw [hu]; decide)]] at hh
 go_enter Tryz.func123, Tryz.ntmps123
 go_wp2_with (go_at_call 116; refine (hh _).mono ?_; rintro e w1 ⟨rfl, rfl⟩)
 go_ret2
 exact ⟨rfl, rfl⟩
theorem see_few (S T : Nat -> Prop) (c g m : Nat) (f h : Int) (bad : Nat) (G : List (Int × Int)) (N : List Int) (L : List Shr) (u : Int) (n : Nat) (w : World) (hC : Cn w S c f G N m) (hS : Sg w T g h bad L) (hbad : bad < 4294967296) (hn : n < 4294967296) (hT : Tab w) (hu : mayV u = true) (he : cenE f h bad L u n ≠ 0) :
 Calls Tryz.prog 123 #[.pointer (some ⟨c, 0, none⟩), .pointer (some ⟨g, 0, none⟩), .int .i64 u, .int .u32 n] w fun e w' => e = .returned (.tuple #[.int .i64 0, .int .i64 (cenE f h bad L u n)]) /\ Below w.heap.size w w' := by
 have hh := qcD c u
 rw [show hasE u = 0 by unfold hasE; rw [if_pos hu]] at hh
 have hen := qeX S T c g m f h bad G N L u n w hC hS (qg0 hu) hbad hn hT
 obtain ⟨r, hr⟩ := nm (cenE f h bad L u n)
 rw [<- hr] at hen he ⊢
 have h0' : (r == 0) = false := by simpa using he
 have HH := hid (And.intro hh hen)
 clear hC hS hT hh hen he hr
 go_enter Tryz.func123, Tryz.ntmps123
 go_wp2_with (first
  | (go_at_call 116; refine (HH.out.1 _).mono ?_; rintro e w1 ⟨rfl, rfl⟩)
  | (go_at_call 156; refine (HH.out.2).mono ?_; rintro e w1 ⟨rfl, hb1⟩))
 go_ret2
 exact ⟨rfl, hb1⟩
def holdT (c p b : Nat) (k : Int) (W : World) : Prop := W.cell? ⟨c, 1, none⟩ = some (.map (some b)) /\ Blk W p 127 #[.int .i64 k, .bool true]
theorem see_ok (S T : Nat -> Prop) (c g m : Nat) (f h : Int) (bad : Nat) (G : List (Int × Int)) (N : List Int) (L : List Shr) (u : Int) (n : Nat) (w : World) (hC : Cn w S c f G N m) (hm0 : m <= 1000000000) (hS : Sg w T g h bad L) (hbad : bad < 4294967296) (hn : n < 4294967296) (hT : Tab w) (hu : mayV u = true) (he : cenE f h bad L u n = 0) :
 Calls Tryz.prog 123 #[.pointer (some ⟨c, 0, none⟩), .pointer (some ⟨g, 0, none⟩), .int .i64 u, .int .u32 n] w fun e w' => e = .returned (.tuple #[.int .i64 (whoV f G u), .int .i64 0]) /\ Cn w' S c f G (putN N u) (m + 1) /\ Turn S w w' := by
 have hh := qcD c u
 rw [show hasE u = 0 by unfold hasE; rw [if_pos hu]] at hh
 have hui := qg0 hu
 have hen := qeX S T c g m f h bad G N L u n w hC hS hui hbad hn hT
 rw [he] at hen
 obtain ⟨b, D, hb, hm, hf, h1, h2, h3, h4⟩ := hC
 have hat := hf.look hui
 have hhas := (hf u hui).1
 have hwho : thereV G N u = false -> leadV f u = whoV f G u := fun ht => by unfold whoV; rw [if_pos (qdd.1 ht).1]
 have hfit := hf.see hm.isMap hui
 have hcb := qcd hb hm
 have hlead := qfR f u
 obtain ⟨s0, hs0⟩ := nm (decide (u ∈ N))
 obtain ⟨k, hk⟩ := nm (whoV f G u)
 obtain ⟨r, hr⟩ := nm (thereV G N u)
 obtain ⟨ld, hld⟩ := nm (leadV f u)
 obtain ⟨k0, hk0⟩ := nm (if r = true then k else 0)
 simp only [<- hs0, <- hk, <- hr, <- hld, <- hk0] at hat hhas hwho hfit hlead ⊢
 have HH := hid (And.intro hh (And.intro hen hlead))
 have HF := hid hfit
 have H4 := hid h4
 have HL := hid (And.intro hb hm)
 have HK0 := hid hk0
 clear hS hT hh hen he hf hfit h4 hlead hb hm hs0 hk hr hld hk0
 go_enter Tryz.func123, Tryz.ntmps123
 go_upto_region 7 with (first
  | (go_at_call 116; refine (HH.out.1 _).mono ?_; rintro e w1 ⟨rfl, rfl⟩)
  | (go_at_call 156; refine (HH.out.2.1).mono ?_; rintro e w1 ⟨rfl, hb1⟩))
 have hB1 := HL.out.1.below hb1 HL.out.1.lt
 have hM1 : w1.ownsMap Tryz.prog 3 (tossElem (H := Unit)) b m D := (Turn.of_keep (S := fun _ => False) hb1).map HL.out.2 (fun h => h)
 have c1 := hB1.cell 1
 go_upto_region 8 with (first
  | (at_lookup; refine qb0 _ rfl _ _ rfl b m D rfl hM1 u rfl hui k0 s0 r hat hhas ?_)
  | (refine qaf rfl _ _ _ rfl w1 #[.int .i64 k0, .bool s0] rfl rfl _ _ (by kernel_rfl) rfl (by kernel_rfl) ?_))
 refine qab (fun w2 hw2 => ?_)
 have hx2 : Blk w2 w1.heap.size 127 #[.int .i64 k0, .bool s0] := by rw [hw2]; exact Blk.new _ _ _
 have hB2 : Blk w2 c 130 #[.int .i64 f, .map (some b)] := by rw [hw2]; exact hB1.alloc _
 have hM2 : w2.ownsMap Tryz.prog 3 (tossElem (H := Unit)) b m D := by rw [hw2]; exact hM1.alloc _
 have hb2 : Below w.heap.size w w2 := by rw [hw2]; exact hb1.alloc hb1.size _
 have hp : w.heap.size <= w1.heap.size := hb1.size
 obtain ⟨p, hpe⟩ := nm (w1.heap.size)
 rw [<- hpe] at hx2 hp ⊢
 have hcp : c ≠ p := hB2.ne_ hx2 (by decide)
 have hpb := qcd hx2 hM2
 clear hw2 hpe hat hhas hB1 hM1 c1
 have d0 := hB2.cell 0
 have t0 := hx2.cell 0
 have t1 := hx2.cell 1
 have fr0 := hx2.frozen 0
 have fr1 := hx2.frozen 1
 cases r with
 | true =>
   have e : k0 = k := by rw [HK0.out]; rfl
   subst e
   go_upto_region 11 with fail
   refine qab (fun w3 hw3 => ?_)
   have hx3 : Blk w3 p 127 #[.int .i64 k0, .bool true] := by rw [hw3]; exact hx2.set_ 1 _
   have hB3 : Blk w3 c 130 #[.int .i64 f, .map (some b)] := by rw [hw3]; exact hB2.far hcp _
   have hM3 : w3.ownsMap Tryz.prog 3 (tossElem (H := Unit)) b m D := by rw [hw3]; exact hM2.setCell (a := ⟨p, 1, none⟩) (fun e => hpb e.symm) _
   have ht3 : Turn S w w3 := by rw [hw3]; exact (Turn.of_keep hb2).setCell (p := ⟨p, 1, none⟩) (.inr hp) _
   have c3 := hB3.cell 1
   have ne : Nonempty (qad (holdT c p b k0)) := ⟨⟨w3, c3, hx3⟩⟩
   have p1 := fun y : qad (holdT c p b k0) => y.h.1
   have pb := fun y : qad (holdT c p b k0) => y.h.2
   clear hw3 hx2 hB2 hM2 hb2 d0 t0 t1 fr0 fr1
   refine qak (holdT c p b k0) [0, 1, 2, 3, 4, 5] (by kernel_rfl) ?_
   refine qar (f := 1) (by kernel_rfl) (fun _ x _ _ _ h => by cases x <;> exact h) (⟨c3, hx3⟩ : holdT c p b k0 w3.drew) [0, 1, 2, 3, 4, 5] _ _ (by kernel_rfl) (by kernel_rfl) (by kernel_rfl) ?_
   conv => arg 5; simp [pick]
   go_big_quiet_step (fail)
   go_big_quiet_step (fail)
   go_big_quiet_step (fail)
   go_big_quiet_step (fail)
   go_big_quiet_step (fail)
   refine qam rfl _ _ rfl _ rfl _ _ _ _ pb Tryz.underlying127 rfl (by kernel_rfl) ?_
   conv => arg 6; simp only [Act.put, sA, sB, sC]
   refine wpQuiet_nil ?_
   refine qaq [6] _ _ _ (by kernel_rfl) ?_
   conv => arg 4; simp [pick]
   go_wp2_with (at_mapUpdate
                refine wpList_mapUpdate_own _ rfl _ _ _ 128 rfl 3 127 kdI Tryz.underlying128 _ b m D rfl (show w3.drew.ownsMap Tryz.prog 3 (tossElem (H := Unit)) b m D from hM3) (by unfold maxLen; omega) _ _ (keyI u) rfl rfl (qdm hui) (tossD k0 true) [] (qd9 k0 true) ?_
                intro w5 hm5 hg5
                have hx5 := hx3.drew.grown hg5 (fun e => hpb (by simpa using e))
                have c5 := hx5.cell 0)
   go_ret2
   exact ⟨rfl, ⟨b, D.put (keyI u) (tossD k0 true), hB3.drew.grown hg5 (fun e => hcb (by simpa using e)), hm5, HF.out, h1, h2, h3, H4.out⟩, ht3.drew.grown hg5 (fun i e => by cases e; exact .inl h2)⟩
 | false =>
   have e := hwho rfl
   subst e
   go_upto_region 11 with (go_at_call 145; refine (HH.out.2.2 _).mono ?_; rintro e w1 ⟨rfl, rfl⟩)
   refine qab (fun w3 hw3 => ?_)
   have hx3 : Blk w3 p 127 #[.int .i64 ld, .bool true] := by rw [hw3]; exact (hx2.set_ 0 _).set_ 1 _
   have hB3 : Blk w3 c 130 #[.int .i64 f, .map (some b)] := by rw [hw3]; exact (hB2.far hcp _).far hcp _
   have hM3 : w3.ownsMap Tryz.prog 3 (tossElem (H := Unit)) b m D := by rw [hw3]; exact (hM2.setCell (a := ⟨p, 0, none⟩) (fun e => hpb e.symm) _).setCell (a := ⟨p, 1, none⟩) (fun e => hpb e.symm) _
   have ht3 : Turn S w w3 := by rw [hw3]; exact ((Turn.of_keep hb2).setCell (p := ⟨p, 0, none⟩) (.inr hp) _).setCell (p := ⟨p, 1, none⟩) (.inr hp) _
   have c3 := hB3.cell 1
   have ne : Nonempty (qad (holdT c p b ld)) := ⟨⟨w3, c3, hx3⟩⟩
   have p1 := fun y : qad (holdT c p b ld) => y.h.1
   have pb := fun y : qad (holdT c p b ld) => y.h.2
   clear hw3 hx2 hB2 hM2 hb2 d0 t0 t1 fr0 fr1
   refine qak (holdT c p b ld) [0, 1, 2, 3, 4, 5] (by kernel_rfl) ?_
   refine qar (f := 1) (by kernel_rfl) (fun _ x _ _ _ h => by cases x <;> exact h) (⟨c3, hx3⟩ : holdT c p b ld w3.drew) [0, 1, 2, 3, 4, 5] _ _ (by kernel_rfl) (by kernel_rfl) (by kernel_rfl) ?_
   conv => arg 5; simp [pick]
   go_big_quiet_step (fail)
   go_big_quiet_step (fail)
   go_big_quiet_step (fail)
   go_big_quiet_step (fail)
   go_big_quiet_step (fail)
   refine qam rfl _ _ rfl _ rfl _ _ _ _ pb Tryz.underlying127 rfl (by kernel_rfl) ?_
   conv => arg 6; simp only [Act.put, sA, sB, sC]
   refine wpQuiet_nil ?_
   refine qaq [6] _ _ _ (by kernel_rfl) ?_
   conv => arg 4; simp [pick]
   go_wp2_with (at_mapUpdate
                refine wpList_mapUpdate_own _ rfl _ _ _ 128 rfl 3 127 kdI Tryz.underlying128 _ b m D rfl (show w3.drew.ownsMap Tryz.prog 3 (tossElem (H := Unit)) b m D from hM3) (by unfold maxLen; omega) _ _ (keyI u) rfl rfl (qdm hui) (tossD ld true) [] (qd9 ld true) ?_
                intro w5 hm5 hg5
                have hx5 := hx3.drew.grown hg5 (fun e => hpb (by simpa using e))
                have c5 := hx5.cell 0)
   go_ret2
   exact ⟨rfl, ⟨b, D.put (keyI u) (tossD ld true), hB3.drew.grown hg5 (fun e => hcb (by simpa using e)), hm5, HF.out, h1, h2, h3, H4.out⟩, ht3.drew.grown hg5 (fun i e => by cases e; exact .inl h2)⟩
theorem see_any (S T : Nat -> Prop) (c g m : Nat) (f h : Int) (bad : Nat) (G : List (Int × Int)) (N : List Int) (L : List Shr) (u : Int) (n : Nat) (w : World) (hC : Cn w S c f G N m) (hm0 : m <= 1000000000) (hS : Sg w T g h bad L) (hbad : bad < 4294967296) (hn : n < 4294967296) (hT : Tab w) :
 Calls Tryz.prog 123 #[.pointer (some ⟨c, 0, none⟩), .pointer (some ⟨g, 0, none⟩), .int .i64 u, .int .u32 n] w fun e w' => e = .returned (.tuple #[.int .i64 (seeW f h bad L G u n), .int .i64 (seeE f h bad L u n)]) /\ Cn w' S c f G (seeN f h bad L N u n) (m + 1) /\ Turn S w w' := by
 have low : ∀ w', Below w.heap.size w w' -> Cn w' S c f G N (m + 1) /\ Turn S w w' := fun w' hb => ⟨(hC.below hb).le (by omega), Turn.of_keep hb⟩
 have es : ∀ x, seeE f h bad L u n = x -> x ≠ 0 -> seeW f h bad L G u n = 0 /\ seeN f h bad L N u n = N := fun x hx h0 => by
  unfold seeW seeN
  rw [hx, if_neg h0, if_neg h0]
  exact ⟨rfl, rfl⟩
 rcases Bool.eq_false_or_eq_true (mayV u) with hu | hu
 ·have e1 : seeE f h bad L u n = cenE f h bad L u n := by unfold seeE cenE; rw [if_pos hu]
  by_cases he : cenE f h bad L u n = 0
  ·have e2 : seeW f h bad L G u n = whoV f G u := by unfold seeW; rw [e1, if_pos he]
   have e3 : seeN f h bad L N u n = putN N u := by unfold seeN; rw [e1, if_pos he]
   rw [e1, e2, e3, he]
   exact see_ok S T c g m f h bad G N L u n w hC hm0 hS hbad hn hT hu he
  ·obtain ⟨e2, e3⟩ := es _ e1 he
   rw [e1, e2, e3]
   refine (see_few S T c g m f h bad G N L u n w hC hS hbad hn hT hu he).mono ?_
   rintro e w' ⟨rfl, hb⟩
   exact ⟨rfl, low w' hb⟩
 ·have e1 : seeE f h bad L u n = 70 := by unfold seeE; rw [if_neg (by rw [hu]; decide)]
  obtain ⟨e2, e3⟩ := es _ e1 (by decide)
  rw [e1, e2, e3]
  refine (see_view c _ u n w hu).mono ?_
  rintro e w' ⟨rfl, rfl⟩
  exact ⟨rfl, low w (Below.refl _ _)⟩
end Go.Proofs.YtomaaidhmccngaaGreatDoor.L7
