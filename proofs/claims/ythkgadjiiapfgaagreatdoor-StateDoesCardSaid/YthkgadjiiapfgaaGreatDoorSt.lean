/-
  A state in memory, and what its small calls tell and leave.
-/
import Derived.Test.YthkgadjiiapfgaaGreatDoorMaps
import Derived.Test.YthkgadjiiapfgaaGreatDoorL6Foot
set_option linter.unusedSimpArgs false
set_option linter.unusedVariables false
set_option maxRecDepth 10000
namespace Go.Proofs.YthkgadjiiapfgaaGreatDoor
open Go.RowKit Go.Maps Go.Lib
open L3 (Blk)
open L6 (Turn moreB fresh From In)

/-- Accounts, as a map tells them. -/
def fA (s : Stt) (k : List UInt8) : Option (Int × Int) := if someA (ofA s.A k) = true then some ((ofA s.A k).am, (ofA s.A k).no) else none
/-- Values, as a map tells them. -/
def fV (s : Stt) (p : Plc) : Option (List UInt8) := if getV s.V p.1 p.2 = [] then none else some (getV s.V p.1 p.2)
theorem fA_get (s : Stt) (k : List UInt8) : (fA s k).getD (0, 0) = ((ofA s.A k).am, (ofA s.A k).no) := by
  unfold fA
  split
  · rfl
  · next h =>
    unfold someA at h
    rw [decide_eq_true_eq] at h
    have h1 : (ofA s.A k).am = 0 := Classical.byContradiction fun e => h (.inl e)
    have h2 : (ofA s.A k).no = 0 := Classical.byContradiction fun e => h (.inr e)
    rw [h1, h2]; rfl
theorem fV_get (s : Stt) (p : Plc) : (fV s p).getD [] = getV s.V p.1 p.2 := by
  unfold fV
  split
  · next h => rw [h]; rfl
  · rfl
theorem fA_same {s z : Stt} (h : Same s z) : fA s = fA z := by funext k; unfold fA; rw [h.1]
theorem fV_same {s z : Stt} (h : Same s z) : fV s = fV z := by funext p; unfold fV; rw [h.2]
abbrev FA := List UInt8 → Option (Int × Int)
abbrev FV := Plc → Option (List UInt8)
def putF (f : FA) (k : List UInt8) (p : Int × Int) : FA := fun z => if z = k then some p else f z
def putG (v : FV) (k : Plc) (l : List UInt8) : FV := fun z => if z = k then (if l = [] then none else some l) else v z
theorem okN_inj : ∀ x y, okN x → okN y → id x = id y → x = y := fun _ _ _ _ h => h
theorem okP_inj : ∀ x y, okP x → okP y → kbP x = kbP y → x = y := fun _ _ h k e => kbP_inj h k e

/-- In w the struct in block g is a state whose maps tell f and v; at most n stand in each; all its blocks lie in S. -/
def St (w : World) (S : Nat → Prop) (g : Nat) (f : FA) (v : FV) (n : Nat) : Prop :=
  ∃ ba bv DA DV, Blk w g 52 #[.map (some ba), .map (some bv)] ∧ w.ownsMap Tryz.prog 9 accElem ba n DA ∧ w.ownsMap Tryz.prog 68 entElem bv n DV ∧
    Fits okN id accD DA f ∧ Fits okP kbP entD DV v ∧ S g ∧ S ba ∧ S bv ∧ ba ≠ bv
section
variable {w w' : World} {S S' T : Nat → Prop} {g n n' : Nat} {f f' : FA} {v v' : FV}
theorem St.lt (h : St w S g f v n) : g < w.heap.size := by obtain ⟨_, _, _, _, hb, _⟩ := h; exact hb.lt
theorem St.mem (h : St w S g f v n) : S g := by obtain ⟨_, _, _, _, _, _, _, _, _, h, _⟩ := h; exact h
theorem St.mono (h : St w S g f v n) (hs : ∀ k, k < w.heap.size → S k → S' k) : St w S' g f v n := by
  obtain ⟨ba, bv, DA, DV, hb, hA, hV, h1, h2, h3, h4, h5, h6⟩ := h
  exact ⟨ba, bv, DA, DV, hb, hA, hV, h1, h2, hs _ hb.lt h3, hs _ hA.lt h4, hs _ hV.lt h5, h6⟩
theorem St.le (h : St w S g f v n) (hn : n ≤ n') : St w S g f v n' := by
  obtain ⟨ba, bv, DA, DV, hb, hA, hV, hr⟩ := h
  exact ⟨ba, bv, DA, DV, hb, hA.mono hn, hV.mono hn, hr⟩
theorem St.congr (h : St w S g f v n) (hf : ∀ x, okN x → f x = f' x) (hv : ∀ x, okP x → v x = v' x) : St w S g f' v' n := by
  obtain ⟨ba, bv, DA, DV, hb, hA, hV, h1, h2, hr⟩ := h
  exact ⟨ba, bv, DA, DV, hb, hA, hV, h1.congr hf, h2.congr hv, hr⟩
/-- What turns other blocks alone leaves a state as it is. -/
theorem St.kept (h : St w S g f v n) (ht : Turn T w w') (hd : ∀ k, k < w.heap.size → S k → ¬ T k) : St w' S g f v n := by
  obtain ⟨ba, bv, DA, DV, hb, hA, hV, h1, h2, h3, h4, h5, h6⟩ := h
  exact ⟨ba, bv, DA, DV, ht.blk hb (hd _ hb.lt h3), ht.map hA (hd _ hA.lt h4), ht.map hV (hd _ hV.lt h5), h1, h2, h3, h4, h5, h6⟩
theorem St.below (h : St w S g f v n) (hb : Below w.heap.size w w') : St w' S g f v n := h.kept (Turn.of_keep (S := fun _ => False) hb) (fun _ _ _ h => h)
theorem St.same (h : St w S g f v n) : St w (moreB S w w') g f v n := h.mono fun _ _ => .inl
end

/-! Look-ups -/
theorem zeroAcc (w : World) : (zeroValue 57).run Tryz.prog w = .ok (.agg #[.int .i64 0, .int .i64 0]) w := by kernel_rfl
theorem zeroEnt (w : World) : (zeroValue 70).run Tryz.prog w = .ok (.agg #[.string ⟨#[]⟩]) w := by kernel_rfl
theorem acc_is {v : Value} {ps : List MemPlace} {x : DataW Unit} {p : Int × Int} (hv : accElem v = some (x, ps)) (hat : x = accD p) : v = .agg #[.int .i64 p.1, .int .i64 p.2] := by
  obtain ⟨q, rfl, hz⟩ := accElem_inv hv
  have h1 : x = accD q := congrArg Prod.fst hz
  rw [hat] at h1
  rw [accD_inj h1]; rfl
theorem ent_is {v : Value} {ps : List MemPlace} {x : DataW Unit} {l : List UInt8} (hv : entElem v = some (x, ps)) (hat : x = entD l) : v = .agg #[.string (str l)] := by
  obtain ⟨q, rfl, hz⟩ := entElem_inv hv
  have h1 : x = entD q := congrArg Prod.fst hz
  rw [hat] at h1
  rw [entD_inj h1]; rfl
section
variable {ops : Array Oper} {rest : List Oper} {o : Oper} {a : Act} {Q : Exit → Act → World → Prop}
/-- 'accounts[who]'. -/
theorem wpList_look_acc (w : World) (hg : o.guard = none) (m x : Operand) (hop : o.op = Op.lookup 49 m x false) (b n : Nat) (D : DataW Unit) (hm : a.eval m = .map (some b)) (hown : w.ownsMap Tryz.prog 9 accElem b n D)
    (l : List UInt8) (hx : a.eval x = .string (str l)) (hl : l.length ≤ maxLen) (i j : Int) (hat : D.atKey (.string l) (accD (0, 0)) = accD (i, j))
    (h : wpList Tryz.prog ops Q rest (a.put o.dst (.agg #[.int .i64 i, .int .i64 j])) w) : wpList Tryz.prog ops Q (o :: rest) a w := by
  refine wpList_plain hg fun K' hK' => ?_
  obtain ⟨v, ps, hrun, hv⟩ := hown.lookup kdN Tryz.underlying49 (zeroAcc w) (show accElem (.agg #[.int .i64 0, .int .i64 0]) = some (accD (0, 0), []) from rfl) (keyN hl)
  obtain rfl := acc_is hv hat
  unfold Oper.wp
  simp [execOp, hop, hm, hx, hrun, Result.andThen]
  exact hK' _ _ h
/-- 'acc, there := accounts[who]'. -/
theorem wpList_look_acc_ok (w : World) (hg : o.guard = none) (m x : Operand) (hop : o.op = Op.lookup 49 m x true) (b n : Nat) (D : DataW Unit) (hm : a.eval m = .map (some b)) (hown : w.ownsMap Tryz.prog 9 accElem b n D)
    (l : List UInt8) (hx : a.eval x = .string (str l)) (hl : l.length ≤ maxLen) (i j : Int) (r : Bool) (hat : D.atKey (.string l) (accD (0, 0)) = accD (i, j)) (hh : Maps.has D (.string l) = r)
    (h : wpList Tryz.prog ops Q rest (a.put o.dst (.tuple #[.agg #[.int .i64 i, .int .i64 j], .bool r])) w) : wpList Tryz.prog ops Q (o :: rest) a w :=
  wpList_lookup_own_ok w hg m x 49 hop 9 57 kdN Tryz.underlying49 accElem (zeroAcc w) (accD (0, 0)) [] rfl b n D hm hown _ (.string l) hx (keyN hl) (fun v ps hv => by
    obtain rfl := acc_is hv hat
    rw [hh]
    exact h)
/-- 'values[place]'. -/
theorem wpList_look_ent (w : World) (hg : o.guard = none) (m x : Operand) (hop : o.op = Op.lookup 50 m x false) (b n : Nat) (D : DataW Unit) (hm : a.eval m = .map (some b)) (hown : w.ownsMap Tryz.prog 68 entElem b n D)
    (p : Plc) (hx : a.eval x = .agg #[.string (str p.1), .string (str p.2)]) (hp : okP p) (l : List UInt8) (hat : D.atKey (.string (kbP p)) (entD []) = entD l)
    (h : wpList Tryz.prog ops Q rest (a.put o.dst (.agg #[.string (str l)])) w) : wpList Tryz.prog ops Q (o :: rest) a w := by
  refine wpList_plain hg fun K' hK' => ?_
  obtain ⟨v, ps, hrun, hv⟩ := hown.lookup kdP Tryz.underlying50 (zeroEnt w) (show entElem (.agg #[.string ⟨#[]⟩]) = some (entD [], []) from rfl) (keyP hp)
  obtain rfl := ent_is hv hat
  rw [show plcC p = #[.string (str p.1), .string (str p.2)] from rfl] at hrun
  unfold Oper.wp
  simp [execOp, hop, hm, hx, hrun, Result.andThen]
  exact hK' _ _ h
end
theorem field_acc0 (i j : Int) (w : World) : (Instr.field 57 (.agg #[.int .i64 i, .int .i64 j]) 0).run Tryz.prog w = .ok (.int .i64 i) w := by kernel_rfl
theorem field_acc1 (i j : Int) (w : World) : (Instr.field 57 (.agg #[.int .i64 i, .int .i64 j]) 1).run Tryz.prog w = .ok (.int .i64 j) w := by kernel_rfl
theorem field_ent (s : ByteArray) (w : World) : (Instr.field 70 (.agg #[.string s]) 0).run Tryz.prog w = .ok (.string s) w := by kernel_rfl
theorem build_place (s z : ByteArray) (w : World) : (Instr.build 68 #[(0, .string s), (1, .string z)]).run Tryz.prog w = .ok (.agg #[.string s, .string z]) w := run_build w _ _ _ (by kernel_rfl)
theorem build_ent (s : ByteArray) (w : World) : (Instr.build 70 #[(0, .string s)]).run Tryz.prog w = .ok (.agg #[.string s]) w := run_build w _ _ _ (by kernel_rfl)

/-! What is looked up -/
def amt (f : FA) (l : List UInt8) : Int := ((f l).getD (0, 0)).1
def nnc (f : FA) (l : List UInt8) : Int := ((f l).getD (0, 0)).2
def vlv (v : FV) (p : Plc) : List UInt8 := (v p).getD []
theorem Fits.acc {D : DataW Unit} {f : FA} (h : Fits okN id accD D f) {l : List UInt8} (hl : l.length ≤ maxLen) : D.atKey (.string l) (accD (0, 0)) = accD (amt f l, nnc f l) := h.look (x := l) hl (0, 0)
theorem Fits.ent {D : DataW Unit} {v : FV} (h : Fits okP kbP entD D v) {p : Plc} (hp : okP p) : D.atKey (.string (kbP p)) (entD []) = entD (vlv v p) := h.look (x := p) hp []
section
variable {S : Nat → Prop} {g n : Nat} {f : FA} {v : FV} {w : World}
set_option maxHeartbeats 1000000 in
theorem amount_any (h : St w S g f v n) (l : List UInt8) (hl : l.length ≤ maxLen) : Calls Tryz.prog 13 #[.pointer (some ⟨g, 0, none⟩), .string (str l)] w fun e w' => e = .returned (.int .i64 (amt f l)) ∧ w = w' := by
  obtain ⟨ba, bv, DA, DV, hb, hA, hV, h1, h2, h3, h4, h5, h6⟩ := h
  have c0 := hb.cell 0
  have hat := h1.acc hl
  obtain ⟨i, hi⟩ : ∃ i, i = amt f l := ⟨_, rfl⟩
  obtain ⟨j, hj⟩ : ∃ j, j = nnc f l := ⟨_, rfl⟩
  rw [← hi, ← hj] at hat
  rw [← hi]
  have hfl := field_acc0 i j
  clear h1 h2 hi hj
  go_enter Tryz.func13, Tryz.ntmps13
  go_wp2_with (first
    | (at_lookup; refine wpList_look_acc _ rfl _ _ rfl ba n DA rfl hA l rfl hl i j hat ?_)
    | go_in)
  go_ret
  exact ⟨rfl, rfl⟩
set_option maxHeartbeats 1000000 in
theorem nonce_any (h : St w S g f v n) (l : List UInt8) (hl : l.length ≤ maxLen) : Calls Tryz.prog 32 #[.pointer (some ⟨g, 0, none⟩), .string (str l)] w fun e w' => e = .returned (.int .i64 (nnc f l)) ∧ w = w' := by
  obtain ⟨ba, bv, DA, DV, hb, hA, hV, h1, h2, h3, h4, h5, h6⟩ := h
  have c0 := hb.cell 0
  have hat := h1.acc hl
  obtain ⟨i, hi⟩ : ∃ i, i = amt f l := ⟨_, rfl⟩
  obtain ⟨j, hj⟩ : ∃ j, j = nnc f l := ⟨_, rfl⟩
  rw [← hi, ← hj] at hat
  rw [← hj]
  have hfl := field_acc1 i j
  clear h1 h2 hi hj
  go_enter Tryz.func32, Tryz.ntmps32
  go_wp2_with (first
    | (at_lookup; refine wpList_look_acc _ rfl _ _ rfl ba n DA rfl hA l rfl hl i j hat ?_)
    | go_in)
  go_ret
  exact ⟨rfl, rfl⟩
set_option maxHeartbeats 1000000 in
theorem value_any (h : St w S g f v n) (p : Plc) (hp : okP p) (hs : (vlv v p).length ≤ 1000000) : Calls Tryz.prog 33 #[.pointer (some ⟨g, 0, none⟩), .string (str p.1), .string (str p.2)] w (gives (.string (str (vlv v p))) w) := by
  obtain ⟨ba, bv, DA, DV, hb, hA, hV, h1, h2, h3, h4, h5, h6⟩ := h
  have c1 := hb.cell 1
  have hat := h2.ent hp
  obtain ⟨x, hx⟩ : ∃ x, x = vlv v p := ⟨_, rfl⟩
  rw [← hx] at hat hs ⊢
  have hfl := field_ent (str x)
  have hbd := build_place (str p.1) (str p.2)
  have hcl := fun w => c_clone x w hs
  clear h1 h2 hx
  go_enter Tryz.func33, Tryz.ntmps33
  go_wp2_with (first
    | (at_lookup; refine wpList_look_ent _ rfl _ _ rfl bv n DV rfl hV p rfl hp x hat ?_)
    | (refine wpList_build rfl _ _ rfl #[(0, .string (str p.1)), (1, .string (str p.2))] rfl (hbd _) ?_)
    | (go_at_call 52; refine (hcl _).mono ?_; rintro e w1 ⟨rfl, hb1⟩)
    | go_in)
  go_ret
  exact ⟨rfl, hb1⟩
end
theorem amount_nil (s : ByteArray) (w : World) : Calls Tryz.prog 13 #[.pointer none, .string s] w fun e w' => e = .returned (.int .i64 0) ∧ w = w' := by
  go_enter Tryz.func13, Tryz.ntmps13
  go_wp2
  go_ret
  exact ⟨rfl, rfl⟩
theorem nonce_nil (s : ByteArray) (w : World) : Calls Tryz.prog 32 #[.pointer none, .string s] w fun e w' => e = .returned (.int .i64 0) ∧ w = w' := by
  go_enter Tryz.func32, Tryz.ntmps32
  go_wp2
  go_ret
  exact ⟨rfl, rfl⟩
theorem value_nil (s z : ByteArray) (w : World) : Calls Tryz.prog 33 #[.pointer none, .string s, .string z] w fun e w' => e = .returned (.string ⟨#[]⟩) ∧ w = w' := by
  go_enter Tryz.func33, Tryz.ntmps33
  go_wp2
  go_ret
  exact ⟨rfl, rfl⟩
theorem total_nil (w : World) : Calls Tryz.prog 30 #[.pointer none] w fun e w' => e = .returned (.int .i64 0) ∧ w = w' := by
  go_enter Tryz.func30, Tryz.ntmps30
  go_wp2
  go_ret
  exact ⟨rfl, rfl⟩
theorem digest_nil (w : World) : Calls Tryz.prog 14 #[.pointer none] w fun e w' => e = .returned (.string ⟨#[]⟩) ∧ w = w' := by
  go_enter Tryz.func14, Tryz.ntmps14
  go_wp2
  go_ret
  exact ⟨rfl, rfl⟩
theorem copy_nil (w : World) : Calls Tryz.prog 9 #[.pointer none] w fun e w' => e = .returned (.pointer none) ∧ w = w' := by
  go_enter Tryz.func9, Tryz.ntmps9
  go_wp2
  go_ret
  exact ⟨rfl, rfl⟩
end Go.Proofs.YthkgadjiiapfgaaGreatDoor
