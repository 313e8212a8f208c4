/-
  Which texts are names and values, and which names they are folded to, is the document's answer (P2.1, P2.2), for every text; the argument is left as it was. Condition: the two listed tables of unicode/utf8 hold what the library's text lays in them (tied by the card).
-/
import Derived.Test.YtpppefajahbpgaaDoorLaidD
import Derived.Test.YtpppefajahbpgaaDoorValue
import Derived.Test.YtpppefajahbpgaaDoorRefFold
set_option linter.unusedSimpArgs false
set_option linter.unusedVariables false
namespace Go.Proofs.YtpppefajahbpgaaDoor.lawChecks
open Go.ChangeShapes Go.WideShapes Go.ChangeAt Go.RowKit Go.Lib

theorem walk (s : ByteArray) (w : World) (hs0 : s.size ≤ 9223372036854775807) (ht : Tab w) :
    Calls Tryd.prog 3 #[.string s] w fun e w' => e = .returned (.bool true) ∧ Below w.heap.size w w' := by
  have HT := Lib.hid ht
  clear ht
  by_cases hl : 2000 < s.size
  · go_enter Tryd.func3, Tryd.ntmps3
    go_wp2_with (go_at_call 6; refine (alive_any _).mono ?_; rintro e w1 ⟨rfl, hb1⟩)
    go_ret
    exact ⟨rfl, hb1⟩
  · have hs : s.size ≤ 1000000 := by omega
    have hs2 : s.size ≤ 2000 := by omega
    obtain ⟨l, hL⟩ : ∃ l, s.data.toList = l := ⟨_, rfl⟩
    have HL := Lib.hid hL
    clear hL
    cases hc : chk l <;> cases hv : vlu l <;> cases hf : foldB l
    all_goals
      have HC := Lib.hid hc
      have HV := Lib.hid hv
      have HF := Lib.hid hf
      clear hc hv hf
      go_enter Tryd.func3, Tryd.ntmps3
      go_wp2_with (first
        | (go_at_call 6; refine (alive_any _).mono ?_; rintro e w1 ⟨rfl, hb0⟩)
        | (go_at_call 7; refine (check_any _ _ hs).mono ?_; rw [HL.out, HC.out]; unfold errOf; rintro e w2 ⟨rfl, hb2⟩; replace hb0 := nxt hb0 hb2 hb0.size; clear hb2)
        | (go_at_call 8; refine (refcheck_any _ _ hs).mono ?_; rw [HL.out, HC.out]; rintro e w2 ⟨rfl, hb2⟩; replace hb0 := nxt hb0 hb2 hb0.size; clear hb2)
        | (go_at_call 9; refine (value_any _ _ hs (HT.out.kept hb0)).mono ?_; rw [HL.out, HV.out]; unfold errOf; rintro e w2 ⟨rfl, hb2⟩; replace hb0 := nxt hb0 hb2 hb0.size; clear hb2)
        | (go_at_call 10; refine (refvalue_any _ _ hs).mono ?_; rw [HL.out, HV.out]; rintro e w2 ⟨rfl, hb2⟩; replace hb0 := nxt hb0 hb2 hb0.size; clear hb2)
        | (go_at_call 11; refine (fold_any _ _ hs).mono ?_; unfold foldPost; rw [HL.out, HF.out]; unfold errOf; rintro e w2 ⟨rfl, hb2⟩; replace hb0 := nxt hb0 hb2 hb0.size; clear hb2)
        | (go_at_call 12; refine (reffold_any _ _ hs2).mono ?_; unfold refFoldPost; rw [HL.out, HF.out]; rintro e w2 ⟨rfl, hb2⟩; replace hb0 := nxt hb0 hb2 hb0.size; clear hb2))
    all_goals
      go_ret
      exact ⟨rfl, hb0⟩

theorem contract (H : Type) (enc : TypeId × Value → H) (W : World) (base : Nat) (args : Array Value) (ds gs : List (DataW H)) (before : List MemPlace)
    (hval : ∀ (j : Nat) t v, Tryd.f3.params[j]? = some t → args[j]? = some v → Value.okWide Tryd.prog W .any base t v)
    (hW : DataW.Whole enc Tryd.prog Tryd.f3.params.toList Rows.nameChecksSpec.vars false W args.toList ds gs before) (hL : laidMetH Tryd.prog Rows.nameChecksRow.laid W)
    (hreach : (DataW.weightsEach Tryd.prog (Tryd.f3.params.toList ++ (OpenSpec.ofChange Rows.nameChecksSpec).bare.plain.varTypes Tryd.prog) (ds ++ gs)).all (· ≤ reachBytes) = true) :
    Calls Tryd.prog 3 args W fun e W' => ∃ v, e = .returned v ∧ Rows.nameChecksSpec.post enc Tryd.prog Tryd.f3 false true false false W args v W' := by
  have hW' := hW
  obtain ⟨p, q, hA0, hV, rfl, hfz, hnd⟩ := hW
  have hA : DataW.TrodAll enc Tryd.prog W 0 (fun _ => true) true Tryd.f3.params.toList args.toList ds p := hA0
  rw [Tryd.params3] at hA hval
  obtain ⟨v0, vs0, d0, ds0, p0, q0, hargs, rfl, rfl, h0, r0⟩ := trodAll_cons hA
  obtain ⟨rfl, rfl, rfl⟩ := trodAll_nil r0
  obtain rfl : args = #[v0] := by cases args; simp_all
  obtain ⟨rfl, rfl⟩ := trodVars_none hV
  clear hA0
  have k0 := h0
  obtain ⟨x0, rfl, rfl, rfl, ws0⟩ := ChangeMaps.open_string Tryd.underlying9 (hval 0 9 v0 rfl rfl) h0
  unfold maxLen at ws0
  have hlt : ∀ x ∈ ([] : List MemPlace) ++ [] ++ [], x.block < W.heap.size := fun x hx => hW'.lt x hx
  refine (walk x0 W (by omega) (table hL)).mono fun e W' ⟨he, hb⟩ => ?_
  subst he
  refine ⟨_, rfl, post_of_below (pv := []) hW' (fun _ _ _ => trodAll_cons_mk (shut_bool Tryd.underlying4 _) trodAll_mk0) (fun sp hsp => (trodAll_cons_mk (WideElems.Trod_stays laidOut (by kernel_rfl) (of_decide_eq_true (by kernel_rfl)) k0 (fun x hx => hb.same (hlt x (by simp only [List.mem_append]; simp_all))) (fun x hx => hsp x (by simp only [List.mem_append]; simp_all))) trodAll_mk0)) (fun _ _ => rfl) (by rfl) hb (ok_one (by kernel_rfl) rfl (okWide_bool_mk Tryd.underlying4 _))⟩

theorem laid_met (os : Os) : laidMet Tryd.prog Rows.nameChecksRow.laid ((laidWorld os).forCall (fun _ _ => 0) ⟨#[], #[.string ⟨#[]⟩], []⟩).memory :=
  laidMet_of_run' 8 (by kernel_rfl) (by kernel_rfl)
theorem reads (os : Os) {H : Type} (enc : TypeId × Value → H) : ∃ places, DataW.whole enc Tryd.prog ((laidWorld os).forCall (fun _ _ => 0) ⟨#[], #[.string ⟨#[]⟩], []⟩).memory Tryd.f3.params.toList Rows.nameChecksSpec.vars false #[.string ⟨#[]⟩].toList 8 = some ([.lit (.string [])], [], places) :=
  ⟨[], by kernel_rfl⟩
set_option maxRecDepth 100000 in
theorem lifted (os : Os) (started : os.Started) (H : Type) (enc : TypeId × Value → H) (F : Stop.Interp) :
    ReturnsInHanded {} Tryd.checked os 3 .any ((OpenSpec.ofChange Rows.nameChecksSpec).preRow enc Tryd.prog Tryd.f3 Rows.nameChecksRow.domain false Rows.nameChecksRow.laid) (((OpenSpec.ofChange Rows.nameChecksSpec).at F).post enc Tryd.prog Tryd.f3 false true false false) := by
  obtain ⟨places, hx⟩ := reads os enc
  refine returnsInHanded_of_row (C := Tryd.checked) (s := OpenSpec.ofChange Rows.nameChecksSpec) own started (by kernel_rfl) Tryd.func3
    (witness_row_at (enc := enc) (C := Tryd.checked) false (laidWorld os) #[.string ⟨#[]⟩] rfl (by kernel_rfl) (by kernel_rfl) (by kernel_rfl)
      (OpenSpec.preRow_of_cond 8 hx (by kernel_rfl) (fun k hk => by cases hk) (by kernel_rfl) (laid_met os))) ?_
  intro W base args ds gs before hval hW _ _ hR hL _ _
  exact contract H enc W base args ds gs before hval hW hL hR
theorem said : Rows.NameChecksSaid :=
  OpenClaim.holds_of_cond 3 Tryd.f3 rfl rfl rfl rfl rfl rfl rfl ⟨rfl, rfl, rfl, rfl, rfl⟩ rfl rfl rfl rfl rfl (by kernel_rfl) Tryd.func3 (by kernel_rfl)
    (of_decide_eq_true (by kernel_rfl)) (by unfold Func.isWrapper; first | (rw [if_pos (by decide +kernel)]; kernel_rfl) | (rw [if_neg (by decide +kernel)]; exact ⟨rfl, rfl⟩))
    (fun os started H enc _ F => by rw [OpenClaim.pre_eq_preRow]; exact lifted os started H enc F)
theorem plain (f : FuncId) (fn : Func) (hf : Tryd.pinned.checked.prog.funcNamed "hallmoot/hallmootlaw02.NameChecks" = some f) (hfn : Tryd.pinned.checked.prog.funcs[f]? = some fn) :
    false = Tryd.pinned.checked.prog.looks [] ∧ ∀ (j : Nat) t, fn.params[j]? = some t → Tryd.pinned.checked.prog.wantsStandIn t = false := by
  obtain rfl : f = 3 := Option.some.inj ((show Tryd.prog.funcNamed "hallmoot/hallmootlaw02.NameChecks" = some 3 by kernel_rfl).symm.trans hf) |>.symm
  obtain rfl : fn = Tryd.f3 := (Option.some.inj (Tryd.func3.symm.trans hfn)).symm
  refine ⟨by kernel_rfl, fun j t ht => ?_⟩
  rw [Tryd.params3] at ht
  have hm := Array.mem_of_getElem? ht
  have hc : t = 9 := by simpa using hm
  rcases hc with rfl
  · exact (show Tryd.prog.wantsStandIn 9 = false by kernel_rfl)
/-- THE CARD. -/
theorem card : Rows.NameChecksCardSaid :=
  Claim7.holds_tied_plain_at .later [] _ _ _ _ said (fun _ h => by cases h) (by kernel_rfl) (fun _ h => by cases h) nameChecks_row_tie rfl ⟨rfl, rfl⟩ (by kernel_rfl) rfl plain (by kernel_rfl)
end Go.Proofs.YtpppefajahbpgaaDoor.lawChecks
