/-
  The keys of a state's maps, sorted: names, and places.
-/
import Derived.Test.YthkgadjiiapfgaaGreatDoorSeqP
import Derived.Test.YthkgadjiiapfgaaGreatDoorTot
set_option linter.unusedSimpArgs false
set_option linter.unusedVariables false
set_option maxRecDepth 10000
namespace Go.Proofs.YthkgadjiiapfgaaGreatDoor
open Go.RowKit Go.Maps Go.Lib Go.Proofs
open L2 (less nums chk Tab)

theorem keysA_any (b : Nat) (w : World) : Calls Tryz.prog 36 #[.map (some b)] w fun e w' =>
    e = .returned (.func (.func 57) #[] #[.pointer (some ⟨w.heap.size, 0, none⟩)]) ∧ w' = w.alloc (.cells #[.map (some b)] 49) :=
  (callsIn_wide (n := 6)).1 (AnyZ.keys_in Tryz.keysA Fence.wide 6 trivial rfl (some b) w)
theorem keysV_any (b : Nat) (w : World) : Calls Tryz.prog 41 #[.map (some b)] w fun e w' =>
    e = .returned (.func (.func 63) #[] #[.pointer (some ⟨w.heap.size, 0, none⟩)]) ∧ w' = w.alloc (.cells #[.map (some b)] 50) := by
  go_enter Tryz.func41, Tryz.ntmps41
  go_wp2
  go_ret
  exact ⟨rfl, rfl⟩
theorem keysA_enters : ∀ args w, (callFunc 57 args).run Tryz.prog w = .ok (.enter 57 args) w := enters_of Tryz.func57 (by kernel_rfl) rfl
theorem keysV_enters : ∀ args w, (callFunc 63 args).run Tryz.prog w = .ok (.enter 63 args) w := enters_of Tryz.func63 (by kernel_rfl) rfl
/-- Names that a map's keys are. -/
theorem listed_names {w : World} {b n : Nat} {D : DataW Unit} {f : FA} (hown : w.ownsMap Tryz.prog 9 accElem b n D) (hf : Fits okN id accD D f) {ss : List (List UInt8)} (hp : ss.Perm (strKeys D)) : Listed okN f ss := by
  obtain ⟨es, rfl, hap, hkeys⟩ := hown.entries kdN
  obtain ⟨es', he, hk⟩ := hown.keysOf
  obtain rfl : es = es' := by injection he
  have hstr : ∀ p ∈ es, ∃ x, p.1 = .string x ∧ okN x := fun p hp' => by
    obtain ⟨key, hkey⟩ := hk p hp'
    obtain ⟨x, hx, _, e⟩ := keyN_inv hkey
    exact ⟨x, e, hx⟩
  have hnd : (strKeys (.map es)).Nodup := by
    show (es.map fun p => strOf p.1).Nodup
    refine List.pairwise_map.2 (hap.imp_of_mem fun {p q} hp' hq' hne e => hne ?_)
    obtain ⟨a, ha, _⟩ := hstr p hp'
    obtain ⟨c, hc, _⟩ := hstr q hq'
    rw [ha, hc] at e ⊢
    exact congrArg _ e
  have hmem : ∀ x, x ∈ strKeys (.map es) ↔ Maps.has (.map es) (.string x) = true := fun x => by
    rw [has_eq, List.any_eq_true]
    show x ∈ es.map (fun p => strOf p.1) ↔ _
    rw [List.mem_map]
    constructor
    · rintro ⟨p, hp', rfl⟩
      obtain ⟨a, ha, _⟩ := hstr p hp'
      exact ⟨p, hp', by rw [ha]; simp [Lit.sameKey, strOf]⟩
    · rintro ⟨p, hp', hs⟩
      obtain ⟨a, ha, _⟩ := hstr p hp'
      rw [ha] at hs
      exact ⟨p, hp', by rw [ha]; simpa [Lit.sameKey, strOf] using hs⟩
  refine ⟨hp.nodup_iff.2 hnd, fun x hx => ?_, fun x hx => ?_⟩
  · obtain ⟨p, hp', rfl⟩ := List.mem_map.1 (show x ∈ es.map (fun p => strOf p.1) from hp.mem_iff.1 hx)
    obtain ⟨a, ha, hok⟩ := hstr p hp'
    rw [ha]; exact hok
  · rw [hp.mem_iff, hmem]
    rw [show (.string x : Lit) = .string (id x) from rfl, (hf x hx).1]
theorem listed_places {D : DataW Unit} {v : FV} (hf : Fits okP kbP entD D v) {ss : List Plc} (h : AllP D ss) : Listed okP v ss := by
  obtain ⟨left, hC, hO, hl⟩ := h
  exact listed_of hf okP_inj hC hO hl
theorem listed_len {α β : Type} {ok : α → Prop} {f : α → Option β} {ss zs : List α} (h : Listed ok f ss) (k : Listed ok f zs) : ss.length = zs.length := (h.same k).length_eq
set_option maxHeartbeats 2000000 in
set_option maxRecDepth 100000 in
/-- The names of those who have something, rising. -/
theorem sortedA {w0 w : World} (hb0 : Below w0.heap.size w0 w) (hT : Tab w0) {b n Bm : Nat} {D : DataW Unit} {f : FA} (hBm : Bm < w.heap.size) (hm : w.cell? ⟨Bm, 0, none⟩ = some (.map (some b))) (hown : w.ownsMap Tryz.prog 9 accElem b n D) (hf : Fits okN id accD D f)
    (hok : ∀ x, okN x → (f x).isSome = true → chk x = true) (hsz : Maps.size D * 32 ≤ 140737488355328) :
    Calls Tryz.prog 35 #[.func (.func 57) #[] #[.pointer (some ⟨Bm, 0, none⟩)], .func (.func 37) #[] #[]] w fun e w' =>
      ∃ (v : Value) (ss : List (List UInt8)), e = .returned v ∧ Listed okN f ss ∧ w'.ownsRow w0.heap.size 9 1 v ss.length ((isort less id ss).map encStr) ∧ Below w0.heap.size w0 w' := by
  have hg := AnyZ.keys_gives (P := Tryz.prog) (ρ := Tryz.keysA_ren) { Tryz.keysA with } Fence.wide 4 trivial rfl (by omega) Bm b n D w hBm hm hown
  have hcol := (callsIn_wide (n := 6)).1 (AnyZ.collect_in Tryz.collectA Fence.wide 6 trivial trivial rfl (by omega) _ _ trivial keysA_enters _ _ (by unfold maxLen; omega) (by omega) w hg.bounded)
  change Calls Tryz.prog 55 _ _ _ at hcol
  go_enter Tryz.func35, Tryz.ntmps35
  go_wp2_with (first
    | (go_at_call 55; refine hcol.mono ?_; rintro e w1 ⟨v, ss, rfl, ⟨hp, hlen⟩, hrow, _, hb1⟩
       have hL := listed_names hown hf hp
       have hb2 : Below w0.heap.size w0 w1 := hb0.trans (hb1.mono hb0.size)
       have hs := sort_names hb2 hT (ownsRow_base_a hrow hb0.size) (fun x hx => hok x (hL.2.1 x hx) ((hL.2.2 x (hL.2.1 x hx)).1 hx)) hL.1 (by omega))
    | (go_at_call 56; refine hs.mono ?_; rintro e w2 ⟨rfl, hrow2, hb3⟩)
    | go_in)
  go_ret
  exact ⟨v, ss, rfl, hL, hrow2, hb3⟩
set_option maxHeartbeats 2000000 in
set_option maxRecDepth 100000 in
/-- The places where something stands, rising. -/
theorem sortedV {w0 w : World} (hb0 : Below w0.heap.size w0 w) (hT : Tab w0) {b n Bm : Nat} {D : DataW Unit} {v : FV} (hBm : Bm < w.heap.size) (hm : w.cell? ⟨Bm, 0, none⟩ = some (.map (some b))) (hown : w.ownsMap Tryz.prog 68 entElem b n D) (hf : Fits okP kbP entD D v)
    (hok : ∀ x, okP x → (v x).isSome = true → chk x.1 = true ∧ chk x.2 = true) (hsz : Maps.size D * 32 ≤ 140737488355328) :
    Calls Tryz.prog 40 #[.func (.func 63) #[] #[.pointer (some ⟨Bm, 0, none⟩)], .func (.func 42) #[] #[]] w fun e w' =>
      ∃ (u : Value) (ss : List Plc), e = .returned u ∧ (Listed okP v ss ∧ ss.length ≤ Maps.size D) ∧ w'.ownsRow w0.heap.size 68 2 u ss.length ((isort (lt2 less) id ss).flatMap plcL) ∧ Below w0.heap.size w0 w' := by
  have hg := keysP_gives Fence.wide 4 trivial rfl (by omega) Bm b n D w hBm hm hown
  have hcol := (callsIn_wide (n := 6)).1 (collectP Fence.wide 6 trivial trivial rfl (by omega) _ _ trivial keysV_enters _ _ (by omega) w hg.bounded)
  go_enter Tryz.func40, Tryz.ntmps40
  go_wp2_with (first
    | (go_at_call 61; refine hcol.mono ?_; rintro e w1 ⟨u, ss, rfl, ⟨hp, hlen⟩, hrow, hb1⟩
       have hL := listed_places hf hp
       have hb2 : Below w0.heap.size w0 w1 := hb0.trans (hb1.mono hb0.size)
       have hs := sort_places hb2 hT (ownsRow_base_a hrow hb0.size) (fun x hx => hok x (hL.2.1 x hx) ((hL.2.2 x (hL.2.1 x hx)).1 hx)) hL.1 (by omega))
    | (go_at_call 62; refine hs.mono ?_; rintro e w2 ⟨rfl, hrow2, hb3⟩)
    | go_in)
  go_ret
  exact ⟨u, ss, rfl, ⟨hL, hlen⟩, hrow2, hb3⟩
end Go.Proofs.YthkgadjiiapfgaaGreatDoor
