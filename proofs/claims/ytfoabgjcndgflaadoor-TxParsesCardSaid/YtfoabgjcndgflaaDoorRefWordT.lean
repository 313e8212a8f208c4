/-
  The first word of a text, by the document's answer.
-/
import Derived.Test.YtfoabgjcndgflaaDoorCutT
import Derived.LoopTactic
import Derived.RegionTactic
import Derived.Deep.QuietTactic
import Derived.BigQuiet
set_option linter.unusedSimpArgs false
set_option linter.unusedVariables false
namespace Go.Proofs.YtfoabgjcndgflaaDoor
open Go.RowKit Go.Lib

theorem Clear.byte {l : List UInt8} {k : Nat} (h : Clear l 0 k) (hk : k < l.length) (hc : l[k] ≠ 32) : Clear l 0 (k + 1) := by
  unfold Clear at h ⊢
  have hd : l.drop k = l[k] :: l.drop (k + 1) := List.drop_eq_getElem_cons hk
  rw [h, hd, cutW, if_neg hc, Option.map_map]
  congr 1
  funext p
  simp only [Function.comp]
  have e : seg l 0 k ++ [l[k]] = seg l 0 (k + 1) := by
    have := seg_app l 0 k 1 (Nat.zero_le _)
    rw [hd] at this
    exact this
  rw [← e]
  simp
theorem Clear.found {l : List UInt8} {k : Nat} (h : Clear l 0 k) (hk : k < l.length) (hc : l[k] = 32) : cutW l = some (seg l 0 k, l.drop (k + 1)) := by
  have hd : l.drop k = l[k] :: l.drop (k + 1) := List.drop_eq_getElem_cons hk
  unfold Clear at h
  rw [List.drop_zero] at h
  rw [h, hd, cutW, if_pos hc]
  simp
theorem drewN_below {B : Nat} {a w : World} (h : Below B a w) (q : Nat) : Below B a (w.drewN q) := ⟨h.os, h.tape, h.output, h.size, h.block⟩
/-- What word tells. -/
def wordP (o : Option (List UInt8 × List UInt8)) : Value := .tuple #[.string (str ((o.map (·.1)).getD [])), .string (str ((o.map (·.2)).getD [])), .bool o.isSome]
set_option maxHeartbeats 2000000 in
set_option maxRecDepth 100000 in
theorem word_any (l : List UInt8) (w : World) (hl : l.length ≤ 1000000) : Calls Tryd.prog 35 #[.string (str l)] w (gives (wordP (cutW l)) w) := by
  have hsz0 := str_size l
  obtain ⟨s, hs⟩ : ∃ s, s = str l := ⟨_, rfl⟩
  have hsl : s.data.toList = l := by rw [hs]; rfl
  rw [← hs] at hsz0 ⊢
  have HS := Lib.hid hs
  clear hs
  go_enter Tryd.func35, Tryd.ntmps35
  go_wp2
  go_loop [5] (fun i => ∃ k : Nat, k ≤ s.size ∧ i = .int .i64 k ∧ Hid (Clear l 0 k)) (fun i => s.size - (RowKit.intOf i).toNat)
  case atStart => exact ⟨0, Nat.zero_le _, rfl, Lib.hid (Clear.refl l 0)⟩
  case round =>
    obtain ⟨k, hk, rfl, hcl⟩ := hrel
    by_cases hlt : k < s.size
    · have hkl : k < l.length := by omega
      have hget : s[k] = l[k] := by
        have : ∀ (m : List UInt8) (hm : s.data.toList = m) (h : k < m.length), s[k] = m[k] := fun m hm h => by subst hm; rfl
        exact this l hsl hkl
      by_cases hc : l[k] = 32
      · have hc' : ((s[k].toNat : Int) == 32) = true := by rw [hget, hc]; rfl
        have HF := Lib.hid (hcl.out.found hkl hc)
        have i0 : (0 : Int) ≤ (k : Int) := by omega
        have i1 : (k : Int) ≤ (s.size : Int) := by omega
        have i2 : (0 : Int) ≤ (k : Int) + 1 := by omega
        have i3 : (k : Int) + 1 ≤ (s.size : Int) := by omega
        have i4 : IntKind.i64.wrap ((k : Int) + 1) = (k : Int) + 1 := IntWalk.i64_in _ (by omega)
        clear hget hc
        go_wp2
        go_quiet (fail)
        go_wp2
        go_ret3
        refine ⟨?_, drewN_below (Below.refl _ _) _⟩
        have e1 : s.extract 0 k = str (seg l 0 k) := by rw [HS.out, extract_seg]
        have e2 : s.extract (k + 1) l.length = str (l.drop (k + 1)) := by
          rw [HS.out, extract_seg]; congr 1; unfold seg; exact List.take_of_length_le (by simp)
        rw [HF.out]
        show Ending.returned (.tuple #[.string (s.extract 0 k), .string (s.extract (k + 1) l.length), .bool true]) = _
        rw [e1, e2]
        rfl
      · have hc' : ((s[k].toNat : Int) == 32) = false := by
          rw [hget]
          have : l[k].toNat ≠ 32 := fun e => hc (UInt8.toNat_inj.1 (by rw [e]; rfl))
          simp; omega
        have HF := Lib.hid (hcl.out.byte hkl hc)
        clear hget hc
        go_wp2
        go_round
        case rel => exact ⟨k + 1, by omega, by go_num, HF⟩
        case measure => simp [RowKit.intOf]; omega
    · have HF := Lib.hid (hcl.out.fin (List.drop_eq_nil_of_le (by omega)))
      go_wp2
      go_ret3
      have h := HF.out
      rw [List.drop_zero] at h
      exact ⟨by rw [h]; rfl, Below.refl _ _⟩
end Go.Proofs.YtfoabgjcndgflaaDoor
