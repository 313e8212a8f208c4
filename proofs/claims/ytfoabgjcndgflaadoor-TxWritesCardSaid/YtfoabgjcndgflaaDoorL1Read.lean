/-
  What Read of layer 1 tells, of the code: its texts are gone through by runes.
-/
import Derived.Test.YtfoabgjcndgflaaDoorL1Ops
import Derived.Test.YtfoabgjcndgflaaDoorL1ReadSpec
import Derived.Test.YtfoabgjcndgflaaDoorShelf
import Derived.WalkSpells
import Derived.LoopTactic
set_option linter.unusedSimpArgs false
set_option linter.unusedVariables false
namespace Go.Proofs.YtfoabgjcndgflaaDoor.L1
open Go.RowKit Go.Lib

theorem size_len (s : ByteArray) : s.size = s.data.toList.length := by simp
theorem get_list (s : ByteArray) (k : Nat) (h : k < s.size) : s.data.toList[k]'(by rw [← size_len]; exact h) = s[k] := rfl
theorem full (s : ByteArray) (h : 0 < s.size) : s.toList.isEmpty = false ∧ (!s.toList.isEmpty) = true := by
  have e : s.toList.isEmpty = false := by
    rw [toList_data]
    cases e : s.data.toList with
    | nil => have k := size_len s; rw [e] at k; rw [k] at h; exact absurd h (by simp)
    | cons a l => rfl
  rw [e]; exact ⟨rfl, rfl⟩

theorem plain_empty (s : ByteArray) (w : World) (h : s.data.toList = []) :
    Calls Tryd.prog 74 #[.string s] w fun e w' => e = .returned (.bool false) ∧ w = w' := by
  have h1 : s.toList = [] := by rw [toList_data]; exact h
  have h2 : s.toList.isEmpty = true := by rw [h1]; rfl
  go_enter Tryd.func74, Tryd.ntmps74
  go_wp2
  go_ret
  exact ⟨rfl, rfl⟩

theorem plain_zero (s : ByteArray) (w : World) (h : 1 < s.size) (hz : s[0] = 48) (hs : s.size ≤ 9223372036854775807) :
    Calls Tryd.prog 74 #[.string s] w fun e w' => e = .returned (.bool false) ∧ w = w' := by
  have hf := full s (by omega)
  obtain ⟨h2, h3⟩ := hf
  have h0 : 0 < s.size := by omega
  go_enter Tryd.func74, Tryd.ntmps74
  go_wp2
  go_ret
  exact ⟨rfl, rfl⟩

theorem width_pos (s : ByteArray) (pos : Nat) (h : pos < s.size) : 1 ≤ (Utf8.decode s pos).2 := by
  by_cases ha : (s[pos]'h).toNat < 128
  · rw [decode_ascii s pos h ha]
    exact Nat.le_refl _
  · exact (decode_high s pos h (by omega)).2

theorem plain_loop (s : ByteArray) (w : World) (h : 0 < s.size) (hz : s.size ≤ 1 ∨ (1 < s.size ∧ ((s[0].toNat : Int) == 48) = false)) (hs : s.size ≤ 9223372036854775807) :
    Calls Tryd.prog 74 #[.string s] w fun e w' => e = .returned (.bool (s.data.toList.all isDig)) ∧ Below w.heap.size w w' := by
  have hf := full s h
  obtain ⟨h2, h3⟩ := hf
  rcases hz with hz | ⟨hz, hz'⟩
  all_goals
    go_enter Tryd.func74, Tryd.ntmps74
    go_wp2
    go_loopw [4] (fun _ wr => ∃ pos : Nat, wr = w.iter s pos ∧ pos ≤ s.size ∧ (s.data.toList.take pos).all isDig = true) (fun _ wr => s.size - wr.iterPos w.heap.size)
    case atStart => exact ⟨0, rfl, Nat.zero_le _, rfl⟩
    case round =>
      obtain ⟨pos, rfl, hp, ha⟩ := hrel
      have HA := Lib.hid ha
      clear ha
      by_cases hlt : pos < s.size
      · by_cases hd : 48 ≤ s[pos].toNat ∧ s[pos].toNat ≤ 57
        · obtain ⟨d0, d1⟩ := hd
          have hnx : ∀ ty, (Instr.next (.pointer (some ⟨w.heap.size, 0, none⟩)) true ty).run Tryd.prog (w.iter s pos) = _ := fun ty => run_next_ascii w s pos ty hlt (by omega)
          have D0 : ¬ (s[pos].toNat : Int) < 48 := by omega
          have D1 : ¬ 57 < (s[pos].toNat : Int) := by omega
          go_wp2
          go_roundw
          case rel =>
            refine ⟨pos + 1, rfl, by omega, ?_⟩
            rw [all_take_succ _ _ (by rw [← size_len]; exact hlt), HA.out, get_list s pos hlt]
            exact isDig_iff.2 ⟨d0, d1⟩
          case measure => simp; omega
        · have hna := not_all_at s.data.toList pos (by rw [← size_len]; exact hlt) hd
          have hnx : ∀ ty, (Instr.next (.pointer (some ⟨w.heap.size, 0, none⟩)) true ty).run Tryd.prog (w.iter s pos) = _ := fun ty => run_next_any w s pos ty hlt
          have hr : ((Utf8.decode s pos).1 : Int) < 48 ∨ 57 < ((Utf8.decode s pos).1 : Int) := by
            by_cases ha : (s[pos]'hlt).toNat < 128
            · rw [decode_ascii s pos hlt ha]; omega
            · have := (decode_high s pos hlt (by omega)).1; omega
          rcases hr with hr | hr
          all_goals
            go_wp2
            go_ret
            exact ⟨by rw [hna]; rfl, (Below.refl _ _).alloc (Nat.le_refl _) _⟩
      · have hnx : ∀ ty, (Instr.next (.pointer (some ⟨w.heap.size, 0, none⟩)) true ty).run Tryd.prog (w.iter s pos) = _ := fun ty => run_next_end w s pos ty hlt
        go_wp2
        go_ret
        have e : s.data.toList.take pos = s.data.toList := List.take_of_length_le (by rw [← size_len]; omega)
        have he : s.data.toList.all isDig = true := by rw [← e]; exact HA.out
        exact ⟨by rw [he]; rfl, (Below.refl _ _).alloc (Nat.le_refl _) _⟩

theorem plain_any (s : ByteArray) (w : World) (hs : s.size ≤ 9223372036854775807) :
    Calls Tryd.prog 74 #[.string s] w fun e w' => e = .returned (.bool (plainB s.data.toList)) ∧ Below w.heap.size w w' := by
  by_cases h0 : s.data.toList = []
  · refine (plain_empty s w h0).mono fun e w' ⟨he, hw⟩ => ⟨?_, ?_⟩
    · rw [he, h0]; rfl
    · subst hw; exact Below.refl _ _
  have hn : 0 < s.size := by rw [size_len]; exact List.length_pos_iff.2 h0
  have hem : s.data.toList.isEmpty = false := by cases e : s.data.toList with
    | nil => exact absurd e h0
    | cons a l => rfl
  have hg : s.data.toList.getD 0 0 = s[0] := by
    rw [List.getD_eq_getElem?_getD, List.getElem?_eq_getElem (by rw [← size_len]; exact hn)]; rfl
  by_cases h1 : 1 < s.size
  · have hl : (s.data.toList.length == 1) = false := by rw [← size_len]; simp; omega
    by_cases hz : s[0] = 48
    · refine (plain_zero s w h1 hz hs).mono fun e w' ⟨he, hw⟩ => ⟨?_, ?_⟩
      · rw [he]; unfold plainB; rw [hem, hl, hg, hz]; rfl
      · subst hw; exact Below.refl _ _
    · have hz' : ((s[0].toNat : Int) == 48) = false := by
        simp only [beq_eq_false_iff_ne, ne_eq]; intro e; exact hz (UInt8.toNat_inj.1 (by rw [show (48 : UInt8).toNat = 48 by rfl]; omega))
      refine (plain_loop s w hn (Or.inr ⟨h1, hz'⟩) hs).mono fun e w' ⟨he, hw⟩ => ⟨?_, hw⟩
      rw [he]; unfold plainB; rw [hem, hl, hg]; simp [hz]
  · have hl : (s.data.toList.length == 1) = true := by rw [← size_len]; simp; omega
    refine (plain_loop s w hn (Or.inl (by omega)) hs).mono fun e w' ⟨he, hw⟩ => ⟨?_, hw⟩
    rw [he]; unfold plainB; rw [hem, hl]; simp

theorem value_any (s : ByteArray) (b : Bool) (w : World) (hs : s.size ≤ 9223372036854775807) (hd : s.data.toList.all isDig = true) :
    Calls Tryd.prog 75 #[.string s, .bool b] w fun e w' => e = .returned (.tuple #[.int .i64 (fitV s.data.toList b), .bool (fits s.data.toList b)]) ∧ Below w.heap.size w w' := by
  have HD := Lib.hid hd
  clear hd
  go_enter Tryd.func75, Tryd.ntmps75
  go_wp2
  go_loopw [6] (fun n wr => ∃ pos : Nat, wr = w.iter s pos ∧ pos ≤ s.size ∧ n = .int .i64 (-(dv (s.data.toList.take pos) : Int)) ∧ dv (s.data.toList.take pos) ≤ 9223372036854775808) (fun _ wr => s.size - wr.iterPos w.heap.size)
  case atStart => exact ⟨0, rfl, Nat.zero_le _, rfl, by simp [dv]⟩
  case round =>
    obtain ⟨pos, rfl, hp, rfl, hv⟩ := hrel
    by_cases hlt : pos < s.size
    · have hll : pos < s.data.toList.length := by rw [← size_len]; exact hlt
      have hb := all_at s.data.toList pos hll HD.out
      rw [get_list s pos hlt] at hb
      obtain ⟨d0, d1⟩ := hb
      have hts := dv_take_succ s.data.toList pos hll
      rw [get_list s pos hlt] at hts
      have hnx : ∀ ty, (Instr.next (.pointer (some ⟨w.heap.size, 0, none⟩)) true ty).run Tryd.prog (w.iter s pos) = _ := fun ty => run_next_ascii w s pos ty hlt (by omega)
      by_cases hr : (dv (s.data.toList.take pos) : Int) * 10 + ((s[pos].toNat : Int) - 48) ≤ 9223372036854775808
      · have ht := room_yes _ _ (by omega) (by omega) hr
        have HS := Lib.hid hts
        clear hts
        go_wp2
        go_roundw
        case rel =>
          have hs' := HS.out
          exact ⟨pos + 1, rfl, by omega, by rw [hs']; congr 1; omega, by omega⟩
        case measure => simp; omega
      · have ht := room_no _ _ (by omega) (by omega) hr
        have hmore := dv_take s.data.toList (pos + 1)
        have hf : fits s.data.toList b = false := by
          unfold fits; cases b <;> simp <;> omega
        have HF := Lib.hid hf
        clear hts hf hmore
        go_wp2
        go_ret2
        have hf' := HF.out
        exact ⟨by unfold fitV; rw [hf']; rfl, (Below.refl _ _).alloc (Nat.le_refl _) _⟩
    · have hnx : ∀ ty, (Instr.next (.pointer (some ⟨w.heap.size, 0, none⟩)) true ty).run Tryd.prog (w.iter s pos) = _ := fun ty => run_next_end w s pos ty hlt
      have e : s.data.toList.take pos = s.data.toList := List.take_of_length_le (by rw [← size_len]; omega)
      rw [e] at hv ⊢
      clear e
      cases b
      · by_cases hm : dv s.data.toList = 9223372036854775808
        · have hq : (-(dv s.data.toList : Int) == -9223372036854775808) = true := by rw [hm]; rfl
          have hf : fits s.data.toList false = false := by unfold fits; simp; omega
          have HF := Lib.hid hf
          clear hf hm
          go_wp2
          go_ret2
          have hf' := HF.out
          exact ⟨by unfold fitV; rw [hf']; rfl, (Below.refl _ _).alloc (Nat.le_refl _) _⟩
        · have hq : (-(dv s.data.toList : Int) == -9223372036854775808) = false := by simp; omega
          have hf : fits s.data.toList false = true := by unfold fits; simp; omega
          have hlt : dv s.data.toList ≤ 9223372036854775807 := by omega
          have HF := Lib.hid hf
          clear hf hm
          go_wp2
          go_ret2
          have hf' := HF.out
          exact ⟨by unfold fitV; rw [hf']; simp [valB], (Below.refl _ _).alloc (Nat.le_refl _) _⟩
      · have hf : fits s.data.toList true = true := by unfold fits; simp; omega
        have HF := Lib.hid hf
        clear hf
        go_wp2
        go_ret2
        have hf' := HF.out
        exact ⟨by unfold fitV; rw [hf']; simp [valB], (Below.refl _ _).alloc (Nat.le_refl _) _⟩

/-- The text of these bytes. -/
def strOf (l : List UInt8) : ByteArray := ⟨l.toArray⟩
theorem strOf_list (l : List UInt8) : (strOf l).data.toList = l := by simp [strOf]
theorem strOf_toList (l : List UInt8) : (strOf l).toList = l := by rw [toList_data, strOf_list]
theorem strOf_size (l : List UInt8) : (strOf l).size = l.length := by rw [size_len, strOf_list]
theorem body_le (l : List UInt8) : (body l).length ≤ l.length := by unfold body trimPrefix; split <;> simp
theorem cut_any (s : ByteArray) (w : World) :
    Calls Tryd.prog 73 #[.string s, .string { data := #[45] }] w fun e w' => e = .returned (.tuple #[.string (strOf (body s.data.toList)), .bool (neg s.data.toList)]) ∧ w = w' :=
  (Tryd.strings_CutPrefix s { data := #[45] } w).mono fun _ _ ⟨he, hw⟩ => ⟨he, hw.symm⟩

/-- The pair of answers of Read, with the world below. -/
def readPost (l : List UInt8) (least most : Int) (w : World) (e : Ending) (w' : World) : Prop := e = two (readV l least most) (readE l least most) ∧ Below w.heap.size w w'

theorem read_any (s : ByteArray) (least most : Int) (w : World) (hs : s.size ≤ 9223372036854775807) :
    Calls Tryd.prog 62 #[.string s, .int .i64 least, .int .i64 most] w (readPost s.data.toList least most w) := by
  have hds : (strOf (body s.data.toList)).size ≤ 9223372036854775807 := by
    rw [strOf_size]; have := body_le s.data.toList; rw [size_len] at hs; omega
  cases hp : plainB (body s.data.toList)
  · have hf : form s.data.toList = false := by unfold form; rw [hp]; rfl
    have HF := Lib.hid hf
    have HP := Lib.hid hp
    clear hf hp
    go_enter Tryd.func62, Tryd.ntmps62
    go_wp2_with (first
      | (go_at_call 73; refine (cut_any _ _).mono ?_; rintro e w' ⟨rfl, rfl⟩)
      | (go_at_call 74; refine (plain_any _ _ hds).mono ?_; rw [strOf_list, HP.out]; rintro e w1 ⟨rfl, hb1⟩))
    go_ret2
    have hf' := HF.out
    exact ⟨two_eq (by unfold readV; rw [hf']; rfl) (by unfold readE; rw [hf']; rfl), hb1⟩
  have hall : (body s.data.toList).all isDig = true := by
    unfold plainB at hp; simp only [Bool.and_eq_true] at hp; exact hp.2
  have hall' : (strOf (body s.data.toList)).data.toList.all isDig = true := by rw [strOf_list]; exact hall
  clear hall
  have HP := Lib.hid hp
  have HA := Lib.hid hall'
  clear hp hall'
  cases hn : neg s.data.toList
  all_goals
    cases hz : ((strOf (body s.data.toList)).toList == [48])
  case' true.true =>
    have hf : form s.data.toList = false := by
      rw [strOf_toList] at hz; unfold form; rw [HP.out, hn, hz]; rfl
    have HF := Lib.hid hf
    have HN := Lib.hid hn
    clear hf hn
    go_enter Tryd.func62, Tryd.ntmps62
    go_wp2_with (first
      | (go_at_call 73; refine (cut_any _ _).mono ?_; rw [HN.out]; rintro e w' ⟨rfl, rfl⟩)
      | (go_at_call 74; refine (plain_any _ _ hds).mono ?_; rw [strOf_list, HP.out]; rintro e w1 ⟨rfl, hb1⟩))
    go_ret2
    have hf' := HF.out
    exact ⟨two_eq (by unfold readV; rw [hf']; rfl) (by unfold readE; rw [hf']; rfl), hb1⟩
  all_goals
    have hf : form s.data.toList = true := by
      have hz' := hz
      rw [strOf_toList] at hz'; unfold form; rw [HP.out, hn]; simp [hz']
    have hfv := fitV_range (body s.data.toList) (neg s.data.toList)
    rw [hn] at hfv
    obtain ⟨v0, v1⟩ := hfv
    have HF := Lib.hid hf
    clear hf
    cases hfit : fits (body s.data.toList) (neg s.data.toList)
    · have hok : okR s.data.toList least most = false := by unfold okR; rw [hfit]; rfl
      rw [hn] at hfit
      have HOK := Lib.hid hok
      have HFIT := Lib.hid hfit
      have HN := Lib.hid hn
      clear hok hfit hn
      go_enter Tryd.func62, Tryd.ntmps62
      go_wp2_with (first
        | (go_at_call 73; refine (cut_any _ _).mono ?_; rw [HN.out]; rintro e w' ⟨rfl, rfl⟩)
        | (go_at_call 74; refine (plain_any _ _ hds).mono ?_; rw [strOf_list, HP.out]; rintro e w1 ⟨rfl, hb1⟩)
        | (go_at_call 75; refine (value_any _ _ _ hds HA.out).mono ?_; rw [strOf_list, HFIT.out]; rintro e w2 ⟨rfl, hb2⟩))
      go_ret2
      have hf' := HF.out
      have ho' := HOK.out
      exact ⟨two_eq (by unfold readV; rw [hf', ho']; rfl) (by unfold readE; rw [hf', ho']; rfl), hb1.trans (hb2.mono hb1.size)⟩
    · have hv : fitV (body s.data.toList) (neg s.data.toList) = valB (body s.data.toList) (neg s.data.toList) := by unfold fitV; rw [hfit]; rfl
      cases hw : (decide (least ≤ valB (body s.data.toList) (neg s.data.toList)) && decide (valB (body s.data.toList) (neg s.data.toList) ≤ most))
      · have hok : okR s.data.toList least most = false := by unfold okR; rw [hfit, hw]; rfl
        rw [hn] at hfit hw hv
        rw [hv] at v0 v1
        have HV := Lib.hid hv
        have HW := Lib.hid hw
        have HOK := Lib.hid hok
        have HFIT := Lib.hid hfit
        have HN := Lib.hid hn
        clear hok hfit hn hw hv
        go_enter Tryd.func62, Tryd.ntmps62
        go_wp2_with (first
          | (go_at_call 73; refine (cut_any _ _).mono ?_; rw [HN.out]; rintro e w' ⟨rfl, rfl⟩)
          | (go_at_call 74; refine (plain_any _ _ hds).mono ?_; rw [strOf_list, HP.out]; rintro e w1 ⟨rfl, hb1⟩)
          | (go_at_call 75; refine (value_any _ _ _ hds HA.out).mono ?_; rw [strOf_list, HFIT.out, HV.out]; rintro e w2 ⟨rfl, hb2⟩)
          | (go_at_call 46; refine (within_any _ _ _ _).mono ?_; rw [HW.out]; rintro e w' ⟨rfl, rfl⟩))
        go_ret2
        have hf' := HF.out
        have ho' := HOK.out
        exact ⟨two_eq (by unfold readV; rw [hf', ho']; rfl) (by unfold readE; rw [hf', ho']; rfl), hb1.trans (hb2.mono hb1.size)⟩
      · have hok : okR s.data.toList least most = true := by unfold okR; rw [hfit, hw]; rfl
        rw [hn] at hfit hw hv
        rw [hv] at v0 v1
        have HV := Lib.hid hv
        have HW := Lib.hid hw
        have HOK := Lib.hid hok
        have HFIT := Lib.hid hfit
        have HN := Lib.hid hn
        clear hok hfit hn hw hv
        go_enter Tryd.func62, Tryd.ntmps62
        go_wp2_with (first
          | (go_at_call 73; refine (cut_any _ _).mono ?_; rw [HN.out]; rintro e w' ⟨rfl, rfl⟩)
          | (go_at_call 74; refine (plain_any _ _ hds).mono ?_; rw [strOf_list, HP.out]; rintro e w1 ⟨rfl, hb1⟩)
          | (go_at_call 75; refine (value_any _ _ _ hds HA.out).mono ?_; rw [strOf_list, HFIT.out, HV.out]; rintro e w2 ⟨rfl, hb2⟩)
          | (go_at_call 46; refine (within_any _ _ _ _).mono ?_; rw [HW.out]; rintro e w' ⟨rfl, rfl⟩))
        go_ret2
        have hf' := HF.out
        have ho' := HOK.out
        have hn' := HN.out
        exact ⟨two_eq (by unfold readV; rw [hf', ho', hn']; rfl) (by unfold readE; rw [hf', ho']; rfl), hb1.trans (hb2.mono hb1.size)⟩
end Go.Proofs.YtfoabgjcndgflaaDoor.L1
