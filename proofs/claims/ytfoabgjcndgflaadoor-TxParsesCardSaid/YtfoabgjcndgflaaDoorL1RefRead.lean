/-
  What Read of layer 1 tells, of the document's answer: the same as the code's. The world stays as it was.
-/
import Derived.Test.YtfoabgjcndgflaaDoorL1Read
import Derived.Laws.Cover1
set_option linter.unusedSimpArgs false
set_option linter.unusedVariables false
namespace Go.Proofs.YtfoabgjcndgflaaDoor.L1
open Go.RowKit Go.Lib

theorem refdigits_any (s : ByteArray) (w : World) (hs : s.size ≤ 9223372036854775807) :
    Calls Tryd.prog 53 #[.string s] w fun e w' => e = .returned (.bool (plainB s.data.toList)) ∧ w = w' := by
  go_enter Tryd.func53, Tryd.ntmps53
  go_wp2
  go_loop [3] (fun i => ∃ k : Nat, k ≤ s.size ∧ i = .int .i64 k ∧ (s.data.toList.take k).all isDig = true) (fun i => s.size - (RowKit.intOf i).toNat)
  case atStart => exact ⟨0, Nat.zero_le _, rfl, rfl⟩
  case round =>
    obtain ⟨k, hk, rfl, ha⟩ := hrel
    have HA := Lib.hid ha
    clear ha
    by_cases hlt : k < s.size
    · by_cases hd : 48 ≤ s[k].toNat ∧ s[k].toNat ≤ 57
      · obtain ⟨d0, d1⟩ := hd
        have D0 : ¬ (s[k].toNat : Int) < 48 := by omega
        have D1 : ¬ 57 < (s[k].toNat : Int) := by omega
        go_wp2
        go_round
        case rel =>
          refine ⟨k + 1, by omega, by go_num, ?_⟩
          rw [all_take_succ _ _ (by rw [← size_len]; exact hlt), HA.out, get_list s k hlt]
          exact isDig_iff.2 ⟨d0, d1⟩
        case measure => simp [RowKit.intOf]; omega
      · have hna := not_all_at s.data.toList k (by rw [← size_len]; exact hlt) hd
        have hpf : plainB s.data.toList = false := by unfold plainB; rw [hna]; simp
        have HP := Lib.hid hpf
        clear hna hpf
        have hr : (s[k].toNat : Int) < 48 ∨ 57 < (s[k].toNat : Int) := by omega
        rcases hr with hr | hr
        all_goals
          go_wp2
          go_ret
          exact ⟨by rw [HP.out]; rfl, rfl⟩
    · have e : s.data.toList.take k = s.data.toList := List.take_of_length_le (by rw [← size_len]; omega)
      have ha : s.data.toList.all isDig = true := by rw [← e]; exact HA.out
      have HA' := Lib.hid ha
      clear e ha
      by_cases h1 : s.size ≤ 1
      · by_cases h0 : s.size ≤ 0
        · have hp : plainB s.data.toList = false := by
            have : s.data.toList = [] := List.eq_nil_of_length_eq_zero (by rw [← size_len]; omega)
            rw [this]; rfl
          have HP := Lib.hid hp
          clear hp
          have hq : ((s.size : Int) == 1) = false := by simp; omega
          go_wp2
          go_ret
          exact ⟨by rw [HP.out]; rfl, rfl⟩
        · have hp : plainB s.data.toList = true := by
            have hl : s.data.toList.length = 1 := by rw [← size_len]; omega
            unfold plainB; rw [HA'.out, hl]
            cases hh : s.data.toList with
            | nil => rw [hh] at hl; simp at hl
            | cons a l => rfl
          have HP := Lib.hid hp
          clear hp
          have hq : ((s.size : Int) == 1) = true := by simp; omega
          go_wp2
          go_ret
          exact ⟨by rw [HP.out]; rfl, rfl⟩
      · have hl : (s.data.toList.length == 1) = false := by rw [← size_len]; simp; omega
        have hg : s.data.toList.getD 0 0 = s[0] := by
          rw [List.getD_eq_getElem?_getD, List.getElem?_eq_getElem (by rw [← size_len]; omega)]; rfl
        have hem : s.data.toList.isEmpty = false := by
          cases hh : s.data.toList with
          | nil => rw [size_len s, hh] at h1; exact absurd (by simp) h1
          | cons a l => rfl
        have hq : ((s.size : Int) == 1) = false := by simp; omega
        have h1' : 1 < s.size := by omega
        have hp : plainB s.data.toList = (s[0] != 48) := by unfold plainB; rw [hem, hl, hg, HA'.out]; simp
        by_cases hz : s[0].toNat = 48
        · have hz' : ((s[0].toNat : Int) == 48) = true := by simp; omega
          have hz2 : ((s[0].toNat : Int) != 48) = false := by simp; omega
          have hb : (s[0] != 48) = false := by simp; exact UInt8.toNat_inj.1 (by rw [hz]; rfl)
          rw [hb] at hp
          have HP := Lib.hid hp
          clear hp hl hg hem hb hz
          go_wp2
          go_ret
          exact ⟨by rw [HP.out]; rfl, rfl⟩
        · have hz' : ((s[0].toNat : Int) == 48) = false := by simp; omega
          have hz2 : ((s[0].toNat : Int) != 48) = true := by simp; omega
          have hb : (s[0] != 48) = true := by simp; intro e; exact hz (by rw [e]; rfl)
          rw [hb] at hp
          have HP := Lib.hid hp
          clear hp hl hg hem hb hz
          go_wp2
          go_ret
          exact ⟨by rw [HP.out]; rfl, rfl⟩

set_option maxHeartbeats 1600000 in
theorem refread_P (s D : ByteArray) (least most : Int) (w : World) (hs : s.size ≤ 9223372036854775807) (h0 : 0 < s.size) (h45 : ((s[0].toNat : Int) == 45) = false)
    (hn : neg s.data.toList = false) (hD : s = D) (hb : D.data.toList = body s.data.toList) (hds : D.size ≤ 9223372036854775807) :
    Calls Tryd.prog 36 #[.string s, .int .i64 least, .int .i64 most] w fun e w' => e = two (readV s.data.toList least most) (readE s.data.toList least most) ∧ w = w' := by
  subst hD
  have hlen : s.size = (body s.data.toList).length := (size_len s).trans (congrArg List.length hb)
  have HB := Lib.hid hb
  have HN := Lib.hid hn
  have HLEN := Lib.hid hlen
  clear hb hn hlen
  cases hp : plainB (body s.data.toList)
  · have hf : form s.data.toList = false := by unfold form; rw [hp]; rfl
    have HF := Lib.hid hf
    have HP := Lib.hid hp
    clear hf hp
    go_enter Tryd.func36, Tryd.ntmps36
    go_wp2_with (go_at_call 53; refine (refdigits_any _ _ hds).mono ?_; rw [HB.out, HP.out]; rintro e w' ⟨rfl, rfl⟩)
    go_ret2
    have hf' := HF.out
    exact ⟨two_eq (by unfold readV; rw [hf']; rfl) (by unfold readE; rw [hf']; rfl), rfl⟩
  have hall : (body s.data.toList).all isDig = true := by
    unfold plainB at hp; simp only [Bool.and_eq_true] at hp; exact hp.2
  have hf : form s.data.toList = true := by unfold form; rw [hp, HN.out]; simp
  have HF := Lib.hid hf
  have HP := Lib.hid hp
  have HA := Lib.hid hall
  clear hf hall hp
  have htop : (!(Op.bytesLess s.toList (top false) || s.toList == top false)) = !(Op.bytesLess (body s.data.toList) (top false) || body s.data.toList == top false) := by rw [toList_data]; exact congrArg (fun l => !(Op.bytesLess l (top false) || l == top false)) HB.out
  simp only [top, if_true, Bool.false_eq_true, if_false] at htop
  have HT := Lib.hid htop
  clear htop
  by_cases hl : 19 < s.size
  · have hok : okR s.data.toList least most = false := by
      unfold okR; rw [fits_long _ _ HP.out (by rw [← HLEN.out]; exact hl)]; rfl
    have HOK := Lib.hid hok
    clear hok
    go_enter Tryd.func36, Tryd.ntmps36
    go_wp2_with (go_at_call 53; refine (refdigits_any _ _ hds).mono ?_; rw [HB.out, HP.out]; rintro e w' ⟨rfl, rfl⟩)
    go_ret2
    have hf' := HF.out
    have ho' := HOK.out
    exact ⟨two_eq (by unfold readV; rw [hf', ho']; rfl) (by unfold readE; rw [hf', ho']; rfl), rfl⟩

  by_cases he : s.size = 19
  · have hq : ((s.size : Int) == 19) = true := by simp; omega
    have hsame := fits_same _ false HP.out (by rw [← HLEN.out]; exact he)
    simp only [top, if_true, Bool.false_eq_true, if_false] at hsame
    have hg := HT.out
    rw [hsame] at hg
    have HE := Lib.hid he
    clear hsame he
    cases hfit : fits (body s.data.toList) false
    · rw [hfit] at hg
      have hok : okR s.data.toList least most = false := by unfold okR; rw [HN.out, hfit]; rfl
      have HOK := Lib.hid hok
      clear hok hfit
      go_enter Tryd.func36, Tryd.ntmps36
      go_wp2_with (go_at_call 53; refine (refdigits_any _ _ hds).mono ?_; rw [HB.out, HP.out]; rintro e w' ⟨rfl, rfl⟩)
      go_ret2
      have hf' := HF.out
      have ho' := HOK.out
      exact ⟨two_eq (by unfold readV; rw [hf', ho']; rfl) (by unfold readE; rw [hf', ho']; rfl), rfl⟩

    rw [hfit] at hg
    have HFIT := Lib.hid hfit
    clear hfit
    have hmax : dv (body s.data.toList) ≤ 9223372036854775807 := by have := HFIT.out; unfold fits at this; simpa using this
    go_enter Tryd.func36, Tryd.ntmps36
    go_wp2_with (go_at_call 53; refine (refdigits_any _ _ hds).mono ?_; rw [HB.out, HP.out]; rintro e w' ⟨rfl, rfl⟩)
    go_loop [11, 12] (fun n i => ∃ k : Nat, k ≤ s.size ∧ i = .int .i64 k ∧ n = .int .i64 ((dv ((body s.data.toList).take k) : Int))) (fun _ i => s.size - (RowKit.intOf i).toNat)
    case atStart => exact ⟨0, Nat.zero_le _, rfl, rfl⟩
    case round =>
      obtain ⟨k, hk, rfl, rfl⟩ := hrel
      by_cases hlt : k < s.size
      · have hll : k < (body s.data.toList).length := by rw [← HLEN.out]; exact hlt
        have hd := all_at (body s.data.toList) k hll HA.out
        have hgl : (body s.data.toList)[k] = s[k] := by
          rw [← get_list s k hlt]; exact (List.getElem_of_eq HB.out.symm _)
        rw [hgl] at hd
        obtain ⟨d0, d1⟩ := hd
        have hts := dv_take_succ (body s.data.toList) k hll
        rw [hgl] at hts
        have hmore := dv_take (body s.data.toList) (k + 1)
        have hb1 : (dv ((body s.data.toList).take k) : Int) * 10 + (s[k].toNat - 48) ≤ 9223372036854775807 := by omega
        have HS := Lib.hid hts
        clear hts hmore hgl
        go_wp2
        go_round
        case rel =>
          have hs' := HS.out
          exact ⟨k + 1, by omega, by go_num, by rw [hs']; congr 1; omega⟩
        case measure => simp [RowKit.intOf]; omega
      · have e : (body s.data.toList).take k = body s.data.toList := List.take_of_length_le (by rw [← HLEN.out]; omega)
        rw [e]
        clear e
        have hv : valB (body s.data.toList) (neg s.data.toList) = (dv (body s.data.toList) : Int) := by rw [HN.out]; simp [valB]
        have hok : okR s.data.toList least most = (decide (least ≤ (dv (body s.data.toList) : Int)) && decide ((dv (body s.data.toList) : Int) ≤ most)) := by
          unfold okR; rw [hv, HN.out, HFIT.out]; rfl
        have HV := Lib.hid hv
        clear hv
        by_cases g1 : least ≤ (dv (body s.data.toList) : Int) <;> by_cases g2 : (dv (body s.data.toList) : Int) ≤ most
        · have hok' : okR s.data.toList least most = true := by rw [hok]; simp only [g1, g2, decide_true, Bool.and_self]
          have HOK := Lib.hid hok'
          clear hok hok'
          go_wp2
          go_ret2
          have hf' := HF.out
          have ho' := HOK.out
          have hv' := HV.out
          exact ⟨two_eq (by unfold readV; rw [hf', ho', hv']; rfl) (by unfold readE; rw [hf', ho']; rfl), rfl⟩
        all_goals
          have hok' : okR s.data.toList least most = false := by rw [hok]; simp only [g1, g2, decide_true, decide_false, Bool.and_self, Bool.and_false, Bool.false_and]
          have HOK := Lib.hid hok'
          clear hok hok'
          go_wp2
          go_ret2
          have hf' := HF.out
          have ho' := HOK.out
          exact ⟨two_eq (by unfold readV; rw [hf', ho']; rfl) (by unfold readE; rw [hf', ho']; rfl), rfl⟩
  have hfit := fits_short (body s.data.toList) false HP.out (by rw [← HLEN.out]; omega)
  have HFIT := Lib.hid hfit
  have hq : ((s.size : Int) == 19) = false := by simp; omega
  clear hfit he
  have hmax : dv (body s.data.toList) ≤ 9223372036854775807 := by have := HFIT.out; unfold fits at this; simpa using this
  go_enter Tryd.func36, Tryd.ntmps36
  go_wp2_with (go_at_call 53; refine (refdigits_any _ _ hds).mono ?_; rw [HB.out, HP.out]; rintro e w' ⟨rfl, rfl⟩)
  go_loop [11, 12] (fun n i => ∃ k : Nat, k ≤ s.size ∧ i = .int .i64 k ∧ n = .int .i64 ((dv ((body s.data.toList).take k) : Int))) (fun _ i => s.size - (RowKit.intOf i).toNat)
  case atStart => exact ⟨0, Nat.zero_le _, rfl, rfl⟩
  case round =>
    obtain ⟨k, hk, rfl, rfl⟩ := hrel
    by_cases hlt : k < s.size
    · have hll : k < (body s.data.toList).length := by rw [← HLEN.out]; exact hlt
      have hd := all_at (body s.data.toList) k hll HA.out
      have hgl : (body s.data.toList)[k] = s[k] := by
        rw [← get_list s k hlt]; exact (List.getElem_of_eq HB.out.symm _)
      rw [hgl] at hd
      obtain ⟨d0, d1⟩ := hd
      have hts := dv_take_succ (body s.data.toList) k hll
      rw [hgl] at hts
      have hmore := dv_take (body s.data.toList) (k + 1)
      have hb1 : (dv ((body s.data.toList).take k) : Int) * 10 + (s[k].toNat - 48) ≤ 9223372036854775807 := by omega
      have HS := Lib.hid hts
      clear hts hmore hgl
      go_wp2
      go_round
      case rel =>
        have hs' := HS.out
        exact ⟨k + 1, by omega, by go_num, by rw [hs']; congr 1; omega⟩
      case measure => simp [RowKit.intOf]; omega
    · have e : (body s.data.toList).take k = body s.data.toList := List.take_of_length_le (by rw [← HLEN.out]; omega)
      rw [e]
      clear e
      have hv : valB (body s.data.toList) (neg s.data.toList) = (dv (body s.data.toList) : Int) := by rw [HN.out]; simp [valB]
      have hok : okR s.data.toList least most = (decide (least ≤ (dv (body s.data.toList) : Int)) && decide ((dv (body s.data.toList) : Int) ≤ most)) := by
        unfold okR; rw [hv, HN.out, HFIT.out]; rfl
      have HV := Lib.hid hv
      clear hv
      by_cases g1 : least ≤ (dv (body s.data.toList) : Int) <;> by_cases g2 : (dv (body s.data.toList) : Int) ≤ most
      · have hok' : okR s.data.toList least most = true := by rw [hok]; simp only [g1, g2, decide_true, Bool.and_self]
        have HOK := Lib.hid hok'
        clear hok hok'
        go_wp2
        go_ret2
        have hf' := HF.out
        have ho' := HOK.out
        have hv' := HV.out
        exact ⟨two_eq (by unfold readV; rw [hf', ho', hv']; rfl) (by unfold readE; rw [hf', ho']; rfl), rfl⟩
      all_goals
        have hok' : okR s.data.toList least most = false := by rw [hok]; simp only [g1, g2, decide_true, decide_false, Bool.and_self, Bool.and_false, Bool.false_and]
        have HOK := Lib.hid hok'
        clear hok hok'
        go_wp2
        go_ret2
        have hf' := HF.out
        have ho' := HOK.out
        exact ⟨two_eq (by unfold readV; rw [hf', ho']; rfl) (by unfold readE; rw [hf', ho']; rfl), rfl⟩

set_option maxHeartbeats 1600000 in
theorem refread_N (s D : ByteArray) (least most : Int) (w : World) (hs : s.size ≤ 9223372036854775807) (h0 : 0 < s.size) (h45 : ((s[0].toNat : Int) == 45) = true)
    (hn : neg s.data.toList = true) (hD : s.extract 1 s.size = D) (hb : D.data.toList = body s.data.toList) (hds : D.size ≤ 9223372036854775807) :
    Calls Tryd.prog 36 #[.string s, .int .i64 least, .int .i64 most] w fun e w' => e = two (readV s.data.toList least most) (readE s.data.toList least most) ∧ w = w' := by
  have hlen : D.size = (body s.data.toList).length := (size_len D).trans (congrArg List.length hb)
  have HB := Lib.hid hb
  have HN := Lib.hid hn
  have HLEN := Lib.hid hlen
  clear hb hn hlen
  cases hp : plainB (body s.data.toList)
  · have hf : form s.data.toList = false := by unfold form; rw [hp]; rfl
    have HF := Lib.hid hf
    have HP := Lib.hid hp
    clear hf hp
    go_enter Tryd.func36, Tryd.ntmps36
    go_wp2_with (go_at_call 53; refine (refdigits_any _ _ hds).mono ?_; rw [HB.out, HP.out]; rintro e w' ⟨rfl, rfl⟩)
    go_ret2
    have hf' := HF.out
    exact ⟨two_eq (by unfold readV; rw [hf']; rfl) (by unfold readE; rw [hf']; rfl), rfl⟩
  have hall : (body s.data.toList).all isDig = true := by
    unfold plainB at hp; simp only [Bool.and_eq_true] at hp; exact hp.2
  cases hz : (D.toList == [48])
  case' true =>
    have hf : form s.data.toList = false := by
      rw [toList_data, HB.out] at hz; unfold form; rw [hp, HN.out, hz]; rfl
    have HF := Lib.hid hf
    have HP := Lib.hid hp
    clear hf hp
    go_enter Tryd.func36, Tryd.ntmps36
    go_wp2_with (go_at_call 53; refine (refdigits_any _ _ hds).mono ?_; rw [HB.out, HP.out]; rintro e w' ⟨rfl, rfl⟩)
    go_ret2
    have hf' := HF.out
    exact ⟨two_eq (by unfold readV; rw [hf']; rfl) (by unfold readE; rw [hf']; rfl), rfl⟩
  have hf : form s.data.toList = true := by
    have hz' := hz
    rw [toList_data, HB.out] at hz'; unfold form; rw [hp, HN.out]; simp [hz']
  have HF := Lib.hid hf
  have HP := Lib.hid hp
  have HA := Lib.hid hall
  clear hf hall hp
  have htop : (!(Op.bytesLess D.toList (top true) || D.toList == top true)) = !(Op.bytesLess (body s.data.toList) (top true) || body s.data.toList == top true) := by rw [toList_data]; exact congrArg (fun l => !(Op.bytesLess l (top true) || l == top true)) HB.out
  simp only [top, if_true, Bool.false_eq_true, if_false] at htop
  have HT := Lib.hid htop
  clear htop
  by_cases hl : 19 < D.size
  · have hok : okR s.data.toList least most = false := by
      unfold okR; rw [fits_long _ _ HP.out (by rw [← HLEN.out]; exact hl)]; rfl
    have HOK := Lib.hid hok
    clear hok
    go_enter Tryd.func36, Tryd.ntmps36
    go_wp2_with (go_at_call 53; refine (refdigits_any _ _ hds).mono ?_; rw [HB.out, HP.out]; rintro e w' ⟨rfl, rfl⟩)
    go_ret2
    have hf' := HF.out
    have ho' := HOK.out
    exact ⟨two_eq (by unfold readV; rw [hf', ho']; rfl) (by unfold readE; rw [hf', ho']; rfl), rfl⟩

  by_cases he : D.size = 19
  · have hq : ((D.size : Int) == 19) = true := by simp; omega
    have hsame := fits_same _ true HP.out (by rw [← HLEN.out]; exact he)
    simp only [top, if_true, Bool.false_eq_true, if_false] at hsame
    have hg := HT.out
    rw [hsame] at hg
    have HE := Lib.hid he
    clear hsame he
    cases hfit : fits (body s.data.toList) true
    · rw [hfit] at hg
      have hok : okR s.data.toList least most = false := by unfold okR; rw [HN.out, hfit]; rfl
      have HOK := Lib.hid hok
      clear hok hfit
      go_enter Tryd.func36, Tryd.ntmps36
      go_wp2_with (go_at_call 53; refine (refdigits_any _ _ hds).mono ?_; rw [HB.out, HP.out]; rintro e w' ⟨rfl, rfl⟩)
      go_ret2
      have hf' := HF.out
      have ho' := HOK.out
      exact ⟨two_eq (by unfold readV; rw [hf', ho']; rfl) (by unfold readE; rw [hf', ho']; rfl), rfl⟩

    rw [hfit] at hg
    have HFIT := Lib.hid hfit
    clear hfit
    have hmax : dv (body s.data.toList) ≤ 9223372036854775808 := by have := HFIT.out; unfold fits at this; simpa using this
    go_enter Tryd.func36, Tryd.ntmps36
    go_wp2_with (go_at_call 53; refine (refdigits_any _ _ hds).mono ?_; rw [HB.out, HP.out]; rintro e w' ⟨rfl, rfl⟩)
    go_loop [11, 12] (fun n i => ∃ k : Nat, k ≤ D.size ∧ i = .int .i64 k ∧ n = .int .i64 (-(dv ((body s.data.toList).take k) : Int))) (fun _ i => D.size - (RowKit.intOf i).toNat)
    case atStart => exact ⟨0, Nat.zero_le _, rfl, rfl⟩
    case round =>
      obtain ⟨k, hk, rfl, rfl⟩ := hrel
      by_cases hlt : k < D.size
      · have hll : k < (body s.data.toList).length := by rw [← HLEN.out]; exact hlt
        have hd := all_at (body s.data.toList) k hll HA.out
        have hgl : (body s.data.toList)[k] = D[k] := by
          rw [← get_list D k hlt]; exact (List.getElem_of_eq HB.out.symm _)
        rw [hgl] at hd
        obtain ⟨d0, d1⟩ := hd
        have hts := dv_take_succ (body s.data.toList) k hll
        rw [hgl] at hts
        have hmore := dv_take (body s.data.toList) (k + 1)
        have hb1 : (dv ((body s.data.toList).take k) : Int) * 10 + (D[k].toNat - 48) ≤ 9223372036854775808 := by omega
        have HS := Lib.hid hts
        clear hts hmore hgl
        go_wp2
        go_round
        case rel =>
          have hs' := HS.out
          exact ⟨k + 1, by omega, by go_num, by rw [hs']; congr 1; omega⟩
        case measure => simp [RowKit.intOf]; omega
      · have e : (body s.data.toList).take k = body s.data.toList := List.take_of_length_le (by rw [← HLEN.out]; omega)
        rw [e]
        clear e
        have hv : valB (body s.data.toList) (neg s.data.toList) = -(dv (body s.data.toList) : Int) := by rw [HN.out]; simp [valB]
        have hok : okR s.data.toList least most = (decide (least ≤ -(dv (body s.data.toList) : Int)) && decide (-(dv (body s.data.toList) : Int) ≤ most)) := by
          unfold okR; rw [hv, HN.out, HFIT.out]; rfl
        have HV := Lib.hid hv
        clear hv
        by_cases g1 : least ≤ -(dv (body s.data.toList) : Int) <;> by_cases g2 : -(dv (body s.data.toList) : Int) ≤ most
        · have hok' : okR s.data.toList least most = true := by rw [hok]; simp only [g1, g2, decide_true, Bool.and_self]
          have HOK := Lib.hid hok'
          clear hok hok'
          go_wp2
          go_ret2
          have hf' := HF.out
          have ho' := HOK.out
          have hv' := HV.out
          exact ⟨two_eq (by unfold readV; rw [hf', ho', hv']; rfl) (by unfold readE; rw [hf', ho']; rfl), rfl⟩
        all_goals
          have hok' : okR s.data.toList least most = false := by rw [hok]; simp only [g1, g2, decide_true, decide_false, Bool.and_self, Bool.and_false, Bool.false_and]
          have HOK := Lib.hid hok'
          clear hok hok'
          go_wp2
          go_ret2
          have hf' := HF.out
          have ho' := HOK.out
          exact ⟨two_eq (by unfold readV; rw [hf', ho']; rfl) (by unfold readE; rw [hf', ho']; rfl), rfl⟩
  have hfit := fits_short (body s.data.toList) true HP.out (by rw [← HLEN.out]; omega)
  have HFIT := Lib.hid hfit
  have hq : ((D.size : Int) == 19) = false := by simp; omega
  clear hfit he
  have hmax : dv (body s.data.toList) ≤ 9223372036854775808 := by have := HFIT.out; unfold fits at this; simpa using this
  go_enter Tryd.func36, Tryd.ntmps36
  go_wp2_with (go_at_call 53; refine (refdigits_any _ _ hds).mono ?_; rw [HB.out, HP.out]; rintro e w' ⟨rfl, rfl⟩)
  go_loop [11, 12] (fun n i => ∃ k : Nat, k ≤ D.size ∧ i = .int .i64 k ∧ n = .int .i64 (-(dv ((body s.data.toList).take k) : Int))) (fun _ i => D.size - (RowKit.intOf i).toNat)
  case atStart => exact ⟨0, Nat.zero_le _, rfl, rfl⟩
  case round =>
    obtain ⟨k, hk, rfl, rfl⟩ := hrel
    by_cases hlt : k < D.size
    · have hll : k < (body s.data.toList).length := by rw [← HLEN.out]; exact hlt
      have hd := all_at (body s.data.toList) k hll HA.out
      have hgl : (body s.data.toList)[k] = D[k] := by
        rw [← get_list D k hlt]; exact (List.getElem_of_eq HB.out.symm _)
      rw [hgl] at hd
      obtain ⟨d0, d1⟩ := hd
      have hts := dv_take_succ (body s.data.toList) k hll
      rw [hgl] at hts
      have hmore := dv_take (body s.data.toList) (k + 1)
      have hb1 : (dv ((body s.data.toList).take k) : Int) * 10 + (D[k].toNat - 48) ≤ 9223372036854775808 := by omega
      have HS := Lib.hid hts
      clear hts hmore hgl
      go_wp2
      go_round
      case rel =>
        have hs' := HS.out
        exact ⟨k + 1, by omega, by go_num, by rw [hs']; congr 1; omega⟩
      case measure => simp [RowKit.intOf]; omega
    · have e : (body s.data.toList).take k = body s.data.toList := List.take_of_length_le (by rw [← HLEN.out]; omega)
      rw [e]
      clear e
      have hv : valB (body s.data.toList) (neg s.data.toList) = -(dv (body s.data.toList) : Int) := by rw [HN.out]; simp [valB]
      have hok : okR s.data.toList least most = (decide (least ≤ -(dv (body s.data.toList) : Int)) && decide (-(dv (body s.data.toList) : Int) ≤ most)) := by
        unfold okR; rw [hv, HN.out, HFIT.out]; rfl
      have HV := Lib.hid hv
      clear hv
      by_cases g1 : least ≤ -(dv (body s.data.toList) : Int) <;> by_cases g2 : -(dv (body s.data.toList) : Int) ≤ most
      · have hok' : okR s.data.toList least most = true := by rw [hok]; simp only [g1, g2, decide_true, Bool.and_self]
        have HOK := Lib.hid hok'
        clear hok hok'
        go_wp2
        go_ret2
        have hf' := HF.out
        have ho' := HOK.out
        have hv' := HV.out
        exact ⟨two_eq (by unfold readV; rw [hf', ho', hv']; rfl) (by unfold readE; rw [hf', ho']; rfl), rfl⟩
      all_goals
        have hok' : okR s.data.toList least most = false := by rw [hok]; simp only [g1, g2, decide_true, decide_false, Bool.and_self, Bool.and_false, Bool.false_and]
        have HOK := Lib.hid hok'
        clear hok hok'
        go_wp2
        go_ret2
        have hf' := HF.out
        have ho' := HOK.out
        exact ⟨two_eq (by unfold readV; rw [hf', ho']; rfl) (by unfold readE; rw [hf', ho']; rfl), rfl⟩

theorem extract_list (s : ByteArray) : (s.extract 1 s.size).data.toList = s.data.toList.drop 1 := by
  rw [extract_data, List.take_of_length_le]
  rw [List.length_drop, ← size_len]; exact Nat.le_refl _

theorem refread_any (s : ByteArray) (least most : Int) (w : World) (hs : s.size ≤ 9223372036854775807) :
    Calls Tryd.prog 36 #[.string s, .int .i64 least, .int .i64 most] w fun e w' => e = two (readV s.data.toList least most) (readE s.data.toList least most) ∧ w = w' := by
  by_cases h0 : 0 < s.size
  · by_cases h45 : s[0].toNat = 45
    · have hn : neg s.data.toList = true := by
        unfold neg hasPrefix
        have hl := get_list s 0 h0
        cases hh : s.data.toList with
        | nil => rw [size_len s, hh] at h0; exact absurd h0 (by simp)
        | cons c l =>
          simp only [hh, List.getElem_cons_zero] at hl
          have : c = 45 := by rw [hl]; exact UInt8.toNat_inj.1 (by rw [h45]; rfl)
          rw [this]; rfl
      refine refread_N s _ least most w hs h0 (by simp; omega) hn rfl ?_ ?_
      · rw [extract_list]; unfold body trimPrefix
        rw [show hasPrefix s.data.toList [45] = true from hn]; rfl
      · rw [size_len, extract_list, List.length_drop, ← size_len]; omega
    · have hn : neg s.data.toList = false := by
        unfold neg hasPrefix
        have hl := get_list s 0 h0
        cases hh : s.data.toList with
        | nil => rfl
        | cons c l =>
          simp only [hh, List.getElem_cons_zero] at hl
          have : c ≠ 45 := by rw [hl]; intro e; exact h45 (by rw [e]; rfl)
          simp [List.isPrefixOf, Ne.symm this]
      refine refread_P s s least most w hs h0 (by simp; omega) hn rfl ?_ hs
      unfold body trimPrefix
      rw [show hasPrefix s.data.toList [45] = false from hn]; rfl
  · have hz : s.data.toList = [] := List.eq_nil_of_length_eq_zero (by rw [← size_len]; omega)
    have hp : plainB s.data.toList = false := by rw [hz]; rfl
    have hf : form s.data.toList = false := by rw [hz]; rfl
    have HF := Lib.hid hf
    have HP := Lib.hid hp
    clear hf hp hz
    go_enter Tryd.func36, Tryd.ntmps36
    go_wp2_with (go_at_call 53; refine (refdigits_any _ _ hs).mono ?_; rw [HP.out]; rintro e w' ⟨rfl, rfl⟩)
    go_ret2
    have hf' := HF.out
    exact ⟨two_eq (by unfold readV; rw [hf']; rfl) (by unfold readE; rw [hf']; rfl), rfl⟩
end Go.Proofs.YtfoabgjcndgflaaDoor.L1
