/-
  The document's: the value of somebody's key; all amounts together.
-/
import Derived.Test.YthkgadjiiapfgaaGreatDoorRefOf
set_option linter.unusedSimpArgs false
set_option linter.unusedVariables false
set_option maxRecDepth 10000
namespace Go.Proofs.YthkgadjiiapfgaaGreatDoor
open Go.RowKit Go.Maps Go.Lib
open L3 (Blk Reads block_of_add add_of_add)
open L6 (Turn moreB fresh From In)

theorem add_off (a : Addr) (i f : Nat) (hf : 0 < f) : a.add (i + f) = ⟨(a.add i).block, (a.add i).off + f, none⟩ := by
  unfold Addr.add
  rw [if_neg (by omega)]
  split
  · rename_i h; subst h; simp
  · simp; omega
set_option maxHeartbeats 2000000 in
set_option maxRecDepth 100000 in
theorem refget_any (A V : Option Addr) (a ca cv : Nat) (L : List Vl) (who key : List UInt8) (w : World) (h : Rd vlL 3 w V L) (hl : L.length ≤ 1000000) :
    Calls Tryz.prog 34 #[.agg (mC A V a L.length ca cv), .string (str who), .string (str key)] w (gives (.string (str (getV L who key))) w) := by
  have hbW : Below w.heap.size w (w.alloc (.cells (mC A V a L.length ca cv) 34)) := (Below.refl _ _).alloc (Nat.le_refl _) _
  have ks : Blk (w.alloc (.cells (mC A V a L.length ca cv) 34)) w.heap.size 34 (mC A V a L.length ca cv) := Blk.new _ _ _
  have hr := h.below hbW
  go_enter Tryz.func34, Tryz.ntmps34
  go_wp2
  obtain ⟨W, hW⟩ : ∃ W, W = w.alloc (.cells (mC A V a L.length ca cv) 34) := ⟨_, rfl⟩
  rw [← hW] at hbW ks hr
  rw [← hW]
  clear hW
  go_loopw [7] (fun i wr => ∃ k : Nat, i = .int .i64 k ∧ k ≤ L.length ∧ Hid (∀ v ∈ L.take k, ¬ (v.who = who ∧ v.key = key)) ∧ Below W.heap.size W wr) (fun i _ => L.length - (intOf i).toNat)
  case atStart => exact ⟨0, rfl, Nat.zero_le _, Lib.hid (by simp), Below.refl _ _⟩
  case round =>
    obtain ⟨k, rfl, hk, hno, hbr⟩ := hrel
    have ks2 := ks.below hbr ks.lt
    have c1 : wr.cell? ⟨w.heap.size, 1, none⟩ = some (.slice V L.length cv) := ks2.cell 1
    have hbw := nxt hbW hbr
    by_cases hlt : k < L.length
    · obtain ⟨ad, rfl, hadl, hcs⟩ := (hr.below hbr) k hlt
      obtain ⟨v, hv⟩ : ∃ v, v = L[k] := ⟨_, rfl⟩
      rw [← hv] at hcs
      have q0 : wr.cell? (ad.add (k * 3)) = some (.string (str v.who)) := by have := hcs 0 _ rfl; rwa [add_of_add] at this
      have q1 : wr.cell? ⟨(ad.add (k * 3)).block, (ad.add (k * 3)).off + 1, none⟩ = some (.string (str v.key)) := by have := hcs 1 _ rfl; rwa [add_of_add, add_off _ _ _ (by decide)] at this
      have q2 : wr.cell? ⟨(ad.add (k * 3)).block, (ad.add (k * 3)).off + 2, none⟩ = some (.string (str v.val)) := by have := hcs 2 _ rfl; rwa [add_of_add, add_off _ _ _ (by decide)] at this
      by_cases e1 : v.who = who
      · by_cases e2 : v.key = key
        · have s1 := str_eq e1
          have s2 := str_eq e2
          have HR : Hid (getV L who key = v.val) := Lib.hid (by rw [hv]; exact getV_at hlt hno.out (by rw [← hv]; exact ⟨e1, e2⟩))
          clear e1 e2 hv hcs
          go_wp2
          go_ret
          exact ⟨by rw [HR.out]; rfl, hbw⟩
        · have s1 := str_eq e1
          have s2 := str_ne e2
          have HN := Lib.hid (take_snoc hlt hno.out (by rw [← hv]; exact fun e => e2 e.2))
          clear e1 e2 hv hcs
          go_wp2
          go_roundw
          case rel => exact ⟨k + 1, by go_num, by omega, HN, hbr⟩
          case measure => simp [intOf]; omega
      · have s1 := str_ne e1
        have HN := Lib.hid (take_snoc hlt hno.out (by rw [← hv]; exact fun e => e1 e.1))
        clear e1 hv hcs
        go_wp2
        go_roundw
        case rel => exact ⟨k + 1, by go_num, by omega, HN, hbr⟩
        case measure => simp [intOf]; omega
    · obtain rfl : k = L.length := by omega
      have HR : Hid (getV L who key = []) := Lib.hid (getV_none (by have := hno.out; rwa [List.take_length] at this))
      go_wp2
      go_ret
      exact ⟨by rw [HR.out]; rfl, hbw⟩
theorem tot_take {A : List Acc} (h : Full A) (k : Nat) : 0 ≤ totA (A.take k) ∧ totA (A.take k) ≤ totA A := by
  have h1 : Full (A.take k) := fun x hx => h x (List.mem_of_mem_take hx)
  have h2 : Full (A.drop k) := fun x hx => h x (List.mem_of_mem_drop hx)
  have e : totA A = totA (A.take k) + totA (A.drop k) := by rw [← totA_app, List.take_append_drop]
  have := h1.tot
  have := h2.tot
  omega
set_option maxHeartbeats 2000000 in
set_option maxRecDepth 100000 in
theorem reftotal_any (A V : Option Addr) (v ca cv : Nat) (L : List Acc) (w : World) (h : Rd accL 3 w A L) (hl : L.length ≤ 1000000) (hf : Full L) (hlow : totA L ≤ 4611686018427387904) :
    Calls Tryz.prog 31 #[.agg (mC A V L.length v ca cv)] w (gives (.int .i64 (totA L)) w) := by
  have hbW : Below w.heap.size w (w.alloc (.cells (mC A V L.length v ca cv) 34)) := (Below.refl _ _).alloc (Nat.le_refl _) _
  have ks : Blk (w.alloc (.cells (mC A V L.length v ca cv) 34)) w.heap.size 34 (mC A V L.length v ca cv) := Blk.new _ _ _
  have hr := h.below hbW
  go_enter Tryz.func31, Tryz.ntmps31
  go_wp2
  obtain ⟨W, hW⟩ : ∃ W, W = w.alloc (.cells (mC A V L.length v ca cv) 34) := ⟨_, rfl⟩
  rw [← hW] at hbW ks hr
  rw [← hW]
  clear hW
  go_loopw [3, 4] (fun n i wr => ∃ k : Nat, n = .int .i64 (totA (L.take k)) ∧ i = .int .i64 k ∧ k ≤ L.length ∧ Below W.heap.size W wr) (fun _ i _ => L.length - (intOf i).toNat)
  case atStart => exact ⟨0, by simp [totA], rfl, Nat.zero_le _, Below.refl _ _⟩
  case round =>
    obtain ⟨k, rfl, rfl, hk, hbr⟩ := hrel
    have ks2 := ks.below hbr ks.lt
    have c0 : wr.cell? ⟨w.heap.size, 0, none⟩ = some (.slice A L.length ca) := ks2.cell 0
    have hbw := nxt hbW hbr
    by_cases hlt : k < L.length
    · obtain ⟨ad, rfl, hadl, hcs⟩ := (hr.below hbr) k hlt
      obtain ⟨a, ha⟩ : ∃ a, a = L[k] := ⟨_, rfl⟩
      rw [← ha] at hcs
      have q1 : wr.cell? ⟨(ad.add (k * 3)).block, (ad.add (k * 3)).off + 1, none⟩ = some (.int .i64 a.am) := by have := hcs 1 _ rfl; rwa [add_of_add, add_off _ _ _ (by decide)] at this
      have hs : totA (L.take (k + 1)) = totA (L.take k) + a.am := by rw [List.take_succ_eq_append_getElem hlt, totA_app, ← ha, totA_cons]; simp [totA]
      have hb1 := tot_take hf (k + 1)
      rw [hs] at hb1
      obtain ⟨m, hm⟩ : ∃ m, m = totA (L.take k) := ⟨_, rfl⟩
      rw [← hm] at hs hb1 ⊢
      have hw : wrap64 (m + a.am) = m + a.am := IntWalk.wrap64_in _ ⟨by omega, by omega⟩
      have HS := Lib.hid hs
      clear hs hm ha hcs hb1
      go_wp2
      go_roundw
      case rel => exact ⟨k + 1, by rw [HS.out, hw], by go_num, by omega, hbr⟩
      case measure => simp [intOf]; omega
    · obtain rfl : k = L.length := by omega
      have HR : Hid (totA (L.take L.length) = totA L) := Lib.hid (by rw [List.take_length])
      rw [HR.out]
      go_wp2
      go_ret
      exact ⟨rfl, hbw⟩
end Go.Proofs.YthkgadjiiapfgaaGreatDoor
