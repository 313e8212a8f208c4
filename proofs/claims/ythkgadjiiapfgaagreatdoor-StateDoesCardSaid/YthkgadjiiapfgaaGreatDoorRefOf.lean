/-
  The document's accounts: somebody's, the value of somebody's key, all amounts together.
-/
import Derived.Test.YthkgadjiiapfgaaGreatDoorRd
import Derived.Test.YthkgadjiiapfgaaGreatDoorCall
import Derived.IntWalk
set_option linter.unusedSimpArgs false
set_option linter.unusedVariables false
set_option maxRecDepth 10000
namespace Go.Proofs.YthkgadjiiapfgaaGreatDoor
open Go.RowKit Go.Maps Go.Lib
open L3 (Blk Reads block_of_add add_of_add)
open L6 (Turn moreB fresh From In)

theorem ofA_at : ∀ {A : List Acc} {who : List UInt8} {k : Nat} (h : k < A.length), (∀ a ∈ A.take k, a.nm ≠ who) → A[k].nm = who → ofA A who = A[k]
  | a :: A, who, 0, _, _, he => by rw [ofA, if_pos (show a.nm = who from he)]; rfl
  | a :: A, who, k + 1, h, hn, he => by
    rw [ofA, if_neg (hn a (by simp))]
    exact ofA_at (k := k) (by simpa using h) (fun x hx => hn x (by simp [hx])) he
theorem getV_at : ∀ {V : List Vl} {who key : List UInt8} {k : Nat} (h : k < V.length), (∀ v ∈ V.take k, ¬ (v.who = who ∧ v.key = key)) → V[k].who = who ∧ V[k].key = key → getV V who key = V[k].val
  | a :: V, who, key, 0, _, _, he => by rw [getV, if_pos (show a.who = who ∧ a.key = key from he)]; rfl
  | a :: V, who, key, k + 1, h, hn, he => by
    rw [getV, if_neg (hn a (by simp))]
    exact getV_at (k := k) (by simpa using h) (fun x hx => hn x (by simp [hx])) he
theorem getV_none {V : List Vl} {who key : List UInt8} (h : ∀ v ∈ V, ¬ (v.who = who ∧ v.key = key)) : getV V who key = [] := by
  have := getV_app V [] who key h
  rw [List.append_nil] at this
  rw [this]; rfl
theorem take_snoc {α : Type} {L : List α} {k : Nat} (h : k < L.length) {p : α → Prop} (h1 : ∀ x ∈ L.take k, p x) (h2 : p L[k]) : ∀ x ∈ L.take (k + 1), p x := fun x hx => by
  rw [List.take_succ_eq_append_getElem h] at hx
  rcases List.mem_append.1 hx with e | e
  · exact h1 x e
  · rw [List.mem_singleton.1 e]; exact h2
theorem build_acc1 (l : List UInt8) (w : World) : (Instr.build 64 #[(0, .string (str l))]).run Tryz.prog w = .ok (.agg (accC ⟨l, 0, 0⟩)) w := run_build w _ _ _ (by kernel_rfl)
def zeroAc : Array Value := #[.string ⟨#[]⟩, .int .i64 0, .int .i64 0]
set_option maxHeartbeats 2000000 in
set_option maxRecDepth 100000 in
theorem refof_any (A V : Option Addr) (ca cv v : Nat) (L : List Acc) (who : List UInt8) (w : World) (h : Rd accL 3 w A L) (hl : L.length ≤ 1000000) :
    Calls Tryz.prog 25 #[.agg (mC A V L.length v ca cv), .string (str who)] w (gives (.agg (accC (ofA L who))) w) := by
  go_enter Tryz.func25, Tryz.ntmps25
  go_upto_region 1 with (fail)
  obtain ⟨W, hW⟩ : ∃ W, W = (w.alloc (.cells (mC A V L.length v ca cv) 34)).alloc (.cells zeroAc 64) := ⟨_, rfl⟩
  have ks : Blk W w.heap.size 34 (mC A V L.length v ca cv) := by rw [hW]; exact (Blk.new _ _ _).alloc _
  have kr : Blk W (w.heap.size + 1) 64 zeroAc := by rw [hW]; have := Blk.new (w.alloc (.cells (mC A V L.length v ca cv) 34)) 64 zeroAc; simpa using this
  have hbW : Below w.heap.size w W := by rw [hW]; exact ((Below.refl _ _).alloc (Nat.le_refl _) _).alloc (by simp) _
  have hWe : (w.alloc (.cells (mC A V L.length v ca cv) 34)).alloc (.cells #[.string ⟨#[]⟩, .int .i64 0, .int .i64 0] 64) = W := hW.symm
  rw [hWe]
  clear hW hWe
  have hr := h.below hbW
  go_wp2
  go_loopw [5] (fun i wr => ∃ k : Nat, i = .int .i64 k ∧ k ≤ L.length ∧ Hid (∀ a ∈ L.take k, a.nm ≠ who) ∧ Below W.heap.size W wr) (fun i _ => L.length - (intOf i).toNat)
  case atStart => exact ⟨0, rfl, Nat.zero_le _, Lib.hid (by simp), Below.refl _ _⟩
  case round =>
    obtain ⟨k, rfl, hk, hno, hbr⟩ := hrel
    have ks2 := ks.below hbr ks.lt
    have kr2 := kr.below hbr kr.lt
    have c0 : wr.cell? ⟨w.heap.size, 0, none⟩ = some (.slice A L.length ca) := ks2.cell 0
    have hbw := nxt hbW hbr
    by_cases hlt : k < L.length
    · obtain ⟨ad, rfl, hadl, hcs⟩ := (hr.below hbr) k hlt
      obtain ⟨a, ha⟩ : ∃ a, a = L[k] := ⟨_, rfl⟩
      rw [← ha] at hcs
      have q0 : wr.cell? (ad.add (k * 3)) = some (.string (str a.nm)) := by have := hcs 0 _ rfl; rwa [add_of_add] at this
      by_cases he : a.nm = who
      · have e1 := str_eq he
        have HR : Hid (ofA L who = a) := Lib.hid (by rw [ha]; exact ofA_at hlt hno.out (by rw [← ha]; exact he))
        clear he ha
        go_wp2_with (first
          | (refine wpList_cells_at rfl _ _ rfl (ad.add (k * 3)) rfl (accL a) _ hcs Tryz.underlying64 rfl accInfo ?_)
          | (refine wpList_store_row rfl _ _ _ rfl (w.heap.size + 1) (accC a) rfl rfl _ _ kr2 accInfo rfl (accC_ones _) ?_)
          | go_in)
        (try simp only [Exit.inBlock, Exit.then])
        refine bodyPost_ret (results_row rfl _ _ (w.heap.size + 1) rfl _ (accC a) _ _ (blk_setRow kr2) Tryz.underlying64 rfl accInfo) rfl ?_
        exact ⟨by rw [HR.out], below_setRow hbw (by omega)⟩
      · have e1 := str_ne he
        have HN := Lib.hid (take_snoc hlt hno.out (by rw [← ha]; exact he))
        clear he ha
        go_wp2
        go_roundw
        case rel => exact ⟨k + 1, by go_num, by omega, HN, hbr⟩
        case measure => simp [intOf]; omega
    · obtain rfl : k = L.length := by omega
      have HR : Hid (ofA L who = ⟨who, 0, 0⟩) := Lib.hid (ofA_none (by have := hno.out; rwa [List.take_length] at this))
      go_wp2_with (first
        | (refine wpList_build rfl _ _ rfl #[(0, .string (str who))] rfl (build_acc1 who _) ?_)
        | (refine wpList_store_row rfl _ _ _ rfl (w.heap.size + 1) (accC ⟨who, 0, 0⟩) rfl rfl _ _ kr2 accInfo rfl (accC_ones _) ?_)
        | go_in)
      (try simp only [Exit.inBlock, Exit.then])
      refine bodyPost_ret (results_row rfl _ _ (w.heap.size + 1) rfl _ (accC ⟨who, 0, 0⟩) _ _ (blk_setRow kr2) Tryz.underlying64 rfl accInfo) rfl ?_
      exact ⟨by rw [HR.out], below_setRow hbw (by omega)⟩
end Go.Proofs.YthkgadjiiapfgaaGreatDoor
