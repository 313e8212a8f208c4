import Derived.Test.YtomaaidhmccngaaGreatDoorRows
import Derived.WalkLawsBesides
import Derived.Lib.Strings
import Derived.Test.YtomaaidhmccngaaGreatDoorShelf
import Derived.WalkSpells
import Derived.Lib.ItoaLen
import Derived.Deep.OwnRows
set_option linter.unusedSimpArgs false
set_option linter.unusedVariables false
set_option maxRecDepth 100000
set_option maxHeartbeats 16000000
namespace Go.Proofs.YtomaaidhmccngaaGreatDoor.L1
open Go.RowKit Go.Lib
def al (n : Int) : Bool := decide (-4611686018427387904 <= n) && decide (n <= 4611686018427387904)
theorem qcg (n a b : Int) (w : World) :
 Calls Tryz.prog 210 #[.int .i64 n, .int .i64 a, .int .i64 b] w fun e w' => e = .returned (.bool (decide (a <= n) && decide (n <= b))) /\ w = w' := by
 by_cases a : a <= n <;> by_cases b : n <= b
 all_goals
  go_enter Tryz.func210, Tryz.ntmps210
  go_wp2
  go_ret
  exact ⟨by simp [a, b], rfl⟩
theorem qaV (n a b : Int) (R : Bool) (w : World) (h : R = true ↔ a <= n /\ n <= b) :
 Calls Tryz.prog 210 #[.int .i64 n, .int .i64 a, .int .i64 b] w fun e w' => e = .returned (.bool R) /\ w = w' := by
 have e : R = (decide (a <= n) && decide (n <= b)) := by rw [Bool.eq_iff_iff, h]; simp
 rw [e]; exact qcg n a b w
end Go.Proofs.YtomaaidhmccngaaGreatDoor.L1
namespace Go.Proofs.YtomaaidhmccngaaGreatDoor.L1
open Go.Lib
def dv (l : List UInt8) : Nat := l.foldl (fun n c => n * 10 + (c.toNat - 48)) 0
def neg (l : List UInt8) : Bool := hasPrefix l [45]
def body (l : List UInt8) : List UInt8 := trimPrefix l [45]
def fits (d : List UInt8) (b : Bool) : Bool := if b then decide (dv d <= 9223372036854775808) else decide (dv d <= 9223372036854775807)
def valB (d : List UInt8) (b : Bool) : Int := if b then -(dv d : Int) else dv d
def fitV (d : List UInt8) (b : Bool) : Int := if fits d b then valB d b else 0
def okR (l : List UInt8) (least most : Int) : Bool := fits (body l) (neg l) && (decide (least <= valB (body l) (neg l)) && decide (valB (body l) (neg l) <= most))
end Go.Proofs.YtomaaidhmccngaaGreatDoor.L1
namespace Go.Proofs.YtomaaidhmccngaaGreatDoor.L1
open Go.RowKit Go.Lib
theorem qaF (s : ByteArray) : s.size = s.data.toList.length := by simp
theorem qgw (s : ByteArray) (k : Nat) (h : k < s.size) : s.data.toList[k]'(by rw [<- qaF]; exact h) = s[k] := rfl
theorem full (s : ByteArray) (h : 0 < s.size) : s.toList.isEmpty = false /\ (!s.toList.isEmpty) = true := by
 have e : s.toList.isEmpty = false := by
  rw [toList_data]
  cases e : s.data.toList with
  | nil => have k := qaF s; rw [e] at k; rw [k] at h; exact absurd h (by simp)
  | cons a l => rfl
 rw [e]; exact ⟨rfl, rfl⟩
def strOf (l : List UInt8) : ByteArray := ⟨l.toArray⟩
theorem qdt (l : List UInt8) : (strOf l).data.toList = l := by simp [strOf]
theorem qb6 (l : List UInt8) : (strOf l).size = l.length := by rw [qaF, qdt]
end Go.Proofs.YtomaaidhmccngaaGreatDoor.L1
namespace Go.Proofs.YtomaaidhmccngaaGreatDoor.L1
open Go.RowKit Go.Lib
abbrev Tab (w : World) : Prop := Lib.TabIs Tryz.prog w "internal/strconv.uint64pow10" .u64 Lib.pow10Tab
theorem below_grown (B : Nat) (w : World) (k : Nat) (os : Array Obj) (h : B <= w.heap.size) : Below B w (Go.Sort.grow (w.drewN k) os) := by
 refine ⟨rfl, rfl, rfl, by simp, fun i hi => ?_⟩
 rw [Go.Sort.heap_grow_old (w.drewN k) os (by simp; omega)]
 simp
theorem qaK (l : List UInt8) (t : ByteArray) : strOf l ++ t = strOf (l ++ t.data.toList) := by
 apply ByteArray.ext
 rw [ByteArray.data_append]
 simp [strOf]
end Go.Proofs.YtomaaidhmccngaaGreatDoor.L1
namespace Go.Proofs.YtomaaidhmccngaaGreatDoor.L1
open Go.RowKit Go.Lib
end Go.Proofs.YtomaaidhmccngaaGreatDoor.L1
namespace Go.Proofs.YtomaaidhmccngaaGreatDoor.L1
open Go.RowKit Go.Lib
def step (a : Option Int) (n : Int) : Option Int := a.bind fun s => if al s && al n && al (s + n) then some (s + n) else none
end Go.Proofs.YtomaaidhmccngaaGreatDoor.L1
namespace Go.Proofs.YtomaaidhmccngaaGreatDoor.L1
open Go.RowKit Go.Lib
end Go.Proofs.YtomaaidhmccngaaGreatDoor.L1
namespace Go.Proofs.YtomaaidhmccngaaGreatDoor.L1
open Go.RowKit Go.Lib
end Go.Proofs.YtomaaidhmccngaaGreatDoor.L1
