import Derived.Test.YtomaaidhmccngaaGreatDoorVal
set_option linter.unusedSimpArgs false
set_option linter.unusedVariables false
set_option maxRecDepth 100000
set_option maxHeartbeats 16000000
namespace Go.Proofs.YtomaaidhmccngaaGreatDoor
open Go.RowKit Go.Lib
def Tabs (w : World) : Prop := L2.Tab w
theorem Tabs.kept {w w' : World} (h : Tabs w) (hb : Below w.heap.size w w') : Tabs w' := L2.Tab.kept h hb
theorem nxt {w w1 w2 : World} (h1 : Below w.heap.size w w1) (h2 : Below w1.heap.size w1 w2) : Below w.heap.size w w2 := h1.trans (h2.mono h1.size)
theorem nxtB {B : Nat} {w w1 w2 : World} (h1 : Below B w w1) (h2 : Below w1.heap.size w1 w2) (hB : B <= w1.heap.size) : Below B w w2 := h1.trans (h2.mono hB)
def gives (v : Value) (w : World) (e : Ending) (w' : World) : Prop := e = .returned v /\ Below w.heap.size w w'
def errI (b : Bool) (k : Int) : Int := if b = true then 0 else k
theorem c_name (l : List UInt8) (w : World) (h : l.length <= 9223372036854775807) : Calls Tryz.prog 197 #[.string (str l)] w (gives (.int .i64 (errI (L2.chk l) 20)) w) :=
 (L2.qaD (str l) w (by rw [qa4]; exact h)).mono fun _ _ h => h
theorem qlh (l : List UInt8) (w : World) (h : l.length <= 1000000) (hT : Tabs w) : Calls Tryz.prog 211 #[.string (str l)] w (gives (.int .i64 (errI (L2.vlu l) 20)) w) :=
 (L2.qna (str l) w (by rw [qa4]; exact h) hT).mono fun _ _ h => h
theorem qlg (l : List UInt8) (w : World) (h : l.length <= 1000000) : Calls Tryz.prog 148 #[.string (str l)] w (gives (.bool (L2.chk l)) w) :=
 (L2.qa2 (str l) w (by rw [qa4]; exact h)).mono fun _ _ h => h
theorem qjT (l : List UInt8) (w : World) (h : l.length <= 1000000) : Calls Tryz.prog 149 #[.string (str l)] w (gives (.bool (L2.vlu l)) w) :=
 (L2.qhJ (str l) w (by rw [qa4]; exact h)).mono fun _ _ h => h
theorem qeV (l : List UInt8) (w : World) (h : l.length <= 1000000) (hc : L2.chk l = true) : Calls Tryz.prog 197 #[.string (str l)] w (gives (.int .i64 0) w) := by have := c_name l w (by omega); rw [hc] at this; exact this
theorem qeU (l : List UInt8) (w : World) (h : l.length <= 1000000) (hc : L2.chk l = false) : Calls Tryz.prog 197 #[.string (str l)] w (gives (.int .i64 20) w) := by have := c_name l w (by omega); rw [hc] at this; exact this
theorem qjV (l : List UInt8) (w : World) (h : l.length <= 1000000) (hT : Tabs w) (hc : L2.vlu l = true) : Calls Tryz.prog 211 #[.string (str l)] w (gives (.int .i64 0) w) := by have := qlh l w h hT; rw [hc] at this; exact this
theorem qjU (l : List UInt8) (w : World) (h : l.length <= 1000000) (hT : Tabs w) (hc : L2.vlu l = false) : Calls Tryz.prog 211 #[.string (str l)] w (gives (.int .i64 20) w) := by have := qlh l w h hT; rw [hc] at this; exact this
theorem qba (l : List UInt8) (w : World) (b : Bool) (h : l.length <= 1000000) (hc : L2.chk l = b) : Calls Tryz.prog 148 #[.string (str l)] w (gives (.bool b) w) := by have := qlg l w h; rw [hc] at this; exact this
theorem qgn (l : List UInt8) (w : World) (b : Bool) (h : l.length <= 1000000) (hc : L2.vlu l = b) : Calls Tryz.prog 149 #[.string (str l)] w (gives (.bool b) w) := by have := qjT l w h; rw [hc] at this; exact this
theorem qmf (n : Int) : (decide (1 <= n) && decide (n <= 4611686018427387904)) = posN n := by
 unfold posN; rw [Bool.eq_iff_iff]; simp
theorem qlf (n : Int) (w : World) : Calls Tryz.prog 198 #[.int .i64 n] w fun e w' => e = .returned (.bool (posN n)) /\ w = w' := by
 have h1 := L1.qcg n 1 4611686018427387904
 rw [qmf] at h1
 obtain ⟨b, hb⟩ := nm (posN n)
 rw [<- hb] at h1 ⊢
 clear hb
 go_enter Tryz.func198, Tryz.ntmps198
 go_wp2_with (go_at_call 210; refine (h1 _).mono ?_; rintro e w1 ⟨rfl, rfl⟩)
 go_ret
 exact ⟨rfl, rfl⟩
theorem qe5 (n : Int) (w : World) (b : Bool) (h : posN n = b) : Calls Tryz.prog 198 #[.int .i64 n] w fun e w' => e = .returned (.bool b) /\ w = w' := by have := qlf n w; rw [h] at this; exact this
theorem qgf (l : List UInt8) : (str l).toList = l := by rw [toList_data, qeb]
