/-
  Are two lists the same: slices.Equal at timeouts and at transactions, by the library's contract; empty and nil ones walked.
-/
import Derived.Test.YtkjkkbionlmohaaDoorTxsB
set_option linter.unusedSimpArgs false
set_option linter.unusedVariables false
set_option maxRecDepth 10000
namespace Go.Proofs.YtkjkkbionlmohaaDoor
open Go.RowKit Go.Lib
open L3 (Blk Reads)

abbrev FitT : Type := {t : Tmo // t.wf}
instance : Inhabited FitT := ⟨⟨zeroT, zeroT_wf⟩⟩
def fitTL (x : FitT) : List Value := tmL x.1
def fitT : (L : List Tmo) → (∀ t ∈ L, t.wf) → List FitT
  | [], _ => []
  | t :: L, h => ⟨t, h t (List.mem_cons_self ..)⟩ :: fitT L fun x hx => h x (List.mem_cons_of_mem _ hx)
theorem fitT_map : ∀ (L : List Tmo) (h : ∀ t ∈ L, t.wf), (fitT L h).map (·.1) = L
  | [], _ => rfl
  | t :: L, h => by unfold fitT; rw [List.map_cons, fitT_map L]
theorem fitT_len (L : List Tmo) (h : ∀ t ∈ L, t.wf) : (fitT L h).length = L.length := by rw [← List.length_map (f := fun x : FitT => x.1), fitT_map]
theorem fitT_get (L : List Tmo) (h : ∀ t ∈ L, t.wf) (j : Nat) (hj : j < L.length) : ((fitT L h)[j]!).1 = L[j] := by
  have hl : j < (fitT L h).length := by rw [fitT_len]; exact hj
  rw [getElem!_pos _ j hl]
  have := fitT_map L h
  have e : ((fitT L h).map (·.1))[j]'(by rw [List.length_map]; exact hl) = L[j] := by simp only [this]
  rw [← e, List.getElem_map]
theorem allEq_val {β : Type} [DecidableEq β] {α : Type} (f : α → β) (hf : ∀ x y, f x = f y → x = y) : ∀ xs ys : List α, Lib.allEq (fun x y => decide (f x = f y)) xs ys = decide (xs.map f = ys.map f)
  | [], [] => by simp [Lib.allEq]
  | [], y :: ys => by simp [Lib.allEq]
  | x :: xs, [] => by simp [Lib.allEq]
  | x :: xs, y :: ys => by
    rw [Lib.allEq, allEq_val f hf xs ys, List.map_cons, List.map_cons, Bool.eq_iff_iff]
    simp
theorem below_drewN (w : World) (q : Nat) : Below w.heap.size w (w.drewN q) := ⟨rfl, rfl, rfl, Nat.le_refl _, fun _ _ => rfl⟩
theorem Rd.libT {w : World} {b o : Nat} {L : List Tmo} (h : ∀ t ∈ L, t.wf) (hr : Rd tmL 10 w (some ⟨b, o, none⟩) L) : ∀ j, j < (fitT L h).length → ∀ i v, (fitTL (fitT L h)[j]!)[i]? = some v → w.cell? ⟨b, o + j * 10 + i, none⟩ = some v := fun j hj i v hi => by
  rw [fitT_len] at hj
  obtain ⟨ad, hA, hb, hc⟩ := hr j hj
  injection hA with hA
  subst hA
  unfold fitTL at hi
  rw [fitT_get L h j hj] at hi
  have := hc i v hi
  rw [Addr.add_lit, Addr.add_lit] at this
  exact this
theorem neTms : NeqAt Tryd.prog 43 (fun x : FitT => .agg (fitTL x).toArray) (fun x y => decide (x.1 = y.1)) :=
  ⟨fun x y w => neqT x.2 y.2 w, GuardAt.agg _ (by kernel_rfl)⟩
set_option maxHeartbeats 1000000 in
set_option maxRecDepth 100000 in
theorem eqTms_len (A : Option Addr) (n c : Nat) (B : Option Addr) (m d : Nat) (w : World) (h : n ≠ m) (hn : n ≤ 140737488355328) (hm : m ≤ 140737488355328) : Calls Tryd.prog 45 #[.slice A n c, .slice B m d] w (gives (.bool false) w) := by
  have h1 : ((n : Int) != (m : Int)) = true := by simp; omega
  have h2 : ((n : Int) == (m : Int)) = false := by simp; omega
  go_enter Tryd.func45, Tryd.ntmps45
  go_wp2
  go_ret
  exact ⟨rfl, Below.refl _ _⟩
set_option maxHeartbeats 1000000 in
set_option maxRecDepth 100000 in
theorem eqTms_none (A : Option Addr) (c : Nat) (B : Option Addr) (d : Nat) (w : World) : Calls Tryd.prog 45 #[.slice A 0 c, .slice B 0 d] w (gives (.bool true) w) := by
  go_enter Tryd.func45, Tryd.ntmps45
  go_wp2
  go_loopw [13] (fun i wr => i = .int .i64 0 ∧ w = wr) (fun _ _ => 0)
  case atStart => exact ⟨rfl, rfl⟩
  case round =>
    obtain ⟨rfl, rfl⟩ := hrel
    go_wp2
    go_ret
    exact ⟨rfl, Below.refl _ _⟩
theorem eqTms_any (A : Option Addr) (c : Nat) (L : List Tmo) (B : Option Addr) (d : Nat) (M : List Tmo) (w : World) (hl : ∀ t ∈ L, t.wf) (hm : ∀ t ∈ M, t.wf) (hr : Rd tmL 10 w A L) (hs : Rd tmL 10 w B M) (hn : L.length ≤ 100000) (hn2 : M.length ≤ 100000) :
    Calls Tryd.prog 45 #[.slice A L.length c, .slice B M.length d] w (gives (.bool (decide (L = M))) w) := by
  by_cases hlen : L.length = M.length
  · by_cases h0 : L = []
    · have h1 : M = [] := List.eq_nil_of_length_eq_zero (by rw [← hlen, h0]; rfl)
      subst h0 h1
      exact eqTms_none A c B d w
    · have h1 : M ≠ [] := fun e => h0 (List.eq_nil_of_length_eq_zero (by rw [hlen, e]; rfl))
      obtain ⟨b1, o1, rfl, hb1⟩ := hr.plain tmL_0 h0
      obtain ⟨b2, o2, rfl, hb2⟩ := hs.plain tmL_0 h1
      have := AnyQ.slices_Equal Tryd.eqlT 10 Tryd.isAgg43 Tryd.sizeOf43 fitTL (fun _ => rfl) _ neTms b1 o1 L.length c b2 o2 M.length d (fitT L hl) (fitT M hm) w (by rw [fitT_len]; exact Nat.le_refl _) (by rw [fitT_len]; exact Nat.le_refl _) (by omega) (by omega) (Rd.libT hl hr) (Rd.libT hm hs)
      refine Calls.mono (show Calls Tryd.prog 45 #[.slice (some ⟨b1, o1, none⟩) L.length c, .slice (some ⟨b2, o2, none⟩) M.length d] w _ from this) ?_
      rintro e w' ⟨rfl, q, rfl⟩
      refine ⟨?_, below_drewN w q⟩
      have e1 : (fitT L hl).take L.length = fitT L hl := List.take_of_length_le (by rw [fitT_len]; exact Nat.le_refl _)
      have e2 : (fitT M hm).take M.length = fitT M hm := List.take_of_length_le (by rw [fitT_len]; exact Nat.le_refl _)
      rw [e1, e2, allEq_val (fun x : FitT => x.1) (fun x y h => Subtype.ext h), fitT_map, fitT_map]
  · have e : decide (L = M) = false := decide_eq_false (fun e => hlen (by rw [e]))
    rw [e]
    exact eqTms_len A _ c B _ d w hlen (by omega) (by omega)
theorem eqTms_is (A : Option Addr) (c : Nat) (L : List Tmo) (B : Option Addr) (d : Nat) (M : List Tmo) (r : Bool) (w : World) (hl : ∀ t ∈ L, t.wf) (hm : ∀ t ∈ M, t.wf) (hr : Rd tmL 10 w A L) (hs : Rd tmL 10 w B M) (hn : L.length ≤ 100000) (hn2 : M.length ≤ 100000) (hd : decide (L = M) = r) :
    Calls Tryd.prog 45 #[.slice A L.length c, .slice B M.length d] w (gives (.bool r) w) := by have := eqTms_any A c L B d M w hl hm hr hs hn hn2; rw [hd] at this; exact this
theorem neTxs : NeqAt Tryd.prog 53 (fun x : Fit => .agg (fitL x).toArray) (fun x y => decide (x.1 = y.1)) :=
  ⟨fun x y w => neqX x.2 y.2 (by unfold maxLen; omega) w, GuardAt.agg _ (by kernel_rfl)⟩
set_option maxHeartbeats 1000000 in
set_option maxRecDepth 100000 in
theorem eqTxs_len (A : Option Addr) (n c : Nat) (B : Option Addr) (m d : Nat) (w : World) (h : n ≠ m) (hn : n ≤ 140737488355328) (hm : m ≤ 140737488355328) : Calls Tryd.prog 46 #[.slice A n c, .slice B m d] w (gives (.bool false) w) := by
  have h1 : ((n : Int) != (m : Int)) = true := by simp; omega
  have h2 : ((n : Int) == (m : Int)) = false := by simp; omega
  go_enter Tryd.func46, Tryd.ntmps46
  go_wp2
  go_ret
  exact ⟨rfl, Below.refl _ _⟩
set_option maxHeartbeats 1000000 in
set_option maxRecDepth 100000 in
theorem eqTxs_none (A : Option Addr) (c : Nat) (B : Option Addr) (d : Nat) (w : World) : Calls Tryd.prog 46 #[.slice A 0 c, .slice B 0 d] w (gives (.bool true) w) := by
  go_enter Tryd.func46, Tryd.ntmps46
  go_wp2
  go_loopw [13] (fun i wr => i = .int .i64 0 ∧ w = wr) (fun _ _ => 0)
  case atStart => exact ⟨rfl, rfl⟩
  case round =>
    obtain ⟨rfl, rfl⟩ := hrel
    go_wp2
    go_ret
    exact ⟨rfl, Below.refl _ _⟩
theorem eqTxs_any (A : Option Addr) (c : Nat) (L : List Txx) (B : Option Addr) (d : Nat) (M : List Txx) (w : World) (hl : ∀ t ∈ L, t.wf 1000000) (hm : ∀ t ∈ M, t.wf 1000000) (hr : Rd txL 7 w A L) (hs : Rd txL 7 w B M) (hn : L.length ≤ 100000) (hn2 : M.length ≤ 100000) :
    Calls Tryd.prog 46 #[.slice A L.length c, .slice B M.length d] w (gives (.bool (decide (L = M))) w) := by
  by_cases hlen : L.length = M.length
  · by_cases h0 : L = []
    · have h1 : M = [] := List.eq_nil_of_length_eq_zero (by rw [← hlen, h0]; rfl)
      subst h0 h1
      exact eqTxs_none A c B d w
    · have h1 : M ≠ [] := fun e => h0 (List.eq_nil_of_length_eq_zero (by rw [hlen, e]; rfl))
      obtain ⟨b1, o1, rfl, hb1⟩ := hr.plain txL_0 h0
      obtain ⟨b2, o2, rfl, hb2⟩ := hs.plain txL_0 h1
      have := AnyQ.slices_Equal Tryd.eqlX 7 Tryd.isAgg53 Tryd.sizeOf53 fitL (fun _ => rfl) _ neTxs b1 o1 L.length c b2 o2 M.length d (fitX L hl) (fitX M hm) w (by rw [fitX_len]; exact Nat.le_refl _) (by rw [fitX_len]; exact Nat.le_refl _) (by omega) (by omega) (Rd.lib hl hr) (Rd.lib hm hs)
      refine Calls.mono (show Calls Tryd.prog 46 #[.slice (some ⟨b1, o1, none⟩) L.length c, .slice (some ⟨b2, o2, none⟩) M.length d] w _ from this) ?_
      rintro e w' ⟨rfl, q, rfl⟩
      refine ⟨?_, below_drewN w q⟩
      have e1 : (fitX L hl).take L.length = fitX L hl := List.take_of_length_le (by rw [fitX_len]; exact Nat.le_refl _)
      have e2 : (fitX M hm).take M.length = fitX M hm := List.take_of_length_le (by rw [fitX_len]; exact Nat.le_refl _)
      rw [e1, e2, allEq_val (fun x : Fit => x.1) (fun x y h => Subtype.ext h), fitX_map, fitX_map]
  · have e : decide (L = M) = false := decide_eq_false (fun e => hlen (by rw [e]))
    rw [e]
    exact eqTxs_len A _ c B _ d w hlen (by omega) (by omega)
theorem eqTxs_is (A : Option Addr) (c : Nat) (L : List Txx) (B : Option Addr) (d : Nat) (M : List Txx) (r : Bool) (w : World) (hl : ∀ t ∈ L, t.wf 1000000) (hm : ∀ t ∈ M, t.wf 1000000) (hr : Rd txL 7 w A L) (hs : Rd txL 7 w B M) (hn : L.length ≤ 100000) (hn2 : M.length ≤ 100000) (hd : decide (L = M) = r) :
    Calls Tryd.prog 46 #[.slice A L.length c, .slice B M.length d] w (gives (.bool r) w) := by have := eqTxs_any A c L B d M w hl hm hr hs hn hn2; rw [hd] at this; exact this
end Go.Proofs.YtkjkkbionlmohaaDoor
