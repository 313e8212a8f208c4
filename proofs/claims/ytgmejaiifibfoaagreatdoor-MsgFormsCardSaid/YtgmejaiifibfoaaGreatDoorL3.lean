/-
  Texts of one layer in one: L3Words, L3WireMath, L3Put, L3Clone, L3Number, L3Nums, L3Reader, L3RefWire.
-/
import Derived.Test.YtgmejaiifibfoaaGreatDoorRows
import Derived.ProofKit
import Derived.Below
import Derived.Laws.OwnMore
import Derived.Laws.Rows
import Derived.Deep.AppendLies
import Derived.Deep.Draws
import Derived.Maps.AppendAt
import Derived.RegionTactic
import Derived.OwnWalk
import Derived.Lib.UnsafeStr
import Derived.Lib.BufSteps
import Derived.LoopTactic
import Derived.Lib.Hide
import Derived.WalkSpells
import Derived.Lib.LazyBuf
import Derived.Deep.QuietTactic
import Derived.BigQuiet
import Derived.Deep.RegionWith
import Derived.Lib.ConvBytes

/-
  Words for memory: a slice that reads as a list; a block that is known whole; append onto a row of the call's own. No condition.
-/
set_option linter.unusedSimpArgs false
set_option linter.unusedVariables false
namespace Go.Proofs.YtgmejaiifibfoaaGreatDoor.L3
open Go.RowKit

theorem block_of_add (a : Addr) (n : Nat) : (a.add n).block = a.block := by unfold Addr.add; split <;> rfl
theorem add_of_add (a : Addr) (i j : Nat) : (a.add i).add j = a.add (i + j) := by
  unfold Addr.add
  by_cases hi : i = 0 <;> by_cases hj : j = 0 <;> simp [hi, hj, Nat.add_assoc]

def Reads (w : World) (B size : Nat) (A : Option Addr) (n : Nat) (xs : List Value) : Prop :=
  xs.length = n * size ∧ (0 < n → ∃ ad, A = some ad ∧ ad.block < B ∧ ∀ j u, xs[j]? = some u → w.cell? (ad.add j) = some u)

section
variable {w w' : World} {B B' size n : Nat} {A : Option Addr} {xs : List Value}
theorem Reads.none_ : Reads w B size A 0 [] := ⟨by simp, fun h => absurd h (by omega)⟩
theorem Reads.at_ {k : Nat} (h : Reads w B 1 A n xs) (hk : k < n) : ∃ ad u, A = some ad ∧ ad.block < B ∧ xs[k]? = some u ∧ w.cell? (ad.add k) = some u := by
  obtain ⟨ad, e, hb, hc⟩ := h.2 (by omega)
  have hl : k < xs.length := by have := h.1; omega
  exact ⟨ad, xs[k], e, hb, List.getElem?_eq_getElem hl, hc k _ (List.getElem?_eq_getElem hl)⟩
theorem Reads.keep (h : Reads w B size A n xs) (hk : ∀ p : Addr, p.block < B → w'.cell? p = w.cell? p) : Reads w' B size A n xs :=
  ⟨h.1, fun hn => by
    obtain ⟨ad, e, hb, hc⟩ := h.2 hn
    exact ⟨ad, e, hb, fun j u hu => (hk _ (by rw [block_of_add]; exact hb)).trans (hc j u hu)⟩⟩
theorem Reads.more (h : Reads w B size A n xs) (hB : B ≤ B') : Reads w B' size A n xs :=
  ⟨h.1, fun hn => by
    obtain ⟨ad, e, hb, hc⟩ := h.2 hn
    exact ⟨ad, e, by omega, hc⟩⟩
theorem Reads.below (h : Reads w B size A n xs) (hb : Below B w w') : Reads w' B size A n xs := h.keep fun _ hp => hb.cell hp
theorem Reads.drew (h : Reads w B size A n xs) : Reads w.drew B size A n xs := h
theorem Reads.drewN (h : Reads w B size A n xs) (k : Nat) : Reads (w.drewN k) B size A n xs := h
theorem Reads.alloc (h : Reads w B size A n xs) (hB : B ≤ w.heap.size) (o : Obj) : Reads (w.alloc o) B size A n xs := h.keep fun p hp => World.cell?_alloc_lt w o p (by omega)
theorem Reads.setCell (h : Reads w B size A n xs) {p : Addr} (hB : B ≤ p.block) (u : Value) : Reads (w.setCell p u) B size A n xs :=
  h.keep fun q hq => World.cell?_setCell_other w p q u (fun e => by subst e; omega)
theorem Reads.grown (h : Reads w B size A n xs) {row : Option Nat} (hg : w.grownBy w' row) (hB : B ≤ w.heap.size) (hr : ∀ g, row = some g → B ≤ g) : Reads w' B size A n xs :=
  h.keep fun p hp => World.cell?_of_block (hg.block p.block (by omega) (fun e => by have := hr _ e.symm; omega))
theorem Reads.cut (h : Reads w B size A n xs) {k cap : Nat} (hk : k ≤ n) (hc : n ≤ cap) :
    Reads w B size (if cap = k then A else A.map (·.add (k * size))) (n - k) (xs.drop (k * size)) := by
  refine ⟨by rw [List.length_drop, h.1, Nat.sub_mul], fun hn => ?_⟩
  obtain ⟨ad, rfl, hb, hcell⟩ := h.2 (by omega)
  rw [if_neg (by omega)]
  refine ⟨ad.add (k * size), rfl, by rw [block_of_add]; exact hb, fun j u hu => ?_⟩
  rw [add_of_add]
  exact hcell _ u (by rw [← hu, List.getElem?_drop])
theorem Reads.of_own {base : Nat} {e : TypeId} {c : Nat} (h : w.ownsRow base e size (.slice A n c) n xs) : Reads w w.heap.size size A n xs := by
  refine ⟨h.1, fun hn => ?_⟩
  obtain ⟨g, cap, hv, _, hlt⟩ := h.form hn
  have hA : A = some ⟨g, 0, none⟩ := by injection hv
  subst hA
  exact ⟨_, rfl, hlt, h.cells (g := g) rfl⟩
end

def Blk (w : World) (g : Nat) (t : TypeId) (cs : Array Value) : Prop := w.heap[g]? = some (.cells cs t (0, 0))

section
variable {w w' : World} {g : Nat} {t : TypeId} {cs : Array Value}
theorem Blk.lt (h : Blk w g t cs) : g < w.heap.size := by
  rcases Nat.lt_or_ge g w.heap.size with hlt | hge
  · exact hlt
  · unfold Blk at h; rw [Array.getElem?_eq_none hge] at h; cases h
theorem Blk.cell (h : Blk w g t cs) (i : Nat) : w.cell? ⟨g, i, none⟩ = cs[i]? := cell_of_row w g i cs t (0, 0) h
theorem Blk.frozen (h : Blk w g t cs) (i : Nat) : w.frozen? ⟨g, i, none⟩ = false := by
  unfold Blk at h
  simp [World.frozen?, h]
theorem Blk.new (w : World) (t : TypeId) (cs : Array Value) : Blk (w.alloc (.cells cs t)) w.heap.size t cs := heap_alloc_new w _
theorem Blk.drew (h : Blk w g t cs) : Blk w.drew g t cs := h
theorem Blk.drewN (h : Blk w g t cs) (n : Nat) : Blk (w.drewN n) g t cs := h
theorem Blk.alloc (h : Blk w g t cs) (o : Obj) : Blk (w.alloc o) g t cs := (Below.heap_alloc w o g h.lt).trans h
theorem Blk.set_ (h : Blk w g t cs) (i : Nat) (u : Value) : Blk (w.setCell ⟨g, i, none⟩ u) g t (cs.setIfInBounds i u) := by
  unfold Blk at h ⊢
  simp [World.setCell, Array.getElem?_modify, h]
theorem Blk.far (h : Blk w g t cs) {p : Addr} (hp : g ≠ p.block) (u : Value) : Blk (w.setCell p u) g t cs := (Below.heap_setCell w p u g hp).trans h
theorem Blk.below {B : Nat} (h : Blk w g t cs) (hb : Below B w w') (hg : g < B) : Blk w' g t cs := (hb.block g hg).trans h
theorem Blk.grown {row : Option Nat} (h : Blk w g t cs) (hb : w.grownBy w' row) (hg : some g ≠ row) : Blk w' g t cs := (hb.block g h.lt hg).trans h
theorem Blk.ne_ {g' : Nat} {t' : TypeId} {cs' : Array Value} (h : Blk w g t cs) (h' : Blk w g' t' cs') (hne : t ≠ t') : g ≠ g' := by
  rintro rfl
  unfold Blk at h h'
  rw [h] at h'
  injection h' with h'
  injection h' with _ ht
  exact hne ht
theorem own_blk_ne {base : Nat} {e : TypeId} {size n : Nat} {v : Value} {xs : List Value} (h : w.ownsRow base e size v n xs) (hg : Blk w g t cs) (hne : e ≠ t) : v.ownBlock ≠ some g := by
  rcases h.2 with ⟨rfl, _⟩ | ⟨g', cap, cur, rfl, _, hh, _⟩
  · simp [Value.ownBlock]
  · intro he
    have : g' = g := by simpa [Value.ownBlock] using he
    subst this
    exact Blk.ne_ (t := e) hh hg hne rfl
end

section
variable {P : Program} (w : World)

theorem run_append_of_nil (base : Nat) (t ty e : TypeId) (i : TypeInfo) (size : Nat) (ht : P.underlying t = some (.slice e)) (hi : P.info? e = some i)
    (v : Value) (n : Nat) (xs : List Value) (hown : w.ownsRow base e size v n xs) (c : Nat) : (Builtin.append_ #[t, t] ty #[v, .slice none 0 c]).run P w = .ok v w := by
  rcases hown.2 with ⟨rfl, rfl⟩ | ⟨g, cap, cur, rfl, _, _, hnc, _⟩
  · simp [Builtin.append_, run_underlying ht, sizeOf, typeInfo, hi, Builtin.lenOf, Builtin.firstCells]
  · simp [Builtin.append_, run_underlying ht, sizeOf, typeInfo, hi, Builtin.lenOf, Builtin.firstCells, hnc, storeCells]

theorem run_append_any (base : Nat) (t ty e : TypeId) (i : TypeInfo) (z : Value) (size bytes : Nat) (ht : P.underlying t = some (.slice e)) (hi : P.info? e = some i) (hz : i.zero = some z)
    (hsize : i.size = size) (hby : i.bytes = bytes) (hzs : z.cells.size = size) (hsz : 0 < size)
    (v : Value) (n : Nat) (xs : List Value) (hown : w.ownsRow base e size v n xs)
    (B : Nat) (A : Option Addr) (m c : Nat) (news : List Value) (hr : Reads w B size A m news) (h1 : ∀ u ∈ news, u.oneCell' = true)
    (h63 : n + m ≤ maxLen) (hbytes : (n + m) * bytes ≤ 140737488355328) (hbase : base ≤ w.heap.size) :
    ∃ v' w', (Builtin.append_ #[t, t] ty #[v, .slice A m c]).run P w = .ok v' w' ∧ w'.ownsRow base e size v' (n + m) (xs ++ news) ∧ w.grownBy w' v.ownBlock ∧
      (v'.ownBlock = v.ownBlock ∨ v'.ownBlock = some w.heap.size) := by
  rcases A with _ | ad
  · have hm : m = 0 := by
      rcases Nat.eq_zero_or_pos m with h0 | h0
      · exact h0
      · obtain ⟨ad, h, _⟩ := hr.2 h0
        cases h
    subst hm
    have hn : news = [] := List.eq_nil_of_length_eq_zero (by simpa using hr.1)
    subst hn
    exact ⟨v, w, run_append_of_nil w base t ty e i size ht hi v n xs hown c, by simpa using hown, World.grownBy.refl w _, .inl rfl⟩
  · have hcells : ∀ j u, news[j]? = some u → w.cell? (ad.add j) = some u := by
      intro j u hu
      rcases Nat.eq_zero_or_pos m with h0 | h0
      · subst h0
        have hn : news = [] := List.eq_nil_of_length_eq_zero (by simpa using hr.1)
        subst hn
        simp at hu
      · obtain ⟨ad', h, _, hc⟩ := hr.2 h0
        injection h with h
        subst h
        exact hc j u hu
    obtain ⟨v', w', hrun, h2, h3, _, h5⟩ := run_append_own_at (P := P) w base t ty e i z size bytes ht hi hz hsize hby hzs hsz v n xs hown ad m c news hr.1 hcells h1 h63 hbytes hbase
    exact ⟨v', w', hrun, h2, h3, h5⟩

theorem wp_append_any {o : Oper} {a : Act} {K : Act → World → Prop} {Q : Exit → Act → World → Prop} (s x : Operand) (t : TypeId)
    (ho : o.op = .call { callee := .builtin .append, args := #[s, x], argTypes := #[t, t] })
    (base : Nat) (e : TypeId) (i : TypeInfo) (z : Value) (size bytes : Nat) (ht : P.underlying t = some (.slice e)) (hi : P.info? e = some i) (hz : i.zero = some z)
    (hsize : i.size = size) (hby : i.bytes = bytes) (hzs : z.cells.size = size) (hsz : 0 < size)
    (v : Value) (n : Nat) (xs : List Value) (hs : a.eval s = v) (hown : w.ownsRow base e size v n xs)
    (B : Nat) (A : Option Addr) (m c : Nat) (news : List Value) (hx : a.eval x = .slice A m c) (hr : Reads w B size A m news) (h1 : ∀ u ∈ news, u.oneCell' = true)
    (h63 : n + m ≤ maxLen) (hbytes : (n + m) * bytes ≤ 140737488355328) (hbase : base ≤ w.heap.size)
    (h : ∀ v' w', w'.ownsRow base e size v' (n + m) (xs ++ news) → w.grownBy w' v.ownBlock → (v'.ownBlock = v.ownBlock ∨ v'.ownBlock = some w.heap.size) → K (a.put o.dst v') w') : o.wp P a w K Q := by
  obtain ⟨v', w', hrun, h2, h3, h4⟩ := run_append_any (P := P) w base t o.type e i z size bytes ht hi hz hsize hby hzs hsz v n xs hown B A m c news hr h1 h63 hbytes hbase
  unfold Oper.wp execOp
  simp only [ho, resolve, invoke, builtin, Sem.run_bind, Sem.run_pure, Result.andThen_ok, List.map_toArray, List.map_cons, List.map_nil, hs, hx, hrun]
  exact h v' w' h2 h3 h4

theorem wpList_append_any {ops : Array Oper} {rest : List Oper} {o : Oper} {a : Act} {Q : Exit → Act → World → Prop} (hgd : o.guard = none) (s x : Operand) (t : TypeId)
    (ho : o.op = .call { callee := .builtin .append, args := #[s, x], argTypes := #[t, t] })
    (base : Nat) (e : TypeId) (i : TypeInfo) (z : Value) (size bytes : Nat) (ht : P.underlying t = some (.slice e)) (hi : P.info? e = some i) (hz : i.zero = some z)
    (hsize : i.size = size) (hby : i.bytes = bytes) (hzs : z.cells.size = size) (hsz : 0 < size)
    (v : Value) (n : Nat) (xs : List Value) (hs : a.eval s = v) (hown : w.ownsRow base e size v n xs)
    (B : Nat) (A : Option Addr) (m c : Nat) (news : List Value) (hx : a.eval x = .slice A m c) (hr : Reads w B size A m news) (h1 : ∀ u ∈ news, u.oneCell' = true)
    (h63 : n + m ≤ maxLen) (hbytes : (n + m) * bytes ≤ 140737488355328) (hbase : base ≤ w.heap.size)
    (h : ∀ v' w', w'.ownsRow base e size v' (n + m) (xs ++ news) → w.grownBy w' v.ownBlock → (v'.ownBlock = v.ownBlock ∨ v'.ownBlock = some w.heap.size) → wpList P ops Q rest (a.put o.dst v') w') : wpList P ops Q (o :: rest) a w :=
  wpList_plain hgd fun _ hK => wp_append_any w s x t ho base e i z size bytes ht hi hz hsize hby hzs hsz v n xs hs hown B A m c news hx hr h1 h63 hbytes hbase fun v' w' h2 h3 h4 => hK _ _ (h v' w' h2 h3 h4)

theorem step_append_any {ops : Array Oper} {o : Oper} {a : Act} {K : Act → World → Prop} {Q : Exit → Act → World → Prop} {E : Prop} (hgd : o.guard = none) (s x : Operand) (t : TypeId)
    (ho : o.op = .call { callee := .builtin .append, args := #[s, x], argTypes := #[t, t] })
    (base : Nat) (e : TypeId) (i : TypeInfo) (z : Value) (size bytes : Nat) (ht : P.underlying t = some (.slice e)) (hi : P.info? e = some i) (hz : i.zero = some z)
    (hsize : i.size = size) (hby : i.bytes = bytes) (hzs : z.cells.size = size) (hsz : 0 < size)
    (v : Value) (n : Nat) (xs : List Value) (hs : a.eval s = v) (hown : w.ownsRow base e size v n xs)
    (B : Nat) (A : Option Addr) (m c : Nat) (news : List Value) (hx : a.eval x = .slice A m c) (hr : Reads w B size A m news) (h1 : ∀ u ∈ news, u.oneCell' = true)
    (h63 : n + m ≤ maxLen) (hbytes : (n + m) * bytes ≤ 140737488355328) (hbase : base ≤ w.heap.size)
    (h : ∀ v' w', w'.ownsRow base e size v' (n + m) (xs ++ news) → w.grownBy w' v.ownBlock → (v'.ownBlock = v.ownBlock ∨ v'.ownBlock = some w.heap.size) → K (a.put o.dst v') w') :
    if Region.wanted o (yielded ops a.tmps) = true then Oper.wp P o a w K Q else E := by
  have hw : Region.wanted o (yielded ops a.tmps) = true := by simp [Region.wanted, hgd]
  rw [if_pos hw]
  exact wp_append_any w s x t ho base e i z size bytes ht hi hz hsize hby hzs hsz v n xs hs hown B A m c news hx hr h1 h63 hbytes hbase h
end

end Go.Proofs.YtgmejaiifibfoaaGreatDoor.L3

/-
  The bytes of numbers, plainly: over lists of bytes; no program in this text.
-/
set_option linter.unusedSimpArgs false
set_option linter.unusedVariables false
namespace Go.Proofs.YtgmejaiifibfoaaGreatDoor.L3

/-- The bytes of a number. -/
def encN (n : Nat) : List UInt8 := if n < 128 then [UInt8.ofNat n] else UInt8.ofNat (n % 128 + 128) :: encN (n / 128)
termination_by n
decreasing_by omega
theorem encN_small {n : Nat} (h : n < 128) : encN n = [UInt8.ofNat n] := by rw [encN, if_pos h]
theorem encN_big {n : Nat} (h : 128 ≤ n) : encN n = UInt8.ofNat (n % 128 + 128) :: encN (n / 128) := by rw [encN, if_neg (by omega)]
theorem encN_le (k : Nat) : ∀ n : Nat, n < 128 ^ (k + 1) → (encN n).length ≤ k + 1 := by
  induction k with
  | zero => intro n h; rw [encN_small (by omega)]; simp
  | succ k ih =>
    intro n h
    by_cases hs : n < 128
    · rw [encN_small hs]; simp
    · rw [encN_big (by omega)]
      have := ih (n / 128) (by rw [Nat.pow_succ] at h; omega)
      simp; omega
theorem encN_le9 {n : Nat} (h : n ≤ 4611686018427387904) : (encN n).length ≤ 9 := encN_le 8 n (by omega)
theorem encN_pos (n : Nat) : 0 < (encN n).length := by
  by_cases hs : n < 128
  · rw [encN_small hs]; simp
  · rw [encN_big (by omega)]; simp

/-- What a reader tells of a number at byte i, behind a: the number, how many bytes it has, the error. -/
def rdN : Nat → Nat → List UInt8 → Nat × Nat × Nat
  | _, _, [] => (0, 0, 30)
  | i, a, c :: l =>
    if i = 9 then (0, 0, 31)
    else if 128 ≤ c.toNat then rdN (i + 1) (a + c.toNat % 128 * 128 ^ i) l
    else if (c.toNat = 0 ∧ 0 < i) ∨ 4611686018427387904 < a + c.toNat * 128 ^ i then (0, 0, 31)
    else (a + c.toNat * 128 ^ i, i + 1, 0)

theorem toNat_ofNat {n : Nat} (h : n < 256) : (UInt8.ofNat n).toNat = n := by rw [UInt8.toNat_ofNat']; omega
theorem ofNat_toNat (c : UInt8) : UInt8.ofNat c.toNat = c := by simp

theorem pow_le_of {i : Nat} (h : 128 * 128 ^ i ≤ 4611686018427387904) : i < 8 := by
  rcases Nat.lt_or_ge i 8 with h8 | h8
  · exact h8
  · have : 128 ^ 8 ≤ 128 ^ i := Nat.pow_le_pow_right (by omega) h8
    omega

theorem rd_enc (rest : List UInt8) : ∀ (n i a : Nat), i ≤ 8 → a + n * 128 ^ i ≤ 4611686018427387904 → (0 < i → 0 < n) →
    rdN i a (encN n ++ rest) = (a + n * 128 ^ i, i + (encN n).length, 0) := by
  intro n
  induction n using Nat.strongRecOn with
  | ind n ih =>
    intro i a hi hb hp
    by_cases hs : n < 128
    · rw [encN_small hs]
      simp only [List.cons_append, List.nil_append, rdN, toNat_ofNat (show n < 256 by omega), List.length_singleton]
      rw [if_neg (by omega), if_neg (by omega), if_neg (by omega)]
    · rw [encN_big (by omega)]
      have h0 : 128 * 128 ^ i ≤ n * 128 ^ i := Nat.mul_le_mul_right _ (by omega)
      have hi8 := pow_le_of (i := i) (by omega)
      have hm : (n % 128 + 128) % 128 = n % 128 := by omega
      have hd : n % 128 * 128 ^ i + n / 128 * 128 ^ (i + 1) = n * 128 ^ i := by
        rw [Nat.pow_succ, Nat.mul_comm (128 ^ i) 128, ← Nat.mul_assoc, ← Nat.add_mul]
        congr 1; omega
      simp only [List.cons_append, rdN, toNat_ofNat (show n % 128 + 128 < 256 by omega), List.length_cons, hm]
      rw [if_neg (by omega), if_pos (by omega), ih (n / 128) (by omega) (i + 1) _ (by omega) (by omega) (by omega)]
      simp only [Prod.mk.injEq, and_true]
      exact ⟨by omega, by omega⟩
theorem rd_enc0 (n : Nat) (rest : List UInt8) (h : n ≤ 4611686018427387904) : rdN 0 0 (encN n ++ rest) = (n, (encN n).length, 0) := by
  rw [rd_enc rest n 0 0 (by omega) (by omega) (by omega)]; simp

theorem rd_err : ∀ (l : List UInt8) (i a k s e : Nat), rdN i a l = (k, s, e) → (e = 0 ∨ e = 30 ∨ e = 31) ∧ (e ≠ 0 → k = 0 ∧ s = 0) := by
  intro l
  induction l with
  | nil => intro i a k s e h; simp only [rdN, Prod.mk.injEq] at h; omega
  | cons c l ih =>
    intro i a k s e h
    rw [rdN] at h
    split at h
    · simp only [Prod.mk.injEq] at h; omega
    · split at h
      · exact ih _ _ _ _ _ h
      · split at h <;> simp only [Prod.mk.injEq] at h <;> omega
theorem rd_back : ∀ (l : List UInt8) (i a k s : Nat), rdN i a l = (k, s, 0) →
    ∃ n, k = a + n * 128 ^ i ∧ encN n = l.take (s - i) ∧ i < s ∧ s ≤ i + l.length ∧ k ≤ 4611686018427387904 ∧ (0 < i → 0 < n) := by
  intro l
  induction l with
  | nil => intro i a k s h; simp only [rdN, Prod.mk.injEq] at h; omega
  | cons c l ih =>
    intro i a k s h
    have hc : c.toNat < 256 := c.toNat_lt
    rw [rdN] at h
    split at h
    · simp only [Prod.mk.injEq] at h; omega
    · split at h
      next h128 =>
        obtain ⟨n, hk, he, hs, hl, hb, hp⟩ := ih _ _ _ _ h
        have hp := hp (by omega)
        refine ⟨n * 128 + c.toNat % 128, ?_, ?_, by omega, by simp; omega, hb, by omega⟩
        · rw [hk, Nat.pow_succ, Nat.add_mul, Nat.mul_comm (128 ^ i) 128, ← Nat.mul_assoc]; omega
        · rw [encN_big (by omega), show s - i = (s - (i + 1)) + 1 by omega, List.take_succ_cons]
          have e1 : (n * 128 + c.toNat % 128) % 128 + 128 = c.toNat := by omega
          have e2 : (n * 128 + c.toNat % 128) / 128 = n := by omega
          rw [e1, e2, ofNat_toNat, he]
      next h128 =>
        split at h
        · simp only [Prod.mk.injEq] at h; omega
        next hno =>
          simp only [Prod.mk.injEq] at h
          obtain ⟨rfl, rfl, _⟩ := h
          refine ⟨c.toNat, rfl, ?_, by omega, by simp, by omega, by omega⟩
          rw [encN_small (by omega), ofNat_toNat, show i + 1 - i = 1 by omega]; rfl
theorem rd_back0 {l : List UInt8} {k s : Nat} (h : rdN 0 0 l = (k, s, 0)) : encN k = l.take s ∧ 0 < s ∧ s ≤ l.length ∧ k ≤ 4611686018427387904 := by
  obtain ⟨n, hk, he, hs, hl, hb, _⟩ := rd_back l 0 0 k s h
  have : k = n := by rw [hk]; simp
  subst this
  exact ⟨by simpa using he, hs, by omega, hb⟩
theorem rd_len {l : List UInt8} {k s e : Nat} (h : rdN 0 0 l = (k, s, e)) : s ≤ l.length := by
  by_cases he : e = 0
  · subst he; exact (rd_back0 h).2.2.1
  · have := (rd_err _ _ _ _ _ _ h).2 he; omega
end Go.Proofs.YtgmejaiifibfoaaGreatDoor.L3

/-
  Which numbers may be written, and the bytes of one behind bytes that the call owns.
-/
set_option linter.unusedSimpArgs false
set_option linter.unusedVariables false
namespace Go.Proofs.YtgmejaiifibfoaaGreatDoor.L3
open Go.RowKit Go.Lib

theorem byteInfo : (Tryz.prog.info? 5).map (fun i => (i.zero, i.size, i.bytes)) = some (some (.int .u8 0), 1, 1) := by kernel_rfl
/-- May a number be written? -/
def okN (n : Int) : Bool := decide (0 ≤ n ∧ n ≤ 4611686018427387904)
theorem okN_mk {n : Int} (h0 : 0 ≤ n) (h1 : n ≤ 4611686018427387904) : okN n = true := decide_eq_true ⟨h0, h1⟩
theorem okN_not {n : Int} (h : n < 0 ∨ 4611686018427387904 < n) : okN n = false := decide_eq_false (by omega)
theorem okN_le {n : Int} (h : okN n = true) : 0 ≤ n ∧ n ≤ 4611686018427387904 := of_decide_eq_true h
theorem okN_gt {n : Int} (h : okN n = false) : n < 0 ∨ 4611686018427387904 < n := by have := of_decide_eq_false h; omega

theorem allowed_any (n : Int) (w : World) : Calls Tryz.prog 88 #[.int .i64 n] w fun e w' => e = .returned (.bool (okN n)) ∧ w = w' := by
  by_cases h0 : 0 ≤ n
  · by_cases h1 : n ≤ 4611686018427387904
    · have hk := okN_mk h0 h1
      go_enter Tryz.func88, Tryz.ntmps88
      go_wp2
      go_ret
      exact ⟨congrArg (fun b => Ending.returned (.bool b)) hk.symm, rfl⟩
    · have hk := okN_not (n := n) (by omega)
      go_enter Tryz.func88, Tryz.ntmps88
      go_wp2
      go_ret
      exact ⟨rfl, rfl⟩
  · have hk := okN_not (n := n) (by omega)
    go_enter Tryz.func88, Tryz.ntmps88
    go_wp2
    go_ret
    exact ⟨rfl, rfl⟩

set_option maxHeartbeats 1000000 in
set_option maxRecDepth 100000 in
theorem put_any (B : Nat) (v : Value) (l : List UInt8) (n : Nat) (W0 w : World) (h : OwnBuf B 5 v l.length (byteCells l) W0 w) (hn : n ≤ 4611686018427387904) (hl : l.length ≤ 1000000000) :
    Calls Tryz.prog 89 #[v, .int .i64 n] w fun e w' => ∃ v', e = .returned v' ∧ OwnBuf B 5 v' (l ++ encN n).length (byteCells (l ++ encN n)) W0 w' := by
  obtain ⟨i0, hi, hz0, hz1, hz2⟩ := info_parts byteInfo
  go_enter Tryz.func89, Tryz.ntmps89
  go_wp2
  go_loopw [0, 1] (fun b k wr => ∃ (m : Nat) (x : List UInt8), k = .int .i64 m ∧ m ≤ 4611686018427387904 ∧ x ++ encN m = l ++ encN n ∧ OwnBuf B 5 b x.length (byteCells x) W0 wr) (fun _ k _ => (intOf k).toNat)
  case atStart => exact ⟨n, l, rfl, hn, rfl, h⟩
  case round =>
    obtain ⟨m, x, rfl, hm, he, hb⟩ := hrel
    have hle : x.length ≤ 1000000009 := by
      have := congrArg List.length he
      have h9 := encN_le9 hn
      simp at this; omega
    by_cases hlt : 128 ≤ m
    · have HE := Lib.hid he
      clear he
      go_wp2_with (at_builtin; refine wpList_append_byte rfl _ _ 52 rfl B 5 i0 Tryz.underlying52 hi hz0 hz1 hz2 u0 x.length (byteCells x) rfl W0 wr _ hb rfl (by omega) ?_)
      intro v' w' hb'
      go_wp2_with fail
      go_round
      case rel =>
        have e2 : byteCells (x ++ [UInt8.ofNat (m % 128 + 128)]) = byteCells x ++ [.int .u8 ((m : Int) % 128 + 128)] := by simp [byteCells]; omega
        refine ⟨m / 128, x ++ [UInt8.ofNat (m % 128 + 128)], by simp, by omega, ?_, ?_⟩
        · rw [List.append_assoc, List.singleton_append, ← encN_big hlt]; exact HE.out
        · rw [e2, List.length_append, List.length_singleton]; exact hb'
      case measure => simp [intOf]; omega
    · have HE := Lib.hid he
      clear he
      go_wp2_with (at_builtin; refine wpList_append_byte rfl _ _ 52 rfl B 5 i0 Tryz.underlying52 hi hz0 hz1 hz2 u0 x.length (byteCells x) rfl W0 wr _ hb rfl (by omega) ?_)
      intro v' w' hb'
      go_wp2_with fail
      go_ret
      refine ⟨_, rfl, ?_⟩
      have e : l ++ encN n = x ++ [UInt8.ofNat m] := by rw [← HE.out, encN_small (by omega)]
      have e2 : byteCells (x ++ [UInt8.ofNat m]) = byteCells x ++ [.int .u8 (m : Int)] := by simp [byteCells]; omega
      rw [e, e2, List.length_append, List.length_singleton]
      exact hb'
end Go.Proofs.YtgmejaiifibfoaaGreatDoor.L3

/-
  A copy of bytes, and the bytes of numbers and texts behind any bytes.
-/
set_option linter.unusedSimpArgs false
set_option linter.unusedVariables false
namespace Go.Proofs.YtgmejaiifibfoaaGreatDoor.L3
open Go.RowKit Go.Lib

theorem byteCells_one (l : List UInt8) : ∀ u ∈ byteCells l, u.oneCell' = true := by
  intro u hu
  simp only [byteCells, List.mem_map] at hu
  obtain ⟨b, _, rfl⟩ := hu
  rfl
/-- Bytes that the call owns: in w' the slice v holds l, in a block from B on; below B all is as it was in w. -/
def Owned (B : Nat) (v : Value) (l : List UInt8) (w w' : World) : Prop := OwnBuf B 5 v l.length (byteCells l) w w'
theorem Owned.nil (w : World) (B : Nat) (h : B ≤ w.heap.size) : Owned B (.slice none 0 0) [] w w := ⟨World.ownsRowF_nil _ _ _ _, Below.refl _ _, h⟩

set_option maxHeartbeats 1000000 in
set_option maxRecDepth 100000 in
theorem clone_any (B : Nat) (A : Option Addr) (n c : Nat) (l : List UInt8) (w : World) (h : Reads w B 1 A n (byteCells l)) (hl : n ≤ 1000000000) (hB : B ≤ w.heap.size) :
    Calls Tryz.prog 66 #[.slice A n c] w fun e w' => ∃ v', e = .returned v' ∧ Owned w.heap.size v' l w w' := by
  obtain ⟨i0, hi, hz0, hz1, hz2⟩ := info_parts byteInfo
  have hn : l.length = n := by have := h.1; simpa [byteCells] using this
  subst hn
  rcases A with _ | ad
  · have hl0 : l = [] := by
      rcases Nat.eq_zero_or_pos l.length with h0 | h0
      · exact List.eq_nil_of_length_eq_zero h0
      · obtain ⟨ad, h', _⟩ := h.2 h0
        cases h'
    subst hl0
    have hq : ∀ w : World, (binOp .eql 52 (.slice none 0 c) (.slice none 0 0)).run Tryz.prog w = .ok (.bool true) w := fun w => _root_.Go.run_eql_slice_nil w 52 5 none 0 c Tryz.underlying52
    go_enter Tryz.func66, Tryz.ntmps66
    go_wp2
    go_ret
    exact ⟨_, rfl, Owned.nil _ _ (Nat.le_refl _)⟩
  · have hq : ∀ w : World, (binOp .eql 52 (.slice (some ad) l.length c) (.slice none 0 0)).run Tryz.prog w = .ok (.bool false) w := fun w => _root_.Go.run_eql_slice_nil w 52 5 (some ad) l.length c Tryz.underlying52
    go_enter Tryz.func66, Tryz.ntmps66
    go_wp2_with (at_builtin; refine wpList_append_any _ rfl _ _ _ rfl w.heap.size 5 i0 (.int .u8 0) 1 1 Tryz.underlying52 hi hz0 hz1 hz2 rfl (by decide) (.slice (some ⟨w.heap.size, 0, none⟩) 0 0) 0 [] rfl (World.ownsRow_made _ _ 0 (by simp) (by decide) rfl) B (some ad) l.length c (byteCells l) rfl (h.alloc hB _) (byteCells_one l) (by unfold maxLen; omega) (by omega) (by simp) ?_)
    intro v' w' ho hg _
    go_wp2_with fail
    go_ret
    exact ⟨_, rfl, World.ownsRowF_of ho, ((Below.refl _ _).alloc (Nat.le_refl _) _).grown hg (by simp) (fun k hk => by simp [Value.ownBlock] at hk; omega), by have := hg.size; simp at this; omega⟩
/-- Bytes that the call owns, read as any slice is read. -/
theorem Owned.form {B : Nat} {v : Value} {l : List UInt8} {w w' : World} (h : Owned B v l w w') : ∃ A c, v = .slice A l.length c ∧ Reads w' w'.heap.size 1 A l.length (byteCells l) ∧ l.length ≤ c := by
  rcases h.1.2 with ⟨rfl, h0⟩ | ⟨g, cap, cur, fz, rfl, hb, hh, _, hn, _, hsz, htake⟩
  · have : l = [] := List.eq_nil_of_length_eq_zero h0
    subst this
    exact ⟨none, 0, rfl, Reads.none_, Nat.le_refl _⟩
  · refine ⟨some ⟨g, 0, none⟩, cap, rfl, ⟨by simp [byteCells], fun _ => ⟨_, rfl, (Array.getElem?_eq_some_iff.1 hh).1, h.1.cells (g := g) rfl⟩⟩, hn⟩

/-- What a call tells that writes: bytes that it owns, and no error. -/
def wrote (l : List UInt8) (w : World) (e : Ending) (w' : World) : Prop := ∃ v, e = .returned (.tuple #[v, .int .i64 0]) ∧ Owned w.heap.size v l w w'
/-- What a call tells that refuses: none, and an error. -/
def refused (k : Int) (w : World) (e : Ending) (w' : World) : Prop := e = .returned (.tuple #[.slice none 0 0, .int .i64 k]) ∧ Below w.heap.size w w'

set_option maxHeartbeats 1000000 in
set_option maxRecDepth 100000 in
theorem num_ok (B : Nat) (A : Option Addr) (n c : Nat) (l : List UInt8) (k : Nat) (w : World) (h : Reads w B 1 A n (byteCells l)) (hl : n ≤ 100000000) (hB : B ≤ w.heap.size) (hk : k ≤ 4611686018427387904) :
    Calls Tryz.prog 54 #[.slice A n c, .int .i64 k] w (wrote (l ++ encN k) w) := by
  have hn : l.length = n := by have := h.1; simpa [byteCells] using this
  have hok := okN_mk (n := (k : Int)) (by omega) (by omega)
  go_enter Tryz.func54, Tryz.ntmps54
  go_wp2_with (first
    | (go_at_call 88; refine (allowed_any _ _).mono ?_; rintro e w1 ⟨rfl, rfl⟩)
    | (go_at_call 66; refine (clone_any B A n c l _ h (by omega) hB).mono ?_; rintro e w2 ⟨v2, rfl, ho2⟩)
    | (go_at_call 89; refine (put_any _ _ l k _ _ ho2 hk (by omega)).mono ?_; rintro e w3 ⟨v3, rfl, ho3⟩))
  go_ret2
  exact ⟨_, rfl, ho3⟩
set_option maxHeartbeats 1000000 in
set_option maxRecDepth 100000 in
theorem num_bad (v : Value) (k : Int) (w : World) (hk : okN k = false) :
    Calls Tryz.prog 54 #[v, .int .i64 k] w (refused 10 w) := by
  go_enter Tryz.func54, Tryz.ntmps54
  go_wp2_with (first
    | (go_at_call 88; refine (allowed_any _ _).mono ?_; rintro e w1 ⟨rfl, rfl⟩))
  go_ret2
  exact ⟨rfl, Below.refl _ _⟩
set_option maxHeartbeats 1000000 in
set_option maxRecDepth 100000 in
theorem text_ok (B : Nat) (A : Option Addr) (n c : Nat) (l : List UInt8) (s : ByteArray) (w : World) (h : Reads w B 1 A n (byteCells l)) (hl : n ≤ 100000000) (hB : B ≤ w.heap.size) (hs : s.size ≤ 65536) :
    Calls Tryz.prog 95 #[.slice A n c, .string s] w (wrote (l ++ (encN s.size ++ s.data.toList)) w) := by
  have hn : l.length = n := by have := h.1; simpa [byteCells] using this
  have h9 := encN_le9 (n := s.size) (by omega)
  obtain ⟨i0, hi, hz0, hz1, hz2⟩ := info_parts byteInfo
  have hq : (l ++ encN s.size).length ≤ 100000009 := by rw [List.length_append]; omega
  go_enter Tryz.func95, Tryz.ntmps95
  go_wp2_with (first
    | (go_at_call 66; refine (clone_any B A n c l _ h (by omega) hB).mono ?_; rintro e w2 ⟨v2, rfl, ho2⟩)
    | (go_at_call 89; refine (put_any _ _ l s.size _ _ ho2 (by omega) (by omega)).mono ?_; rintro e w3 ⟨v3, rfl, ho3⟩)
    | (at_builtin; refine wpList_append_text rfl _ _ 52 9 rfl w.heap.size 5 i0 Tryz.underlying52 Tryz.underlying9 hi hz0 hz1 hz2 v3 _ _ rfl w ho3 s rfl (by omega) ?_; intro v4 w4 ho4))
  go_ret2
  have e : byteCells (l ++ encN s.size) ++ strCells s = byteCells (l ++ (encN s.size ++ s.data.toList)) := by rw [strCells_eq]; simp [byteCells]
  have e2 : (l ++ (encN s.size ++ s.data.toList)).length = (l ++ encN s.size).length + s.size := by
    rw [← List.append_assoc, List.length_append]; rfl
  rw [e] at ho4
  refine ⟨_, rfl, ?_⟩
  unfold Owned
  rw [e2]
  exact ho4
set_option maxHeartbeats 1000000 in
set_option maxRecDepth 100000 in
theorem text_long (v : Value) (s : ByteArray) (w : World) (hs : 65536 < s.size) :
    Calls Tryz.prog 95 #[v, .string s] w (refused 2 w) := by
  go_enter Tryz.func95, Tryz.ntmps95
  go_wp2
  go_ret2
  exact ⟨rfl, Below.refl _ _⟩
end Go.Proofs.YtgmejaiifibfoaaGreatDoor.L3

/-
  The number at the beginning of any bytes.
-/
set_option linter.unusedSimpArgs false
set_option linter.unusedVariables false
namespace Go.Proofs.YtgmejaiifibfoaaGreatDoor.L3
open Go.RowKit Go.Lib

def numberPost (r : Nat × Nat × Nat) (w : World) (e : Ending) (w' : World) : Prop := e = .returned (.tuple #[.int .i64 r.1, .int .i64 r.2.1, .int .i64 r.2.2]) ∧ w = w'

theorem bits_or_i64_nat (a b : Nat) (ha : a < 9223372036854775808) (hb : b < 9223372036854775808) : bits .or .i64 (a : Int) (b : Int) = ((a ||| b : Nat) : Int) := by
  have hx : a ||| b < 2 ^ 63 := Nat.or_lt_two_pow (by omega) (by omega)
  have h1 : (BitVec.ofInt 64 (a : Int)).toNat = a := by
    rw [BitVec.ofInt_natCast, BitVec.toNat_ofNat]; exact Nat.mod_eq_of_lt (by omega)
  have h2 : (BitVec.ofInt 64 (b : Int)).toNat = b := by
    rw [BitVec.ofInt_natCast, BitVec.toNat_ofNat]; exact Nat.mod_eq_of_lt (by omega)
  show IntKind.i64.wrap ((BitVec.ofInt 64 (a : Int) ||| BitVec.ofInt 64 (b : Int)).toNat : Int) = _
  rw [BitVec.toNat_or, h1, h2, IntKind.wrap_i64]
  omega
theorem pow128 (k : Nat) : 128 ^ k = 2 ^ (7 * k) := by rw [Nat.pow_mul]
theorem pow128_8 {k : Nat} (h : k ≤ 8) : 128 ^ k ≤ 72057594037927936 := Nat.le_trans (Nat.pow_le_pow_right (by omega) h) (by omega)
theorem digit_lt {k b : Nat} (h : k ≤ 8) (hb : b < 128) : b * 128 ^ k ≤ 9151314442816847872 := Nat.le_trans (Nat.mul_le_mul (show b ≤ 127 by omega) (pow128_8 h)) (by omega)
/-- One digit more. -/
theorem or_digit (v k b : Nat) (hk : k ≤ 8) (hv : v < 128 ^ k) (hb : b < 128) : bits .or .i64 (v : Int) (wrap64 ((b : Int) * 2 ^ (7 * k))) = ((v + b * 128 ^ k : Nat) : Int) := by
  have h1 := pow128_8 hk
  have h2 := digit_lt hk hb
  have hw : wrap64 ((b : Int) * 2 ^ (7 * k)) = ((b * 128 ^ k : Nat) : Int) := by
    have e : (b : Int) * 2 ^ (7 * k) = ((b * 128 ^ k : Nat) : Int) := by rw [pow128]; simp
    rw [e]; unfold wrap64; omega
  rw [hw, bits_or_i64_nat v (b * 128 ^ k) (by omega) (by omega)]
  have e2 := Nat.two_pow_add_eq_or_of_lt (i := 7 * k) (b := v) (by rw [← pow128]; exact hv) b
  rw [← pow128] at e2
  rw [Nat.or_comm, Nat.mul_comm b, ← e2, Nat.add_comm]

set_option maxHeartbeats 1000000 in
set_option maxRecDepth 100000 in
theorem number_any (B : Nat) (A : Option Addr) (n c : Nat) (l : List UInt8) (w : World) (h : Reads w B 1 A n (byteCells l)) (hl : n ≤ 1000000000) :
    Calls Tryz.prog 67 #[.slice A n c] w (numberPost (rdN 0 0 l) w) := by
  have hn : l.length = n := by have := h.1; simpa [byteCells] using this
  go_enter Tryz.func67, Tryz.ntmps67
  go_wp2
  go_loop [5, 10] (fun a i => ∃ (k v : Nat), a = .int .i64 v ∧ i = .int .i64 k ∧ k ≤ n ∧ k ≤ 9 ∧ v < 128 ^ k ∧ rdN 0 0 l = rdN k v (l.drop k)) (fun _ i => n - (intOf i).toNat)
  case atStart => exact ⟨0, 0, rfl, rfl, Nat.zero_le _, by omega, by omega, rfl⟩
  case round =>
    obtain ⟨k, v, rfl, rfl, hk, hk9, hv, hr⟩ := hrel
    by_cases hlt : k < n
    · obtain ⟨ad, u, rfl, _, hx, hc⟩ := h.at_ hlt
      have hz : u = .int .u8 (l[k].toNat : Int) := by
        simp only [byteCells, List.getElem?_map, List.getElem?_eq_getElem (show k < l.length by omega), Option.map_some, Option.some.injEq] at hx
        exact hx.symm
      subst hz
      obtain ⟨x, hz⟩ : ∃ x, x = l[k] := ⟨_, rfl⟩
      have hd : l.drop k = x :: l.drop (k + 1) := by rw [hz]; exact List.drop_eq_getElem_cons (by omega)
      rw [← hz] at hc
      rw [hd] at hr
      have HR := Lib.hid hr
      clear hx hr hz hd
      have hx8 : x.toNat < 256 := x.toNat_lt
      have hx0 : (0 : Int) ≤ x.toNat := by omega
      have hx1 : (x.toNat : Int) ≤ 255 := by omega
      by_cases h9 : k = 9
      · have e : rdN 0 0 l = (0, 0, 31) := by rw [HR.out, h9, rdN]; rfl
        have HE := Lib.hid e
        have h9' : ((k : Int) == 9) = true := by simp; omega
        clear e h9 HR hv
        go_wp2_with fail
        go_ret3
        exact ⟨by rw [HE.out]; rfl, rfl⟩
      · have h9' : ((k : Int) == 9) = false := by simp; omega
        have hor := or_digit v k (x.toNat % 128) (by omega) hv (by omega)
        obtain ⟨y, hy⟩ : ∃ y, y = v + x.toNat % 128 * 128 ^ k := ⟨_, rfl⟩
        rw [← hy] at hor
        have hor2 : bits .or .i64 (v : Int) (wrap64 ((x.toNat : Int) % 128 * 2 ^ (7 * k))) = (y : Int) := by rw [← hor]; simp
        have hyb : y < 128 ^ (k + 1) := by
          have h1 : x.toNat % 128 * 128 ^ k ≤ 127 * 128 ^ k := Nat.mul_le_mul (by omega) (Nat.le_refl _)
          rw [Nat.pow_succ]; omega
        have HY := Lib.hid hy
        have HYB := Lib.hid hyb
        clear hor hy hyb
        by_cases h128 : 128 ≤ x.toNat
        · have h128' : 128 ≤ (x.toNat : Int) := by omega
          have e : rdN 0 0 l = rdN (k + 1) y (l.drop (k + 1)) := by rw [HR.out, rdN, if_neg h9, if_pos h128, HY.out]
          have HE := Lib.hid e
          clear e
          go_wp2_with fail
          go_round
          case rel => exact ⟨k + 1, y, rfl, by go_num, by omega, by omega, HYB.out, HE.out⟩
          case measure => simp [intOf]; omega
        · have h128' : ¬ 128 ≤ (x.toNat : Int) := by omega
          have em : x.toNat % 128 = x.toNat := by omega
          by_cases h0 : x.toNat = 0 ∧ 0 < k
          · have e : rdN 0 0 l = (0, 0, 31) := by rw [HR.out, rdN, if_neg h9, if_neg h128, if_pos (Or.inl h0)]
            have HE := Lib.hid e
            obtain ⟨h0, hk0⟩ := h0
            have h0' : ((x.toNat : Int) == 0) = true := by simp; omega
            have hk0' : decide ((0 : Int) < (k : Int)) = true := by simp; omega
            clear e h0
            go_wp2_with fail
            go_ret3
            exact ⟨by rw [HE.out]; rfl, rfl⟩
          · have e : rdN 0 0 l = if 4611686018427387904 < y then (0, 0, 31) else (y, k + 1, 0) := by
              rw [HR.out, rdN, if_neg h9, if_neg h128, HY.out, em]
              by_cases hy : 4611686018427387904 < v + x.toNat * 128 ^ k
              · rw [if_pos hy, if_pos (Or.inr hy)]
              · rw [if_neg hy, if_neg (by rintro (h | h) <;> contradiction)]
            have HE := Lib.hid e
            clear e
            by_cases hx : x.toNat = 0
            · have hk0 : k = 0 := by omega
              have h0' : ((x.toNat : Int) == 0) = true := by simp; omega
              have hk0' : decide (0 < k) = false := by simp; omega
              clear hx hk0 h0
              by_cases hy : 4611686018427387904 < y
              · have hok := okN_not (n := (y : Int)) (by omega)
                go_wp2_with (go_at_call 88; refine (allowed_any _ _).mono ?_; rintro e w1 ⟨rfl, rfl⟩)
                go_ret3
                exact ⟨by rw [HE.out, if_pos hy]; rfl, rfl⟩
              · have hok := okN_mk (n := (y : Int)) (by omega) (by omega)
                go_wp2_with (go_at_call 88; refine (allowed_any _ _).mono ?_; rintro e w1 ⟨rfl, rfl⟩)
                go_ret3
                exact ⟨by rw [HE.out, if_neg hy]; rfl, rfl⟩
            · have h0' : ((x.toNat : Int) == 0) = false := by simp; omega
              clear hx h0
              by_cases hy : 4611686018427387904 < y
              · have hok := okN_not (n := (y : Int)) (by omega)
                go_wp2_with (go_at_call 88; refine (allowed_any _ _).mono ?_; rintro e w1 ⟨rfl, rfl⟩)
                go_ret3
                exact ⟨by rw [HE.out, if_pos hy]; rfl, rfl⟩
              · have hok := okN_mk (n := (y : Int)) (by omega) (by omega)
                go_wp2_with (go_at_call 88; refine (allowed_any _ _).mono ?_; rintro e w1 ⟨rfl, rfl⟩)
                go_ret3
                exact ⟨by rw [HE.out, if_neg hy]; rfl, rfl⟩
    · have e : rdN 0 0 l = (0, 0, 30) := by rw [hr, List.drop_eq_nil_of_le (by omega)]; rfl
      have HE := Lib.hid e
      clear e hr
      go_wp2_with fail
      go_ret3
      exact ⟨by rw [HE.out]; rfl, rfl⟩
end Go.Proofs.YtgmejaiifibfoaaGreatDoor.L3

/-
  The bytes of any numbers, one behind the other, or the error of the first that may not be written.
-/
set_option linter.unusedSimpArgs false
set_option linter.unusedVariables false
namespace Go.Proofs.YtgmejaiifibfoaaGreatDoor.L3
open Go.RowKit Go.Lib

def encs (zs : List Int) : List UInt8 := (zs.map fun z => encN z.toNat).flatten
theorem encs_snoc (zs : List Int) (z : Int) : encs (zs ++ [z]) = encs zs ++ encN z.toNat := by simp [encs]
theorem encs_le (zs : List Int) (h : zs.all okN = true) : (encs zs).length ≤ 9 * zs.length := by
  induction zs with
  | nil => simp [encs]
  | cons z zs ih =>
    simp only [List.all_cons, Bool.and_eq_true] at h
    have h1 := ih h.2
    have h2 := encN_le9 (n := z.toNat) (by have := okN_le h.1; omega)
    simp only [encs, List.map_cons, List.flatten_cons, List.length_append, List.length_cons] at h1 ⊢
    omega
def numsPost (zs : List Int) (w : World) (e : Ending) (w' : World) : Prop :=
  (zs.all okN = true ∧ wrote (encs zs) w e w') ∨ (zs.all okN = false ∧ refused 10 w e w')
def intCells (zs : List Int) : List Value := zs.map (Value.int .i64)
theorem take_snoc_int (zs : List Int) (k : Nat) (h : k < zs.length) : zs.take (k + 1) = zs.take k ++ [zs[k]] := by
  rw [List.take_succ_eq_append_getElem h]

set_option maxHeartbeats 1000000 in
set_option maxRecDepth 100000 in
theorem nums_any (A : Option Addr) (n c : Nat) (zs : List Int) (w : World) (h : Reads w w.heap.size 1 A n (intCells zs)) (hl : n ≤ 10000000) :
    Calls Tryz.prog 94 #[.slice A n c] w (numsPost zs w) := by
  have hn : zs.length = n := by have := h.1; simpa [intCells] using this
  go_enter Tryz.func94, Tryz.ntmps94
  go_wp2
  go_loopw [4, 9] (fun b i wr => ∃ k : Nat, i = .int .i64 k ∧ k ≤ n ∧ (zs.take k).all okN = true ∧ Owned w.heap.size b (encs (zs.take k)) w wr) (fun _ i _ => n - (intOf i).toNat)
  case atStart => exact ⟨0, rfl, Nat.zero_le _, by simp, by simpa [encs] using Owned.nil w _ (Nat.le_refl _)⟩
  case round =>
    obtain ⟨k, rfl, hk, ha, ho⟩ := hrel
    by_cases hlt : k < n
    · obtain ⟨ad, u, rfl, _, hx, hc⟩ := (h.below ho.2.1).at_ hlt
      have hz : u = .int .i64 zs[k] := by
        simp only [intCells, List.getElem?_map, List.getElem?_eq_getElem (show k < zs.length by omega), Option.map_some, Option.some.injEq] at hx
        exact hx.symm
      subst hz
      have hle := encs_le _ ha
      have htk : (zs.take k).length = k := by simp; omega
      have hsn := take_snoc_int zs k (by omega)
      obtain ⟨z, hz⟩ : ∃ z, z = zs[k] := ⟨_, rfl⟩
      rw [← hz] at hc hsn
      have HA := Lib.hid ha
      have HS := Lib.hid hsn
      have HZ := Lib.hid hz
      clear hx ha hsn hz
      by_cases hok : okN z = true
      · have hzb := okN_le hok
        obtain ⟨m, rfl⟩ := Int.eq_ofNat_of_zero_le hzb.1
        go_wp2_with (first
          | (go_at_call 88; refine (allowed_any _ _).mono ?_; rintro e w1 ⟨rfl, rfl⟩)
          | (go_at_call 89; refine (put_any _ _ _ m _ _ ho (by omega) (by omega)).mono ?_; rintro e w3 ⟨v3, rfl, ho3⟩))
        go_round
        case rel =>
          refine ⟨k + 1, by go_num, by omega, ?_, ?_⟩
          · rw [HS.out, List.all_append, HA.out]; simpa using hok
          · rw [HS.out, encs_snoc]; exact ho3
        case measure => simp [intOf]; omega
      · have hok : okN z = false := by simpa using hok
        go_wp2_with (first
          | (go_at_call 88; refine (allowed_any _ _).mono ?_; rintro e w1 ⟨rfl, rfl⟩))
        go_ret2
        refine Or.inr ⟨?_, rfl, ho.2.1⟩
        rw [List.all_eq_false]
        exact ⟨z, by rw [HZ.out]; exact List.getElem_mem _, by rw [hok]; simp⟩
    · have hkn : zs.take k = zs := List.take_of_length_le (by omega)
      rw [hkn] at ha ho
      have HA := Lib.hid ha
      clear hkn ha
      go_wp2_with fail
      go_ret2
      exact Or.inl ⟨HA.out, _, rfl, ho⟩
end Go.Proofs.YtgmejaiifibfoaaGreatDoor.L3

/-
  What a reader holds, and what each of its calls tells and leaves.
-/
set_option linter.unusedSimpArgs false
set_option linter.unusedVariables false
namespace Go.Proofs.YtgmejaiifibfoaaGreatDoor.L3
open Go.RowKit Go.Lib

/-- In w the struct in block g is a reader: l is left, e is its error. -/
def Rdr (w : World) (g : Nat) (p : List UInt8 × Int) : Prop :=
  ∃ A c, Blk w g 105 #[.slice A p.1.length c, .int .i64 p.2] ∧ Reads w g 1 A p.1.length (byteCells p.1) ∧ p.1.length ≤ c ∧ p.1.length ≤ 1000000000 ∧ (p.2 ≠ 0 → p.1 = [])
theorem grown_set {w : World} {g i : Nat} (u : Value) : w.grownBy (w.setCell ⟨g, i, none⟩ u) (some g) :=
  ⟨rfl, rfl, rfl, by simp [World.setCell], fun k _ hk => Below.heap_setCell w ⟨g, i, none⟩ u k (fun e => hk (by rw [e]))⟩
theorem grown_trans {a b c : World} {r : Option Nat} (h : a.grownBy b r) (k : b.grownBy c r) : a.grownBy c r :=
  ⟨k.os.trans h.os, k.tape.trans h.tape, k.output.trans h.output, Nat.le_trans h.size k.size, fun i hi hne => (k.block i (Nat.lt_of_lt_of_le hi h.size) hne).trans (h.block i hi hne)⟩

/-- Fail's outcome. -/
def failS (e2 : Int) (p : List UInt8 × Int) : List UInt8 × Int := if p.2 ≠ 0 ∨ e2 = 0 then p else ([], e2)
def leaves (g : Nat) (p : List UInt8 × Int) (w w' : World) : Prop := Rdr w' g p ∧ w.grownBy w' (some g)
theorem Rdr.lt {w : World} {g : Nat} {p : List UInt8 × Int} (h : Rdr w g p) : g < w.heap.size := by obtain ⟨_, _, hb, _⟩ := h; exact hb.lt
theorem leaves.refl {g : Nat} {p : List UInt8 × Int} {w : World} (h : Rdr w g p) : leaves g p w w := ⟨h, World.grownBy.refl w _⟩
theorem leaves.trans {g : Nat} {p q : List UInt8 × Int} {w w1 w2 : World} (h : leaves g p w w1) (k : leaves g q w1 w2) : leaves g q w w2 := ⟨k.1, grown_trans h.2 k.2⟩
theorem rdr_failed {g : Nat} {p : List UInt8 × Int} {w : World} (e2 : Int) (h : Rdr w g p) : leaves g ([], e2) w ((w.setCell ⟨g, 0, none⟩ (.slice none 0 0)).setCell ⟨g, 1, none⟩ (.int .i64 e2)) := by
  obtain ⟨A, c, hb, _⟩ := h
  exact ⟨⟨none, 0, (hb.set_ 0 _).set_ 1 _, Reads.none_, Nat.le_refl _, Nat.zero_le _, fun _ => rfl⟩, grown_trans (grown_set _) (grown_set _)⟩

set_option maxHeartbeats 1000000 in
set_option maxRecDepth 100000 in
theorem fail_any (g : Nat) (p : List UInt8 × Int) (e2 : Int) (w : World) (h : Rdr w g p) :
    Calls Tryz.prog 68 #[.pointer (some ⟨g, 0, none⟩), .int .i64 e2] w fun e w' => e = .returned (.tuple #[]) ∧ leaves g (failS e2 p) w w' := by
  have HR := Lib.hid h
  obtain ⟨l, e1⟩ := p
  obtain ⟨A, c, hb, hr, hc, hl, he⟩ := h
  have c0 : w.cell? ⟨g, 0, none⟩ = some (.slice A l.length c) := hb.cell 0
  have c1 : w.cell? ⟨g, 1, none⟩ = some (.int .i64 e1) := hb.cell 1
  have f0 := hb.frozen 0
  have f1 := hb.frozen 1
  clear he
  by_cases h1 : e1 = 0
  · subst h1
    by_cases h2 : e2 = 0
    · subst h2
      go_enter Tryz.func68, Tryz.ntmps68
      go_wp2
      refine bodyPost_ret (v := .tuple #[]) (results_none rfl _ _ _) rfl ?_
      exact ⟨rfl, leaves.refl HR.out⟩
    · have h2' : (e2 == 0) = false := by simpa using h2
      have HF := Lib.hid h2
      clear h2
      go_enter Tryz.func68, Tryz.ntmps68
      go_wp2
      go_end0
      exact ⟨rfl, by rw [failS, if_neg (by simp; exact HF.out)]; exact rdr_failed e2 HR.out⟩
  · have h1' : (e1 == 0) = false := by simpa using h1
    have h1'' : (e1 != 0) = true := by simpa using h1
    have HF := Lib.hid h1
    clear h1
    go_enter Tryz.func68, Tryz.ntmps68
    go_wp2
    refine bodyPost_ret (v := .tuple #[]) (results_none rfl _ _ _) rfl ?_
    exact ⟨rfl, by rw [failS, if_pos (Or.inl HF.out)]; exact leaves.refl HR.out⟩

/-- What is left behind Num, and the error. -/
def numS (p : List UInt8 × Int) : List UInt8 × Int := if (rdN 0 0 p.1).2.2 = 0 then (p.1.drop (rdN 0 0 p.1).2.1, p.2) else failS (rdN 0 0 p.1).2.2 p
theorem rdr_put {g : Nat} {l l' : List UInt8} {w : World} {A A' : Option Addr} {c c' m : Nat} {e1 : Int} (hb : Blk w g 105 #[.slice A l.length c, .int .i64 e1]) (hr : Reads w g 1 A' m (byteCells l')) (hm : m = l'.length) (hc : l'.length ≤ c') (hl : l'.length ≤ 1000000000) (he : e1 ≠ 0 → l' = []) :
    leaves g (l', e1) w (w.setCell ⟨g, 0, none⟩ (.slice A' m c')) := by
  subst hm
  exact ⟨⟨A', c', hb.set_ 0 _, hr.setCell (Nat.le_refl _) _, hc, hl, he⟩, grown_set _⟩
theorem cut_reads {w : World} {g c s : Nat} {A : Option Addr} {l : List UInt8} (hr : Reads w g 1 A l.length (byteCells l)) (hs : s ≤ l.length) (hc : l.length ≤ c) : Reads w g 1 (if c = s then A else A.map (·.add s)) (l.length - s) (byteCells (l.drop s)) := by
  have := hr.cut hs hc
  simpa [byteCells, List.map_drop] using this
set_option maxHeartbeats 1000000 in
set_option maxRecDepth 100000 in
theorem rnum_any (g : Nat) (p : List UInt8 × Int) (w : World) (h : Rdr w g p) :
    Calls Tryz.prog 39 #[.pointer (some ⟨g, 0, none⟩)] w fun e w' => e = .returned (.int .i64 (rdN 0 0 p.1).1) ∧ leaves g (numS p) w w' := by
  have HR := Lib.hid h
  obtain ⟨l, e1⟩ := p
  obtain ⟨A, c, hb, hr, hc, hl, he⟩ := h
  have c0 : w.cell? ⟨g, 0, none⟩ = some (.slice A l.length c) := hb.cell 0
  have c1 : w.cell? ⟨g, 1, none⟩ = some (.int .i64 e1) := hb.cell 1
  have f0 := hb.frozen 0
  have HE := Lib.hid he
  clear he
  obtain ⟨k, s, e2, hq⟩ : ∃ k s e2, rdN 0 0 l = (k, s, e2) := ⟨_, _, _, rfl⟩
  have hs := rd_len hq
  have hbad := (rd_err _ _ _ _ _ _ hq).2
  have HQ := Lib.hid hq
  have HB := Lib.hid hbad
  have HN : Hid (numS (l, e1) = if e2 = 0 then (l.drop s, e1) else failS e2 (l, e1)) := by show _ = _; unfold numS; rw [hq]
  have hnum := number_any g A l.length c l w hr (by omega)
  rw [hq] at hnum ⊢
  have hnum' := Lib.hid hnum
  clear hq hbad hnum
  have hcut := cut_reads hr hs hc
  have HC := Lib.hid hcut
  clear hcut
  by_cases h2 : e2 = 0
  · subst h2
    have hN : numS (l, e1) = (l.drop s, e1) := by rw [HN.out]; simp
    have HN2 := Lib.hid hN
    clear hN
    by_cases hcs : c = s
    · have hc2 := HC.out
      rw [if_pos hcs] at hc2
      have HC2 := Lib.hid hc2
      clear hc2 HC HN
      subst hcs
      go_enter Tryz.func39, Tryz.ntmps39
      go_wp2_with (go_at_call 67; refine hnum'.out.mono ?_; unfold numberPost; rintro e w1 ⟨rfl, rfl⟩)
      go_ret
      have e0 : l.length - c = 0 := by omega
      have hc3 := HC2.out
      rw [e0] at hc3
      exact ⟨rfl, by rw [HN2.out]; exact rdr_put hb hc3 (by simp; omega) (by simp; omega) (by simp; omega) (fun h => by simp [HE.out h])⟩
    · have hc2 := HC.out
      rw [if_neg hcs] at hc2
      have HC2 := Lib.hid hc2
      clear hc2 HC HN
      go_enter Tryz.func39, Tryz.ntmps39
      go_wp2_with (go_at_call 67; refine hnum'.out.mono ?_; unfold numberPost; rintro e w1 ⟨rfl, rfl⟩)
      go_ret
      exact ⟨rfl, by rw [HN2.out]; exact rdr_put hb HC2.out (by simp) (by simp; omega) (by simp; omega) (fun h => by simp [HE.out h])⟩
  · have hk := (HB.out h2).1
    have h2' : ((e2 : Int) == 0) = false := by simp; omega
    have h2'' : ((e2 : Int) != 0) = true := by simp; omega
    have H2 := Lib.hid h2
    subst hk
    clear h2
    go_enter Tryz.func39, Tryz.ntmps39
    go_wp2_with (first
      | (go_at_call 67; refine hnum'.out.mono ?_; unfold numberPost; rintro e w1 ⟨rfl, rfl⟩)
      | (go_at_call 68; refine (fail_any g (l, e1) _ _ HR.out).mono ?_; rintro e w2 ⟨rfl, hlv⟩))
    go_ret
    refine ⟨rfl, ?_⟩
    rw [HN.out, if_neg H2.out]
    exact hlv

/-- Most's outcome. -/
def mostV (most : Int) (p : List UInt8 × Int) : Int := if most < ((rdN 0 0 p.1).1 : Int) then 0 else (rdN 0 0 p.1).1
def mostS (most : Int) (p : List UInt8 × Int) : List UInt8 × Int := if most < ((rdN 0 0 p.1).1 : Int) then failS 33 (numS p) else numS p
set_option maxHeartbeats 1000000 in
set_option maxRecDepth 100000 in
theorem rmost_any (g : Nat) (p : List UInt8 × Int) (most : Int) (w : World) (h : Rdr w g p) :
    Calls Tryz.prog 102 #[.pointer (some ⟨g, 0, none⟩), .int .i64 most] w fun e w' => e = .returned (.int .i64 (mostV most p)) ∧ leaves g (mostS most p) w w' := by
  have HN := Lib.hid (rnum_any g p w h)
  clear h
  by_cases hm : most < ((rdN 0 0 p.1).1 : Int)
  · have hm' : ¬ ((rdN 0 0 p.1).1 : Int) ≤ most := by omega
    have HM := Lib.hid hm
    go_enter Tryz.func102, Tryz.ntmps102
    go_wp2_with (first
      | (go_at_call 39; refine HN.out.mono ?_; rintro e w1 ⟨rfl, hlv⟩)
      | (go_at_call 68; refine (fail_any g _ _ _ hlv.1).mono ?_; rintro e w2 ⟨rfl, hlv2⟩))
    go_ret
    exact ⟨by rw [mostV, if_pos HM.out]; rfl, by rw [mostS, if_pos HM.out]; exact hlv.trans hlv2⟩
  · have HM := Lib.hid hm
    go_enter Tryz.func102, Tryz.ntmps102
    go_wp2_with (first
      | (go_at_call 39; refine HN.out.mono ?_; rintro e w1 ⟨rfl, hlv⟩))
    go_ret
    exact ⟨by rw [mostV, if_neg (by have := HM.out; omega)]; rfl, by rw [mostS, if_neg (by have := HM.out; omega)]; exact hlv⟩

set_option maxHeartbeats 1000000 in
set_option maxRecDepth 100000 in
theorem rrest_any (g : Nat) (p : List UInt8 × Int) (w : World) (h : Rdr w g p) :
    Calls Tryz.prog 121 #[.pointer (some ⟨g, 0, none⟩)] w fun e w' => e = .returned (.int .i64 p.1.length) ∧ w = w' := by
  obtain ⟨A, c, hb, _⟩ := h
  have c0 : w.cell? ⟨g, 0, none⟩ = some (.slice A p.1.length c) := hb.cell 0
  go_enter Tryz.func121, Tryz.ntmps121
  go_wp2
  go_ret
  exact ⟨rfl, rfl⟩
/-- Done's answer. -/
def doneV (p : List UInt8 × Int) : Int := if p.2 ≠ 0 then p.2 else if 0 < p.1.length then 32 else 0
set_option maxHeartbeats 1000000 in
set_option maxRecDepth 100000 in
theorem rdone_any (g : Nat) (p : List UInt8 × Int) (w : World) (h : Rdr w g p) :
    Calls Tryz.prog 41 #[.pointer (some ⟨g, 0, none⟩)] w fun e w' => e = .returned (.int .i64 (doneV p)) ∧ w = w' := by
  obtain ⟨A, c, hb, _⟩ := h
  obtain ⟨l, e1⟩ := p
  have c0 : w.cell? ⟨g, 0, none⟩ = some (.slice A l.length c) := hb.cell 0
  have c1 : w.cell? ⟨g, 1, none⟩ = some (.int .i64 e1) := hb.cell 1
  by_cases h1 : e1 = 0
  · subst h1
    by_cases hl : 0 < l.length
    · have hd : doneV (l, 0) = 32 := by unfold doneV; rw [if_neg (by simp), if_pos hl]
      go_enter Tryz.func41, Tryz.ntmps41
      go_wp2
      go_ret
      exact ⟨rfl, rfl⟩
    · have hd : doneV (l, 0) = 0 := by unfold doneV; rw [if_neg (by simp), if_neg hl]
      go_enter Tryz.func41, Tryz.ntmps41
      go_wp2
      go_ret
      exact ⟨rfl, rfl⟩
  · have h1' : (e1 == 0) = false := by simpa using h1
    have h1'' : (e1 != 0) = true := by simpa using h1
    have hd : doneV (l, e1) = e1 := by unfold doneV; rw [if_pos h1]
    have HD := Lib.hid hd
    clear h1 hd
    go_enter Tryz.func41, Tryz.ntmps41
    go_wp2
    go_ret
    exact ⟨by rw [HD.out]; rfl, rfl⟩

/-- Text's outcome. -/
def textV (p : List UInt8 × Int) : List UInt8 :=
  if ((mostS 65536 p).1.length : Int) < mostV 65536 p then [] else (mostS 65536 p).1.take (mostV 65536 p).toNat
def textS (p : List UInt8 × Int) : List UInt8 × Int :=
  if ((mostS 65536 p).1.length : Int) < mostV 65536 p then failS 30 (mostS 65536 p) else ((mostS 65536 p).1.drop (mostV 65536 p).toNat, (mostS 65536 p).2)
theorem conv_reads {w : World} {B n c k : Nat} {A : Option Addr} {l : List UInt8} (h : Reads w B 1 A n (byteCells l)) (hk : k ≤ n) :
    (convert 52 9 (.slice A k c)).run Tryz.prog w = .ok (.string ⟨(l.take k).toArray⟩) w := by
  have hn : l.length = n := by have := h.1; simpa [byteCells] using this
  rcases A with _ | ad
  · have hn0 : n = 0 := by
      rcases Nat.eq_zero_or_pos n with h0 | h0
      · exact h0
      · obtain ⟨ad, h', _⟩ := h.2 h0
        cases h'
    obtain rfl : k = 0 := by omega
    rw [run_convert_bytes_string w 52 9 5 none 0 c Tryz.underlying52 Tryz.underlying5 Tryz.underlying9]
    rfl
  · have hl : (l.take k).length = k := by simp; omega
    have := run_convert_bytes_back (P := Tryz.prog) w 52 9 5 ad c (l.take k) Tryz.underlying52 Tryz.underlying5 Tryz.underlying9 (fun j hj => by
      rw [hl] at hj
      obtain ⟨ad', u, e, _, hx, hc⟩ := h.at_ (k := j) (by omega)
      injection e with e
      subst e
      rw [hc]
      simp only [byteCells, List.getElem?_map, List.getElem?_eq_getElem (show j < l.length by omega), Option.map_some, Option.some.injEq] at hx
      simp [← hx])
    rw [hl] at this
    exact this

set_option maxHeartbeats 1000000 in
set_option maxRecDepth 100000 in
theorem rtext_any (g : Nat) (p : List UInt8 × Int) (w : World) (h : Rdr w g p) :
    Calls Tryz.prog 123 #[.pointer (some ⟨g, 0, none⟩)] w fun e w' => e = .returned (.string ⟨(textV p).toArray⟩) ∧ leaves g (textS p) w w' := by
  have HN := Lib.hid (rmost_any g p 65536 w h)
  clear h
  go_enter Tryz.func123, Tryz.ntmps123
  go_wp2_with (go_at_call 102; refine HN.out.mono ?_)
  rintro e w1 ⟨rfl, hlv⟩
  have HL := Lib.hid hlv
  obtain ⟨k, hk⟩ : ∃ k, k = mostV 65536 p := ⟨_, rfl⟩
  obtain ⟨q, hq⟩ : ∃ q, q = mostS 65536 p := ⟨_, rfl⟩
  have hV : textV p = if (q.1.length : Int) < k then [] else q.1.take k.toNat := by rw [hk, hq]; rfl
  have hS : textS p = if (q.1.length : Int) < k then failS 30 q else (q.1.drop k.toNat, q.2) := by rw [hk, hq]; rfl
  have hk0 : 0 ≤ k := by rw [hk]; unfold mostV; split <;> omega
  rw [← hk]
  rw [← hq] at hlv
  have HV := Lib.hid hV
  have HS := Lib.hid hS
  clear hV hS hk hq HL
  obtain ⟨m, rfl⟩ := Int.eq_ofNat_of_zero_le hk0
  have HLV := Lib.hid hlv
  obtain ⟨⟨A, c, hb, hr, hc, hl, he⟩, _⟩ := hlv
  have c0 : w1.cell? ⟨g, 0, none⟩ = some (.slice A q.1.length c) := hb.cell 0
  have f0 := hb.frozen 0
  have HE := Lib.hid he
  clear he
  by_cases hm : q.1.length < m
  · have HM := Lib.hid hm
    go_wp2_with (go_at_call 68; refine (fail_any g _ _ _ HLV.out.1).mono ?_; rintro e w2 ⟨rfl, hlv2⟩)
    go_ret
    have hv : textV p = [] := by rw [HV.out, if_pos (by have := HM.out; omega)]
    have hs : textS p = failS 30 q := by rw [HS.out, if_pos (by have := HM.out; omega)]
    exact ⟨by rw [hv]; rfl, by rw [hs]; exact HLV.out.trans hlv2⟩
  · have hcv : (convert 52 9 (.slice A m c)).run Tryz.prog w1 = .ok (.string ⟨(q.1.take m).toArray⟩) w1 := conv_reads hr (by omega)
    have hcut := cut_reads hr (s := m) (by omega) hc
    have hv : textV p = q.1.take m := by rw [HV.out, if_neg (by omega)]; simp
    have hs : textS p = (q.1.drop m, q.2) := by rw [HS.out, if_neg (by omega)]; simp
    have HV2 := Lib.hid hv
    have HS2 := Lib.hid hs
    have HC := Lib.hid hcut
    clear hv hs hcut HV HS
    by_cases hcs : c = m
    · have hc2 := HC.out
      rw [if_pos hcs] at hc2
      have HC2 := Lib.hid hc2
      clear hc2 HC
      subst hcs
      go_wp2_with fail
      go_ret
      have e0 : q.1.length - c = 0 := by omega
      have hc3 := HC2.out
      rw [e0] at hc3
      exact ⟨by rw [HV2.out]; rfl, by rw [HS2.out]; exact HLV.out.trans (rdr_put hb hc3 (by simp; omega) (by simp; omega) (by simp; omega) (fun h => by simp [HE.out h]))⟩
    · have hc2 := HC.out
      rw [if_neg hcs] at hc2
      have HC2 := Lib.hid hc2
      clear hc2 HC
      go_wp2_with fail
      go_ret
      exact ⟨by rw [HV2.out]; rfl, by rw [HS2.out]; exact HLV.out.trans (rdr_put hb HC2.out (by simp) (by simp; omega) (by simp; omega) (fun h => by simp [HE.out h]))⟩

/-- A new reader of bytes. -/
def made (l : List UInt8) (w : World) (e : Ending) (w' : World) : Prop := ∃ g, e = .returned (.pointer (some ⟨g, 0, none⟩)) ∧ w.heap.size ≤ g ∧ Rdr w' g (l, 0) ∧ Below w.heap.size w w'
set_option maxHeartbeats 1000000 in
set_option maxRecDepth 100000 in
theorem new_any (B : Nat) (A : Option Addr) (n c : Nat) (l : List UInt8) (w : World) (h : Reads w B 1 A n (byteCells l)) (hl : n ≤ 100000000) (hB : B ≤ w.heap.size) :
    Calls Tryz.prog 37 #[.slice A n c] w (made l w) := by
  have hn : l.length = n := by have := h.1; simpa [byteCells] using this
  go_enter Tryz.func37, Tryz.ntmps37
  go_wp2_with (go_at_call 66; refine (clone_any B A n c l _ h (by omega) hB).mono ?_; rintro e w2 ⟨v2, rfl, ho2⟩; obtain ⟨A2, c2, rfl, hr2, hc2⟩ := ho2.form)
  go_ret
  refine ⟨w2.heap.size, rfl, ho2.2.2, ⟨A2, c2, by rw [show (l, (0 : Int)).1.length = n from hn]; exact Blk.new _ _ _, hr2.alloc (Nat.le_refl _) _, hc2, by simp; omega, fun h => absurd rfl h⟩, ho2.2.1.alloc ho2.2.2 _⟩
end Go.Proofs.YtgmejaiifibfoaaGreatDoor.L3

/-
  The document's bytes of numbers and texts: contracts.
-/
set_option linter.unusedSimpArgs false
set_option linter.unusedVariables false
namespace Go.Proofs.YtgmejaiifibfoaaGreatDoor.L3
open Go.RowKit Go.Lib

def strOf (l : List UInt8) : ByteArray := ⟨l.toArray⟩
theorem strOf_app (l m : List UInt8) : strOf l ++ strOf m = strOf (l ++ m) := by
  apply ByteArray.ext
  rw [ByteArray.data_append]
  simp [strOf]
theorem strOf_size (l : List UInt8) : (strOf l).size = l.length := by
  show (strOf l).data.size = _
  simp [strOf]
theorem strOf_list (l : List UInt8) : (strOf l).data.toList = l := rfl
theorem strOf_of (s : ByteArray) : strOf s.data.toList = s := by
  cases s; rfl
theorem size_list (s : ByteArray) : s.size = s.data.toList.length := by rw [Array.length_toList]; rfl
def dgtB (m : Nat) : UInt8 := UInt8.ofNat (m % 128 + 128)
def dgtS (m : Nat) : UInt8 := UInt8.ofNat m
theorem add_zero' (b : Nat) : (⟨b, 0, none⟩ : Addr).add 0 = ⟨b, 0, none⟩ := by simp [Addr.add]
theorem one_byte (w : World) (c : UInt8) (z : Int) (hz : z = (c.toNat : Int)) :
    (convert 52 9 (.slice (some ⟨w.heap.size, 0, none⟩) 1 1)).run Tryz.prog (w.alloc (.cells #[.int .u8 z] 5)) =
      .ok (.string (strOf [c])) (w.alloc (.cells #[.int .u8 z] 5)) := by
  subst hz
  refine run_convert_bytes_back (P := Tryz.prog) _ _ _ 5 ⟨w.heap.size, 0, none⟩ 1 [c] Tryz.underlying52 Tryz.underlying5 Tryz.underlying9 ?_
  intro j hj
  obtain rfl : j = 0 := by simpa using hj
  rw [add_zero', World.cell?_alloc_new]
  simp
theorem strOf_cons (c : UInt8) (l : List UInt8) : strOf [c] ++ strOf l = strOf (c :: l) := strOf_app _ _

/-- A text's bytes in new memory. -/
theorem str_bytes (w : World) (s : ByteArray) : ∃ c w', (convert 9 52 (.string s)).run Tryz.prog w = .ok (.slice (some ⟨w.heap.size, 0, none⟩) s.size c) w' ∧ Reads w' (w.heap.size + 1) 1 (some ⟨w.heap.size, 0, none⟩) s.size (byteCells s.data.toList) ∧ Below w.heap.size w w' ∧ w'.heap.size = w.heap.size + 1 := by
  refine ⟨_, _, Lib.run_convert_string_bytes w 9 52 5 s Tryz.underlying9 Tryz.underlying52 Tryz.underlying5, ⟨?_, fun _ => ⟨_, rfl, Nat.lt_succ_self _, fun j u hu => ?_⟩⟩, ⟨rfl, rfl, rfl, ?_, fun k hk => Lib.bytesWorld_at_old w _ s k hk⟩, Lib.bytesWorld_size w _ s⟩
  · rw [byteCells_length, ← size_list, Nat.mul_one]
  · simp only [byteCells, List.getElem?_map] at hu
    cases hj : s.data.toList[j]? with
    | none => rw [hj] at hu; cases hu
    | some c =>
      rw [hj] at hu
      have hlt : j < s.size := by rw [size_list]; exact (List.getElem?_eq_some_iff.1 hj).1
      have ha : (⟨w.heap.size, 0, none⟩ : Addr).add j = ⟨w.heap.size, j, none⟩ := by unfold Addr.add; split <;> simp_all
      rw [ha, Lib.bytesWorld_cell w _ s j hlt, List.getD_eq_getElem?_getD, hj]
      simpa using hu
  · rw [Lib.bytesWorld_size]; omega

set_option maxHeartbeats 1000000 in
set_option maxRecDepth 100000 in
theorem refnum_ok (k : Nat) (w : World) (hk : k ≤ 4611686018427387904) :
    Calls Tryz.prog 62 #[.int .i64 k] w fun e w' => e = .returned (.tuple #[.string (strOf (encN k)), .bool true]) ∧ Below w.heap.size w w' := by
  go_enter Tryz.func62, Tryz.ntmps62
  go_wp2
  go_loopw [0, 4] (fun a b wr => ∃ (m : Nat) (x : List UInt8), a = .int .i64 m ∧ b = .string (strOf x) ∧ m ≤ 4611686018427387904 ∧ x ++ encN m = encN k ∧ Below w.heap.size w wr) (fun a _ _ => (RowKit.intOf a).toNat)
  case atStart => exact ⟨k, [], rfl, rfl, hk, rfl, Below.refl _ _⟩
  case round =>
    obtain ⟨m, x, rfl, rfl, hm, he, hb⟩ := hrel
    have hxl : x.length ≤ 9 := by
      have := congrArg List.length he
      have h9 := encN_le9 hk
      simp at this; omega
    have HE := Lib.hid he
    have hs1 : (strOf x).size ≤ 9 := by rw [strOf_size]; exact hxl
    have hs2 : (strOf [dgtB m]).size ≤ 1 := by rw [strOf_size]; simp
    have hs3 : (strOf [dgtS m]).size ≤ 1 := by rw [strOf_size]; simp
    clear he hxl
    by_cases hlt : 128 ≤ m
    · have hcv := one_byte wr (dgtB m) ((m : Int) % 128 + 128) (by rw [dgtB, toNat_ofNat (by omega)]; simp)
      go_wp2_with fail
      go_roundw
      case rel =>
        refine ⟨m / 128, x ++ [dgtB m], by simp, by rw [strOf_app], by omega, ?_, hb.alloc hb.size _⟩
        rw [List.append_assoc, List.singleton_append]
        unfold dgtB
        rw [← encN_big hlt]; exact HE.out
      case measure => simp [intOf]; omega
    · have hcv := one_byte wr (dgtS m) (m : Int) (by rw [dgtS, toNat_ofNat (by omega)])
      go_wp2_with fail
      go_ret2
      have e : encN k = x ++ [dgtS m] := by rw [← HE.out, encN_small (by omega)]; rfl
      exact ⟨by rw [e, ← strOf_app]; rfl, hb.alloc hb.size _⟩
set_option maxHeartbeats 1000000 in
set_option maxRecDepth 100000 in
theorem refnum_bad (k : Int) (w : World) (hk : okN k = false) :
    Calls Tryz.prog 62 #[.int .i64 k] w fun e w' => e = .returned (.tuple #[.string ⟨#[]⟩, .bool false]) ∧ w = w' := by
  have h := okN_gt hk
  clear hk
  by_cases h0 : k < 0
  · go_enter Tryz.func62, Tryz.ntmps62
    go_wp2
    go_ret2
    exact ⟨rfl, rfl⟩
  · have h1 : 4611686018427387904 < k := by omega
    go_enter Tryz.func62, Tryz.ntmps62
    go_wp2
    go_ret2
    exact ⟨rfl, rfl⟩
set_option maxHeartbeats 1000000 in
set_option maxRecDepth 100000 in
theorem refN_ok (k : Nat) (w : World) (hk : k ≤ 4611686018427387904) :
    Calls Tryz.prog 29 #[.int .i64 k] w fun e w' => e = .returned (.string (strOf (encN k))) ∧ Below w.heap.size w w' := by
  go_enter Tryz.func29, Tryz.ntmps29
  go_wp2_with (go_at_call 62; refine (refnum_ok _ _ hk).mono ?_; rintro e w1 ⟨rfl, hb1⟩)
  go_ret
  exact ⟨rfl, hb1⟩
set_option maxHeartbeats 1000000 in
set_option maxRecDepth 100000 in
theorem refT_ok (s : ByteArray) (w : World) (hs : s.size ≤ 1000000000) :
    Calls Tryz.prog 63 #[.string s] w fun e w' => e = .returned (.string (strOf (encN s.size ++ s.data.toList))) ∧ Below w.heap.size w w' := by
  have hl : (strOf (encN s.size)).size ≤ 9 := by rw [strOf_size]; exact encN_le9 (by omega)
  go_enter Tryz.func63, Tryz.ntmps63
  go_wp2_with (go_at_call 29; refine (refN_ok _ _ (by omega)).mono ?_; rintro e w1 ⟨rfl, hb1⟩)
  go_ret
  exact ⟨by rw [← strOf_app, strOf_of]; rfl, hb1⟩
end Go.Proofs.YtgmejaiifibfoaaGreatDoor.L3
