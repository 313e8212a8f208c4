/-
  A state stays small: how many accounts and values, how long their texts. Plain.
-/
import Derived.Test.YthkgadjiiapfgaaGreatDoorRefDig
set_option linter.unusedSimpArgs false
set_option linter.unusedVariables false
set_option maxRecDepth 10000
namespace Go.Proofs.YthkgadjiiapfgaaGreatDoor
open Go.RowKit Go.Maps Go.Lib
open L2 (less)

structure Small (s : Stt) (a v : Nat) : Prop where
  la : s.A.length ≤ a
  lv : s.V.length ≤ v
  nm : ∀ x ∈ s.A, x.nm.length ≤ 1000
  vl : ∀ x ∈ s.V, x.who.length ≤ 1000 ∧ x.key.length ≤ 1000 ∧ x.val.length ≤ 1000
theorem mem_aputS {L : List Acc} {a x : Acc} (h : x ∈ putA L a) : x ∈ L ∨ x = a := by
  unfold putA at h
  rcases List.mem_append.1 h with e | e
  · exact .inl (List.mem_filter.1 e).1
  · exact .inr (List.mem_singleton.1 e)
theorem mem_vputS {L : List Vl} {a x : Vl} (h : x ∈ putV L a) : x ∈ L ∨ x = a := by
  unfold putV at h
  rcases List.mem_append.1 h with e | e
  · exact .inl (List.mem_filter.1 e).1
  · exact .inr (List.mem_singleton.1 e)
theorem Small.done {s : Stt} {a v : Nat} (h : Small s a v) (t : Txx) (hf : t.frm.length ≤ 1000) (ht : t.to.length ≤ 1000) (hk : t.key.length ≤ 1000) (hv : t.val.length ≤ 1000) : Small (doS s t) (a + 2) (v + 1) := by
  by_cases he : doE s t = 0
  · unfold doS
    rw [if_neg (by omega)]
    split
    · refine ⟨?_, Nat.le_succ_of_le h.lv, fun x hx => ?_, h.vl⟩
      · have h1 := put_len s.A ⟨t.frm, (ofA s.A t.frm).am - t.amount, (ofA s.A t.frm).no + 1⟩
        have h2 := put_len (payA s.A t) ⟨t.to, (ofA (payA s.A t) t.to).am + t.amount, (ofA (payA s.A t) t.to).no⟩
        have := h.la
        show (moveA s.A t).length ≤ a + 2
        unfold moveA
        unfold payA at h2 ⊢
        omega
      · have hx' : x ∈ moveA s.A t := hx
        unfold moveA at hx'
        rcases mem_aputS hx' with e | e
        · unfold payA at e
          rcases mem_aputS e with e | e
          · exact h.nm x e
          · rw [e]; exact hf
        · rw [e]; exact ht
    · refine ⟨?_, ?_, fun x hx => ?_, fun x hx => ?_⟩
      · have h1 := put_len s.A ⟨t.frm, (ofA s.A t.frm).am, (ofA s.A t.frm).no + 1⟩
        have := h.la
        show (putA _ _).length ≤ _
        omega
      · have h1 := putV_len s.V ⟨t.frm, t.key, t.val⟩
        have := h.lv
        show (putV _ _).length ≤ _
        omega
      · rcases mem_aputS hx with e | e
        · exact h.nm x e
        · rw [e]; exact hf
      · rcases mem_vputS hx with e | e
        · exact h.vl x e
        · rw [e]; exact ⟨hf, hk, hv⟩
  · rw [doS_no he]
    exact ⟨by have := h.la; omega, by have := h.lv; omega, h.nm, h.vl⟩
theorem sel_len {κ α : Type} [Inhabited α] (lt : κ → κ → Bool) (f : α → κ) : ∀ (n : Nat) (L : List α), (sel lt f n L).length ≤ n
  | 0, L => by simp [sel]
  | n + 1, L => by
    unfold sel
    split
    · simp
    · have := sel_len lt f n (L.eraseIdx (leastTo lt f L (L.length - 1)))
      simp only [List.length_cons]
      omega
theorem flat_small {α : Type} (f : α → List UInt8) (c : Nat) : ∀ L : List α, (∀ x ∈ L, (f x).length ≤ c) → (L.flatMap f).length ≤ L.length * c
  | [], _ => by simp
  | x :: L, h => by
    have := flat_small f c L fun y hy => h y (List.mem_cons_of_mem _ hy)
    have h0 := h x (List.mem_cons_self ..)
    rw [List.flatMap_cons, List.length_append, List.length_cons, Nat.add_mul]
    omega
theorem Small.text {s : Stt} {a v : Nat} (h : Small s a v) (hs : Sane s) (ha : a ≤ 1000) (hv : v ≤ 1000) : (digR less s).length ≤ 1000000000 := by
  have h1 : (((sel less Acc.nm s.A.length s.A).filter someA).flatMap lineA).length ≤ 1000 * 1100 := by
    refine Nat.le_trans (flat_small lineA 1100 _ fun x hx => ?_) (Nat.mul_le_mul_right _ ?_)
    · have hm := ((sel_facts lessOrd s.A.length s.A (Nat.le_refl _) hs.ok.1).2 x).1 (List.mem_filter.1 hx).1
      have hn := h.nm x hm
      have hf := hs.full x hm
      have hi := Lib.itoa_length_le x.am (by omega) (by have := hs.full.mem_le hm; have := hs.low; omega)
      have hj := Lib.itoa_length_le x.no (by omega) (by have := hs.nonce x hm; omega)
      unfold lineA
      simp only [List.length_append, List.length_cons, List.length_nil]
      omega
    · refine Nat.le_trans (List.length_filter_le _ _) (Nat.le_trans (sel_len _ _ _ _) ?_)
      have := h.la
      omega
  have h2 : (((sel (lt2 less) keyV s.V.length s.V).filter someV).flatMap lineV).length ≤ 1000 * 3100 := by
    refine Nat.le_trans (flat_small lineV 3100 _ fun x hx => ?_) (Nat.mul_le_mul_right _ ?_)
    · have hm := ((sel_facts (ordered2 lessOrd) s.V.length s.V (Nat.le_refl _) hs.ok.2).2 x).1 (List.mem_filter.1 hx).1
      have hn := h.vl x hm
      unfold lineV
      simp only [List.length_append, List.length_cons, List.length_nil]
      omega
    · refine Nat.le_trans (List.length_filter_le _ _) (Nat.le_trans (sel_len _ _ _ _) ?_)
      have := h.lv
      omega
  unfold digR
  rw [List.length_append]
  omega
end Go.Proofs.YthkgadjiiapfgaaGreatDoor
