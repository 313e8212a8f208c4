import Derived.Test.YtomaaidhmccngaaGreatDoorD1
import Derived.Test.YtomaaidhmccngaaGreatDoorCheckT
set_option linter.unusedSimpArgs false
set_option linter.unusedVariables false
set_option maxRecDepth 100000
set_option maxHeartbeats 16000000
namespace Go.Proofs.YtomaaidhmccngaaGreatDoor
open Go.RowKit Go.Maps Go.Lib
open L3 (Blk Reads numS failS rdN mostS mostV textS textV doneV)
open L11 (wpList_store_row qac below_setRow)
def rC (l : List UInt8) (E : Int) : Array Value := #[.string (str l), .int .i64 E]
def zC : Array Value := #[.string ⟨#[]⟩, .int .i64 0]
theorem rInfo (l : List UInt8) (E : Int) : (Tryz.prog.info? 172).map (·.size) = some (rC l E).size := by kernel_rfl
theorem qap (l : List UInt8) (E : Int) : (rC l E).all (·.oneCell') = true := by kernel_rfl
theorem build_rE (E : Int) (w : World) : (Instr.build 172 #[(1, .int .i64 E)]).run Tryz.prog w = .ok (.agg (rC [] E)) w := run_build w _ _ _ (by kernel_rfl)
theorem qgl (l : List UInt8) (w : World) : (Instr.build 172 #[(0, .string (str l))]).run Tryz.prog w = .ok (.agg (rC l 0)) w := run_build w _ _ _ (by kernel_rfl)
def okE (E : Int) (p : List UInt8 × Int) : Prop := (E = 0 ↔ p.2 = 0) /\ invS p /\ p.1.length <= 1000000
theorem ql5 (e : Int) (p : List UInt8 × Int) : (failS e p).1.length <= p.1.length := by unfold L3.failS; split <;> simp
def leads (f : Int -> Value) (p : List UInt8 × Int) (w : World) (e : Ending) (w' : World) : Prop := ∃ E, e = .returned (f E) /\ okE E p /\ Below w.heap.size w w'
theorem okE.dead {E : Int} {p : List UInt8 × Int} (h : okE E p) (he : E ≠ 0) : deadS p := by
 have : p.2 ≠ 0 := fun h2 => he (h.1.2 h2)
 exact ⟨this, h.2.1 this⟩
theorem okE.alive {E : Int} {p : List UInt8 × Int} (h : okE E p) (he : E = 0) : p.2 = 0 := h.1.1 he
theorem okE.fail {E : Int} {p : List UInt8 × Int} (h : okE E p) (e2 : Int) : okE (failS e2 (p.1, E)).2 (failS e2 p) /\ (failS e2 (p.1, E)).1 = (failS e2 p).1 := by
 refine ⟨⟨?_, qbO _ h.2.1, Nat.le_trans (ql5 _ _) h.2.2⟩, ?_⟩
 ·unfold L3.failS
  dsimp only
  by_cases h1 : E = 0
  ·have h2 := h.alive h1
   by_cases h3 : e2 = 0
   ·rw [if_pos (.inr h3), if_pos (.inr h3)]; exact h.1
   ·rw [if_neg (by rintro (h4 | h4) <;> contradiction), if_neg (by rintro (h4 | h4) <;> contradiction)]
  ·have h2 := (h.dead h1).1
   rw [if_pos (.inl h1), if_pos (.inl h2)]
   exact h.1
 ·unfold L3.failS
  dsimp only
  by_cases h1 : E = 0
  ·have h2 := h.alive h1
   by_cases h3 : e2 = 0
   ·rw [if_pos (.inr h3), if_pos (.inr h3)]
   ·rw [if_neg (by rintro (h4 | h4) <;> contradiction), if_neg (by rintro (h4 | h4) <;> contradiction)]
  ·have h2 := (h.dead h1).1
   rw [if_pos (.inl h1), if_pos (.inl h2)]
theorem qau {P : Program} {fn : Func} {d k : Tmp} {ty : TypeId} (h : fn.results = #[.tmp k, .cell d ty]) (tmps : Array Value) (w : World) (g : Nat) (hx : tmps.getD d undef = .pointer (some ⟨g, 0, none⟩)) (v : Value) (hv : tmps.getD k undef = v) (t : TypeId) (cs : Array Value) (fr : Nat × Nat) (ds : TypeDesc)
 (hb : w.heap[g]? = some (.cells cs t fr)) (hu : P.underlying ty = some ds) (hd : (match ds with | .struct _ | .array _ _ => true | _ => false) = true) (hi : (P.info? ty).map (·.size) = some cs.size) : (results fn tmps).run P w = .ok (.tuple #[v, .agg cs]) w := by
 have hx' : tmps[d]?.getD undef = .pointer (some ⟨g, 0, none⟩) := by simpa using hx
 have hv' : tmps[k]?.getD undef = v := by simpa using hv
 simp [results, h, hx', hv', asAddr, run_loadVar_row w g t ty cs fr ds hb hu hd hi]
theorem qas {P : Program} {fn : Func} {d1 d2 : Tmp} {ty1 ty2 : TypeId} (h : fn.results = #[.cell d1 ty1, .cell d2 ty2]) (tmps : Array Value) (w : World) (g1 g2 : Nat) (hx1 : tmps.getD d1 undef = .pointer (some ⟨g1, 0, none⟩)) (hx2 : tmps.getD d2 undef = .pointer (some ⟨g2, 0, none⟩)) (t1 t2 : TypeId) (cs1 cs2 : Array Value) (fr1 fr2 : Nat × Nat) (ds1 ds2 : TypeDesc)
 (hb1 : w.heap[g1]? = some (.cells cs1 t1 fr1)) (hb2 : w.heap[g2]? = some (.cells cs2 t2 fr2)) (hu1 : P.underlying ty1 = some ds1) (hd1 : (match ds1 with | .struct _ | .array _ _ => true | _ => false) = true) (hi1 : (P.info? ty1).map (·.size) = some cs1.size) (hu2 : P.underlying ty2 = some ds2) (hd2 : (match ds2 with | .struct _ | .array _ _ => true | _ => false) = true) (hi2 : (P.info? ty2).map (·.size) = some cs2.size) :
 (results fn tmps).run P w = .ok (.tuple #[.agg cs1, .agg cs2]) w := by
 have hx1' : tmps[d1]?.getD undef = .pointer (some ⟨g1, 0, none⟩) := by simpa using hx1
 have hx2' : tmps[d2]?.getD undef = .pointer (some ⟨g2, 0, none⟩) := by simpa using hx2
 simp [results, h, hx1', hx2', asAddr, run_loadVar_row w g1 t1 ty1 cs1 fr1 ds1 hb1 hu1 hd1 hi1, run_loadVar_row w g2 t2 ty2 cs2 fr2 ds2 hb2 hu2 hd2 hi2]
theorem qcv (w : World) (t u : TypeId) (x y : Array Value) : Blk ((w.alloc (.cells x t)).alloc (.cells y u)) w.heap.size t x /\ Blk ((w.alloc (.cells x t)).alloc (.cells y u)) (w.heap.size + 1) u y /\ Below w.heap.size w ((w.alloc (.cells x t)).alloc (.cells y u)) := by
 have hb : Below w.heap.size w (w.alloc (.cells x t)) := (Below.refl _ w).alloc (Nat.le_refl _) _
 refine ⟨(Blk.new w _ _).alloc _, ?_, hb.alloc hb.size _⟩
 have := Blk.new (w.alloc (.cells x t)) u y
 simpa using this
theorem qh6 (l : List UInt8) (E e2 : Int) (w : World) : Calls Tryz.prog 169 #[.agg (rC l E), .int .i64 e2] w (gives (.agg (rC (failS e2 (l, E)).1 (failS e2 (l, E)).2)) w) := by
 have Z := hid (qcv w 172 172 (rC l E) zC)
 by_cases h1 : E = 0
 ·by_cases h2 : e2 = 0
  ·have hF : failS e2 (l, E) = (l, E) := by unfold L3.failS; rw [if_pos (.inr h2)]
   rw [hF]
   subst h1
   subst h2
   clear hF
   go_enter Tryz.func169, Tryz.ntmps169
   go_upto_region 1 with fail
   refine qab (fun w0 hw0 => ?_)
   have hZ := Z.out
   have hZ' : Blk w0 w.heap.size 172 (rC l 0) /\ Blk w0 (w.heap.size + 1) 172 zC /\ Below w.heap.size w w0 := by rw [hw0]; exact hZ
   clear hw0 hZ Z
   obtain ⟨k1, k2, hb⟩ := hZ'
   have c1 : w0.cell? ⟨w.heap.size, 1, none⟩ = some (.int .i64 0) := k1.cell 1
   go_wp2_with (first
    | (refine qaa rfl _ _ rfl w.heap.size rfl _ _ _ _ k1 Tryz.underlying172 rfl (rInfo _ _) ?_)
    | (refine wpList_store_row rfl _ _ _ rfl (w.heap.size + 1) (rC l 0) rfl rfl _ _ k2 (rInfo _ _) rfl (qap _ _) ?_))
   (try simp only [Exit.inBlock, Exit.then])
   refine bodyPost_ret (v := .agg (rC l 0)) (L11.qan rfl _ _ (w.heap.size + 1) rfl _ (rC l 0) _ _ (qac k2) Tryz.underlying172 rfl (rInfo _ _)) rfl ?_
   exact ⟨rfl, below_setRow hb (Nat.le_succ _)⟩
  ·have hF : failS e2 (l, E) = ([], e2) := by unfold L3.failS; rw [if_neg (by rintro (h4 | h4) <;> contradiction)]
   rw [hF]
   subst h1
   have h3 : (e2 == 0) = false := by simpa using h2
   clear hF h2
   go_enter Tryz.func169, Tryz.ntmps169
   go_upto_region 1 with fail
   refine qab (fun w0 hw0 => ?_)
   have hZ := Z.out
   have hZ' : Blk w0 w.heap.size 172 (rC l 0) /\ Blk w0 (w.heap.size + 1) 172 zC /\ Below w.heap.size w w0 := by rw [hw0]; exact hZ
   clear hw0 hZ Z
   obtain ⟨k1, k2, hb⟩ := hZ'
   have c1 : w0.cell? ⟨w.heap.size, 1, none⟩ = some (.int .i64 0) := k1.cell 1
   go_wp2_with (first
    | (refine wpList_build rfl _ _ rfl #[(1, .int .i64 e2)] rfl (build_rE _ _) ?_)
    | (refine wpList_store_row rfl _ _ _ rfl (w.heap.size + 1) (rC [] e2) rfl rfl _ _ k2 (rInfo _ _) rfl (qap _ _) ?_))
   (try simp only [Exit.inBlock, Exit.then])
   refine bodyPost_ret (v := .agg (rC [] e2)) (L11.qan rfl _ _ (w.heap.size + 1) rfl _ (rC [] e2) _ _ (qac k2) Tryz.underlying172 rfl (rInfo _ _)) rfl ?_
   exact ⟨rfl, below_setRow hb (Nat.le_succ _)⟩
 ·have hF : failS e2 (l, E) = (l, E) := by unfold L3.failS; rw [if_pos (.inl h1)]
  rw [hF]
  have h3 : (E != 0) = true := by simpa using h1
  clear hF h1
  go_enter Tryz.func169, Tryz.ntmps169
  go_upto_region 1 with fail
  refine qab (fun w0 hw0 => ?_)
  have hZ := Z.out
  have hZ' : Blk w0 w.heap.size 172 (rC l E) /\ Blk w0 (w.heap.size + 1) 172 zC /\ Below w.heap.size w w0 := by rw [hw0]; exact hZ
  clear hw0 hZ Z
  obtain ⟨k1, k2, hb⟩ := hZ'
  have c1 : w0.cell? ⟨w.heap.size, 1, none⟩ = some (.int .i64 E) := k1.cell 1
  go_wp2_with (first
   | (refine qaa rfl _ _ rfl w.heap.size rfl _ _ _ _ k1 Tryz.underlying172 rfl (rInfo _ _) ?_)
   | (refine wpList_store_row rfl _ _ _ rfl (w.heap.size + 1) (rC l E) rfl rfl _ _ k2 (rInfo _ _) rfl (qap _ _) ?_))
  (try simp only [Exit.inBlock, Exit.then])
  refine bodyPost_ret (v := .agg (rC l E)) (L11.qan rfl _ _ (w.heap.size + 1) rfl _ (rC l E) _ _ (qac k2) Tryz.underlying172 rfl (rInfo _ _)) rfl ?_
  exact ⟨rfl, below_setRow hb (Nat.le_succ _)⟩
theorem qbi (p : List UInt8 × Int) (E e2 : Int) (w : World) (h : okE E p) : Calls Tryz.prog 169 #[.agg (rC p.1 E), .int .i64 e2] w (leads (fun E' => .agg (rC (failS e2 p).1 E')) (failS e2 p) w) := by
 refine (qh6 p.1 E e2 w).mono ?_
 rintro e w' ⟨rfl, hb⟩
 obtain ⟨h1, h2⟩ := h.fail e2
 exact ⟨_, by rw [h2], h1, hb⟩
end Go.Proofs.YtomaaidhmccngaaGreatDoor
namespace Go.Proofs.YtomaaidhmccngaaGreatDoor
open Go.RowKit Go.Maps Go.Lib
open L3 (Blk Reads numS failS rdN mostS mostV textS textV doneV)
open L11 (wpList_store_row qac below_setRow qah)
theorem rd_more {l : List UInt8} {k a : Nat} (h : rdN 0 0 l = rdN k a (l.drop k)) (hk : k < l.length) (h9 : k <= 8) (hc : 128 <= l[k].toNat) : rdN 0 0 l = rdN (k + 1) (a + l[k].toNat % 128 * 128 ^ k) (l.drop (k + 1)) := by
 rw [h, List.drop_eq_getElem_cons hk, L3.rdN, if_neg (by omega), if_pos hc]
theorem rd_end {l : List UInt8} {k a : Nat} (h : rdN 0 0 l = rdN k a (l.drop k)) (hk : k = l.length) : rdN 0 0 l = (0, 0, 30) := by
 rw [h, hk, List.drop_length]
 rfl
theorem rd_nine {l : List UInt8} {k a : Nat} (h : rdN 0 0 l = rdN k a (l.drop k)) (hk : k < l.length) (h8 : k = 8) (hb : 128 <= l[k].toNat ∨ 64 < l[k].toNat % 128 ∨ (l[k].toNat % 128 = 64 /\ 0 < a)) : (rdN 0 0 l).1 = 0 /\ (rdN 0 0 l).2.2 ≠ 0 := by
 subst h8
 have e : rdN 0 0 l = (0, 0, 30) ∨ rdN 0 0 l = (0, 0, 31) := by
  rw [h, List.drop_eq_getElem_cons hk, L3.rdN, if_neg (by omega)]
  by_cases hc : 128 <= l[8].toNat
  ·rw [if_pos hc]
   cases hd : l.drop (8 + 1) with
   | nil => left; rfl
   | cons c m => right; rw [L3.rdN, if_pos rfl]
  ·rw [if_neg hc]
   have hm : l[8].toNat % 128 = l[8].toNat := Nat.mod_eq_of_lt (by omega)
   have hp : (128 : Nat) ^ 8 = 72057594037927936 := by decide
   right
   rw [if_pos]
   right
   rw [hp]
   rw [hm] at hb
   rcases hb with hb | hb | hb <;> omega
 rcases e with e | e <;> rw [e] <;> exact ⟨rfl, by decide⟩
theorem rd_zero {l : List UInt8} {k a : Nat} (h : rdN 0 0 l = rdN k a (l.drop k)) (hk : k < l.length) (h9 : k <= 8) (hc : l[k].toNat = 0) (h0 : 0 < k) : rdN 0 0 l = (0, 0, 31) := by
 rw [h, List.drop_eq_getElem_cons hk, L3.rdN, if_neg (by omega), if_neg (by omega), if_pos (.inl ⟨hc, h0⟩)]
theorem rd_last {l : List UInt8} {k a : Nat} (h : rdN 0 0 l = rdN k a (l.drop k)) (hk : k < l.length) (h9 : k <= 8) (hc : l[k].toNat < 128) (h0 : ¬ (l[k].toNat = 0 /\ 0 < k)) (ha : a < 128 ^ k) (h8 : k = 8 -> l[k].toNat <= 64 /\ (l[k].toNat = 64 -> a = 0)) :
 rdN 0 0 l = (a + l[k].toNat * 128 ^ k, k + 1, 0) /\ a + l[k].toNat * 128 ^ k <= 4611686018427387904 := by
 have hle : a + l[k].toNat * 128 ^ k <= 4611686018427387904 := by
  by_cases h88 : k = 8
  ·have := h8 h88
   subst h88
   have hp : (128 : Nat) ^ 8 = 72057594037927936 := by decide
   rw [hp] at ha ⊢
   by_cases h64 : l[8].toNat = 64
   ·have := this.2 h64; omega
   ·omega
  ·have h7 : 128 ^ k <= 128 ^ 7 := Nat.pow_le_pow_right (by omega) (by omega)
   have hp : (128 : Nat) ^ 7 = 562949953421312 := by decide
   have : l[k].toNat * 128 ^ k <= 127 * 562949953421312 := Nat.mul_le_mul (by omega) (by omega)
   omega
 refine ⟨?_, hle⟩
 rw [h, List.drop_eq_getElem_cons hk, L3.rdN, if_neg (by omega), if_neg (by omega), if_neg (by rintro (h1 | h1); exact h0 h1; omega)]
theorem numV_of {l : List UInt8} {e : Int} {k s : Nat} (h : rdN 0 0 l = (k, s, 0)) : numV (l, e) = (k : Int) /\ numS (l, e) = (l.drop s, e) := by
 unfold numV L3.numS
 dsimp only
 rw [h]
 exact ⟨rfl, by rw [if_pos rfl]⟩
theorem numV_no {l : List UInt8} (h : (rdN 0 0 l).1 = 0 /\ (rdN 0 0 l).2.2 ≠ 0) : numV (l, 0) = 0 /\ deadS (numS (l, 0)) := by
 unfold numV L3.numS
 dsimp only
 rw [h.1, if_neg (by exact_mod_cast h.2)]
 exact ⟨rfl, qc3 (fun h => absurd rfl h) (by exact_mod_cast h.2)⟩
def numP (p : List UInt8 × Int) (w : World) (e : Ending) (w' : World) : Prop := leads (fun E => .tuple #[.int .i64 (numV p), .agg (rC (numS p).1 E)]) (numS p) w e w'
theorem okE_dead {p : List UInt8 × Int} (h : deadS p) {E : Int} (hE : E ≠ 0) : okE E p := ⟨⟨fun h1 => absurd h1 hE, fun h1 => absurd h1 h.1⟩, h.inv, by rw [h.2]; simp⟩
structure RdAt3 (w : World) (l : List UInt8) (E : Int) (W : World) : Prop where
 k1 : Blk W w.heap.size 172 (rC l E)
 k2 : Blk W (w.heap.size + 1) 172 zC
 bw : Below w.heap.size w W
theorem RdAt3.below {w W W' : World} {l : List UInt8} {E : Int} (h : RdAt3 w l E W) (hb : Below W.heap.size W W') : RdAt3 w l E W' := ⟨h.k1.below hb h.k1.lt, h.k2.below hb h.k2.lt, nxt h.bw hb⟩
theorem qfX {w w0 : World} {l : List UInt8} {E : Int} (h : Blk w0 w.heap.size 172 (rC l E) /\ Blk w0 (w.heap.size + 1) 172 zC /\ Below w.heap.size w w0) : RdAt3 w l E w0 := ⟨h.1, h.2.1, h.2.2⟩
theorem qmm (p : List UInt8 × Int) (E : Int) (w : World) (h : okE E p) (he : E ≠ 0) : Calls Tryz.prog 165 #[.agg (rC p.1 E)] w (numP p w) := by
 have hd := h.dead he
 obtain ⟨v1, v2⟩ := qhy hd
 unfold numP leads
 rw [v1, v2]
 have HO := hid h
 have Z := hid (fun z => qcv w 172 172 (rC p.1 E) z)
 obtain ⟨l, hl⟩ := nm (p.1)
 rw [<- hl] at Z ⊢
 have h3 : (E != 0) = true := by simpa using he
 clear hl h hd v1 v2 he
 go_enter Tryz.func165, Tryz.ntmps165
 go_upto_region 1 with fail
 refine qab (fun w0 hw0 => ?_)
 have hA : RdAt3 w l E w0 := qfX (by rw [hw0]; exact Z.out zC)
 clear hw0 Z
 have c1 : w0.cell? ⟨w.heap.size, 1, none⟩ = some (.int .i64 E) := hA.k1.cell 1
 go_upto_region 2 with fail
 clear c1
 have hAd := hA.below (Below.refl _ w0).drew
 obtain ⟨wd, hwd⟩ := nm (w0.drew)
 rw [<- hwd] at hAd
 refine qak (fun W => Blk W w.heap.size 172 (rC l E)) [0, 1] (by kernel_rfl) ?_
 rw [<- hwd]
 refine qar (f := 1) (by kernel_rfl) (fun _ x _ _ _ h => by cases x <;> exact h) hAd.k1 [0, 1] _ _ (by kernel_rfl) (by kernel_rfl) (by kernel_rfl) ?_
 have ne : Nonempty (qad (fun W => Blk W w.heap.size 172 (rC l E))) := ⟨⟨_, hAd.k1⟩⟩
 conv => arg 5; simp [pick]
 refine qam rfl _ _ rfl w.heap.size rfl _ _ _ _ (fun y => y.h) Tryz.underlying172 rfl (rInfo _ _) ?_
 conv => arg 6; simp only [Act.put, sA, sB, sC]
 go_big_quiet_step (fail)
 refine wpQuiet_nil ?_
 clear ne
 refine qag 2 (by kernel_rfl) rfl ?_
 go_wp2_with (refine wpList_store_row rfl _ _ _ rfl (w.heap.size + 1) (rC l E) rfl rfl _ _ hAd.k2 (rInfo _ _) rfl (qap _ _) ?_)
 refine stepQ.mk ⟨fun _ => qah hAd.k1 (by omega), ?_⟩
 refine qaq [] _ _ _ (by kernel_rfl) ?_
 conv => arg 4; simp [pick]
 go_wp2_with fail
 (try simp only [Exit.inBlock, Exit.then, Act.put])
 refine bodyPost_ret (v := .tuple #[.int .i64 0, .agg (rC l E)]) (qau rfl _ _ (w.heap.size + 1) rfl (.int .i64 0) rfl _ (rC l E) _ _ (qac hAd.k2) Tryz.underlying172 rfl (rInfo _ _)) rfl ?_
 exact ⟨E, rfl, HO.out, below_setRow hAd.bw (Nat.le_succ _)⟩
theorem extract_drop (l : List UInt8) (a : Nat) : (str l).extract a l.length = str (l.drop a) := by
 apply ByteArray.ext
 apply Array.ext'
 unfold str
 simp [List.extract_eq_take_drop]
 exact List.take_of_length_le (by simp)
theorem wrap_mul {d pk dp : Nat} (hd : d < 128) (hp : pk <= 72057594037927936) (h : dp = d * pk) : wrap64 ((d : Int) * (pk : Int)) = (dp : Int) := by
 have e : (d : Int) * (pk : Int) = ((d * pk : Nat) : Int) := by rw [Int.natCast_mul]
 have h2 : d * pk <= 127 * pk := Nat.mul_le_mul_right _ (by omega)
 rw [e, <- h]
 unfold wrap64
 omega
theorem wrap_add {d pk dp n v : Nat} (hd : d < 128) (hp : pk <= 72057594037927936) (h : dp = d * pk) (hn : n < pk) (hv : v = n + dp) : wrap64 ((n : Int) + (dp : Int)) = (v : Int) := by
 have h2 : d * pk <= 127 * pk := Nat.mul_le_mul_right _ (by omega)
 unfold wrap64
 omega
theorem wrap_pow {k pk pk1 : Nat} (h : pk = 128 ^ k) (h1 : pk1 = 128 ^ (k + 1)) (hk : k <= 7) : wrap64 ((pk : Int) * 128) = (pk1 : Int) := by
 have h7 : 128 ^ k <= 128 ^ 7 := Nat.pow_le_pow_right (by omega) hk
 have hp : (128 : Nat) ^ 7 = 562949953421312 := by decide
 have e : pk1 = pk * 128 := by rw [h1, h, Nat.pow_succ]
 rw [hp] at h7
 rw [<- h] at h7
 unfold wrap64
 omega
theorem numP_of {l : List UInt8} {w : World} {a s : Nat} (h : rdN 0 0 l = (a, s, 0)) {e : Ending} {w' : World} (he : e = .returned (.tuple #[.int .i64 (a : Int), .agg (rC (l.drop s) 0)])) (hb : Below w.heap.size w w') (hl : l.length <= 1000000) : numP (l, 0) w e w' := by
 obtain ⟨h1, h2⟩ := numV_of (e := 0) h
 unfold numP
 rw [h1, h2]
 exact ⟨0, he, ⟨Iff.rfl, fun h3 => absurd rfl h3, by show (l.drop s).length <= _; rw [List.length_drop]; omega⟩, hb⟩
theorem qi1 {l : List UInt8} {w : World} (h : (rdN 0 0 l).1 = 0 /\ (rdN 0 0 l).2.2 ≠ 0) {E : Int} (hE : E ≠ 0) {e : Ending} {w' : World} (he : e = .returned (.tuple #[.int .i64 0, .agg (rC [] E)])) (hb : Below w.heap.size w w') : numP (l, 0) w e w' := by
 obtain ⟨h1, h2⟩ := numV_no h
 unfold numP
 rw [h1, h2.2]
 exact ⟨E, he, okE_dead h2 hE, hb⟩
theorem fail_new {l : List UInt8} {e2 : Int} (h : e2 ≠ 0) : failS e2 (l, 0) = ([], e2) := by unfold L3.failS; rw [if_neg (by rintro (h4 | h4); exact h4 rfl; exact h h4)]
theorem qk0 (l : List UInt8) (w : World) (hl : l.length <= 1000000) : Calls Tryz.prog 165 #[.agg (rC l 0)] w (numP (l, 0) w) := by
 have Z := hid (fun z => qcv w 172 172 (rC l 0) z)
 have hF := fun e2 (h2 : e2 ≠ 0) W => (by have := qh6 l 0 e2 W; rw [fail_new h2] at this; exact this : Calls Tryz.prog 169 #[.agg (rC l 0), .int .i64 e2] W (gives (.agg (rC [] e2)) W))
 have HF30 := hid (hF 30 (by decide))
 have HF31 := hid (hF 31 (by decide))
 have hsz := qa4 l
 obtain ⟨s, hs⟩ := nm (str l)
 have HG := hid (fun (k : Nat) (h : k < l.length) (h' : k < s.size) => show s[k] = l[k] by subst hs; rfl)
 have HS := hid hs
 rw [<- hs] at hsz
 have hrc : rC l 0 = #[.string s, .int .i64 0] := by rw [hs]; rfl
 have HRC := hid hrc
 clear hF hs
 go_enter Tryz.func165, Tryz.ntmps165
 go_upto_region 1 with fail
 refine qab (fun w0 hw0 => ?_)
 have hA : RdAt3 w l 0 w0 := qfX (by have z := Z.out zC; rw [hrc] at z ⊢; rw [hw0]; exact z)
 clear hw0 Z
 have c1 : w0.cell? ⟨w.heap.size, 1, none⟩ = some (.int .i64 0) := hA.k1.cell 1
 have c0 : w0.cell? ⟨w.heap.size, 0, none⟩ = some (.string s) := by have := hA.k1.cell 0; rw [hrc] at this; exact this
 have HA := hid hA
 clear hA hrc
 go_wp2
 clear c1
 go_loop [4, 5, 6] (fun a b i => ∃ k n : Nat, a = .int .i64 n /\ b = .int .i64 ((128 ^ k : Nat) : Int) /\ i = .int .i64 k /\ k <= 8 /\ k <= s.size /\ Hid (n < 128 ^ k /\ rdN 0 0 l = rdN k n (l.drop k))) (fun _ _ i => 9 - (RowKit.intOf i).toNat)
 case atStart => exact ⟨0, 0, rfl, rfl, rfl, by omega, Nat.zero_le _, hid ⟨by decide, rfl⟩⟩
 case round =>
  obtain ⟨k, n, rfl, rfl, rfl, hk8, hks, hr⟩ := hrel
  by_cases hlt : k < s.size
  case neg =>
   have hk : ((k : Int) == (s.size : Int)) = true := by simp; omega
   have hR := hid (rd_end hr.out.2 (by omega))
   clear hr hlt
   go_wp2_with (first
    | (refine qaa rfl _ _ rfl w.heap.size rfl _ _ _ _ HA.out.k1 Tryz.underlying172 rfl (rInfo _ _) ?_)
    | (go_at_call 169; refine (HF30.out _).mono ?_; unfold gives; rintro e w1 ⟨rfl, hb1⟩
       have hA1 := HA.out.below hb1)
    | (refine wpList_store_row rfl _ _ _ rfl (w.heap.size + 1) (rC [] 30) rfl rfl _ _ hA1.k2 (rInfo _ _) rfl (qap _ _) ?_))
   (try simp only [Exit.inBlock, Exit.then, Act.put])
   refine bodyPost_ret (v := .tuple #[.int .i64 0, .agg (rC [] 30)]) (qau rfl _ _ (w.heap.size + 1) rfl (.int .i64 0) rfl _ (rC [] 30) _ _ (qac hA1.k2) Tryz.underlying172 rfl (rInfo _ _)) rfl ?_
   exact qi1 (by rw [hR.out]; exact ⟨rfl, by decide⟩) (by decide) rfl (below_setRow hA1.bw (Nat.le_succ _))
  have hk : ((k : Int) == (s.size : Int)) = false := by simp; omega
  have hkl : k < l.length := by omega
  obtain ⟨m, hm⟩ := nm (l[k].toNat)
  have hgm : s[k].toNat = m := by rw [HG.out k hkl hlt, hm]
  have hm256 : m < 256 := by rw [hm]; exact UInt8.toNat_lt _
  obtain ⟨d, hd⟩ := nm (m % 128)
  have hd128 : d < 128 := by omega
  have hw : wrap64 (m : Int) = (m : Int) := by unfold wrap64; omega
  have ht : (m : Int).tmod 128 = (d : Int) := by rw [Int.tmod_eq_emod_of_nonneg (by omega), hd]; omega
  have HM := hid (And.intro hm hd)
  clear hm hd
  by_cases hB : k = 8 /\ (128 <= m ∨ 64 < d ∨ (d = 64 /\ 0 < n))
  ·have hR := hid (rd_nine hr.out.2 hkl hB.1 (by have h1 := HM.out.1; have h2 := HM.out.2; rw [<- h1, <- h2]; exact hB.2))
   have e8 : ((k : Int) == 8) = true := by simp; omega
   have hB2 := hB.2
   clear hB hr
   have hfin : ∀ (W : World), RdAt3 w l 0 W -> numP (l, 0) w (.returned (.tuple #[.int .i64 0, .agg (rC [] 31)])) (W.setRow (w.heap.size + 1) (rC [] 31)) := fun W h => qi1 hR.out (by decide) rfl (below_setRow h.bw (Nat.le_succ _))
   by_cases h1 : 64 < d
   ·clear hB2
    go_wp2_with (first
     | (refine qaa rfl _ _ rfl w.heap.size rfl _ _ _ _ HA.out.k1 Tryz.underlying172 rfl (rInfo _ _) ?_)
     | (go_at_call 169; refine (HF31.out _).mono ?_; unfold gives; rintro e w1 ⟨rfl, hb1⟩
        have hA1 := HA.out.below hb1)
     | (refine wpList_store_row rfl _ _ _ rfl (w.heap.size + 1) (rC [] 31) rfl rfl _ _ hA1.k2 (rInfo _ _) rfl (qap _ _) ?_))
    (try simp only [Exit.inBlock, Exit.then, Act.put])
    refine bodyPost_ret (v := .tuple #[.int .i64 0, .agg (rC [] 31)]) (qau rfl _ _ (w.heap.size + 1) rfl (.int .i64 0) rfl _ (rC [] 31) _ _ (qac hA1.k2) Tryz.underlying172 rfl (rInfo _ _)) rfl ?_
    exact hfin _ hA1
   by_cases h2 : d = 64
   ·have e64 : ((d : Int) == 64) = true := by simp; omega
    by_cases h3 : 0 < n
    ·clear hB2 h2
     go_wp2_with (first
      | (refine qaa rfl _ _ rfl w.heap.size rfl _ _ _ _ HA.out.k1 Tryz.underlying172 rfl (rInfo _ _) ?_)
      | (go_at_call 169; refine (HF31.out _).mono ?_; unfold gives; rintro e w1 ⟨rfl, hb1⟩
         have hA1 := HA.out.below hb1)
      | (refine wpList_store_row rfl _ _ _ rfl (w.heap.size + 1) (rC [] 31) rfl rfl _ _ hA1.k2 (rInfo _ _) rfl (qap _ _) ?_))
     (try simp only [Exit.inBlock, Exit.then, Act.put])
     refine bodyPost_ret (v := .tuple #[.int .i64 0, .agg (rC [] 31)]) (qau rfl _ _ (w.heap.size + 1) rfl (.int .i64 0) rfl _ (rC [] 31) _ _ (qac hA1.k2) Tryz.underlying172 rfl (rInfo _ _)) rfl ?_
     exact hfin _ hA1
    ·have hm1 : 128 <= m := by omega
     clear hB2 h2
     go_wp2_with (first
      | (refine qaa rfl _ _ rfl w.heap.size rfl _ _ _ _ HA.out.k1 Tryz.underlying172 rfl (rInfo _ _) ?_)
      | (go_at_call 169; refine (HF31.out _).mono ?_; unfold gives; rintro e w1 ⟨rfl, hb1⟩
         have hA1 := HA.out.below hb1)
      | (refine wpList_store_row rfl _ _ _ rfl (w.heap.size + 1) (rC [] 31) rfl rfl _ _ hA1.k2 (rInfo _ _) rfl (qap _ _) ?_))
     (try simp only [Exit.inBlock, Exit.then, Act.put])
     refine bodyPost_ret (v := .tuple #[.int .i64 0, .agg (rC [] 31)]) (qau rfl _ _ (w.heap.size + 1) rfl (.int .i64 0) rfl _ (rC [] 31) _ _ (qac hA1.k2) Tryz.underlying172 rfl (rInfo _ _)) rfl ?_
     exact hfin _ hA1
   ·have e64 : ((d : Int) == 64) = false := by simp; omega
    have hm1 : 128 <= m := by omega
    clear hB2 h2
    go_wp2_with (first
     | (refine qaa rfl _ _ rfl w.heap.size rfl _ _ _ _ HA.out.k1 Tryz.underlying172 rfl (rInfo _ _) ?_)
     | (go_at_call 169; refine (HF31.out _).mono ?_; unfold gives; rintro e w1 ⟨rfl, hb1⟩
        have hA1 := HA.out.below hb1)
     | (refine wpList_store_row rfl _ _ _ rfl (w.heap.size + 1) (rC [] 31) rfl rfl _ _ hA1.k2 (rInfo _ _) rfl (qap _ _) ?_))
    (try simp only [Exit.inBlock, Exit.then, Act.put])
    refine bodyPost_ret (v := .tuple #[.int .i64 0, .agg (rC [] 31)]) (qau rfl _ _ (w.heap.size + 1) rfl (.int .i64 0) rfl _ (rC [] 31) _ _ (qac hA1.k2) Tryz.underlying172 rfl (rInfo _ _)) rfl ?_
    exact hfin _ hA1
  obtain ⟨pk, hpk⟩ := nm (128 ^ k)
  have hnp : n < pk := by rw [hpk]; exact hr.out.1
  have hp8 : pk <= 72057594037927936 := by rw [hpk]; exact L3.qg5 hk8
  obtain ⟨dp, hdpe⟩ := nm (d * pk)
  obtain ⟨v, hv⟩ := nm (n + dp)
  have hw1 := wrap_mul hd128 hp8 hdpe
  have hw2 := wrap_add hd128 hp8 hdpe hnp hv
  have HV := hid (And.intro hpk (And.intro hdpe hv))
  rw [<- hpk]
  clear hpk hdpe hv
  have HB := hid hB
  by_cases hm1 : 128 <= m
  ·have hk7 : ¬ k = 8 := fun h => HB.out ⟨h, .inl hm1⟩
   have e8 : ((k : Int) == 8) = false := by simp; omega
   obtain ⟨pk1, hpk1⟩ := nm (128 ^ (k + 1))
   have hw3 := wrap_pow HV.out.1 hpk1 (show k <= 7 by omega)
   have HP1 := hid hpk1
   clear hpk1
   have HN := hid (show v < 128 ^ (k + 1) /\ rdN 0 0 l = rdN (k + 1) v (l.drop (k + 1)) by
    have h1 := HM.out.1
    have h2 := HM.out.2
    obtain ⟨p1, p2, p3⟩ := HV.out
    refine ⟨?_, ?_⟩
    ·rw [Nat.pow_succ, <- p1]
     have : d * pk <= 127 * pk := Nat.mul_le_mul_right _ (by omega)
     omega
    ·rw [rd_more hr.out.2 hkl hk8 (by rw [<- h1]; exact hm1), <- h1, <- h2, <- p1, <- p2, <- p3])
   clear hB hr hnp hp8
   go_wp2
   go_round
   case rel => exact ⟨k + 1, v, by rw [hw2], by rw [hw3, HP1.out], by go_num, by omega, by omega, HN⟩
   case measure => simp [RowKit.intOf]; omega
  have hmd : d = m := by have := HM.out.2; omega
  by_cases hz : d = 0 /\ 0 < k
  ·have hR := hid (rd_zero hr.out.2 hkl hk8 (by have h1 := HM.out.1; omega) hz.2)
   have hfin : ∀ (W : World), RdAt3 w l 0 W -> numP (l, 0) w (.returned (.tuple #[.int .i64 0, .agg (rC [] 31)])) (W.setRow (w.heap.size + 1) (rC [] 31)) := fun W h => qi1 (by rw [hR.out]; exact ⟨rfl, by decide⟩) (by decide) rfl (below_setRow h.bw (Nat.le_succ _))
   have e0 : ((d : Int) == 0) = true := by simp; omega
   have e64 : ((d : Int) == 64) = false := by simp; omega
   have h64 : ¬ 64 < d := by omega
   have hk0 := hz.2
   clear hz hr hB hmd
   by_cases hk88 : k = 8
   ·have e8 : ((k : Int) == 8) = true := by simp; omega
    clear hk88
    go_wp2_with (first
     | (refine qaa rfl _ _ rfl w.heap.size rfl _ _ _ _ HA.out.k1 Tryz.underlying172 rfl (rInfo _ _) ?_)
     | (go_at_call 169; refine (HF31.out _).mono ?_; unfold gives; rintro e w1 ⟨rfl, hb1⟩
        have hA1 := HA.out.below hb1)
     | (refine wpList_store_row rfl _ _ _ rfl (w.heap.size + 1) (rC [] 31) rfl rfl _ _ hA1.k2 (rInfo _ _) rfl (qap _ _) ?_))
    (try simp only [Exit.inBlock, Exit.then, Act.put])
    refine bodyPost_ret (v := .tuple #[.int .i64 0, .agg (rC [] 31)]) (qau rfl _ _ (w.heap.size + 1) rfl (.int .i64 0) rfl _ (rC [] 31) _ _ (qac hA1.k2) Tryz.underlying172 rfl (rInfo _ _)) rfl ?_
    exact hfin _ hA1
   ·have e8 : ((k : Int) == 8) = false := by simp; omega
    clear hk88
    go_wp2_with (first
     | (refine qaa rfl _ _ rfl w.heap.size rfl _ _ _ _ HA.out.k1 Tryz.underlying172 rfl (rInfo _ _) ?_)
     | (go_at_call 169; refine (HF31.out _).mono ?_; unfold gives; rintro e w1 ⟨rfl, hb1⟩
        have hA1 := HA.out.below hb1)
     | (refine wpList_store_row rfl _ _ _ rfl (w.heap.size + 1) (rC [] 31) rfl rfl _ _ hA1.k2 (rInfo _ _) rfl (qap _ _) ?_))
    (try simp only [Exit.inBlock, Exit.then, Act.put])
    refine bodyPost_ret (v := .tuple #[.int .i64 0, .agg (rC [] 31)]) (qau rfl _ _ (w.heap.size + 1) rfl (.int .i64 0) rfl _ (rC [] 31) _ _ (qac hA1.k2) Tryz.underlying172 rfl (rInfo _ _)) rfl ?_
    exact hfin _ hA1
  have hRL := rd_last hr.out.2 hkl hk8 (by have h1 := HM.out.1; omega) (by have h1 := HM.out.1; intro h; exact hz ⟨by omega, h.2⟩) hr.out.1 (fun h8 => by
   have h1 := HM.out.1
   refine ⟨?_, fun h64 => ?_⟩
   ·have : ¬ 64 < d := fun h => HB.out ⟨h8, .inr (.inl h)⟩
    omega
   ·have : ¬ (d = 64 /\ 0 < n) := fun h => HB.out ⟨h8, .inr (.inr h)⟩
    omega)
  have hRV : rdN 0 0 l = (v, k + 1, 0) := by
   obtain ⟨p1, p2, p3⟩ := HV.out
   have h1 := HM.out.1
   rw [hRL.1, <- h1, <- p1, p3, p2, hmd]
  have HRV := hid hRV
  have hret : ∀ (W : World), RdAt3 w l 0 W -> numP (l, 0) w (.returned (.tuple #[.int .i64 (v : Int), .agg (rC (l.drop (k + 1)) 0)])) (W.setRow (w.heap.size + 1) (rC (l.drop (k + 1)) 0)) := fun W h => numP_of HRV.out rfl (below_setRow h.bw (Nat.le_succ _)) hl
  have hst : ∀ (W : World) (cs : Array Value), RdAt3 w l 0 W -> Blk (W.setRow (w.heap.size + 1) cs) w.heap.size 172 (rC l 0) := fun W cs h => qah h.k1 (by omega)
  clear hRL hRV hr
  obtain ⟨t, ht'⟩ : ∃ t, t = str (l.drop (k + 1)) := ⟨_, rfl⟩
  have hex : s.extract (k + 1) l.length = t := by
   rw [HS.out, ht']; exact extract_drop l (k + 1)
  have hbt : ∀ W, (Instr.build 172 #[(0, .string t)]).run Tryz.prog W = .ok (.agg (rC (l.drop (k + 1)) 0)) W := fun W => by rw [ht']; exact qgl _ W
  have i2 : (0 : Int) <= (k : Int) + 1 := by omega
  have i3 : (k : Int) + 1 <= (s.size : Int) := by omega
  have i4 : IntKind.i64.wrap ((k : Int) + 1) = (k : Int) + 1 := IntWalk.i64_in _ (by omega)
  have HD := hid (And.intro hz (And.intro hmd hB))
  clear ht' hz hmd hB
  by_cases hd0 : d = 0
  ·have e0 : ((d : Int) == 0) = true := by simp; omega
   have e64 : ((d : Int) == 64) = false := by simp; omega
   have hk0 : ¬ 0 < k := fun h => HD.out.1 ⟨hd0, h⟩
   have e8 : ((k : Int) == 8) = false := by simp; omega
   clear hd0
   go_upto_region 17 with fail
   clear c0
   have hAd := HA.out.below (Below.refl _ w0).drew
   obtain ⟨wd, hwd⟩ := nm (w0.drew)
   rw [<- hwd] at hAd
   have c0 : ∀ y : qad (fun W => Blk W w.heap.size 172 (rC l 0)), y.w.cell? ⟨w.heap.size, 0, none⟩ = some (.string s) := fun y => (y.h.cell 0).trans (show (rC l 0)[0]? = some (.string s) by rw [HRC.out]; rfl)
   refine qak (fun W => Blk W w.heap.size 172 (rC l 0)) [0, 1, 2, 3, 4, 5, 6, 7] (by kernel_rfl) ?_
   rw [<- hwd]
   clear hwd
   refine qar (f := 1) (by kernel_rfl) (fun _ x _ _ _ h => by cases x <;> exact h) hAd.k1 [0, 1, 2, 3, 4, 5, 6, 7] _ _ (by kernel_rfl) (by kernel_rfl) (by kernel_rfl) ?_
   have ne : Nonempty (qad (fun W => Blk W w.heap.size 172 (rC l 0))) := ⟨⟨_, hAd.k1⟩⟩
   conv => arg 5; simp [pick]
   iterate 6 go_big_quiet_step (fail)
   refine qa5 rfl _ _ rfl #[(0, .string t)] rfl (v := .agg (rC (l.drop (k + 1)) 0)) (fun W => hbt W) ?_
   conv => arg 6; simp only [Act.put, sA, sB, sC]
   go_big_quiet_step (fail)
   refine wpQuiet_nil ?_
   clear ne c0
   refine qag 8 (by kernel_rfl) rfl ?_
   go_wp2_with (refine wpList_store_row rfl _ _ _ rfl (w.heap.size + 1) (rC (l.drop (k + 1)) 0) rfl rfl _ _ hAd.k2 (rInfo _ _) rfl (qap _ _) ?_)
   refine stepQ.mk ⟨fun _ => hst _ _ hAd, ?_⟩
   refine qaq [] _ _ _ (by kernel_rfl) ?_
   conv => arg 4; simp [pick]
   go_wp2_with fail
   (try simp only [Exit.inBlock, Exit.then, Act.put])
   refine bodyPost_ret (v := .tuple #[.int .i64 (v : Int), .agg (rC (l.drop (k + 1)) 0)]) (qau rfl _ _ (w.heap.size + 1) rfl (.int .i64 (v : Int)) rfl _ (rC (l.drop (k + 1)) 0) _ _ (qac hAd.k2) Tryz.underlying172 rfl (rInfo _ _)) rfl ?_
   exact hret _ hAd
  have e0 : ((d : Int) == 0) = false := by simp; omega
  clear hd0
  by_cases hk88 : k = 8
  ·have e8 : ((k : Int) == 8) = true := by simp; omega
   have h64 : ¬ 64 < d := fun h => HB.out ⟨hk88, .inr (.inl h)⟩
   by_cases hd64 : d = 64
   ·have e64 : ((d : Int) == 64) = true := by simp; omega
    have hn0 : ¬ 0 < n := fun h => HB.out ⟨hk88, .inr (.inr ⟨hd64, h⟩)⟩
    clear hk88 hd64
    go_upto_region 17 with fail
    clear c0
    have hAd := HA.out.below (Below.refl _ w0).drew
    obtain ⟨wd, hwd⟩ := nm (w0.drew)
    rw [<- hwd] at hAd
    have c0 : ∀ y : qad (fun W => Blk W w.heap.size 172 (rC l 0)), y.w.cell? ⟨w.heap.size, 0, none⟩ = some (.string s) := fun y => (y.h.cell 0).trans (show (rC l 0)[0]? = some (.string s) by rw [HRC.out]; rfl)
    refine qak (fun W => Blk W w.heap.size 172 (rC l 0)) [0, 1, 2, 3, 4, 5, 6, 7] (by kernel_rfl) ?_
    rw [<- hwd]
    clear hwd
    refine qar (f := 1) (by kernel_rfl) (fun _ x _ _ _ h => by cases x <;> exact h) hAd.k1 [0, 1, 2, 3, 4, 5, 6, 7] _ _ (by kernel_rfl) (by kernel_rfl) (by kernel_rfl) ?_
    have ne : Nonempty (qad (fun W => Blk W w.heap.size 172 (rC l 0))) := ⟨⟨_, hAd.k1⟩⟩
    conv => arg 5; simp [pick]
    iterate 6 go_big_quiet_step (fail)
    refine qa5 rfl _ _ rfl #[(0, .string t)] rfl (v := .agg (rC (l.drop (k + 1)) 0)) (fun W => hbt W) ?_
    conv => arg 6; simp only [Act.put, sA, sB, sC]
    go_big_quiet_step (fail)
    refine wpQuiet_nil ?_
    clear ne c0
    refine qag 8 (by kernel_rfl) rfl ?_
    go_wp2_with (refine wpList_store_row rfl _ _ _ rfl (w.heap.size + 1) (rC (l.drop (k + 1)) 0) rfl rfl _ _ hAd.k2 (rInfo _ _) rfl (qap _ _) ?_)
    refine stepQ.mk ⟨fun _ => hst _ _ hAd, ?_⟩
    refine qaq [] _ _ _ (by kernel_rfl) ?_
    conv => arg 4; simp [pick]
    go_wp2_with fail
    (try simp only [Exit.inBlock, Exit.then, Act.put])
    refine bodyPost_ret (v := .tuple #[.int .i64 (v : Int), .agg (rC (l.drop (k + 1)) 0)]) (qau rfl _ _ (w.heap.size + 1) rfl (.int .i64 (v : Int)) rfl _ (rC (l.drop (k + 1)) 0) _ _ (qac hAd.k2) Tryz.underlying172 rfl (rInfo _ _)) rfl ?_
    exact hret _ hAd
   ·have e64 : ((d : Int) == 64) = false := by simp; omega
    clear hk88 hd64
    go_upto_region 17 with fail
    clear c0
    have hAd := HA.out.below (Below.refl _ w0).drew
    obtain ⟨wd, hwd⟩ := nm (w0.drew)
    rw [<- hwd] at hAd
    have c0 : ∀ y : qad (fun W => Blk W w.heap.size 172 (rC l 0)), y.w.cell? ⟨w.heap.size, 0, none⟩ = some (.string s) := fun y => (y.h.cell 0).trans (show (rC l 0)[0]? = some (.string s) by rw [HRC.out]; rfl)
    refine qak (fun W => Blk W w.heap.size 172 (rC l 0)) [0, 1, 2, 3, 4, 5, 6, 7] (by kernel_rfl) ?_
    rw [<- hwd]
    clear hwd
    refine qar (f := 1) (by kernel_rfl) (fun _ x _ _ _ h => by cases x <;> exact h) hAd.k1 [0, 1, 2, 3, 4, 5, 6, 7] _ _ (by kernel_rfl) (by kernel_rfl) (by kernel_rfl) ?_
    have ne : Nonempty (qad (fun W => Blk W w.heap.size 172 (rC l 0))) := ⟨⟨_, hAd.k1⟩⟩
    conv => arg 5; simp [pick]
    iterate 6 go_big_quiet_step (fail)
    refine qa5 rfl _ _ rfl #[(0, .string t)] rfl (v := .agg (rC (l.drop (k + 1)) 0)) (fun W => hbt W) ?_
    conv => arg 6; simp only [Act.put, sA, sB, sC]
    go_big_quiet_step (fail)
    refine wpQuiet_nil ?_
    clear ne c0
    refine qag 8 (by kernel_rfl) rfl ?_
    go_wp2_with (refine wpList_store_row rfl _ _ _ rfl (w.heap.size + 1) (rC (l.drop (k + 1)) 0) rfl rfl _ _ hAd.k2 (rInfo _ _) rfl (qap _ _) ?_)
    refine stepQ.mk ⟨fun _ => hst _ _ hAd, ?_⟩
    refine qaq [] _ _ _ (by kernel_rfl) ?_
    conv => arg 4; simp [pick]
    go_wp2_with fail
    (try simp only [Exit.inBlock, Exit.then, Act.put])
    refine bodyPost_ret (v := .tuple #[.int .i64 (v : Int), .agg (rC (l.drop (k + 1)) 0)]) (qau rfl _ _ (w.heap.size + 1) rfl (.int .i64 (v : Int)) rfl _ (rC (l.drop (k + 1)) 0) _ _ (qac hAd.k2) Tryz.underlying172 rfl (rInfo _ _)) rfl ?_
    exact hret _ hAd
  ·have e8 : ((k : Int) == 8) = false := by simp; omega
   clear hk88
   go_upto_region 17 with fail
   clear c0
   have hAd := HA.out.below (Below.refl _ w0).drew
   obtain ⟨wd, hwd⟩ := nm (w0.drew)
   rw [<- hwd] at hAd
   have c0 : ∀ y : qad (fun W => Blk W w.heap.size 172 (rC l 0)), y.w.cell? ⟨w.heap.size, 0, none⟩ = some (.string s) := fun y => (y.h.cell 0).trans (show (rC l 0)[0]? = some (.string s) by rw [HRC.out]; rfl)
   refine qak (fun W => Blk W w.heap.size 172 (rC l 0)) [0, 1, 2, 3, 4, 5, 6, 7] (by kernel_rfl) ?_
   rw [<- hwd]
   clear hwd
   refine qar (f := 1) (by kernel_rfl) (fun _ x _ _ _ h => by cases x <;> exact h) hAd.k1 [0, 1, 2, 3, 4, 5, 6, 7] _ _ (by kernel_rfl) (by kernel_rfl) (by kernel_rfl) ?_
   have ne : Nonempty (qad (fun W => Blk W w.heap.size 172 (rC l 0))) := ⟨⟨_, hAd.k1⟩⟩
   conv => arg 5; simp [pick]
   iterate 6 go_big_quiet_step (fail)
   refine qa5 rfl _ _ rfl #[(0, .string t)] rfl (v := .agg (rC (l.drop (k + 1)) 0)) (fun W => hbt W) ?_
   conv => arg 6; simp only [Act.put, sA, sB, sC]
   go_big_quiet_step (fail)
   refine wpQuiet_nil ?_
   clear ne c0
   refine qag 8 (by kernel_rfl) rfl ?_
   go_wp2_with (refine wpList_store_row rfl _ _ _ rfl (w.heap.size + 1) (rC (l.drop (k + 1)) 0) rfl rfl _ _ hAd.k2 (rInfo _ _) rfl (qap _ _) ?_)
   refine stepQ.mk ⟨fun _ => hst _ _ hAd, ?_⟩
   refine qaq [] _ _ _ (by kernel_rfl) ?_
   conv => arg 4; simp [pick]
   go_wp2_with fail
   (try simp only [Exit.inBlock, Exit.then, Act.put])
   refine bodyPost_ret (v := .tuple #[.int .i64 (v : Int), .agg (rC (l.drop (k + 1)) 0)]) (qau rfl _ _ (w.heap.size + 1) rfl (.int .i64 (v : Int)) rfl _ (rC (l.drop (k + 1)) 0) _ _ (qac hAd.k2) Tryz.underlying172 rfl (rInfo _ _)) rfl ?_
   exact hret _ hAd
theorem qcI (p : List UInt8 × Int) (E : Int) (w : World) (h : okE E p) : Calls Tryz.prog 165 #[.agg (rC p.1 E)] w (numP p w) := by
 by_cases he : E = 0
 ·obtain ⟨l, e⟩ := p
  have h0 : e = 0 := h.alive he
  subst h0
  subst he
  exact qk0 l w h.2.2
 ·exact qmm p E w h he
end Go.Proofs.YtomaaidhmccngaaGreatDoor
namespace Go.Proofs.YtomaaidhmccngaaGreatDoor
open Go.RowKit Go.Maps Go.Lib
open L3 (Blk Reads numS failS rdN mostS mostV textS textV doneV)
open L11 (wpList_store_row qac below_setRow qah)
theorem qh7 (p : List UInt8 × Int) (E m : Int) (w : World) (h : okE E p) : Calls Tryz.prog 191 #[.agg (rC p.1 E), .int .i64 m] w (leads (fun E' => .tuple #[.int .i64 (mostV m p), .agg (rC (mostS m p).1 E')]) (mostS m p) w) := by
 have Z := hid (qcv w 172 172 (rC p.1 E) zC)
 have HN := hid (fun W => qcI p E W h)
 have hbig := fun (hc : m < numV p) => (show mostV m p = 0 /\ mostS m p = failS 33 (numS p) by unfold L3.mostV L3.mostS; exact ⟨if_pos hc, if_pos hc⟩)
 have hfit := fun (hc : numV p <= m) => (show mostV m p = numV p /\ mostS m p = numS p by unfold L3.mostV L3.mostS; exact ⟨if_neg (Int.not_lt.2 hc), if_neg (Int.not_lt.2 hc)⟩)
 obtain ⟨v, hv⟩ := nm (numV p)
 obtain ⟨s, hs⟩ := nm (numS p)
 unfold numP at HN
 rw [<- hv, <- hs] at HN hbig
 rw [<- hv, <- hs] at hfit
 obtain ⟨l, hl⟩ := nm (p.1)
 rw [<- hl] at Z HN ⊢
 obtain ⟨S1, hS1⟩ := nm (mostS m p)
 obtain ⟨V1, hV1⟩ := nm (mostV m p)
 rw [<- hS1, <- hV1] at hbig hfit ⊢
 clear hv hs hl hS1 hV1 h
 go_enter Tryz.func191, Tryz.ntmps191
 go_upto_region 1 with fail
 refine qab (fun w0 hw0 => ?_)
 have hA : Blk w0 w.heap.size 172 (rC l E) /\ Blk w0 (w.heap.size + 1) 172 zC /\ Below w.heap.size w w0 := by rw [hw0]; exact Z.out
 clear hw0 Z
 go_upto_region 2 with (first
  | (refine qaa rfl _ _ rfl w.heap.size rfl _ _ _ _ hA.1 Tryz.underlying172 rfl (rInfo _ _) ?_)
  | (go_at_call 165; refine (HN.out _).mono ?_; rintro e w1 ⟨E1, rfl, hE1, hb1⟩)
  | (refine qaf rfl _ _ _ rfl w1 (rC s.1 E1) rfl rfl _ _ (rInfo _ _) rfl (qap _ _) ?_))
 have hb2 := (Below.refl _ w1).alloc (Nat.le_refl _) (.cells (rC s.1 E1) 172)
 have kx := Blk.new w1 172 (rC s.1 E1)
 have k2 := hA.2.1.below (hb1.trans (hb2.mono hb1.size)) hA.2.1.lt
 have hlt : w.heap.size + 1 < w1.heap.size := Nat.lt_of_lt_of_le hA.2.1.lt hb1.size
 have hbw := hA.2.2.trans ((hb1.trans (hb2.mono hb1.size)).mono hA.2.2.size)
 obtain ⟨g, hg⟩ := nm (w1.heap.size)
 rw [<- hg] at kx hlt ⊢
 refine qab (fun w2 hw2 => ?_)
 rw [<- hw2] at kx k2 hbw
 have HA := hid (And.intro kx (And.intro k2 hbw))
 clear hw2 hg hb2 hb1 hA kx k2 hbw HN
 by_cases hc : m < v
 ·obtain ⟨e1, e2⟩ := hbig hc
  have hf := qbi s E1 33 w2 hE1
  subst e1
  rw [<- e2] at hf
  clear hbig hfit e2
  go_wp2_with (first
   | (refine qaa rfl _ _ rfl g rfl _ _ _ _ HA.out.1 Tryz.underlying172 rfl (rInfo _ _) ?_)
   | (go_at_call 169; refine hf.mono ?_; rintro e w3 ⟨E3, rfl, hE3, hb3⟩
      have k3 := HA.out.2.1.below hb3 HA.out.2.1.lt)
   | (refine wpList_store_row rfl _ _ _ rfl (w.heap.size + 1) (rC S1.1 E3) rfl rfl _ _ k3 (rInfo _ _) rfl (qap _ _) ?_))
  (try simp only [Exit.inBlock, Exit.then, Act.put])
  refine bodyPost_ret (v := .tuple #[.int .i64 0, .agg (rC S1.1 E3)]) (qau rfl _ _ (w.heap.size + 1) rfl (.int .i64 0) rfl _ (rC S1.1 E3) _ _ (qac k3) Tryz.underlying172 rfl (rInfo _ _)) rfl ?_
  exact ⟨E3, rfl, hE3, below_setRow (HA.out.2.2.trans (hb3.mono HA.out.2.2.size)) (Nat.le_succ _)⟩
 ·obtain ⟨e1, e2⟩ := hfit (Int.not_lt.1 hc)
  subst e1
  subst e2
  clear hbig hfit
  go_upto_region 4 with fail
  have hAd := (show Blk w2.drew g 172 (rC S1.1 E1) /\ Blk w2.drew (w.heap.size + 1) 172 zC /\ Below w.heap.size w w2.drew from ⟨HA.out.1.below (Below.refl _ w2).drew HA.out.1.lt, HA.out.2.1.below (Below.refl _ w2).drew HA.out.2.1.lt, HA.out.2.2.drew⟩)
  obtain ⟨wd, hwd⟩ := nm (w2.drew)
  rw [<- hwd] at hAd
  refine qak (fun W => Blk W (g) 172 (rC S1.1 E1)) [0, 1, 2] (by kernel_rfl) ?_
  rw [<- hwd]
  clear hwd
  refine qar (f := 1) (by kernel_rfl) (fun _ x _ _ _ h => by cases x <;> exact h) hAd.1 [0, 1, 2] _ _ (by kernel_rfl) (by kernel_rfl) (by kernel_rfl) ?_
  have ne : Nonempty (qad (fun W => Blk W (g) 172 (rC S1.1 E1))) := ⟨⟨_, hAd.1⟩⟩
  conv => arg 5; simp [pick]
  go_big_quiet_step (fail)
  refine qam rfl _ _ rfl (g) rfl _ _ _ _ (fun y => y.h) Tryz.underlying172 rfl (rInfo _ _) ?_
  conv => arg 6; simp only [Act.put, sA, sB, sC]
  go_big_quiet_step (fail)
  refine wpQuiet_nil ?_
  clear ne
  refine qag 3 (by kernel_rfl) rfl ?_
  go_wp2_with (refine wpList_store_row rfl _ _ _ rfl (w.heap.size + 1) (rC S1.1 E1) rfl rfl _ _ hAd.2.1 (rInfo _ _) rfl (qap _ _) ?_)
  refine stepQ.mk ⟨fun _ => qah hAd.1 (by omega), ?_⟩
  refine qaq [] _ _ _ (by kernel_rfl) ?_
  conv => arg 4; simp [pick]
  go_wp2_with fail
  (try simp only [Exit.inBlock, Exit.then, Act.put])
  refine bodyPost_ret (v := .tuple #[.int .i64 V1, .agg (rC S1.1 E1)]) (qau rfl _ _ (w.heap.size + 1) rfl (.int .i64 V1) rfl _ (rC S1.1 E1) _ _ (qac hAd.2.1) Tryz.underlying172 rfl (rInfo _ _)) rfl ?_
  exact ⟨E1, rfl, hE1, below_setRow hAd.2.2 (Nat.le_succ _)⟩
end Go.Proofs.YtomaaidhmccngaaGreatDoor
namespace Go.Proofs.YtomaaidhmccngaaGreatDoor
open Go.RowKit Go.Maps Go.Lib
open L3 (Blk Reads numS failS rdN mostS mostV textS textV doneV)
open L11 (wpList_store_row qac below_setRow qah)
theorem qfV (p : List UInt8 × Int) (E m : Int) (w : World) (h : okE E p) (hm0 : -9223372036854775808 <= m) (hm1 : m <= 9223372036854775807) : Calls Tryz.prog 167 #[.agg (rC p.1 E), .int .i64 m] w (leads (fun E' => .tuple #[.int .i64 (mostV m p), .agg (rC (mostS m p).1 E')]) (mostS m p) w) := by
 have Z := hid (qcv w 172 172 (rC p.1 E) zC)
 have HN := hid (fun W => qh7 p E m W h)
 obtain ⟨l, hl⟩ := nm (p.1)
 rw [<- hl] at Z HN ⊢
 obtain ⟨S1, hS1⟩ := nm (mostS m p)
 obtain ⟨V1, hV1⟩ := nm (mostV m p)
 rw [<- hS1, <- hV1] at HN ⊢
 clear hl hS1 hV1 h
 go_enter Tryz.func167, Tryz.ntmps167
 go_upto_region 1 with fail
 refine qab (fun w0 hw0 => ?_)
 have hA : Blk w0 w.heap.size 172 (rC l E) /\ Blk w0 (w.heap.size + 1) 172 zC /\ Below w.heap.size w w0 := by rw [hw0]; exact Z.out
 clear hw0 Z
 go_upto_region 2 with (first
  | (refine qaa rfl _ _ rfl w.heap.size rfl _ _ _ _ hA.1 Tryz.underlying172 rfl (rInfo _ _) ?_)
  | (go_at_call 191; refine (HN.out _).mono ?_; rintro e w1 ⟨E1, rfl, hE1, hb1⟩)
  | (refine qaf rfl _ _ _ rfl w1 (rC S1.1 E1) rfl rfl _ _ (rInfo _ _) rfl (qap _ _) ?_))
 have hb2 := (Below.refl _ w1).alloc (Nat.le_refl _) (.cells (rC S1.1 E1) 172)
 have kx := Blk.new w1 172 (rC S1.1 E1)
 have k2 := hA.2.1.below (hb1.trans (hb2.mono hb1.size)) hA.2.1.lt
 have hlt : w.heap.size + 1 < w1.heap.size := Nat.lt_of_lt_of_le hA.2.1.lt hb1.size
 have hbw := hA.2.2.trans ((hb1.trans (hb2.mono hb1.size)).mono hA.2.2.size)
 obtain ⟨g, hg⟩ := nm (w1.heap.size)
 rw [<- hg] at kx hlt ⊢
 refine qab (fun w2 hw2 => ?_)
 rw [<- hw2] at kx k2 hbw
 have HA := hid (And.intro kx (And.intro k2 hbw))
 clear hw2 hg hb2 hb1 hA kx k2 hbw HN
 (try simp only [Act.put, sA, sB, sC])
 have hAd := (show Blk w2.drew g 172 (rC S1.1 E1) /\ Blk w2.drew (w.heap.size + 1) 172 zC /\ Below w.heap.size w w2.drew from ⟨HA.out.1.below (Below.refl _ w2).drew HA.out.1.lt, HA.out.2.1.below (Below.refl _ w2).drew HA.out.2.1.lt, HA.out.2.2.drew⟩)
 obtain ⟨wd, hwd⟩ := nm (w2.drew)
 rw [<- hwd] at hAd
 refine qak (fun W => Blk W (g) 172 (rC S1.1 E1)) [0, 1, 2] (by kernel_rfl) ?_
 rw [<- hwd]
 clear hwd
 refine qar (f := 1) (by kernel_rfl) (fun _ x _ _ _ h => by cases x <;> exact h) hAd.1 [0, 1, 2] _ _ (by kernel_rfl) (by kernel_rfl) (by kernel_rfl) ?_
 have ne : Nonempty (qad (fun W => Blk W (g) 172 (rC S1.1 E1))) := ⟨⟨_, hAd.1⟩⟩
 conv => arg 5; simp [pick]
 go_big_quiet_step (fail)
 refine qam rfl _ _ rfl (g) rfl _ _ _ _ (fun y => y.h) Tryz.underlying172 rfl (rInfo _ _) ?_
 conv => arg 6; simp only [Act.put, sA, sB, sC]
 go_big_quiet_step (fail)
 refine wpQuiet_nil ?_
 clear ne
 refine qag 3 (by kernel_rfl) rfl ?_
 go_wp2_with (refine wpList_store_row rfl _ _ _ rfl (w.heap.size + 1) (rC S1.1 E1) rfl rfl _ _ hAd.2.1 (rInfo _ _) rfl (qap _ _) ?_)
 refine stepQ.mk ⟨fun _ => qah hAd.1 (by omega), ?_⟩
 refine qaq [] _ _ _ (by kernel_rfl) ?_
 conv => arg 4; simp [pick]
 go_wp2_with fail
 (try simp only [Exit.inBlock, Exit.then, Act.put])
 refine bodyPost_ret (v := .tuple #[.int .i64 V1, .agg (rC S1.1 E1)]) (qau rfl _ _ (w.heap.size + 1) rfl (.int .i64 V1) rfl _ (rC S1.1 E1) _ _ (qac hAd.2.1) Tryz.underlying172 rfl (rInfo _ _)) rfl ?_
 exact ⟨E1, rfl, hE1, below_setRow hAd.2.2 (Nat.le_succ _)⟩
theorem qmO {p : List UInt8 × Int} (h : deadS (mostS 65536 p)) : textV p = [] /\ textS p = mostS 65536 p := by
 unfold L3.textV L3.textS
 rw [h.2]
 by_cases h1 : (([] : List UInt8).length : Int) < mostV 65536 p
 ·rw [if_pos h1, if_pos h1]
  exact ⟨rfl, by unfold L3.failS; rw [if_pos (.inl h.1)]⟩
 ·rw [if_neg h1, if_neg h1]
  refine ⟨by simp, ?_⟩
  have e : mostS 65536 p = ((mostS 65536 p).1, (mostS 65536 p).2) := rfl
  rw [e, h.2]
  simp
theorem qia {p : List UInt8 × Int} (h : ((mostS 65536 p).1.length : Int) < mostV 65536 p) : textV p = [] /\ textS p = failS 30 (mostS 65536 p) := by
 unfold L3.textV L3.textS
 exact ⟨if_pos h, if_pos h⟩
theorem text_fit {p : List UInt8 × Int} {n : Nat} (hn : mostV 65536 p = (n : Int)) (h : n <= (mostS 65536 p).1.length) : textV p = (mostS 65536 p).1.take n /\ textS p = ((mostS 65536 p).1.drop n, (mostS 65536 p).2) := by
 have h1 : ¬ ((mostS 65536 p).1.length : Int) < mostV 65536 p := by omega
 unfold L3.textV L3.textS
 rw [if_neg h1, if_neg h1, hn]
 exact ⟨rfl, rfl⟩
theorem qjq (p : List UInt8 × Int) : 0 <= mostV 65536 p /\ mostV 65536 p <= 65536 := by unfold L3.mostV; split <;> omega
theorem qhq (l : List UInt8) (a : Nat) : (str l).extract 0 a = str (l.take a) := by
 apply ByteArray.ext
 apply Array.ext'
 unfold str
 simp [List.extract_eq_take_drop]
theorem qfm (p : List UInt8 × Int) (E : Int) (w : World) (h : okE E p) : Calls Tryz.prog 192 #[.agg (rC p.1 E)] w (leads (fun E' => .tuple #[.string (str (textV p)), .agg (rC (textS p).1 E')]) (textS p) w) := by
 have Z := hid (qcv w 172 172 (rC p.1 E) zC)
 have HN := hid (fun W => qh7 p E 65536 W h)
 have hd := qmO (p := p)
 have hlo := qia (p := p)
 have hfi := fun n => text_fit (p := p) (n := n)
 obtain ⟨n, hn⟩ := Int.eq_ofNat_of_zero_le (qjq p).1
 have hn64 : n <= 65536 := by have := (qjq p).2; omega
 rw [hn] at HN hlo
 have hfi := hfi n hn
 obtain ⟨l, hl⟩ := nm (p.1)
 rw [<- hl] at Z HN ⊢
 obtain ⟨S1, hS1⟩ := nm (mostS 65536 p)
 rw [<- hS1] at HN hd hlo hfi
 obtain ⟨TV, hTV⟩ := nm (textV p)
 obtain ⟨TS, hTS⟩ := nm (textS p)
 rw [<- hTV, <- hTS] at hd hlo hfi ⊢
 have HD := hid (And.intro hd (And.intro hlo hfi))
 clear hl hS1 h hd hlo hfi hn hTV hTS
 go_enter Tryz.func192, Tryz.ntmps192
 go_upto_region 1 with fail
 refine qab (fun w0 hw0 => ?_)
 have hA : Blk w0 w.heap.size 172 (rC l E) /\ Blk w0 (w.heap.size + 1) 172 zC /\ Below w.heap.size w w0 := by rw [hw0]; exact Z.out
 clear hw0 Z
 go_upto_region 2 with (first
  | (refine qaa rfl _ _ rfl w.heap.size rfl _ _ _ _ hA.1 Tryz.underlying172 rfl (rInfo _ _) ?_)
  | (go_at_call 191; refine (HN.out _).mono ?_; rintro e w1 ⟨E1, rfl, hE1, hb1⟩)
  | (refine qaf rfl _ _ _ rfl w1 (rC S1.1 E1) rfl rfl _ _ (rInfo _ _) rfl (qap _ _) ?_))
 have hb2 := (Below.refl _ w1).alloc (Nat.le_refl _) (.cells (rC S1.1 E1) 172)
 have kx := Blk.new w1 172 (rC S1.1 E1)
 have k2 := hA.2.1.below (hb1.trans (hb2.mono hb1.size)) hA.2.1.lt
 have hlt : w.heap.size + 1 < w1.heap.size := Nat.lt_of_lt_of_le hA.2.1.lt hb1.size
 have hbw := hA.2.2.trans ((hb1.trans (hb2.mono hb1.size)).mono hA.2.2.size)
 obtain ⟨g, hg⟩ := nm (w1.heap.size)
 rw [<- hg] at kx hlt ⊢
 refine qab (fun w2 hw2 => ?_)
 rw [<- hw2] at kx k2 hbw
 have c1 : w2.cell? ⟨g, 1, none⟩ = some (.int .i64 E1) := kx.cell 1
 have c0 : w2.cell? ⟨g, 0, none⟩ = some (.string (str S1.1)) := kx.cell 0
 have HA := hid (And.intro kx (And.intro k2 hbw))
 clear hw2 hg hb2 hb1 hA kx k2 hbw HN
 by_cases he : E1 = 0
 case neg =>
  obtain ⟨e1, e2⟩ := HD.out.1 (hE1.dead he)
  subst e1
  subst e2
  have q1 : (E1 != 0) = true := by simpa using he
  clear he HD
  go_upto_region 3 with fail
  clear c0 c1
  have hAd := (show Blk w2.drew g 172 (rC TS.1 E1) /\ Blk w2.drew (w.heap.size + 1) 172 zC /\ Below w.heap.size w w2.drew from ⟨HA.out.1.below (Below.refl _ w2).drew HA.out.1.lt, HA.out.2.1.below (Below.refl _ w2).drew HA.out.2.1.lt, HA.out.2.2.drew⟩)
  obtain ⟨wd, hwd⟩ := nm (w2.drew)
  rw [<- hwd] at hAd
  refine qak (fun W => Blk W (g) 172 (rC TS.1 E1)) [0, 1] (by kernel_rfl) ?_
  rw [<- hwd]
  clear hwd
  refine qar (f := 1) (by kernel_rfl) (fun _ x _ _ _ h => by cases x <;> exact h) hAd.1 [0, 1] _ _ (by kernel_rfl) (by kernel_rfl) (by kernel_rfl) ?_
  have ne : Nonempty (qad (fun W => Blk W (g) 172 (rC TS.1 E1))) := ⟨⟨_, hAd.1⟩⟩
  conv => arg 5; simp [pick]
  refine qam rfl _ _ rfl (g) rfl _ _ _ _ (fun y => y.h) Tryz.underlying172 rfl (rInfo _ _) ?_
  conv => arg 6; simp only [Act.put, sA, sB, sC]
  go_big_quiet_step (fail)
  refine wpQuiet_nil ?_
  clear ne
  refine qag 2 (by kernel_rfl) rfl ?_
  go_wp2_with (refine wpList_store_row rfl _ _ _ rfl (w.heap.size + 1) (rC TS.1 E1) rfl rfl _ _ hAd.2.1 (rInfo _ _) rfl (qap _ _) ?_)
  refine stepQ.mk ⟨fun _ => qah hAd.1 (by omega), ?_⟩
  refine qaq [] _ _ _ (by kernel_rfl) ?_
  conv => arg 4; simp [pick]
  go_wp2_with fail
  (try simp only [Exit.inBlock, Exit.then, Act.put])
  refine bodyPost_ret (v := .tuple #[.string ⟨#[]⟩, .agg (rC TS.1 E1)]) (qau rfl _ _ (w.heap.size + 1) rfl (.string ⟨#[]⟩) rfl _ (rC TS.1 E1) _ _ (qac hAd.2.1) Tryz.underlying172 rfl (rInfo _ _)) rfl ?_
  exact ⟨E1, rfl, hE1, below_setRow hAd.2.2 (Nat.le_succ _)⟩
 subst he
 have hsz := qa4 S1.1
 by_cases hc : (S1.1.length : Int) < (n : Int)
 ·obtain ⟨e1, e2⟩ := HD.out.2.1 hc
  have hf := qbi S1 0 30 w2 hE1
  subst e1
  rw [<- e2] at hf
  clear HD e2
  go_wp2_with (first
   | (refine qaa rfl _ _ rfl g rfl _ _ _ _ HA.out.1 Tryz.underlying172 rfl (rInfo _ _) ?_)
   | (go_at_call 169; refine hf.mono ?_; rintro e w3 ⟨E3, rfl, hE3, hb3⟩
      have k3 := HA.out.2.1.below hb3 HA.out.2.1.lt)
   | (refine wpList_store_row rfl _ _ _ rfl (w.heap.size + 1) (rC TS.1 E3) rfl rfl _ _ k3 (rInfo _ _) rfl (qap _ _) ?_))
  (try simp only [Exit.inBlock, Exit.then, Act.put])
  refine bodyPost_ret (v := .tuple #[.string ⟨#[]⟩, .agg (rC TS.1 E3)]) (qau rfl _ _ (w.heap.size + 1) rfl (.string ⟨#[]⟩) rfl _ (rC TS.1 E3) _ _ (qac k3) Tryz.underlying172 rfl (rInfo _ _)) rfl ?_
  exact ⟨E3, rfl, hE3, below_setRow (HA.out.2.2.trans (hb3.mono HA.out.2.2.size)) (Nat.le_succ _)⟩
 ·obtain ⟨e1, e2⟩ := HD.out.2.2 (by omega)
  have hfin : okE 0 TS := ⟨by rw [e2]; exact hE1.1, by rw [e2]; intro h; have := hE1.2.1 h; show List.drop _ _ = []; rw [this]; simp, by rw [e2]; show (List.drop _ _).length <= _; have := hE1.2.2; rw [List.length_drop]; omega⟩
  have e3 : TS.1 = S1.1.drop n := by rw [e2]
  have x1 := qhq S1.1 n
  have x2 := extract_drop S1.1 n
  rw [<- e3] at x2
  rw [<- e1] at x1
  have i0 : (0 : Int) <= (n : Int) := by omega
  have i1 : (n : Int) <= (S1.1.length : Int) := by omega
  have i2 : (n : Int) <= ((str S1.1).size : Int) := by omega
  obtain ⟨s, hs⟩ := nm (str S1.1)
  rw [<- hs] at x1 x2 c0 hsz i2
  obtain ⟨tv, htv⟩ := nm (str TV)
  obtain ⟨ts, hts⟩ := nm (str TS.1)
  rw [<- htv] at x1
  rw [<- hts] at x2
  have hbt : ∀ W, (Instr.build 172 #[(0, .string ts)]).run Tryz.prog W = .ok (.agg (rC TS.1 0)) W := fun W => by rw [hts]; exact qgl _ W
  have hcell : ∀ W, Blk W g 172 (rC S1.1 0) -> W.cell? ⟨g, 0, none⟩ = some (.string s) := fun W h => by rw [hs]; exact h.cell 0
  have HH := hid (And.intro hfin (And.intro hcell htv))
  clear HD e1 e2 e3 hs htv hts hfin hcell
  go_upto_region 6 with fail
  clear c0 c1
  have hAd := (show Blk w2.drew g 172 (rC S1.1 0) /\ Blk w2.drew (w.heap.size + 1) 172 zC /\ Below w.heap.size w w2.drew from ⟨HA.out.1.below (Below.refl _ w2).drew HA.out.1.lt, HA.out.2.1.below (Below.refl _ w2).drew HA.out.2.1.lt, HA.out.2.2.drew⟩)
  obtain ⟨wd, hwd⟩ := nm (w2.drew)
  rw [<- hwd] at hAd
  refine qak (fun W => Blk W g 172 (rC S1.1 0)) [0, 1, 2, 3, 4, 5, 6, 7, 8, 9] (by kernel_rfl) ?_
  rw [<- hwd]
  clear hwd
  refine qar (f := 1) (by kernel_rfl) (fun _ x _ _ _ h => by cases x <;> exact h) hAd.1 [0, 1, 2, 3, 4, 5, 6, 7, 8, 9] _ _ (by kernel_rfl) (by kernel_rfl) (by kernel_rfl) ?_
  have ne : Nonempty (qad (fun W => Blk W g 172 (rC S1.1 0))) := ⟨⟨_, hAd.1⟩⟩
  have c0 : ∀ y : qad (fun W => Blk W g 172 (rC S1.1 0)), y.w.cell? ⟨g, 0, none⟩ = some (.string s) := fun y => HH.out.2.1 _ y.h
  conv => arg 5; simp [pick]
  iterate 8 go_big_quiet_step (fail)
  refine qa5 rfl _ _ rfl #[(0, .string ts)] rfl (v := .agg (rC TS.1 0)) (fun W => hbt W) ?_
  conv => arg 6; simp only [Act.put, sA, sB, sC]
  go_big_quiet_step (fail)
  refine wpQuiet_nil ?_
  clear ne c0
  refine qag 10 (by kernel_rfl) rfl ?_
  go_wp2_with (refine wpList_store_row rfl _ _ _ rfl (w.heap.size + 1) (rC TS.1 0) rfl rfl _ _ hAd.2.1 (rInfo _ _) rfl (qap _ _) ?_)
  refine stepQ.mk ⟨fun _ => qah hAd.1 (by omega), ?_⟩
  refine qaq [] _ _ _ (by kernel_rfl) ?_
  conv => arg 4; simp [pick]
  go_wp2_with fail
  (try simp only [Exit.inBlock, Exit.then, Act.put])
  refine bodyPost_ret (v := .tuple #[.string tv, .agg (rC TS.1 0)]) (qau rfl _ _ (w.heap.size + 1) rfl (.string tv) rfl _ (rC TS.1 0) _ _ (qac hAd.2.1) Tryz.underlying172 rfl (rInfo _ _)) rfl ?_
  exact ⟨0, by rw [HH.out.2.2], HH.out.1, below_setRow hAd.2.2 (Nat.le_succ _)⟩
theorem qml (p : List UInt8 × Int) (E : Int) (w : World) (h : okE E p) : Calls Tryz.prog 136 #[.agg (rC p.1 E)] w fun e w' => ∃ q : Int, e = .returned (.int .i64 q) /\ (q = 0 ↔ doneV p = 0) /\ Below w.heap.size w w' := by
 have hb := (Below.refl _ w).alloc (Nat.le_refl _) (.cells (rC p.1 E) 172)
 have kx := Blk.new w 172 (rC p.1 E)
 have hdv : doneV p = if p.2 ≠ 0 then p.2 else if 0 < p.1.length then 32 else 0 := rfl
 have he0 := h.1
 obtain ⟨l, hl⟩ := nm (p.1)
 rw [<- hl] at hb kx hdv ⊢
 have HD := hid (And.intro hdv he0)
 have HB := hid hb
 have hk : ∀ W, W = w.alloc (.cells (rC l E) 172) -> Blk W w.heap.size 172 (rC l E) /\ Below w.heap.size w W := fun W e => by rw [e]; exact ⟨kx, hb⟩
 clear hl hdv he0 h hb kx
 go_enter Tryz.func136, Tryz.ntmps136
 go_upto_region 1 with fail
 refine qab (fun w0 hw0 => ?_)
 have hA := hk w0 hw0
 clear hw0 hk
 have c1 : w0.cell? ⟨w.heap.size, 1, none⟩ = some (.int .i64 E) := hA.1.cell 1
 have c0 : w0.cell? ⟨w.heap.size, 0, none⟩ = some (.string (str l)) := hA.1.cell 0
 by_cases he : E = 0
 ·have hp : p.2 = 0 := HD.out.2.1 he
  have q1 : (E == 0) = true := by simpa using he
  cases hl : l.isEmpty
  ·have hs := qd7 hl
   have hn : doneV p ≠ 0 := by
    rw [HD.out.1, if_neg (fun h => h hp), if_pos]
    ·decide
    ·cases l with
     | nil => cases hl
     | cons => simp
   clear he hp hl HD
   go_wp2
   go_ret
   exact ⟨32, rfl, ⟨fun h => absurd h (by decide), fun h => absurd h hn⟩, hA.2⟩
  ·have hs := qcz hl
   have hn : doneV p = 0 := by
    rw [HD.out.1, if_neg (fun h => h hp), if_neg]
    cases l with
    | nil => simp
    | cons => cases hl
   subst he
   clear hp hl HD
   go_wp2
   go_ret
   exact ⟨0, rfl, ⟨fun _ => hn, fun _ => rfl⟩, hA.2⟩
 ·have hp : p.2 ≠ 0 := fun h => he (HD.out.2.2 h)
  have q1 : (E == 0) = false := by simpa using he
  have hn : doneV p ≠ 0 := by rw [HD.out.1, if_pos hp]; exact hp
  have HE := hid he
  clear he hp HD
  go_wp2
  go_ret
  exact ⟨E, rfl, ⟨fun h => absurd h HE.out, fun h => absurd h hn⟩, hA.2⟩
