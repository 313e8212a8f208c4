import Derived.Test.YtomaaidhmccngaaGreatDoorD2
set_option linter.unusedSimpArgs false
set_option linter.unusedVariables false
set_option maxRecDepth 100000
set_option maxHeartbeats 16000000
namespace Go.Proofs.YtomaaidhmccngaaGreatDoor
open Go.RowKit Go.Maps Go.Lib
open L3 (Blk Reads numS failS rdN mostS mostV textS textV doneV)
open L11 (Crt zeroC crtC crtInfo qal mayV takeC wpList_store_row qac below_setRow qah)
theorem qbR (p : List UInt8 × Int) (E m : Int) (w : World) (h : okE E p) : Calls Tryz.prog 190 #[.agg (rC p.1 E), .int .i64 m] w (leads (fun E' => .tuple #[.int .i64 (nxV m p), .agg (rC (nxS m p).1 E')]) (nxS m p) w) := by
 have Z := hid (qcv w 172 172 (rC p.1 E) zC)
 have HN := hid (fun W => qcI p E W h)
 have hbig := fun (hc : m < numV p) => (show nxV m p = 0 /\ nxS m p = failS 110 (numS p) by unfold nxV nxS; exact ⟨if_pos hc, if_pos hc⟩)
 have hfit := fun (hc : numV p <= m) => (show nxV m p = numV p /\ nxS m p = numS p by unfold nxV nxS; exact ⟨if_neg (Int.not_lt.2 hc), if_neg (Int.not_lt.2 hc)⟩)
 obtain ⟨v, hv⟩ := nm (numV p)
 obtain ⟨s, hs⟩ := nm (numS p)
 unfold numP at HN
 rw [<- hv, <- hs] at HN hbig
 rw [<- hv, <- hs] at hfit
 obtain ⟨l, hl⟩ := nm (p.1)
 rw [<- hl] at Z HN ⊢
 obtain ⟨S1, hS1⟩ := nm (nxS m p)
 obtain ⟨V1, hV1⟩ := nm (nxV m p)
 rw [<- hS1, <- hV1] at hbig hfit ⊢
 clear hv hs hl hS1 hV1 h
 go_enter Tryz.func190, Tryz.ntmps190
 go_upto_region 1 with fail
 refine qab (fun w0 hw0 => ?_)
 have hA : Blk w0 w.heap.size 172 (rC l E) /\ Blk w0 (w.heap.size + 1) 172 zC /\ Below w.heap.size w w0 := by rw [hw0]; exact Z.out
 clear hw0 Z
 go_upto_region 2 with (first
  | (refine qaa rfl _ _ rfl w.heap.size rfl _ _ _ _ hA.1 Tryz.underlying172 rfl (rInfo _ _) ?_)
  | (go_at_call 165; refine (HN.out _).mono ?_; rintro e w1 ⟨E1, rfl, hE1, hb1⟩)
  | (refine qaf rfl _ _ _ rfl w1 (rC s.1 E1) rfl rfl _ _ (rInfo _ _) rfl (qap _ _) ?_))
 have hb2 := (Below.refl _ w1).alloc (Nat.le_refl _) (.cells (rC s.1 E1) 172)
 have kx := Blk.new w1 172 (rC s.1 E1)
 have k2 := hA.2.1.below (hb1.trans (hb2.mono hb1.size)) hA.2.1.lt
 have hlt : w.heap.size + 1 < w1.heap.size := Nat.lt_of_lt_of_le hA.2.1.lt hb1.size
 have hbw := hA.2.2.trans ((hb1.trans (hb2.mono hb1.size)).mono hA.2.2.size)
 obtain ⟨g, hg⟩ := nm (w1.heap.size)
 rw [<- hg] at kx hlt ⊢
 refine qab (fun w2 hw2 => ?_)
 rw [<- hw2] at kx k2 hbw
 have HA := hid (And.intro kx (And.intro k2 hbw))
 clear hw2 hg hb2 hb1 hA kx k2 hbw HN
 by_cases hc : m < v
 ·obtain ⟨e1, e2⟩ := hbig hc
  have hf := qbi s E1 110 w2 hE1
  subst e1
  rw [<- e2] at hf
  clear hbig hfit e2
  go_wp2_with (first
   | (refine qaa rfl _ _ rfl g rfl _ _ _ _ HA.out.1 Tryz.underlying172 rfl (rInfo _ _) ?_)
   | (go_at_call 169; refine hf.mono ?_; rintro e w3 ⟨E3, rfl, hE3, hb3⟩
      have k3 := HA.out.2.1.below hb3 HA.out.2.1.lt)
   | (refine wpList_store_row rfl _ _ _ rfl (w.heap.size + 1) (rC S1.1 E3) rfl rfl _ _ k3 (rInfo _ _) rfl (qap _ _) ?_))
  (try simp only [Exit.inBlock, Exit.then, Act.put])
  refine bodyPost_ret (v := .tuple #[.int .i64 0, .agg (rC S1.1 E3)]) (qau rfl _ _ (w.heap.size + 1) rfl (.int .i64 0) rfl _ (rC S1.1 E3) _ _ (qac k3) Tryz.underlying172 rfl (rInfo _ _)) rfl ?_
  exact ⟨E3, rfl, hE3, below_setRow (HA.out.2.2.trans (hb3.mono HA.out.2.2.size)) (Nat.le_succ _)⟩
 ·obtain ⟨e1, e2⟩ := hfit (Int.not_lt.1 hc)
  subst e1
  subst e2
  clear hbig hfit
  go_upto_region 4 with fail
  have hAd := (show Blk w2.drew g 172 (rC S1.1 E1) /\ Blk w2.drew (w.heap.size + 1) 172 zC /\ Below w.heap.size w w2.drew from ⟨HA.out.1.below (Below.refl _ w2).drew HA.out.1.lt, HA.out.2.1.below (Below.refl _ w2).drew HA.out.2.1.lt, HA.out.2.2.drew⟩)
  obtain ⟨wd, hwd⟩ := nm (w2.drew)
  rw [<- hwd] at hAd
  refine qak (fun W => Blk W (g) 172 (rC S1.1 E1)) [0, 1, 2] (by kernel_rfl) ?_
  rw [<- hwd]
  clear hwd
  refine qar (f := 1) (by kernel_rfl) (fun _ x _ _ _ h => by cases x <;> exact h) hAd.1 [0, 1, 2] _ _ (by kernel_rfl) (by kernel_rfl) (by kernel_rfl) ?_
  have ne : Nonempty (qad (fun W => Blk W (g) 172 (rC S1.1 E1))) := ⟨⟨_, hAd.1⟩⟩
  conv => arg 5; simp [pick]
  go_big_quiet_step (fail)
  refine qam rfl _ _ rfl (g) rfl _ _ _ _ (fun y => y.h) Tryz.underlying172 rfl (rInfo _ _) ?_
  conv => arg 6; simp only [Act.put, sA, sB, sC]
  go_big_quiet_step (fail)
  refine wpQuiet_nil ?_
  clear ne
  refine qag 3 (by kernel_rfl) rfl ?_
  go_wp2_with (refine wpList_store_row rfl _ _ _ rfl (w.heap.size + 1) (rC S1.1 E1) rfl rfl _ _ hAd.2.1 (rInfo _ _) rfl (qap _ _) ?_)
  refine stepQ.mk ⟨fun _ => qah hAd.1 (by omega), ?_⟩
  refine qaq [] _ _ _ (by kernel_rfl) ?_
  conv => arg 4; simp [pick]
  go_wp2_with fail
  (try simp only [Exit.inBlock, Exit.then, Act.put])
  refine bodyPost_ret (v := .tuple #[.int .i64 V1, .agg (rC S1.1 E1)]) (qau rfl _ _ (w.heap.size + 1) rfl (.int .i64 V1) rfl _ (rC S1.1 E1) _ _ (qac hAd.2.1) Tryz.underlying172 rfl (rInfo _ _)) rfl ?_
  exact ⟨E1, rfl, hE1, below_setRow hAd.2.2 (Nat.le_succ _)⟩
structure DcAt (w : World) (G : Nat) (c : Crt) (l : List UInt8) (E : Int) (W : World) : Prop where
 k1 : Blk W w.heap.size 172 (rC l E)
 k2 : Blk W (w.heap.size + 1) 29 (crtC zeroC)
 k3 : Blk W (w.heap.size + 2) 172 zC
 k4 : Blk W G 29 (crtC c)
 bw : Below w.heap.size w W
 hG : w.heap.size + 2 < G
section
variable {w W W' : World} {G : Nat} {c : Crt} {l : List UInt8} {E : Int}
theorem DcAt.below (h : DcAt w G c l E W) (hb : Below W.heap.size W W') : DcAt w G c l E W' := ⟨h.k1.below hb h.k1.lt, h.k2.below hb h.k2.lt, h.k3.below hb h.k3.lt, h.k4.below hb h.k4.lt, nxt h.bw hb, h.hG⟩
theorem DcAt.drew (h : DcAt w G c l E W) : DcAt w G c l E W.drew := h.below (Below.refl _ W).drew
theorem DcAt.row (h : DcAt w G c l E W) (l' : List UInt8) (E' : Int) : DcAt w G c l' E' (W.setRow w.heap.size (rC l' E')) := by
 have hG := h.hG
 exact ⟨qac h.k1, qah h.k2 (by omega), qah h.k3 (by omega), qah h.k4 (by omega), below_setRow h.bw (Nat.le_refl _), h.hG⟩
theorem DcAt.set_ (h : DcAt w G c l E W) (i : Nat) (u : Value) (c' : Crt) (he : (crtC c).setIfInBounds i u = crtC c') : DcAt w G c' l E (W.setCell ⟨G, i, none⟩ u) := by
 have hG := h.hG
 refine ⟨h.k1.far (by show w.heap.size ≠ G; omega) u, h.k2.far (by show w.heap.size + 1 ≠ G; omega) u, h.k3.far (by show w.heap.size + 2 ≠ G; omega) u, ?_, ?_, h.hG⟩
 ·rw [<- he]; exact h.k4.set_ i u
 ·exact h.bw.trans (((Below.refl _ W)).setCell (by show w.heap.size <= G; omega) u)
end
theorem qee (w : World) (t u s : TypeId) (x y z : Array Value) : Blk (((w.alloc (.cells x t)).alloc (.cells y u)).alloc (.cells z s)) w.heap.size t x /\ Blk (((w.alloc (.cells x t)).alloc (.cells y u)).alloc (.cells z s)) (w.heap.size + 1) u y /\ Blk (((w.alloc (.cells x t)).alloc (.cells y u)).alloc (.cells z s)) (w.heap.size + 2) s z /\ Below w.heap.size w (((w.alloc (.cells x t)).alloc (.cells y u)).alloc (.cells z s)) := by
 obtain ⟨h1, h2, h3⟩ := qcv w t u x y
 refine ⟨h1.alloc _, h2.alloc _, ?_, h3.alloc h3.size _⟩
 have := Blk.new ((w.alloc (.cells x t)).alloc (.cells y u)) s z
 simpa using this
def tookD (z : Crt × (List UInt8 × Int)) (w : World) (e : Ending) (w' : World) : Prop := leads (fun E => .tuple #[.agg (crtC z.1), .agg (rC z.2.1 E)]) z.2 w e w'
theorem qis {c : Crt} {q : List UInt8 × Int} (h : q.2 = 0) (hm : mayV c = false) : endD c q = (zeroC, failS 110 q) := by unfold endD; rw [if_neg (fun h1 => h1 h), if_pos hm]
theorem qit {c : Crt} {q : List UInt8 × Int} (h : q.2 = 0) (hm : mayV c = true) : endD c q = (c, q) := by unfold endD; rw [if_neg (fun h1 => h1 h), if_neg (by rw [hm]; decide)]
theorem qgu {c : Crt} {q : List UInt8 × Int} (h : q.2 ≠ 0) : endD c q = (zeroC, q) := by unfold endD; rw [if_pos h]
theorem qmk (p : List UInt8 × Int) (E : Int) (w : World) (h : okE E p) : Calls Tryz.prog 166 #[.agg (rC p.1 E)] w (tookD (docC p) w) := by
 have Z := hid (qee w 172 29 172 (rC p.1 E) (crtC zeroC) zC)
 obtain ⟨q0, hq0⟩ := nm (nxS 2 p)
 obtain ⟨q1, hq1⟩ := nm (nxS 2147483647 q0)
 obtain ⟨q2, hq2⟩ := nm (nxS 1048576 q1)
 obtain ⟨q3, hq3⟩ := nm (nxS 1073741824 q2)
 obtain ⟨q4, hq4⟩ := nm (nxS 1023 q3)
 obtain ⟨q5, hq5⟩ := nm (nxS 3 q4)
 obtain ⟨q6, hq6⟩ := nm (nxS 9 q5)
 obtain ⟨q7, hq7⟩ := nm (nxS 1023 q6)
 obtain ⟨v0, hv0⟩ := nm (nxV 2 p)
 obtain ⟨v1, hv1⟩ := nm (nxV 2147483647 q0)
 obtain ⟨v2, hv2⟩ := nm (nxV 1048576 q1)
 obtain ⟨v3, hv3⟩ := nm (nxV 1073741824 q2)
 obtain ⟨v4, hv4⟩ := nm (nxV 1023 q3)
 obtain ⟨v5, hv5⟩ := nm (nxV 3 q4)
 obtain ⟨v6, hv6⟩ := nm (nxV 9 q5)
 obtain ⟨v7, hv7⟩ := nm (nxV 1023 q6)
 have hn0 : ∀ W E, okE E p -> Calls Tryz.prog 190 #[.agg (rC p.1 E), .int .i64 2] W (leads (fun E' => .tuple #[.int .i64 v0, .agg (rC q0.1 E')]) q0 W) := fun W E h => by rw [hv0, hq0]; exact qbR p E 2 W h
 have hn1 : ∀ W E, okE E q0 -> Calls Tryz.prog 190 #[.agg (rC q0.1 E), .int .i64 2147483647] W (leads (fun E' => .tuple #[.int .i64 v1, .agg (rC q1.1 E')]) q1 W) := fun W E h => by rw [hv1, hq1]; exact qbR q0 E 2147483647 W h
 have hn2 : ∀ W E, okE E q1 -> Calls Tryz.prog 190 #[.agg (rC q1.1 E), .int .i64 1048576] W (leads (fun E' => .tuple #[.int .i64 v2, .agg (rC q2.1 E')]) q2 W) := fun W E h => by rw [hv2, hq2]; exact qbR q1 E 1048576 W h
 have hn3 : ∀ W E, okE E q2 -> Calls Tryz.prog 190 #[.agg (rC q2.1 E), .int .i64 1073741824] W (leads (fun E' => .tuple #[.int .i64 v3, .agg (rC q3.1 E')]) q3 W) := fun W E h => by rw [hv3, hq3]; exact qbR q2 E 1073741824 W h
 have hn4 : ∀ W E, okE E q3 -> Calls Tryz.prog 190 #[.agg (rC q3.1 E), .int .i64 1023] W (leads (fun E' => .tuple #[.int .i64 v4, .agg (rC q4.1 E')]) q4 W) := fun W E h => by rw [hv4, hq4]; exact qbR q3 E 1023 W h
 have hn5 : ∀ W E, okE E q4 -> Calls Tryz.prog 190 #[.agg (rC q4.1 E), .int .i64 3] W (leads (fun E' => .tuple #[.int .i64 v5, .agg (rC q5.1 E')]) q5 W) := fun W E h => by rw [hv5, hq5]; exact qbR q4 E 3 W h
 have hn6 : ∀ W E, okE E q5 -> Calls Tryz.prog 190 #[.agg (rC q5.1 E), .int .i64 9] W (leads (fun E' => .tuple #[.int .i64 v6, .agg (rC q6.1 E')]) q6 W) := fun W E h => by rw [hv6, hq6]; exact qbR q5 E 9 W h
 have hn7 : ∀ W E, okE E q6 -> Calls Tryz.prog 190 #[.agg (rC q6.1 E), .int .i64 1023] W (leads (fun E' => .tuple #[.int .i64 v7, .agg (rC q7.1 E')]) q7 W) := fun W E h => by rw [hv7, hq7]; exact qbR q6 E 1023 W h
 have r0 : 0 <= v0 /\ v0 <= 2 := by rw [hv0]; exact qcV _ (by decide)
 have r1 : 0 <= v1 /\ v1 <= 2147483647 := by rw [hv1]; exact qcV _ (by decide)
 have r2 : 0 <= v2 /\ v2 <= 1048576 := by rw [hv2]; exact qcV _ (by decide)
 have r3 : 0 <= v3 /\ v3 <= 1073741824 := by rw [hv3]; exact qcV _ (by decide)
 have r4 : 0 <= v4 /\ v4 <= 1023 := by rw [hv4]; exact qcV _ (by decide)
 have r5 : 0 <= v5 /\ v5 <= 3 := by rw [hv5]; exact qcV _ (by decide)
 have r6 : 0 <= v6 /\ v6 <= 9 := by rw [hv6]; exact qcV _ (by decide)
 have r7 : 0 <= v7 /\ v7 <= 1023 := by rw [hv7]; exact qcV _ (by decide)
 have hd : docC p = if v0 = 0 then endD ⟨v0, 0, 0, 0, 0, 0, 0, 0⟩ q0 else if v0 = 2 then endD ⟨v0, v1, v2, v3, v5, v6, v4.toNat, v7.toNat⟩ q7 else endD ⟨v0, v1, v2, v3, 0, 0, v4.toNat, 0⟩ q4 := by
  rw [hv7, hv6, hv5, hv4, hv3, hv2, hv1, hv0, hq7, hq6, hq5, hq4, hq3, hq2, hq1, hq0]
  rfl
 have HN := hid (And.intro hn0 (And.intro hn1 (And.intro hn2 (And.intro hn3 (And.intro hn4 (And.intro hn5 (And.intro hn6 hn7)))))))
 obtain ⟨u4, hu4⟩ := Int.eq_ofNat_of_zero_le r4.1
 obtain ⟨u7, hu7⟩ := Int.eq_ofNat_of_zero_le r7.1
 have t4 : v4.toNat = u4 := by omega
 have t7 : v7.toNat = u7 := by omega
 rw [t4, t7] at hd
 have hm4 : v4 % 4294967296 = (u4 : Int) := by omega
 have hm7 : v7 % 4294967296 = (u7 : Int) := by omega
 clear hn0 hn1 hn2 hn3 hn4 hn5 hn6 hn7 hq0 hq1 hq2 hq3 hq4 hq5 hq6 hq7 hv0 hv1 hv2 hv3 hv4 hv5 hv6 hv7 t4 t7
 have HD := hid hd
 have HR := hid (And.intro r0 (And.intro r1 (And.intro r2 (And.intro r3 (And.intro r4 (And.intro r5 (And.intro r6 (And.intro r7 (And.intro hu4 hu7)))))))))
 clear r0 r1 r2 r3 r4 r5 r6 r7 hu4 hu7 hd
 obtain ⟨l, hl⟩ := nm (p.1)
 rw [<- hl] at Z HN ⊢
 clear hl
 go_enter Tryz.func166, Tryz.ntmps166
 go_upto_region 1 with fail
 refine qab (fun w0 hw0 => ?_)
 have hA : Blk w0 w.heap.size 172 (rC l E) /\ Blk w0 (w.heap.size + 1) 29 (crtC zeroC) /\ Blk w0 (w.heap.size + 2) 172 zC /\ Below w.heap.size w w0 := by rw [hw0]; exact Z.out
 clear hw0 Z
 go_upto_region 2 with (first
  | (refine wpList_build rfl _ _ rfl #[] rfl (L11.qax _) ?_)
  | (refine qaf rfl _ _ _ rfl _ (crtC zeroC) rfl rfl _ _ crtInfo rfl (qal _) ?_))
 have hb2 := (Below.refl _ w0).alloc (Nat.le_refl _) (.cells (crtC zeroC) 29)
 have hA0 : DcAt w w0.heap.size zeroC l E (w0.alloc (.cells (crtC zeroC) 29)) := ⟨hA.1.below hb2 hA.1.lt, hA.2.1.below hb2 hA.2.1.lt, hA.2.2.1.below hb2 hA.2.2.1.lt, Blk.new _ _ _, nxt hA.2.2.2 hb2, hA.2.2.1.lt⟩
 obtain ⟨G, hG⟩ := nm (w0.heap.size)
 rw [<- hG] at hA0 ⊢
 refine qab (fun w2 hw2 => ?_)
 rw [<- hw2] at hA0
 clear hw2 hG hb2 hA
 go_upto_region 4 with (first
  | (refine qaa rfl _ _ rfl w.heap.size rfl _ _ _ _ hA0.k1 Tryz.underlying172 rfl (rInfo _ _) ?_)
  | (go_at_call 190; refine (HN.out.1 _ _ h).mono ?_; rintro e x0 ⟨E0, rfl, hE0, hb0⟩
     have hB0 := hA0.below hb0
     have o0 : x0.cell? ⟨G, 0, none⟩ = some (.int .i64 0) := hB0.k4.cell 0
     have f0 := hB0.k4.frozen 0
     have hS0 := hB0.set_ 0 (.int .i64 v0) (⟨v0, 0, 0, 0, 0, 0, 0, 0⟩) rfl)
  | (refine wpList_store_row rfl _ _ _ rfl w.heap.size (rC q0.1 E0) rfl rfl _ _ hS0.k1 (rInfo _ _) rfl (qap _ _) ?_))
 have hA0 := hS0.row q0.1 E0
 clear o0 f0 hS0 hB0 hb0
 refine qab (fun y0 hy0 => ?_)
 rw [<- hy0] at hA0
 clear hy0
 have b0 : y0.cell? ⟨G, 0, none⟩ = some (.int .i64 v0) := hA0.k4.cell 0
 by_cases hk0 : v0 = 0
 ·have HP := hid (show docC p = endD ⟨v0, 0, 0, 0, 0, 0, 0, 0⟩ q0 by rw [HD.out, if_pos hk0])
  have hk : ¬ 0 < v0 := by omega
  have hk2 : (v0 == 2) = false := by simp; omega
  have hwf : Crt.wf ⟨v0, 0, 0, 0, 0, 0, 0, 0⟩ := by have := HR.out.1; simp [Crt.wf, L11.inI, L11.inU]; omega
  clear hk0 HN HD
  go_upto_region 15 with fail
  clear b0 hk hk2
  have b1 : y0.cell? ⟨w.heap.size, 1, none⟩ = some (.int .i64 E0) := hA0.k1.cell 1
  by_cases he : E0 = 0
  case neg =>
   have q1 : (E0 != 0) = true := by simpa using he
   have hz := qgu (c := (⟨v0, 0, 0, 0, 0, 0, 0, 0⟩)) (hE0.dead he).1
   have HF := hid (show tookD (docC p) w (.returned (.tuple #[.agg (crtC zeroC), .agg (rC q0.1 E0)])) = tookD (endD (⟨v0, 0, 0, 0, 0, 0, 0, 0⟩) q0) w (.returned (.tuple #[.agg (crtC zeroC), .agg (rC q0.1 E0)])) by rw [HP.out])
   have HZ := hid hz
   clear he hz
   go_upto_region 16 with fail
   clear b1
   have hAd := hA0.drew
   obtain ⟨wd, hwd⟩ := nm (y0.drew)
   rw [<- hwd] at hAd
   refine qak (fun W => Blk W w.heap.size 172 (rC q0.1 E0)) [0, 1] (by kernel_rfl) ?_
   rw [<- hwd]
   clear hwd
   refine qar (f := 2) (by kernel_rfl) (fun _ x _ _ _ h => by cases x <;> exact h) hAd.k1 [0, 1] _ _ (by kernel_rfl) (by kernel_rfl) (by kernel_rfl) ?_
   have ne : Nonempty (qad (fun W => Blk W w.heap.size 172 (rC q0.1 E0))) := ⟨⟨_, hAd.k1⟩⟩
   conv => arg 5; simp [pick]
   refine qa5 rfl _ _ rfl #[] rfl (v := .agg (crtC zeroC)) (fun W => L11.qax W) ?_
   conv => arg 6; simp only [Act.put, sA, sB, sC]
   refine qam rfl _ _ rfl w.heap.size rfl _ _ _ _ (fun y => y.h) Tryz.underlying172 rfl (rInfo _ _) ?_
   conv => arg 6; simp only [Act.put, sA, sB, sC]
   refine wpQuiet_nil ?_
   clear ne
   have kb := qah (ds := crtC zeroC) hAd.k3 (show w.heap.size + 1 ≠ w.heap.size + 2 by omega)
   refine qag 2 (by kernel_rfl) rfl ?_
   go_wp2_with (refine wpList_store_row rfl _ _ _ rfl (w.heap.size + 1) (crtC zeroC) rfl rfl _ _ hAd.k2 crtInfo rfl (qal _) ?_)
   refine stepQ.mk ⟨fun _ => qah hAd.k1 (by omega), ?_⟩
   refine qag 3 (by kernel_rfl) rfl ?_
   go_wp2_with (refine wpList_store_row rfl _ _ _ rfl (w.heap.size + 2) (rC q0.1 E0) rfl rfl _ _ kb (rInfo _ _) rfl (qap _ _) ?_)
   refine stepQ.mk ⟨fun _ => qah (qah hAd.k1 (by omega)) (by omega), ?_⟩
   refine qaq [] _ _ _ (by kernel_rfl) ?_
   conv => arg 4; simp [pick]
   go_wp2_with fail
   (try simp only [Exit.inBlock, Exit.then, Act.put])
   refine bodyPost_ret (v := .tuple #[.agg (crtC zeroC), .agg (rC q0.1 E0)]) (qas rfl _ _ (w.heap.size + 1) (w.heap.size + 2) rfl rfl _ _ (crtC zeroC) (rC q0.1 E0) _ _ _ _ (qah (qac hAd.k2) (by omega)) (qac kb) Tryz.underlying29 rfl crtInfo Tryz.underlying172 rfl (rInfo _ _)) rfl ?_
   rw [HF.out, HZ.out]
   exact ⟨E0, rfl, hE0, below_setRow (below_setRow hAd.bw (Nat.le_succ _)) (by omega)⟩
  have q1 : (E0 != 0) = false := by simpa using he
  have hq0 : q0.2 = 0 := hE0.alive he
  have hck := L11.qa2 (⟨v0, 0, 0, 0, 0, 0, 0, 0⟩) y0 hwf
  rcases Bool.eq_false_or_eq_true (mayV (⟨v0, 0, 0, 0, 0, 0, 0, 0⟩)) with hm | hm
  case inl =>
   rw [hm] at hck
   have hz := qit (c := (⟨v0, 0, 0, 0, 0, 0, 0, 0⟩)) hq0 hm
   have HF := hid (show tookD (docC p) w (.returned (.tuple #[.agg (crtC (⟨v0, 0, 0, 0, 0, 0, 0, 0⟩)), .agg (rC q0.1 E0)])) = tookD (endD (⟨v0, 0, 0, 0, 0, 0, 0, 0⟩) q0) w (.returned (.tuple #[.agg (crtC (⟨v0, 0, 0, 0, 0, 0, 0, 0⟩)), .agg (rC q0.1 E0)])) by rw [HP.out])
   have HZ := hid hz
   clear hz hm hq0 he hwf
   go_upto_region 19 with (first
    | (refine qaa rfl _ _ rfl G rfl _ _ _ _ hA0.k4 Tryz.underlying29 rfl crtInfo ?_)
    | (go_at_call 59; refine hck.mono ?_; unfold L11.gives; rintro e wc ⟨rfl, hbc⟩))
   clear b1 hck
   have hAd := (hA0.below hbc).drew
   obtain ⟨wd, hwd⟩ := nm (wc.drew)
   rw [<- hwd] at hAd
   refine qak (fun W => Blk W w.heap.size 172 (rC q0.1 E0) /\ Blk W G 29 (crtC (⟨v0, 0, 0, 0, 0, 0, 0, 0⟩))) [0, 1] (by kernel_rfl) ?_
   rw [<- hwd]
   clear hwd hbc
   refine qar (f := 2) (by kernel_rfl) (fun _ x _ _ _ h => by cases x <;> exact h) ⟨hAd.k1, hAd.k4⟩ [0, 1] _ _ (by kernel_rfl) (by kernel_rfl) (by kernel_rfl) ?_
   have ne : Nonempty (qad (fun W => Blk W w.heap.size 172 (rC q0.1 E0) /\ Blk W G 29 (crtC (⟨v0, 0, 0, 0, 0, 0, 0, 0⟩)))) := ⟨⟨_, hAd.k1, hAd.k4⟩⟩
   conv => arg 5; simp [pick]
   refine qam rfl _ _ rfl G rfl _ _ _ _ (fun y => y.h.2) Tryz.underlying29 rfl crtInfo ?_
   conv => arg 6; simp only [Act.put, sA, sB, sC]
   refine qam rfl _ _ rfl w.heap.size rfl _ _ _ _ (fun y => y.h.1) Tryz.underlying172 rfl (rInfo _ _) ?_
   conv => arg 6; simp only [Act.put, sA, sB, sC]
   refine wpQuiet_nil ?_
   clear ne
   have hGl := hAd.hG
   have kb := qah (ds := crtC (⟨v0, 0, 0, 0, 0, 0, 0, 0⟩)) hAd.k3 (show w.heap.size + 1 ≠ w.heap.size + 2 by omega)
   refine qag 2 (by kernel_rfl) rfl ?_
   go_wp2_with (refine wpList_store_row rfl _ _ _ rfl (w.heap.size + 1) (crtC (⟨v0, 0, 0, 0, 0, 0, 0, 0⟩)) rfl rfl _ _ hAd.k2 crtInfo rfl (qal _) ?_)
   refine stepQ.mk ⟨fun _ => ⟨qah hAd.k1 (by omega), qah hAd.k4 (by omega)⟩, ?_⟩
   refine qag 3 (by kernel_rfl) rfl ?_
   go_wp2_with (refine wpList_store_row rfl _ _ _ rfl (w.heap.size + 2) (rC q0.1 E0) rfl rfl _ _ kb (rInfo _ _) rfl (qap _ _) ?_)
   refine stepQ.mk ⟨fun _ => ⟨qah (qah hAd.k1 (by omega)) (by omega), qah (qah hAd.k4 (by omega)) (by omega)⟩, ?_⟩
   refine qaq [] _ _ _ (by kernel_rfl) ?_
   conv => arg 4; simp [pick]
   go_wp2_with fail
   (try simp only [Exit.inBlock, Exit.then, Act.put])
   refine bodyPost_ret (v := .tuple #[.agg (crtC (⟨v0, 0, 0, 0, 0, 0, 0, 0⟩)), .agg (rC q0.1 E0)]) (qas rfl _ _ (w.heap.size + 1) (w.heap.size + 2) rfl rfl _ _ (crtC (⟨v0, 0, 0, 0, 0, 0, 0, 0⟩)) (rC q0.1 E0) _ _ _ _ (qah (qac hAd.k2) (by omega)) (qac kb) Tryz.underlying29 rfl crtInfo Tryz.underlying172 rfl (rInfo _ _)) rfl ?_
   rw [HF.out, HZ.out]
   exact ⟨E0, rfl, hE0, below_setRow (below_setRow hAd.bw (Nat.le_succ _)) (by omega)⟩
  rw [hm] at hck
  have hz := qis (c := (⟨v0, 0, 0, 0, 0, 0, 0, 0⟩)) hq0 hm
  have hf := fun W => qbi q0 E0 110 W hE0
  have HZ := hid hz
  obtain ⟨QF, hQF⟩ := nm (failS 110 q0)
  rw [<- hQF] at hf HZ
  have HFF := hid hf
  clear hz hm hq0 he hwf hf hQF
  go_wp2_with (first
   | (refine qaa rfl _ _ rfl G rfl _ _ _ _ hA0.k4 Tryz.underlying29 rfl crtInfo ?_)
   | (go_at_call 59; refine hck.mono ?_; unfold L11.gives; rintro e wc ⟨rfl, hbc⟩
      have hAc := hA0.below hbc)
   | (refine wpList_build rfl _ _ rfl #[] rfl (L11.qax _) ?_)
   | (refine qaa rfl _ _ rfl w.heap.size rfl _ _ _ _ hAc.k1 Tryz.underlying172 rfl (rInfo _ _) ?_)
   | (go_at_call 169; refine (HFF.out _).mono ?_; rintro e wf ⟨Ef, rfl, hEf, hbf⟩
      have hAf := hAc.below hbf
      have kb := qah (ds := crtC zeroC) hAf.k3 (show w.heap.size + 1 ≠ w.heap.size + 2 by omega))
   | (refine wpList_store_row rfl _ _ _ rfl (w.heap.size + 1) (crtC zeroC) rfl rfl _ _ hAf.k2 crtInfo rfl (qal _) ?_)
   | (refine wpList_store_row rfl _ _ _ rfl (w.heap.size + 2) (rC QF.1 Ef) rfl rfl _ _ kb (rInfo _ _) rfl (qap _ _) ?_))
  (try simp only [Exit.inBlock, Exit.then, Act.put])
  refine bodyPost_ret (v := .tuple #[.agg (crtC zeroC), .agg (rC QF.1 Ef)]) (qas rfl _ _ (w.heap.size + 1) (w.heap.size + 2) rfl rfl _ _ (crtC zeroC) (rC QF.1 Ef) _ _ _ _ (qah (qac hAf.k2) (by omega)) (qac kb) Tryz.underlying29 rfl crtInfo Tryz.underlying172 rfl (rInfo _ _)) rfl ?_
  rw [HP.out, HZ.out]
  exact ⟨Ef, rfl, hEf, below_setRow (below_setRow hAf.bw (Nat.le_succ _)) (by omega)⟩
 have hk : 0 < v0 := by have := HR.out.1.1; omega
 go_upto_region 6 with (first
  | (refine qaa rfl _ _ rfl w.heap.size rfl _ _ _ _ hA0.k1 Tryz.underlying172 rfl (rInfo _ _) ?_)
  | (go_at_call 190; refine (HN.out.2.1 _ _ hE0).mono ?_; rintro e x1 ⟨E1, rfl, hE1, hb1⟩
     have hB1 := hA0.below hb1
     have o1 : x1.cell? ⟨G, 1, none⟩ = some (.int .i64 0) := hB1.k4.cell 1
     have f1 := hB1.k4.frozen 1
     have hS1 := hB1.set_ 1 (.int .i64 v1) (⟨v0, v1, 0, 0, 0, 0, 0, 0⟩) rfl)
  | (refine wpList_store_row rfl _ _ _ rfl w.heap.size (rC q1.1 E1) rfl rfl _ _ hS1.k1 (rInfo _ _) rfl (qap _ _) ?_))
 have hA1 := hS1.row q1.1 E1
 clear o1 f1 hS1 hB1 hb1 hA0 b0 hk
 refine qab (fun y1 hy1 => ?_)
 rw [<- hy1] at hA1
 clear hy1
 go_upto_region 7 with (first
  | (refine qaa rfl _ _ rfl w.heap.size rfl _ _ _ _ hA1.k1 Tryz.underlying172 rfl (rInfo _ _) ?_)
  | (go_at_call 190; refine (HN.out.2.2.1 _ _ hE1).mono ?_; rintro e x2 ⟨E2, rfl, hE2, hb2⟩
     have hB2 := hA1.below hb2
     have o2 : x2.cell? ⟨G, 2, none⟩ = some (.int .i64 0) := hB2.k4.cell 2
     have f2 := hB2.k4.frozen 2
     have hS2 := hB2.set_ 2 (.int .i64 v2) (⟨v0, v1, v2, 0, 0, 0, 0, 0⟩) rfl)
  | (refine wpList_store_row rfl _ _ _ rfl w.heap.size (rC q2.1 E2) rfl rfl _ _ hS2.k1 (rInfo _ _) rfl (qap _ _) ?_))
 have hA2 := hS2.row q2.1 E2
 clear o2 f2 hS2 hB2 hb2 hA1
 refine qab (fun y2 hy2 => ?_)
 rw [<- hy2] at hA2
 clear hy2
 go_upto_region 8 with (first
  | (refine qaa rfl _ _ rfl w.heap.size rfl _ _ _ _ hA2.k1 Tryz.underlying172 rfl (rInfo _ _) ?_)
  | (go_at_call 190; refine (HN.out.2.2.2.1 _ _ hE2).mono ?_; rintro e x3 ⟨E3, rfl, hE3, hb3⟩
     have hB3 := hA2.below hb3
     have o3 : x3.cell? ⟨G, 3, none⟩ = some (.int .i64 0) := hB3.k4.cell 3
     have f3 := hB3.k4.frozen 3
     have hS3 := hB3.set_ 3 (.int .i64 v3) (⟨v0, v1, v2, v3, 0, 0, 0, 0⟩) rfl)
  | (refine wpList_store_row rfl _ _ _ rfl w.heap.size (rC q3.1 E3) rfl rfl _ _ hS3.k1 (rInfo _ _) rfl (qap _ _) ?_))
 have hA3 := hS3.row q3.1 E3
 clear o3 f3 hS3 hB3 hb3 hA2
 refine qab (fun y3 hy3 => ?_)
 rw [<- hy3] at hA3
 clear hy3
 go_upto_region 9 with (first
  | (refine qaa rfl _ _ rfl w.heap.size rfl _ _ _ _ hA3.k1 Tryz.underlying172 rfl (rInfo _ _) ?_)
  | (go_at_call 190; refine (HN.out.2.2.2.2.1 _ _ hE3).mono ?_; rintro e x4 ⟨E4, rfl, hE4, hb4⟩
     have hB4 := hA3.below hb4)
  | (refine wpList_store_row rfl _ _ _ rfl w.heap.size (rC q4.1 E4) rfl rfl _ _ hB4.k1 (rInfo _ _) rfl (qap _ _) ?_))
 have hA4 := hB4.row q4.1 E4
 clear hB4 hb4 hA3
 refine qab (fun y4 hy4 => ?_)
 rw [<- hy4] at hA4
 clear hy4
 have o9 : y4.cell? ⟨G, 6, none⟩ = some (.int .u32 0) := hA4.k4.cell 6
 have f9 := hA4.k4.frozen 6
 have hA9 := hA4.set_ 6 (.int .u32 u4) (⟨v0, v1, v2, v3, 0, 0, u4, 0⟩) rfl
 go_upto_region 10 with fail
 clear o9 f9 hA4
 refine qab (fun y9 hy9 => ?_)
 rw [<- hy9] at hA9
 clear hy9
 have b0 : y9.cell? ⟨G, 0, none⟩ = some (.int .i64 v0) := hA9.k4.cell 0
 by_cases hk2 : v0 = 2
 case neg =>
  have HP := hid (show docC p = endD ⟨v0, v1, v2, v3, 0, 0, u4, 0⟩ q4 by rw [HD.out, if_neg hk0, if_neg hk2])
  have hkb : (v0 == 2) = false := by simpa using hk2
  have hwf : Crt.wf ⟨v0, v1, v2, v3, 0, 0, u4, 0⟩ := by obtain ⟨r0, r1, r2, r3, r4, r5, r6, r7, hu4, hu7⟩ := HR.out; simp [Crt.wf, L11.inI, L11.inU]; omega
  clear hk0 hk2 HN HD hm4 hm7
  go_upto_region 15 with fail
  clear b0 hkb
  have b1 : y9.cell? ⟨w.heap.size, 1, none⟩ = some (.int .i64 E4) := hA9.k1.cell 1
  by_cases he : E4 = 0
  case neg =>
   have q1 : (E4 != 0) = true := by simpa using he
   have hz := qgu (c := (⟨v0, v1, v2, v3, 0, 0, u4, 0⟩)) (hE4.dead he).1
   have HF := hid (show tookD (docC p) w (.returned (.tuple #[.agg (crtC zeroC), .agg (rC q4.1 E4)])) = tookD (endD (⟨v0, v1, v2, v3, 0, 0, u4, 0⟩) q4) w (.returned (.tuple #[.agg (crtC zeroC), .agg (rC q4.1 E4)])) by rw [HP.out])
   have HZ := hid hz
   clear he hz
   go_upto_region 16 with fail
   clear b1
   have hAd := hA9.drew
   obtain ⟨wd, hwd⟩ := nm (y9.drew)
   rw [<- hwd] at hAd
   refine qak (fun W => Blk W w.heap.size 172 (rC q4.1 E4)) [0, 1] (by kernel_rfl) ?_
   rw [<- hwd]
   clear hwd
   refine qar (f := 2) (by kernel_rfl) (fun _ x _ _ _ h => by cases x <;> exact h) hAd.k1 [0, 1] _ _ (by kernel_rfl) (by kernel_rfl) (by kernel_rfl) ?_
   have ne : Nonempty (qad (fun W => Blk W w.heap.size 172 (rC q4.1 E4))) := ⟨⟨_, hAd.k1⟩⟩
   conv => arg 5; simp [pick]
   refine qa5 rfl _ _ rfl #[] rfl (v := .agg (crtC zeroC)) (fun W => L11.qax W) ?_
   conv => arg 6; simp only [Act.put, sA, sB, sC]
   refine qam rfl _ _ rfl w.heap.size rfl _ _ _ _ (fun y => y.h) Tryz.underlying172 rfl (rInfo _ _) ?_
   conv => arg 6; simp only [Act.put, sA, sB, sC]
   refine wpQuiet_nil ?_
   clear ne
   have kb := qah (ds := crtC zeroC) hAd.k3 (show w.heap.size + 1 ≠ w.heap.size + 2 by omega)
   refine qag 2 (by kernel_rfl) rfl ?_
   go_wp2_with (refine wpList_store_row rfl _ _ _ rfl (w.heap.size + 1) (crtC zeroC) rfl rfl _ _ hAd.k2 crtInfo rfl (qal _) ?_)
   refine stepQ.mk ⟨fun _ => qah hAd.k1 (by omega), ?_⟩
   refine qag 3 (by kernel_rfl) rfl ?_
   go_wp2_with (refine wpList_store_row rfl _ _ _ rfl (w.heap.size + 2) (rC q4.1 E4) rfl rfl _ _ kb (rInfo _ _) rfl (qap _ _) ?_)
   refine stepQ.mk ⟨fun _ => qah (qah hAd.k1 (by omega)) (by omega), ?_⟩
   refine qaq [] _ _ _ (by kernel_rfl) ?_
   conv => arg 4; simp [pick]
   go_wp2_with fail
   (try simp only [Exit.inBlock, Exit.then, Act.put])
   refine bodyPost_ret (v := .tuple #[.agg (crtC zeroC), .agg (rC q4.1 E4)]) (qas rfl _ _ (w.heap.size + 1) (w.heap.size + 2) rfl rfl _ _ (crtC zeroC) (rC q4.1 E4) _ _ _ _ (qah (qac hAd.k2) (by omega)) (qac kb) Tryz.underlying29 rfl crtInfo Tryz.underlying172 rfl (rInfo _ _)) rfl ?_
   rw [HF.out, HZ.out]
   exact ⟨E4, rfl, hE4, below_setRow (below_setRow hAd.bw (Nat.le_succ _)) (by omega)⟩
  have q1 : (E4 != 0) = false := by simpa using he
  have hq0 : q4.2 = 0 := hE4.alive he
  have hck := L11.qa2 (⟨v0, v1, v2, v3, 0, 0, u4, 0⟩) y9 hwf
  rcases Bool.eq_false_or_eq_true (mayV (⟨v0, v1, v2, v3, 0, 0, u4, 0⟩)) with hm | hm
  case inl =>
   rw [hm] at hck
   have hz := qit (c := (⟨v0, v1, v2, v3, 0, 0, u4, 0⟩)) hq0 hm
   have HF := hid (show tookD (docC p) w (.returned (.tuple #[.agg (crtC (⟨v0, v1, v2, v3, 0, 0, u4, 0⟩)), .agg (rC q4.1 E4)])) = tookD (endD (⟨v0, v1, v2, v3, 0, 0, u4, 0⟩) q4) w (.returned (.tuple #[.agg (crtC (⟨v0, v1, v2, v3, 0, 0, u4, 0⟩)), .agg (rC q4.1 E4)])) by rw [HP.out])
   have HZ := hid hz
   clear hz hm hq0 he hwf
   go_upto_region 19 with (first
    | (refine qaa rfl _ _ rfl G rfl _ _ _ _ hA9.k4 Tryz.underlying29 rfl crtInfo ?_)
    | (go_at_call 59; refine hck.mono ?_; unfold L11.gives; rintro e wc ⟨rfl, hbc⟩))
   clear b1 hck
   have hAd := (hA9.below hbc).drew
   obtain ⟨wd, hwd⟩ := nm (wc.drew)
   rw [<- hwd] at hAd
   refine qak (fun W => Blk W w.heap.size 172 (rC q4.1 E4) /\ Blk W G 29 (crtC (⟨v0, v1, v2, v3, 0, 0, u4, 0⟩))) [0, 1] (by kernel_rfl) ?_
   rw [<- hwd]
   clear hwd hbc
   refine qar (f := 2) (by kernel_rfl) (fun _ x _ _ _ h => by cases x <;> exact h) ⟨hAd.k1, hAd.k4⟩ [0, 1] _ _ (by kernel_rfl) (by kernel_rfl) (by kernel_rfl) ?_
   have ne : Nonempty (qad (fun W => Blk W w.heap.size 172 (rC q4.1 E4) /\ Blk W G 29 (crtC (⟨v0, v1, v2, v3, 0, 0, u4, 0⟩)))) := ⟨⟨_, hAd.k1, hAd.k4⟩⟩
   conv => arg 5; simp [pick]
   refine qam rfl _ _ rfl G rfl _ _ _ _ (fun y => y.h.2) Tryz.underlying29 rfl crtInfo ?_
   conv => arg 6; simp only [Act.put, sA, sB, sC]
   refine qam rfl _ _ rfl w.heap.size rfl _ _ _ _ (fun y => y.h.1) Tryz.underlying172 rfl (rInfo _ _) ?_
   conv => arg 6; simp only [Act.put, sA, sB, sC]
   refine wpQuiet_nil ?_
   clear ne
   have hGl := hAd.hG
   have kb := qah (ds := crtC (⟨v0, v1, v2, v3, 0, 0, u4, 0⟩)) hAd.k3 (show w.heap.size + 1 ≠ w.heap.size + 2 by omega)
   refine qag 2 (by kernel_rfl) rfl ?_
   go_wp2_with (refine wpList_store_row rfl _ _ _ rfl (w.heap.size + 1) (crtC (⟨v0, v1, v2, v3, 0, 0, u4, 0⟩)) rfl rfl _ _ hAd.k2 crtInfo rfl (qal _) ?_)
   refine stepQ.mk ⟨fun _ => ⟨qah hAd.k1 (by omega), qah hAd.k4 (by omega)⟩, ?_⟩
   refine qag 3 (by kernel_rfl) rfl ?_
   go_wp2_with (refine wpList_store_row rfl _ _ _ rfl (w.heap.size + 2) (rC q4.1 E4) rfl rfl _ _ kb (rInfo _ _) rfl (qap _ _) ?_)
   refine stepQ.mk ⟨fun _ => ⟨qah (qah hAd.k1 (by omega)) (by omega), qah (qah hAd.k4 (by omega)) (by omega)⟩, ?_⟩
   refine qaq [] _ _ _ (by kernel_rfl) ?_
   conv => arg 4; simp [pick]
   go_wp2_with fail
   (try simp only [Exit.inBlock, Exit.then, Act.put])
   refine bodyPost_ret (v := .tuple #[.agg (crtC (⟨v0, v1, v2, v3, 0, 0, u4, 0⟩)), .agg (rC q4.1 E4)]) (qas rfl _ _ (w.heap.size + 1) (w.heap.size + 2) rfl rfl _ _ (crtC (⟨v0, v1, v2, v3, 0, 0, u4, 0⟩)) (rC q4.1 E4) _ _ _ _ (qah (qac hAd.k2) (by omega)) (qac kb) Tryz.underlying29 rfl crtInfo Tryz.underlying172 rfl (rInfo _ _)) rfl ?_
   rw [HF.out, HZ.out]
   exact ⟨E4, rfl, hE4, below_setRow (below_setRow hAd.bw (Nat.le_succ _)) (by omega)⟩
  rw [hm] at hck
  have hz := qis (c := (⟨v0, v1, v2, v3, 0, 0, u4, 0⟩)) hq0 hm
  have hf := fun W => qbi q4 E4 110 W hE4
  have HZ := hid hz
  obtain ⟨QF, hQF⟩ := nm (failS 110 q4)
  rw [<- hQF] at hf HZ
  have HFF := hid hf
  clear hz hm hq0 he hwf hf hQF
  go_wp2_with (first
   | (refine qaa rfl _ _ rfl G rfl _ _ _ _ hA9.k4 Tryz.underlying29 rfl crtInfo ?_)
   | (go_at_call 59; refine hck.mono ?_; unfold L11.gives; rintro e wc ⟨rfl, hbc⟩
      have hAc := hA9.below hbc)
   | (refine wpList_build rfl _ _ rfl #[] rfl (L11.qax _) ?_)
   | (refine qaa rfl _ _ rfl w.heap.size rfl _ _ _ _ hAc.k1 Tryz.underlying172 rfl (rInfo _ _) ?_)
   | (go_at_call 169; refine (HFF.out _).mono ?_; rintro e wf ⟨Ef, rfl, hEf, hbf⟩
      have hAf := hAc.below hbf
      have kb := qah (ds := crtC zeroC) hAf.k3 (show w.heap.size + 1 ≠ w.heap.size + 2 by omega))
   | (refine wpList_store_row rfl _ _ _ rfl (w.heap.size + 1) (crtC zeroC) rfl rfl _ _ hAf.k2 crtInfo rfl (qal _) ?_)
   | (refine wpList_store_row rfl _ _ _ rfl (w.heap.size + 2) (rC QF.1 Ef) rfl rfl _ _ kb (rInfo _ _) rfl (qap _ _) ?_))
  (try simp only [Exit.inBlock, Exit.then, Act.put])
  refine bodyPost_ret (v := .tuple #[.agg (crtC zeroC), .agg (rC QF.1 Ef)]) (qas rfl _ _ (w.heap.size + 1) (w.heap.size + 2) rfl rfl _ _ (crtC zeroC) (rC QF.1 Ef) _ _ _ _ (qah (qac hAf.k2) (by omega)) (qac kb) Tryz.underlying29 rfl crtInfo Tryz.underlying172 rfl (rInfo _ _)) rfl ?_
  rw [HP.out, HZ.out]
  exact ⟨Ef, rfl, hEf, below_setRow (below_setRow hAf.bw (Nat.le_succ _)) (by omega)⟩
 have HP := hid (show docC p = endD ⟨v0, v1, v2, v3, v5, v6, u4, u7⟩ q7 by rw [HD.out, if_neg hk0, if_pos hk2])
 have hkb : (v0 == 2) = true := by simpa using hk2
 have hwf : Crt.wf ⟨v0, v1, v2, v3, v5, v6, u4, u7⟩ := by obtain ⟨r0, r1, r2, r3, r4, r5, r6, r7, hu4, hu7⟩ := HR.out; simp [Crt.wf, L11.inI, L11.inU]; omega
 clear hk0 hk2 HD
 go_upto_region 12 with (first
  | (refine qaa rfl _ _ rfl w.heap.size rfl _ _ _ _ hA9.k1 Tryz.underlying172 rfl (rInfo _ _) ?_)
  | (go_at_call 190; refine (HN.out.2.2.2.2.2.1 _ _ hE4).mono ?_; rintro e x5 ⟨E5, rfl, hE5, hb5⟩
     have hB5 := hA9.below hb5
     have o5 : x5.cell? ⟨G, 4, none⟩ = some (.int .i64 0) := hB5.k4.cell 4
     have f5 := hB5.k4.frozen 4
     have hS5 := hB5.set_ 4 (.int .i64 v5) (⟨v0, v1, v2, v3, v5, 0, u4, 0⟩) rfl)
  | (refine wpList_store_row rfl _ _ _ rfl w.heap.size (rC q5.1 E5) rfl rfl _ _ hS5.k1 (rInfo _ _) rfl (qap _ _) ?_))
 have hA5 := hS5.row q5.1 E5
 clear o5 f5 hS5 hB5 hb5 hA9 b0 hkb
 refine qab (fun y5 hy5 => ?_)
 rw [<- hy5] at hA5
 clear hy5
 go_upto_region 13 with (first
  | (refine qaa rfl _ _ rfl w.heap.size rfl _ _ _ _ hA5.k1 Tryz.underlying172 rfl (rInfo _ _) ?_)
  | (go_at_call 190; refine (HN.out.2.2.2.2.2.2.1 _ _ hE5).mono ?_; rintro e x6 ⟨E6, rfl, hE6, hb6⟩
     have hB6 := hA5.below hb6
     have o6 : x6.cell? ⟨G, 5, none⟩ = some (.int .i64 0) := hB6.k4.cell 5
     have f6 := hB6.k4.frozen 5
     have hS6 := hB6.set_ 5 (.int .i64 v6) (⟨v0, v1, v2, v3, v5, v6, u4, 0⟩) rfl)
  | (refine wpList_store_row rfl _ _ _ rfl w.heap.size (rC q6.1 E6) rfl rfl _ _ hS6.k1 (rInfo _ _) rfl (qap _ _) ?_))
 have hA6 := hS6.row q6.1 E6
 clear o6 f6 hS6 hB6 hb6 hA5
 refine qab (fun y6 hy6 => ?_)
 rw [<- hy6] at hA6
 clear hy6
 go_upto_region 14 with (first
  | (refine qaa rfl _ _ rfl w.heap.size rfl _ _ _ _ hA6.k1 Tryz.underlying172 rfl (rInfo _ _) ?_)
  | (go_at_call 190; refine (HN.out.2.2.2.2.2.2.2 _ _ hE6).mono ?_; rintro e x7 ⟨E7, rfl, hE7, hb7⟩
     have hB7 := hA6.below hb7)
  | (refine wpList_store_row rfl _ _ _ rfl w.heap.size (rC q7.1 E7) rfl rfl _ _ hB7.k1 (rInfo _ _) rfl (qap _ _) ?_))
 have hA7 := hB7.row q7.1 E7
 clear hB7 hb7 hA6
 refine qab (fun y7 hy7 => ?_)
 rw [<- hy7] at hA7
 clear hy7
 have o9 : y7.cell? ⟨G, 7, none⟩ = some (.int .u32 0) := hA7.k4.cell 7
 have f9 := hA7.k4.frozen 7
 have hA8 := hA7.set_ 7 (.int .u32 u7) (⟨v0, v1, v2, v3, v5, v6, u4, u7⟩) rfl
 go_upto_region 15 with fail
 clear o9 f9 hA7 HN hm4 hm7
 refine qab (fun y8 hy8 => ?_)
 rw [<- hy8] at hA8
 clear hy8
 have b1 : y8.cell? ⟨w.heap.size, 1, none⟩ = some (.int .i64 E7) := hA8.k1.cell 1
 by_cases he : E7 = 0
 case neg =>
  have q1 : (E7 != 0) = true := by simpa using he
  have hz := qgu (c := (⟨v0, v1, v2, v3, v5, v6, u4, u7⟩)) (hE7.dead he).1
  have HF := hid (show tookD (docC p) w (.returned (.tuple #[.agg (crtC zeroC), .agg (rC q7.1 E7)])) = tookD (endD (⟨v0, v1, v2, v3, v5, v6, u4, u7⟩) q7) w (.returned (.tuple #[.agg (crtC zeroC), .agg (rC q7.1 E7)])) by rw [HP.out])
  have HZ := hid hz
  clear he hz
  go_upto_region 16 with fail
  clear b1
  have hAd := hA8.drew
  obtain ⟨wd, hwd⟩ := nm (y8.drew)
  rw [<- hwd] at hAd
  refine qak (fun W => Blk W w.heap.size 172 (rC q7.1 E7)) [0, 1] (by kernel_rfl) ?_
  rw [<- hwd]
  clear hwd
  refine qar (f := 2) (by kernel_rfl) (fun _ x _ _ _ h => by cases x <;> exact h) hAd.k1 [0, 1] _ _ (by kernel_rfl) (by kernel_rfl) (by kernel_rfl) ?_
  have ne : Nonempty (qad (fun W => Blk W w.heap.size 172 (rC q7.1 E7))) := ⟨⟨_, hAd.k1⟩⟩
  conv => arg 5; simp [pick]
  refine qa5 rfl _ _ rfl #[] rfl (v := .agg (crtC zeroC)) (fun W => L11.qax W) ?_
  conv => arg 6; simp only [Act.put, sA, sB, sC]
  refine qam rfl _ _ rfl w.heap.size rfl _ _ _ _ (fun y => y.h) Tryz.underlying172 rfl (rInfo _ _) ?_
  conv => arg 6; simp only [Act.put, sA, sB, sC]
  refine wpQuiet_nil ?_
  clear ne
  have kb := qah (ds := crtC zeroC) hAd.k3 (show w.heap.size + 1 ≠ w.heap.size + 2 by omega)
  refine qag 2 (by kernel_rfl) rfl ?_
  go_wp2_with (refine wpList_store_row rfl _ _ _ rfl (w.heap.size + 1) (crtC zeroC) rfl rfl _ _ hAd.k2 crtInfo rfl (qal _) ?_)
  refine stepQ.mk ⟨fun _ => qah hAd.k1 (by omega), ?_⟩
  refine qag 3 (by kernel_rfl) rfl ?_
  go_wp2_with (refine wpList_store_row rfl _ _ _ rfl (w.heap.size + 2) (rC q7.1 E7) rfl rfl _ _ kb (rInfo _ _) rfl (qap _ _) ?_)
  refine stepQ.mk ⟨fun _ => qah (qah hAd.k1 (by omega)) (by omega), ?_⟩
  refine qaq [] _ _ _ (by kernel_rfl) ?_
  conv => arg 4; simp [pick]
  go_wp2_with fail
  (try simp only [Exit.inBlock, Exit.then, Act.put])
  refine bodyPost_ret (v := .tuple #[.agg (crtC zeroC), .agg (rC q7.1 E7)]) (qas rfl _ _ (w.heap.size + 1) (w.heap.size + 2) rfl rfl _ _ (crtC zeroC) (rC q7.1 E7) _ _ _ _ (qah (qac hAd.k2) (by omega)) (qac kb) Tryz.underlying29 rfl crtInfo Tryz.underlying172 rfl (rInfo _ _)) rfl ?_
  rw [HF.out, HZ.out]
  exact ⟨E7, rfl, hE7, below_setRow (below_setRow hAd.bw (Nat.le_succ _)) (by omega)⟩
 have q1 : (E7 != 0) = false := by simpa using he
 have hq0 : q7.2 = 0 := hE7.alive he
 have hck := L11.qa2 (⟨v0, v1, v2, v3, v5, v6, u4, u7⟩) y8 hwf
 rcases Bool.eq_false_or_eq_true (mayV (⟨v0, v1, v2, v3, v5, v6, u4, u7⟩)) with hm | hm
 case inl =>
  rw [hm] at hck
  have hz := qit (c := (⟨v0, v1, v2, v3, v5, v6, u4, u7⟩)) hq0 hm
  have HF := hid (show tookD (docC p) w (.returned (.tuple #[.agg (crtC (⟨v0, v1, v2, v3, v5, v6, u4, u7⟩)), .agg (rC q7.1 E7)])) = tookD (endD (⟨v0, v1, v2, v3, v5, v6, u4, u7⟩) q7) w (.returned (.tuple #[.agg (crtC (⟨v0, v1, v2, v3, v5, v6, u4, u7⟩)), .agg (rC q7.1 E7)])) by rw [HP.out])
  have HZ := hid hz
  clear hz hm hq0 he hwf
  go_upto_region 19 with (first
   | (refine qaa rfl _ _ rfl G rfl _ _ _ _ hA8.k4 Tryz.underlying29 rfl crtInfo ?_)
   | (go_at_call 59; refine hck.mono ?_; unfold L11.gives; rintro e wc ⟨rfl, hbc⟩))
  clear b1 hck
  have hAd := (hA8.below hbc).drew
  obtain ⟨wd, hwd⟩ := nm (wc.drew)
  rw [<- hwd] at hAd
  refine qak (fun W => Blk W w.heap.size 172 (rC q7.1 E7) /\ Blk W G 29 (crtC (⟨v0, v1, v2, v3, v5, v6, u4, u7⟩))) [0, 1] (by kernel_rfl) ?_
  rw [<- hwd]
  clear hwd hbc
  refine qar (f := 2) (by kernel_rfl) (fun _ x _ _ _ h => by cases x <;> exact h) ⟨hAd.k1, hAd.k4⟩ [0, 1] _ _ (by kernel_rfl) (by kernel_rfl) (by kernel_rfl) ?_
  have ne : Nonempty (qad (fun W => Blk W w.heap.size 172 (rC q7.1 E7) /\ Blk W G 29 (crtC (⟨v0, v1, v2, v3, v5, v6, u4, u7⟩)))) := ⟨⟨_, hAd.k1, hAd.k4⟩⟩
  conv => arg 5; simp [pick]
  refine qam rfl _ _ rfl G rfl _ _ _ _ (fun y => y.h.2) Tryz.underlying29 rfl crtInfo ?_
  conv => arg 6; simp only [Act.put, sA, sB, sC]
  refine qam rfl _ _ rfl w.heap.size rfl _ _ _ _ (fun y => y.h.1) Tryz.underlying172 rfl (rInfo _ _) ?_
  conv => arg 6; simp only [Act.put, sA, sB, sC]
  refine wpQuiet_nil ?_
  clear ne
  have hGl := hAd.hG
  have kb := qah (ds := crtC (⟨v0, v1, v2, v3, v5, v6, u4, u7⟩)) hAd.k3 (show w.heap.size + 1 ≠ w.heap.size + 2 by omega)
  refine qag 2 (by kernel_rfl) rfl ?_
  go_wp2_with (refine wpList_store_row rfl _ _ _ rfl (w.heap.size + 1) (crtC (⟨v0, v1, v2, v3, v5, v6, u4, u7⟩)) rfl rfl _ _ hAd.k2 crtInfo rfl (qal _) ?_)
  refine stepQ.mk ⟨fun _ => ⟨qah hAd.k1 (by omega), qah hAd.k4 (by omega)⟩, ?_⟩
  refine qag 3 (by kernel_rfl) rfl ?_
  go_wp2_with (refine wpList_store_row rfl _ _ _ rfl (w.heap.size + 2) (rC q7.1 E7) rfl rfl _ _ kb (rInfo _ _) rfl (qap _ _) ?_)
  refine stepQ.mk ⟨fun _ => ⟨qah (qah hAd.k1 (by omega)) (by omega), qah (qah hAd.k4 (by omega)) (by omega)⟩, ?_⟩
  refine qaq [] _ _ _ (by kernel_rfl) ?_
  conv => arg 4; simp [pick]
  go_wp2_with fail
  (try simp only [Exit.inBlock, Exit.then, Act.put])
  refine bodyPost_ret (v := .tuple #[.agg (crtC (⟨v0, v1, v2, v3, v5, v6, u4, u7⟩)), .agg (rC q7.1 E7)]) (qas rfl _ _ (w.heap.size + 1) (w.heap.size + 2) rfl rfl _ _ (crtC (⟨v0, v1, v2, v3, v5, v6, u4, u7⟩)) (rC q7.1 E7) _ _ _ _ (qah (qac hAd.k2) (by omega)) (qac kb) Tryz.underlying29 rfl crtInfo Tryz.underlying172 rfl (rInfo _ _)) rfl ?_
  rw [HF.out, HZ.out]
  exact ⟨E7, rfl, hE7, below_setRow (below_setRow hAd.bw (Nat.le_succ _)) (by omega)⟩
 rw [hm] at hck
 have hz := qis (c := (⟨v0, v1, v2, v3, v5, v6, u4, u7⟩)) hq0 hm
 have hf := fun W => qbi q7 E7 110 W hE7
 have HZ := hid hz
 obtain ⟨QF, hQF⟩ := nm (failS 110 q7)
 rw [<- hQF] at hf HZ
 have HFF := hid hf
 clear hz hm hq0 he hwf hf hQF
 go_wp2_with (first
  | (refine qaa rfl _ _ rfl G rfl _ _ _ _ hA8.k4 Tryz.underlying29 rfl crtInfo ?_)
  | (go_at_call 59; refine hck.mono ?_; unfold L11.gives; rintro e wc ⟨rfl, hbc⟩
     have hAc := hA8.below hbc)
  | (refine wpList_build rfl _ _ rfl #[] rfl (L11.qax _) ?_)
  | (refine qaa rfl _ _ rfl w.heap.size rfl _ _ _ _ hAc.k1 Tryz.underlying172 rfl (rInfo _ _) ?_)
  | (go_at_call 169; refine (HFF.out _).mono ?_; rintro e wf ⟨Ef, rfl, hEf, hbf⟩
     have hAf := hAc.below hbf
     have kb := qah (ds := crtC zeroC) hAf.k3 (show w.heap.size + 1 ≠ w.heap.size + 2 by omega))
  | (refine wpList_store_row rfl _ _ _ rfl (w.heap.size + 1) (crtC zeroC) rfl rfl _ _ hAf.k2 crtInfo rfl (qal _) ?_)
  | (refine wpList_store_row rfl _ _ _ rfl (w.heap.size + 2) (rC QF.1 Ef) rfl rfl _ _ kb (rInfo _ _) rfl (qap _ _) ?_))
 (try simp only [Exit.inBlock, Exit.then, Act.put])
 refine bodyPost_ret (v := .tuple #[.agg (crtC zeroC), .agg (rC QF.1 Ef)]) (qas rfl _ _ (w.heap.size + 1) (w.heap.size + 2) rfl rfl _ _ (crtC zeroC) (rC QF.1 Ef) _ _ _ _ (qah (qac hAf.k2) (by omega)) (qac kb) Tryz.underlying29 rfl crtInfo Tryz.underlying172 rfl (rInfo _ _)) rfl ?_
 rw [HP.out, HZ.out]
 exact ⟨Ef, rfl, hEf, below_setRow (below_setRow hAf.bw (Nat.le_succ _)) (by omega)⟩
def tookC (p : List UInt8 × Int) (w : World) (e : Ending) (w' : World) : Prop := leads (fun E => .tuple #[.agg (crtC (takeC p).1), .agg (rC (takeC p).2.1 E)]) (takeC p).2 w e w'
theorem qh5 (p : List UInt8 × Int) (E : Int) (w : World) (h : okE E p) : Calls Tryz.prog 166 #[.agg (rC p.1 E)] w (tookC p w) := by
 refine (qmk p E w h).mono ?_
 rintro e w' ⟨E1, rfl, h1, hb⟩
 obtain ⟨d1, d2, d3⟩ := docC_eq h.2.1
 exact ⟨E1, by rw [d1, d2.1], ⟨h1.1.trans d2.2, qfy h.2.1, by rw [<- d2.1]; exact h1.2.2⟩, hb⟩
