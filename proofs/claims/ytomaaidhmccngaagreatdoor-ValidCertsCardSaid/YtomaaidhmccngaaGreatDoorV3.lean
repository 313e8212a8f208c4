import Derived.Test.YtomaaidhmccngaaGreatDoorL7S
import Derived.Test.YtomaaidhmccngaaGreatDoorV2
set_option linter.unusedSimpArgs false
set_option linter.unusedVariables false
set_option maxRecDepth 100000
set_option maxHeartbeats 16000000
namespace Go.Proofs.YtomaaidhmccngaaGreatDoor
open Go.RowKit Go.Maps Go.Lib
open L3 (Blk Reads)
open L5 (Bk Rf)
open L6 (Turn moreB fresh From In Apart)
open L7 (Sg Cn Rs Rc Shr shrC)
theorem isF_inI {f : Int} (h : L4.isF f = true) : inI f := by have := L4.qbP h; unfold inI; omega
theorem qeK {f : Int} (h : L4.isF f = true) : L7.inI f := by have := L4.qbP h; unfold L7.inI; omega
def RTrio (V : Nat -> Prop) (b g c : Nat) (R : Regs) (N : List Int) (W : World) : Prop :=
 ∃ S T X : Nat -> Prop, Rf W S b R.K /\ Rs W T g R.f R.bad R.L /\ Rc W X c R.f R.G N /\ Apart S T /\ Apart T X /\ Apart X S /\ (∀ k, S k -> V k) /\ (∀ k, T k -> V k) /\ (∀ k, X k -> V k) /\ In W V
section
variable {U V : Nat -> Prop} {b g c : Nat} {R : Regs} {N N' : List Int} {B B' : Nat} {w W W' : World}
theorem RTrio.inV (h : RTrio V b g c R N W) : In W V := by obtain ⟨S, T, X, _, _, _, _, _, _, _, _, _, hi⟩ := h; exact hi
theorem RTrio.turn (h : RTrio V b g c R N W) (ht : Turn U W W') (hd : ∀ k, V k -> ¬ U k) : RTrio V b g c R N W' := by
 obtain ⟨S, T, X, h1, h2, h3, h5, h6, h7, h8, h9, h10, hi⟩ := h
 exact ⟨S, T, X, h1.kept ht (fun k _ hk => hd k (h8 k hk)), h2.kept ht (fun k _ hk => hd k (h9 k hk)), h3.kept ht (fun k _ hk => hd k (h10 k hk)), h5, h6, h7, h8, h9, h10, hi.le ht.size⟩
theorem RTrio.below (h : RTrio V b g c R N W) (hb : Below W.heap.size W W') : RTrio V b g c R N W' := h.turn (L6.Turn.of_keep (S := fun _ => False) hb) (fun _ _ h => h)
theorem qkP (h : Trio U b g c R N B W) (hl : R.K.length <= 1000000) (s : ByteArray) :
 Calls Tryz.prog 30 #[.pointer (some ⟨b, 0, none⟩), .string s] W fun e W' => (∃ v, e = .returned v) /\ Trio (moreB U W W') b g c { R with K := L5.enterL R.K s } N B W' /\ Turn U W W' := by
 obtain ⟨S, T, X, m, h1, h2, h3, h4, h5, h6, h7, h8, h9, h10, hi⟩ := h
 refine (L5.ql1 S b R.K s W h1 (by omega)).mono ?_
 rintro e W' ⟨rfl, hK, ht⟩
 have hiT : In W T := fun j hj => hi j (h9 j hj)
 have hiX : In W X := fun j hj => hi j (h10 j hj)
 exact ⟨⟨_, rfl⟩, ⟨moreB S W W', T, X, m, hK, h2.kept ht (fun j _ hj hS => h5 j hS hj), h3.kept ht (fun j _ hj hS => h7 j hj hS), h4, h5.more hiT, h6, (h7.symm.more hiX).symm, fun k hk => hk.imp (h8 k) id, fun k hk => .inl (h9 k hk), fun k hk => .inl (h10 k hk), hi.more ht.size⟩, ht.mono fun j _ => h8 j⟩
theorem qkQ (h : Trio U b g c R N B W) (hl : R.L.length <= 1000000) (x : Shr) (hx : x.wf) :
 Calls Tryz.prog 29 #[.pointer (some ⟨g, 0, none⟩), .agg (shrC x)] W fun e W' => (∃ v, e = .returned v) /\ Trio (moreB U W W') b g c { R with L := L7.issL R.f R.L x } N B W' /\ Turn U W W' := by
 obtain ⟨S, T, X, m, h1, h2, h3, h4, h5, h6, h7, h8, h9, h10, hi⟩ := h
 refine (L7.qlE T g R.f R.bad R.L x W h2 hx (by omega)).mono ?_
 rintro e W' ⟨rfl, hK, ht⟩
 have hiS : In W S := fun j hj => hi j (h8 j hj)
 have hiX : In W X := fun j hj => hi j (h10 j hj)
 exact ⟨⟨_, rfl⟩, ⟨S, moreB T W W', X, m, h1.kept ht (fun j _ hj hT => h5 j hj hT), hK, h3.kept ht (fun j _ hj hT => h6 j hT hj), h4, (h5.symm.more hiS).symm, h6.more hiX, h7, fun k hk => .inl (h8 k hk), fun k hk => hk.imp (h9 k) id, fun k hk => .inl (h10 k hk), hi.more ht.size⟩, ht.mono fun j _ => h9 j⟩
theorem qiN (h : Trio U b g c R N B W) (hB : B <= 1000000) (u k : Int) :
 Calls Tryz.prog 47 #[.pointer (some ⟨c, 0, none⟩), .int .i64 u, .int .i64 k] W fun e W' => (∃ v, e = .returned v) /\ Trio (moreB U W W') b g c { R with G := L7.chooseG R.f R.G N u k } N (B + 1) W' /\ Turn U W W' := by
 obtain ⟨S, T, X, m, h1, h2, h3, h4, h5, h6, h7, h8, h9, h10, hi⟩ := h
 refine (L7.qjZ X c R.f R.G N m u k W h3 (by omega)).mono ?_
 rintro e W' ⟨rfl, hC, ht⟩
 exact ⟨⟨_, rfl⟩, ⟨S, T, X, m + 1, h1.kept ht (fun j _ hj hX => h7 j hX hj), h2.kept ht (fun j _ hj hX => h6 j hj hX), hC, by omega, h5, h6, h7, fun k hk => .inl (h8 k hk), fun k hk => .inl (h9 k hk), fun k hk => .inl (h10 k hk), hi.more ht.size⟩, ht.mono fun j _ => h10 j⟩
theorem qiD (h : RTrio V b g c R N W) (hl : R.K.length <= 1000000) (s : ByteArray) :
 Calls Tryz.prog 45 #[.pointer (some ⟨b, 0, none⟩), .string s] W fun e W' => (∃ v, e = .returned v) /\ RTrio (moreB V W W') b g c { R with K := L5.enterL R.K s } N W' /\ Turn V W W' := by
 obtain ⟨S, T, X, h1, h2, h3, h5, h6, h7, h8, h9, h10, hi⟩ := h
 refine (L5.qhC S b R.K s W h1 (by omega)).mono ?_
 rintro e W' ⟨rfl, hK, ht⟩
 have hiT : In W T := fun j hj => hi j (h9 j hj)
 have hiX : In W X := fun j hj => hi j (h10 j hj)
 exact ⟨⟨_, rfl⟩, ⟨moreB S W W', T, X, hK, h2.kept ht (fun j _ hj hS => h5 j hS hj), h3.kept ht (fun j _ hj hS => h7 j hj hS), h5.more hiT, h6, (h7.symm.more hiX).symm, fun k hk => hk.imp (h8 k) id, fun k hk => .inl (h9 k hk), fun k hk => .inl (h10 k hk), hi.more ht.size⟩, ht.mono fun j _ => h8 j⟩
theorem qiF (h : RTrio V b g c R N W) (hf : L4.isF R.f = true) (hL : ∀ y ∈ R.L, y.wf) (hl : R.L.length <= 1000000) (x : Shr) (hx : x.wf) :
 Calls Tryz.prog 46 #[.pointer (some ⟨g, 0, none⟩), .agg (shrC x)] W fun e W' => (∃ v, e = .returned v) /\ RTrio (moreB V W W') b g c { R with L := L7.issL R.f R.L x } N W' /\ Turn V W W' := by
 obtain ⟨S, T, X, h1, h2, h3, h5, h6, h7, h8, h9, h10, hi⟩ := h
 refine (L7.qhD T g R.f R.bad R.L x W h2 (qeK hf) hx hL (by omega)).mono ?_
 rintro e W' ⟨rfl, hK, ht⟩
 have hiS : In W S := fun j hj => hi j (h8 j hj)
 have hiX : In W X := fun j hj => hi j (h10 j hj)
 exact ⟨⟨_, rfl⟩, ⟨S, moreB T W W', X, h1.kept ht (fun j _ hj hT => h5 j hj hT), hK, h3.kept ht (fun j _ hj hT => h6 j hT hj), (h5.symm.more hiS).symm, h6.more hiX, h7, fun k hk => .inl (h8 k hk), fun k hk => hk.imp (h9 k) id, fun k hk => .inl (h10 k hk), hi.more ht.size⟩, ht.mono fun j _ => h9 j⟩
theorem qhN (h : RTrio V b g c R N W) (hf : L4.isF R.f = true) (hG : R.G.length <= 1000000) (hN : N.length <= 1000000) (u k : Int) :
 Calls Tryz.prog 48 #[.pointer (some ⟨c, 0, none⟩), .int .i64 u, .int .i64 k] W fun e W' => (∃ v, e = .returned v) /\ RTrio (moreB V W W') b g c { R with G := L7.chooseG R.f R.G N u k } N W' /\ Turn V W W' := by
 obtain ⟨S, T, X, h1, h2, h3, h5, h6, h7, h8, h9, h10, hi⟩ := h
 refine (L7.qi3 X c R.f R.G N u k W h3 (qeK hf) (by omega) (by omega)).mono ?_
 rintro e W' ⟨rfl, hC, ht⟩
 have hiS : In W S := fun j hj => hi j (h8 j hj)
 have hiT : In W T := fun j hj => hi j (h9 j hj)
 exact ⟨⟨_, rfl⟩, ⟨S, T, moreB X W W', h1.kept ht (fun j _ hj hX => h7 j hX hj), h2.kept ht (fun j _ hj hX => h6 j hj hX), hC, h5, (h6.symm.more hiT).symm, h7.more hiS, fun k hk => .inl (h8 k hk), fun k hk => .inl (h9 k hk), fun k hk => hk.imp (h10 k) id, hi.more ht.size⟩, ht.mono fun j _ => h10 j⟩
end
structure Six (w : World) (P : Nat -> Prop) (b g c b2 g2 c2 : Nat) (R R2 : Regs) (N N2 : List Int) (B : Nat) (W : World) : Prop where
 ex : ∃ U V : Nat -> Prop, Trio U b g c R N B W /\ RTrio V b2 g2 c2 R2 N2 W /\ Apart U V /\ (∀ k, U k -> ¬ P k) /\ (∀ k, V k -> ¬ P k)
 hp : ∀ k, P k -> k < w.heap.size
 tn : Turn (fun k => ¬ P k) w W
theorem qdo {U P : Nat -> Prop} {w W W' : World} (h : ∀ k, U k -> ¬ P k) (hp : ∀ k, P k -> k < w.heap.size) (hs : w.heap.size <= W.heap.size) : ∀ k, moreB U W W' k -> ¬ P k := fun k hk hP => by
 rcases hk with h1 | h1
 ·exact h k h1 hP
 ·have := hp k hP
  have := h1.1
  omega
theorem qbY {U P : Nat -> Prop} {w W W' : World} (ht : Turn (fun k => ¬ P k) w W) (hU : ∀ k, U k -> ¬ P k) (h : Turn U W W') : Turn (fun k => ¬ P k) w W' := ht.trans h fun k hk => .inl (hU k hk)
section
variable {P : Nat -> Prop} {b g c b2 g2 c2 : Nat} {R R2 : Regs} {N N2 : List Int} {B : Nat} {w W W' : World}
theorem Six.below (h : Six w P b g c b2 g2 c2 R R2 N N2 B W) (hb : Below W.heap.size W W') : Six w P b g c b2 g2 c2 R R2 N N2 B W' := by
 obtain ⟨⟨U, V, h1, h2, h3, h4, h5⟩, hp, ht⟩ := h
 exact ⟨⟨U, V, h1.below hb, h2.below hb, h3, h4, h5⟩, hp, ht.kept hb⟩
theorem Six.le {B' : Nat} (h : Six w P b g c b2 g2 c2 R R2 N N2 B W) (hB : B <= B') : Six w P b g c b2 g2 c2 R R2 N N2 B' W := by
 obtain ⟨⟨U, V, h1, h2⟩, hp, ht⟩ := h
 exact ⟨⟨U, V, h1.le hB, h2⟩, hp, ht⟩
theorem Six.blk (h : Six w P b g c b2 g2 c2 R R2 N N2 B W) {q : Nat} {t : TypeId} {cs : Array Value} (hb : Blk w q t cs) (hP : P q) : Blk W q t cs := h.tn.blk hb (fun hn => hn hP)
theorem Six.low {v : World} (h : Six w P b g c b2 g2 c2 R R2 N N2 B W) (hb : Below v.heap.size v w) (hP : ∀ k, k < v.heap.size -> P k) : Below v.heap.size v W :=
 ⟨h.tn.os.trans hb.os, h.tn.tape.trans hb.tape, h.tn.output.trans hb.output, Nat.le_trans hb.size h.tn.size, fun k hk => (h.tn.block k (Nat.lt_of_lt_of_le hk hb.size) (fun hn => hn (hP k hk))).trans (hb.block k hk)⟩
theorem qhU (h : Six w P b g c b2 g2 c2 R R2 N N2 B W) (hl : R.K.length <= 1000000) (s : ByteArray) :
 Calls Tryz.prog 30 #[.pointer (some ⟨b, 0, none⟩), .string s] W fun e W' => (∃ v, e = .returned v) /\ Six w P b g c b2 g2 c2 { R with K := L5.enterL R.K s } R2 N N2 B W' := by
 obtain ⟨⟨U, V, h1, h2, h3, h4, h5⟩, hp, hw⟩ := h
 refine (qkP h1 hl s).mono ?_
 rintro e W' ⟨he, hT, ht⟩
 exact ⟨he, ⟨⟨moreB U W W', V, hT, h2.turn ht (fun k hk hU => h3 k hU hk), h3.more h2.inV, qdo h4 hp hw.size, h5⟩, hp, qbY hw h4 ht⟩⟩
theorem qgc (h : Six w P b g c b2 g2 c2 R R2 N N2 B W) (hl : R2.K.length <= 1000000) (s : ByteArray) :
 Calls Tryz.prog 45 #[.pointer (some ⟨b2, 0, none⟩), .string s] W fun e W' => (∃ v, e = .returned v) /\ Six w P b g c b2 g2 c2 R { R2 with K := L5.enterL R2.K s } N N2 B W' := by
 obtain ⟨⟨U, V, h1, h2, h3, h4, h5⟩, hp, hw⟩ := h
 refine (qiD h2 hl s).mono ?_
 rintro e W' ⟨he, hT, ht⟩
 exact ⟨he, ⟨⟨U, moreB V W W', h1.turn ht (fun k hk hV => h3 k hk hV), hT, (h3.symm.more h1.inU).symm, h4, qdo h5 hp hw.size⟩, hp, qbY hw h5 ht⟩⟩
theorem qm9 (h : Six w P b g c b2 g2 c2 R R2 N N2 B W) (hl : R.L.length <= 1000000) (x : Shr) (hx : x.wf) :
 Calls Tryz.prog 29 #[.pointer (some ⟨g, 0, none⟩), .agg (shrC x)] W fun e W' => (∃ v, e = .returned v) /\ Six w P b g c b2 g2 c2 { R with L := L7.issL R.f R.L x } R2 N N2 B W' := by
 obtain ⟨⟨U, V, h1, h2, h3, h4, h5⟩, hp, hw⟩ := h
 refine (qkQ h1 hl x hx).mono ?_
 rintro e W' ⟨he, hT, ht⟩
 exact ⟨he, ⟨⟨moreB U W W', V, hT, h2.turn ht (fun k hk hU => h3 k hU hk), h3.more h2.inV, qdo h4 hp hw.size, h5⟩, hp, qbY hw h4 ht⟩⟩
theorem qkI (h : Six w P b g c b2 g2 c2 R R2 N N2 B W) (hf : L4.isF R2.f = true) (hL : ∀ y ∈ R2.L, y.wf) (hl : R2.L.length <= 1000000) (x : Shr) (hx : x.wf) :
 Calls Tryz.prog 46 #[.pointer (some ⟨g2, 0, none⟩), .agg (shrC x)] W fun e W' => (∃ v, e = .returned v) /\ Six w P b g c b2 g2 c2 R { R2 with L := L7.issL R2.f R2.L x } N N2 B W' := by
 obtain ⟨⟨U, V, h1, h2, h3, h4, h5⟩, hp, hw⟩ := h
 refine (qiF h2 hf hL hl x hx).mono ?_
 rintro e W' ⟨he, hT, ht⟩
 exact ⟨he, ⟨⟨U, moreB V W W', h1.turn ht (fun k hk hV => h3 k hk hV), hT, (h3.symm.more h1.inU).symm, h4, qdo h5 hp hw.size⟩, hp, qbY hw h5 ht⟩⟩
theorem qkH (h : Six w P b g c b2 g2 c2 R R2 N N2 B W) (hB : B <= 1000000) (u k : Int) :
 Calls Tryz.prog 47 #[.pointer (some ⟨c, 0, none⟩), .int .i64 u, .int .i64 k] W fun e W' => (∃ v, e = .returned v) /\ Six w P b g c b2 g2 c2 { R with G := L7.chooseG R.f R.G N u k } R2 N N2 (B + 1) W' := by
 obtain ⟨⟨U, V, h1, h2, h3, h4, h5⟩, hp, hw⟩ := h
 refine (qiN h1 hB u k).mono ?_
 rintro e W' ⟨he, hT, ht⟩
 exact ⟨he, ⟨⟨moreB U W W', V, hT, h2.turn ht (fun k hk hU => h3 k hU hk), h3.more h2.inV, qdo h4 hp hw.size, h5⟩, hp, qbY hw h4 ht⟩⟩
theorem qiI (h : Six w P b g c b2 g2 c2 R R2 N N2 B W) (hf : L4.isF R2.f = true) (hG : R2.G.length <= 1000000) (hN : N2.length <= 1000000) (u k : Int) :
 Calls Tryz.prog 48 #[.pointer (some ⟨c2, 0, none⟩), .int .i64 u, .int .i64 k] W fun e W' => (∃ v, e = .returned v) /\ Six w P b g c b2 g2 c2 R { R2 with G := L7.chooseG R2.f R2.G N2 u k } N N2 B W' := by
 obtain ⟨⟨U, V, h1, h2, h3, h4, h5⟩, hp, hw⟩ := h
 refine (qhN h2 hf hG hN u k).mono ?_
 rintro e W' ⟨he, hT, ht⟩
 exact ⟨he, ⟨⟨U, moreB V W W', h1.turn ht (fun k hk hV => h3 k hk hV), hT, (h3.symm.more h1.inU).symm, h4, qdo h5 hp hw.size⟩, hp, qbY hw h5 ht⟩⟩
end
end Go.Proofs.YtomaaidhmccngaaGreatDoor
namespace Go.Proofs.YtomaaidhmccngaaGreatDoor
open Go.RowKit Go.Maps Go.Lib
open L3 (Blk Reads)
open L6 (Turn)
open L7 (Shr shrC shrL issL chooseG)
open L5 (enterL)
open L4 (isF)
structure BkV where
 b : Blo
 A : Option Addr
 c : Nat
 D : Option Addr
 d : Nat
deriving Inhabited
def bkL (y : BkV) : List Value := (bloC y.b (.slice y.A y.b.proof.length y.c) (.slice y.D y.b.txs.length y.d)).toList
def stL (s : List UInt8) : List Value := [.string (str s)]
structure InV where
 f : Int
 bad : Nat
 bs : List BkV
 cs : List (List UInt8)
 ss : List Shr
 gs : List Shr
structure InA where
 A1 : Option Addr
 c1 : Nat
 A2 : Option Addr
 c2 : Nat
 A3 : Option Addr
 c3 : Nat
 A4 : Option Addr
 c4 : Nat
def inC (x : InV) (a : InA) : Array Value := #[.int .i64 x.f, .int .u32 x.bad, .slice a.A1 x.bs.length a.c1, .slice a.A2 x.cs.length a.c2, .slice a.A3 x.ss.length a.c3, .slice a.A4 x.gs.length a.c4]
theorem inInfo : (Tryz.prog.info? 27).map (·.size) = some 6 := by kernel_rfl
structure InAt (x : InV) (a : InA) (W : World) : Prop where
 r1 : Rd bkL 14 W a.A1 x.bs
 rp : ∀ y ∈ x.bs, Rd tmL 10 W y.A y.b.proof
 rt : ∀ y ∈ x.bs, Rd txL 7 W y.D y.b.txs
 r2 : Rd stL 1 W a.A2 x.cs
 r3 : Rd shrL 11 W a.A3 x.ss
 r4 : Rd shrL 11 W a.A4 x.gs
theorem InAt.below {x : InV} {a : InA} {W W' : World} (h : InAt x a W) (hb : Below W.heap.size W W') : InAt x a W' := ⟨h.r1.below hb, fun y hy => (h.rp y hy).below hb, fun y hy => (h.rt y hy).below hb, h.r2.below hb, h.r3.below hb, h.r4.below hb⟩
structure InV.raw (x : InV) : Prop where
 f : inI x.f
 bad : x.bad < 4294967296
 bs : ∀ y ∈ x.bs, y.b.raw
 cs : ∀ s ∈ x.cs, s.length <= maxLen
 ss : ∀ y ∈ x.ss, y.wf
 gs : ∀ y ∈ x.gs, y.wf
 n1 : x.bs.length <= maxLen
 n2 : x.cs.length <= maxLen
 n3 : x.ss.length <= maxLen
 n4 : x.gs.length <= maxLen
structure InV.wf (x : InV) : Prop where
 f : inI x.f
 bad : x.bad < 4294967296
 bs : ∀ y ∈ x.bs, y.b.wf
 cs : ∀ s ∈ x.cs, s.length <= 3000
 ss : ∀ y ∈ x.ss, y.wf
 gs : ∀ y ∈ x.gs, y.wf
 n1 : x.bs.length <= 30
 n2 : x.cs.length <= 10
 n3 : x.ss.length <= 120
 n4 : x.gs.length <= 20
def farV (x : InV) : Bool := decide (30 < x.bs.length) || (decide (10 < x.cs.length) || (decide (120 < x.ss.length) || (decide (20 < x.gs.length) || (x.bs.any (fun y => greatK y.b) || x.cs.any (fun s => decide (3000 < s.length))))))
theorem ql6 {x : InV} (h : x.raw) (hf : farV x = false) : x.wf := by
 unfold farV at hf
 simp only [Bool.or_eq_false_iff, decide_eq_false_iff_not, List.any_eq_false] at hf
 obtain ⟨h1, h2, h3, h4, h5, h6⟩ := hf
 refine ⟨h.f, h.bad, fun y hy => (qiy (h.bs y hy) (by have := h5 y hy; simpa using this)).1, fun s hs => ?_, h.ss, h.gs, by omega, by omega, by omega, by omega⟩
 have := h6 s hs
 simp only [decide_eq_true_eq] at this
 omega
def bookB (K : List ByteArray) (l : List BkV) : List ByteArray := l.foldl (fun K y => if checkV y.b = 0 then enterL K (str (bytesB y.b)) else K) K
def bookC (K : List ByteArray) (l : List (List UInt8)) : List ByteArray := l.foldl (fun K s => enterL K (str s)) K
def shsF (f : Int) (L l : List Shr) : List Shr := l.foldl (fun L x => issL f L x) L
def gsF (f : Int) (G : List (Int × Int)) (l : List Shr) : List (Int × Int) := l.foldl (fun G x => chooseG f G [] x.s.a2 x.k) G
theorem qjK (K : List ByteArray) (l : List BkV) (y : BkV) : bookB K (l ++ [y]) = if checkV y.b = 0 then enterL (bookB K l) (str (bytesB y.b)) else bookB K l := by unfold bookB; rw [List.foldl_append]; rfl
theorem qjL (K : List ByteArray) (l : List (List UInt8)) (s : List UInt8) : bookC K (l ++ [s]) = enterL (bookC K l) (str s) := by unfold bookC; rw [List.foldl_append]; rfl
theorem qm8 (f : Int) (L l : List Shr) (x : Shr) : shsF f L (l ++ [x]) = issL f (shsF f L l) x := by unfold shsF; rw [List.foldl_append]; rfl
theorem gsF_snoc (f : Int) (G : List (Int × Int)) (l : List Shr) (x : Shr) : gsF f G (l ++ [x]) = chooseG f (gsF f G l) [] x.s.a2 x.k := by unfold gsF; rw [List.foldl_append]; rfl
theorem qho {K : List ByteArray} {s t : ByteArray} (h : t ∈ enterL K s) : t ∈ K ∨ (t = s /\ s.size <= 65536) := by
 unfold L5.enterL at h
 split at h
 ·exact .inl h
 ·split at h
  ·rw [List.mem_append] at h
   rcases h with h | h
   ·exact .inl h
   ·exact .inr ⟨by simpa using h, by omega⟩
  ·exact .inl h
theorem qhn (K : List ByteArray) (s : ByteArray) : (enterL K s).length <= K.length + 1 := (L5.qkk K s).2
theorem qgj (K : List ByteArray) (hK : ∀ s ∈ K, s.size <= 65536) : ∀ l : List BkV, (∀ s ∈ bookB K l, s.size <= 65536) /\ (bookB K l).length <= K.length + l.length := by
 intro l
 induction l generalizing K with
 | nil => exact ⟨hK, Nat.le_refl _⟩
 | cons y l ih =>
   have e : bookB K (y :: l) = bookB (if checkV y.b = 0 then enterL K (str (bytesB y.b)) else K) l := rfl
   rw [e]
   by_cases hc : checkV y.b = 0
   ·rw [if_pos hc]
    obtain ⟨h1, h2⟩ := ih (enterL K (str (bytesB y.b))) (fun s hs => by rcases qho hs with h | ⟨rfl, h⟩; exact hK s h; exact h)
    have := qhn K (str (bytesB y.b))
    exact ⟨h1, by simp only [List.length_cons]; omega⟩
   ·rw [if_neg hc]
    obtain ⟨h1, h2⟩ := ih K hK
    exact ⟨h1, by simp only [List.length_cons]; omega⟩
theorem qiT (K : List ByteArray) (hK : ∀ s ∈ K, s.size <= 65536) : ∀ l : List (List UInt8), (∀ s ∈ bookC K l, s.size <= 65536) /\ (bookC K l).length <= K.length + l.length := by
 intro l
 induction l generalizing K with
 | nil => exact ⟨hK, Nat.le_refl _⟩
 | cons s l ih =>
   have e : bookC K (s :: l) = bookC (enterL K (str s)) l := rfl
   rw [e]
   obtain ⟨h1, h2⟩ := ih (enterL K (str s)) (fun s hs => by rcases qho hs with h | ⟨rfl, h⟩; exact hK s h; exact h)
   have := qhn K (str s)
   exact ⟨h1, by simp only [List.length_cons]; omega⟩
theorem qm7 (f : Int) (L : List Shr) (hL : ∀ x ∈ L, x.wf) : ∀ l : List Shr, (∀ x ∈ l, x.wf) -> (∀ x ∈ shsF f L l, x.wf) /\ (shsF f L l).length <= L.length + l.length := by
 intro l
 induction l generalizing L with
 | nil => exact fun _ => ⟨hL, Nat.le_refl _⟩
 | cons x l ih =>
   intro h
   have e : shsF f L (x :: l) = shsF f (issL f L x) l := rfl
   rw [e]
   have hi : (∀ y ∈ issL f L x, y.wf) /\ (issL f L x).length <= L.length + 1 := by
    unfold L7.issL
    split
    ·split
     ·exact ⟨hL, by omega⟩
     ·refine ⟨fun y hy => ?_, by simp⟩
      rw [List.mem_append] at hy
      rcases hy with hy | hy
      ·exact hL y hy
      ·rw [List.mem_singleton] at hy; rw [hy]; exact h x (List.mem_cons_self ..)
    ·exact ⟨hL, by omega⟩
   obtain ⟨h1, h2⟩ := ih _ hi.1 (fun y hy => h y (List.mem_cons_of_mem _ hy))
   exact ⟨h1, by simp only [List.length_cons]; omega⟩
theorem gsF_ok (f : Int) (G : List (Int × Int)) : ∀ l : List Shr, (gsF f G l).length <= G.length + l.length := by
 intro l
 induction l generalizing G with
 | nil => exact Nat.le_refl _
 | cons x l ih =>
   have e : gsF f G (x :: l) = gsF f (chooseG f G [] x.s.a2 x.k) l := rfl
   rw [e]
   have h1 := ih (chooseG f G [] x.s.a2 x.k)
   have h2 : (chooseG f G [] x.s.a2 x.k).length <= G.length + 1 := by unfold L7.chooseG; split <;> simp
   simp only [List.length_cons]
   omega
def regsV (x : InV) : Regs := ⟨bookC (bookB [] x.bs) x.cs, x.f, x.bad, shsF x.f [] x.ss, gsF x.f [] x.gs⟩
theorem qjt {f : Int} {bad : Nat} (h : L7.newE f bad = 0) : isF f = true := by
 unfold L7.newE at h
 split at h
 ·rename_i hc
  unfold L4.checkV at hc
  cases hf : isF f
  ·rw [hf] at hc; simp at hc
  ·rfl
 ·rename_i hc; exact absurd h hc
theorem qmr {x : InV} (h : x.wf) (hn : L7.newE x.f x.bad = 0) : (regsV x).wf := by
 obtain ⟨b1, b2⟩ := qgj [] (by simp) x.bs
 obtain ⟨c1, c2⟩ := qiT (bookB [] x.bs) b1 x.cs
 obtain ⟨s1, s2⟩ := qm7 x.f [] (by simp) x.ss h.ss
 have g1 := gsF_ok x.f [] x.gs
 have := h.n1
 have := h.n2
 have := h.n3
 have := h.n4
 simp only [List.length_nil, Nat.zero_add] at b2 s2 g1
 exact ⟨c1, by unfold regsV; dsimp only; omega, qjt hn, h.bad, s1, by unfold regsV; dsimp only; omega, by unfold regsV; dsimp only; omega⟩
end Go.Proofs.YtomaaidhmccngaaGreatDoor
namespace Go.Proofs.YtomaaidhmccngaaGreatDoor
open Go.RowKit Go.Maps Go.Lib
open L3 (Blk Reads)
open L5 (Bk Rf enterL)
open L6 (Turn moreB fresh From In Apart)
open L7 (Sg Cn Rs Rc Shr shrC shrL issL chooseG)
open L4 (isF)
theorem qeD {P : Program} {fn : Func} {d1 d2 k : Tmp} {ty1 ty2 : TypeId} (h : fn.results = #[.cell d1 ty1, .cell d2 ty2, .tmp k]) (tmps : Array Value) (w : World) (g1 g2 : Nat) (hx1 : tmps.getD d1 undef = .pointer (some ⟨g1, 0, none⟩)) (hx2 : tmps.getD d2 undef = .pointer (some ⟨g2, 0, none⟩)) (v : Value) (hv : tmps.getD k undef = v) (t1 t2 : TypeId) (cs1 cs2 : Array Value) (fr1 fr2 : Nat × Nat) (ds1 ds2 : TypeDesc)
 (hb1 : w.heap[g1]? = some (.cells cs1 t1 fr1)) (hb2 : w.heap[g2]? = some (.cells cs2 t2 fr2)) (hu1 : P.underlying ty1 = some ds1) (hd1 : (match ds1 with | .struct _ | .array _ _ => true | _ => false) = true) (hi1 : (P.info? ty1).map (·.size) = some cs1.size) (hu2 : P.underlying ty2 = some ds2) (hd2 : (match ds2 with | .struct _ | .array _ _ => true | _ => false) = true) (hi2 : (P.info? ty2).map (·.size) = some cs2.size) :
 (results fn tmps).run P w = .ok (.tuple #[.agg cs1, .agg cs2, v]) w := by
 have hx1' : tmps[d1]?.getD undef = .pointer (some ⟨g1, 0, none⟩) := by simpa using hx1
 have hx2' : tmps[d2]?.getD undef = .pointer (some ⟨g2, 0, none⟩) := by simpa using hx2
 have hv' : tmps[k]?.getD undef = v := by simpa using hv
 simp [results, h, hx1', hx2', hv', asAddr, run_loadVar_row w g1 t1 ty1 cs1 fr1 ds1 hb1 hu1 hd1 hi1, run_loadVar_row w g2 t2 ty2 cs2 fr2 ds2 hb2 hu2 hd2 hi2]
theorem rlawInfo : (Tryz.prog.info? 44).map (fun i => i.size) = some 3 := by kernel_rfl
theorem qjP (w : World) : (Instr.build 39 #[]).run Tryz.prog w = .ok (.agg (lawA none none none)) w := run_build w _ _ _ (by kernel_rfl)
theorem qim (w : World) : (Instr.build 44 #[]).run Tryz.prog w = .ok (.agg (lawA none none none)) w := run_build w _ _ _ (by kernel_rfl)
theorem qlb (a b c : Option Addr) (w : World) : (Instr.build 39 #[(0, .pointer a), (1, .pointer b), (2, .pointer c)]).run Tryz.prog w = .ok (.agg (lawA a b c)) w := run_build w _ _ _ (by kernel_rfl)
theorem qjQ (a b c : Option Addr) (w : World) : (Instr.build 44 #[(0, .pointer a), (1, .pointer b), (2, .pointer c)]).run Tryz.prog w = .ok (.agg (lawA a b c)) w := run_build w _ _ _ (by kernel_rfl)
theorem qbg (a b c : Option Addr) : (lawA a b c).all (·.oneCell') = true := by kernel_rfl
theorem qik (w : World) : (Instr.build 97 #[]).run Tryz.prog w = .ok (.agg #[.slice none 0 0]) w := run_build w _ _ _ (by kernel_rfl)
theorem qil (f : Int) (w : World) : (Instr.build 99 #[(0, .int .i64 f)]).run Tryz.prog w = .ok (.agg #[.int .i64 f, .slice none 0 0, .slice none 0 0]) w := run_build w _ _ _ (by kernel_rfl)
theorem rf_new {w : World} {q : Nat} (h : Blk w q 97 #[.slice none 0 0]) : Rf w (fun k => k = q) q [] := ⟨_, h, ⟨rfl, .inl ⟨rfl, rfl⟩⟩, rfl, fun k hk => by cases hk⟩
theorem rc_new {w : World} {q : Nat} {f : Int} (h : Blk w q 99 #[.int .i64 f, .slice none 0 0, .slice none 0 0]) : Rc w (fun k => k = q) q f [] [] := ⟨_, _, h, ⟨rfl, .inl ⟨rfl, rfl⟩⟩, ⟨rfl, .inl ⟨rfl, rfl⟩⟩, rfl, fun k hk => (by cases hk), fun k hk => (by cases hk)⟩
def keptL (n G1 G2 : Nat) (k : Nat) : Prop := k < n + 3 ∨ k = G1 ∨ k = G2
theorem six_made {w0 w1 w2 w3 w4 w5 w6 w7 w8 : World} {n b g c b2 g2 c2 : Nat} {f : Int} {bad : Nat} (hn : n + 3 <= w0.heap.size)
 (h1 : Sg w1 (fresh w0 w1) g f bad []) (b1 : Below w0.heap.size w0 w1) (h2 : Rs w2 (fresh w1 w2) g2 f bad []) (k2 : Below w1.heap.size w1 w2) (h3 : Cn w3 (fresh w2 w3) c f [] [] 0) (k3 : Below w2.heap.size w2 w3) (h4 : Bk w4 (fresh w3 w4) b []) (k4 : Below w3.heap.size w3 w4)
 (k5 : Below w4.heap.size w4 w5) (e5 : w5.heap.size = w4.heap.size + 1) (h6 : Rf w6 (fun k => k = b2) b2 []) (e6 : b2 = w5.heap.size) (k6 : Below w5.heap.size w5 w6) (h7 : Rc w7 (fun k => k = c2) c2 f [] []) (e7 : c2 = w6.heap.size) (k7 : Below w6.heap.size w6 w7) (k8 : Below w7.heap.size w7 w8) (e8 : w8.heap.size = w7.heap.size + 1) :
 Six w8 (keptL n w4.heap.size w7.heap.size) b g c b2 g2 c2 ⟨[], f, bad, [], []⟩ ⟨[], f, bad, [], []⟩ [] [] 0 w8 := by
 have s1 := b1.size
 have s2 := k2.size
 have s3 := k3.size
 have s4 := k4.size
 have s6 := k6.size
 have s7 := k7.size
 have t6 : b2 < w6.heap.size := h6.lt
 have t7 : c2 < w7.heap.size := h7.lt
 have c48 : Below w4.heap.size w4 w8 := nxt (nxt (nxt k5 k6) k7) k8
 have c38 : Below w3.heap.size w3 w8 := nxt k4 c48
 have c28 : Below w2.heap.size w2 w8 := nxt k3 c38
 have c18 : Below w1.heap.size w1 w8 := nxt k2 c28
 have c68 : Below w6.heap.size w6 w8 := nxt k7 k8
 have hSg := h1.below c18
 have hRs := h2.below c28
 have hCn := h3.below c38
 have hBk := h4.kept (L6.Turn.of_keep (S := fun _ => False) c48) (fun _ _ _ h => h)
 have hRf := h6.kept (L6.Turn.of_keep (S := fun _ => False) c68) (fun _ _ _ h => h)
 have hRc := h7.below k8
 refine ⟨⟨fun k => fresh w3 w4 k ∨ fresh w0 w1 k ∨ fresh w2 w3 k, fun k => k = b2 ∨ fresh w1 w2 k ∨ k = c2, ⟨fresh w3 w4, fresh w0 w1, fresh w2 w3, 0, hBk, hSg, hCn, Nat.le_refl _, ?_, ?_, ?_, fun _ => .inl, fun _ h => .inr (.inl h), fun _ h => .inr (.inr h), ?_⟩, ⟨fun k => k = b2, fresh w1 w2, fun k => k = c2, hRf, hRs, hRc, ?_, ?_, ?_, fun _ => .inl, fun _ h => .inr (.inl h), fun _ h => .inr (.inr h), ?_⟩, ?_, ?_, ?_⟩, ?_, Turn.refl _ _⟩
 all_goals (clear hSg hRs hCn hBk hRf hRc h1 h2 h3 h4 h6 h7; intro k hk; simp only [fresh, keptL] at hk ⊢; omega)
end Go.Proofs.YtomaaidhmccngaaGreatDoor
namespace Go.Proofs.YtomaaidhmccngaaGreatDoor
open Go.RowKit Go.Maps Go.Lib
open L3 (Blk Reads)
open L5 (Bk Rf enterL)
open L6 (Turn moreB fresh From In Apart)
open L7 (Sg Cn Rs Rc Shr shrC shrL issL chooseG)
open L4 (isF)
def lawsP (x : InV) (w : World) (e : Ending) (W' : World) : Prop :=
 (L7.newE x.f x.bad ≠ 0 /\ e = .returned (.tuple #[.agg (lawA none none none), .agg (lawA none none none), .bool false]) /\ Below w.heap.size w W') ∨
 (L7.newE x.f x.bad = 0 /\ ∃ b g c b2 g2 c2 : Nat, e = .returned (.tuple #[.agg (lawA (some ⟨b, 0, none⟩) (some ⟨g, 0, none⟩) (some ⟨c, 0, none⟩)), .agg (lawA (some ⟨b2, 0, none⟩) (some ⟨g2, 0, none⟩) (some ⟨c2, 0, none⟩)), .bool true]) /\
  Six w (fun k => k < w.heap.size) b g c b2 g2 c2 (regsV x) (regsV x) [] [] 20 W')
theorem coin_new (f : Int) (w : World) : Calls Tryz.prog 42 #[.int .i64 f] w fun e w' => (isF f = false /\ e = .returned (.tuple #[.pointer none, .int .i64 1]) /\ w = w') ∨ (∃ c, e = .returned (.tuple #[.pointer (some ⟨c, 0, none⟩), .int .i64 0]) /\ Cn w' (fresh w w') c f [] [] 0 /\ Below w.heap.size w w') := by
 rcases Bool.eq_false_or_eq_true (isF f) with h | h
 ·exact (L7.qlU f w h).mono fun e w' h' => .inr h'
 ·exact (L7.newc_not f w h).mono fun e w' h' => .inl ⟨h, h'⟩
theorem qjl (x : InV) (a : InA) (w : World) (hf : inI x.f) (hbad : x.bad < 4294967296) (hn : L7.newE x.f x.bad ≠ 0) :
 Calls Tryz.prog 10 #[.agg (inC x a)] w (gives (.tuple #[.agg (lawA none none none), .agg (lawA none none none), .bool false]) w) := by
 have Z0 := hid (qd8 w 27 39 44 (inC x a) (lawA none none none) (lawA none none none))
 have H1 := hid (fun W => L7.new_not x.f x.bad W hbad hn)
 have H2 := hid (fun W => L7.qk7 x.f x.bad W hf hbad hn)
 have H3 := hid (fun W => coin_new x.f W)
 obtain ⟨q, hq⟩ := nm (L7.newE x.f x.bad)
 rw [<- hq] at H1 H2 hn
 have h1 : (q != 0) = true := by simpa using hn
 clear hq hf hbad hn
 go_enter Tryz.func10, Tryz.ntmps10
 go_upto_region 1 with fail
 refine qab (fun w0 hw0 => ?_)
 have hA : Blk w0 w.heap.size 27 (inC x a) /\ Blk w0 (w.heap.size + 1) 39 (lawA none none none) /\ Blk w0 (w.heap.size + 2) 44 (lawA none none none) /\ Below w.heap.size w w0 := by rw [hw0]; exact Z0.out
 clear hw0 Z0
 obtain ⟨k0, k1, k2, hb0⟩ := hA
 have c0 : w0.cell? ⟨w.heap.size, 0, none⟩ = some (.int .i64 x.f) := k0.cell 0
 have c1 : w0.cell? ⟨w.heap.size, 1, none⟩ = some (.int .u32 x.bad) := k0.cell 1
 go_upto_region 3 with (first
  | (go_at_call 40; refine (H1.out _).mono ?_; rintro e w1 ⟨rfl, rfl⟩)
  | (go_at_call 41; refine (H2.out _).mono ?_; rintro e w2 ⟨rfl, hb2⟩))
 have k02 := k0.below hb2 k0.lt
 have k12 := k1.below hb2 k1.lt
 have k22 := k2.below hb2 k2.lt
 have hw2 := nxt hb0 hb2
 have c02 : w2.cell? ⟨w.heap.size, 0, none⟩ = some (.int .i64 x.f) := k02.cell 0
 have H3' := hid (show Calls Tryz.prog 42 #[.int .i64 x.f] w2 (fun e w' => ∃ p r, e = .returned (.tuple #[.pointer p, .int .i64 r]) /\ Below w2.heap.size w2 w') from (H3.out w2).mono (by
  rintro e w' (⟨_, rfl, rfl⟩ | ⟨c, rfl, _, hb⟩)
  ·exact ⟨_, _, rfl, Below.refl _ _⟩
  ·exact ⟨_, _, rfl, hb⟩))
 clear k0 k1 k2 hb0 hb2 H1 H2 H3 c0 c1
 go_upto_region 4 with (first
  | (go_at_call 42; refine H3'.out.mono ?_; rintro e w3 ⟨p, r, rfl, hb3⟩))
 have k13 := k12.below hb3 k12.lt
 have k23 := k22.below hb3 k22.lt
 have hw3 := nxt hw2 hb3
 clear k02 k12 k22 hb3 H3' c02 hw2
 have HB : Hid (Blk (w3.setRow (w.heap.size + 1) (lawA none none none)) (w.heap.size + 2) 44 (lawA none none none)) := hid ((qaB w3 (w.heap.size + 1) (lawA none none none)).blk k23 (by omega))
 have HE := hid (show Blk ((w3.setRow (w.heap.size + 1) (lawA none none none)).setRow (w.heap.size + 2) (lawA none none none)) (w.heap.size + 1) 39 (lawA none none none) /\ Blk ((w3.setRow (w.heap.size + 1) (lawA none none none)).setRow (w.heap.size + 2) (lawA none none none)) (w.heap.size + 2) 44 (lawA none none none) /\ Below w.heap.size w ((w3.setRow (w.heap.size + 1) (lawA none none none)).setRow (w.heap.size + 2) (lawA none none none)) from
  ⟨(qaB _ (w.heap.size + 2) (lawA none none none)).blk (qac k13) (by omega), qac HB.out, below_setRow (below_setRow hw3 (Nat.le_succ _)) (by omega)⟩)
 clear k23 hw3
 go_wp2_with (first
  | (refine wpList_build rfl _ _ rfl #[] rfl (qjP _) ?_)
  | (refine wpList_build rfl _ _ rfl #[] rfl (qim _) ?_)
  | (refine wpList_store_row rfl _ _ _ rfl (w.heap.size + 1) (lawA none none none) rfl rfl _ _ k13 lawInfo rfl (qbg _ _ _) ?_)
  | (refine wpList_store_row rfl _ _ _ rfl (w.heap.size + 2) (lawA none none none) rfl rfl _ _ HB.out rlawInfo rfl (qbg _ _ _) ?_))
 (try simp only [Exit.inBlock, Exit.then])
 refine bodyPost_ret (v := .tuple #[.agg (lawA none none none), .agg (lawA none none none), .bool false]) (qeD rfl _ _ (w.heap.size + 1) (w.heap.size + 2) rfl rfl (.bool false) rfl _ _ (lawA none none none) (lawA none none none) _ _ _ _ HE.out.1 HE.out.2.1 Tryz.underlying39 rfl lawInfo Tryz.underlying44 rfl rlawInfo) rfl ?_
 exact ⟨rfl, HE.out.2.2⟩
end Go.Proofs.YtomaaidhmccngaaGreatDoor
namespace Go.Proofs.YtomaaidhmccngaaGreatDoor
open Go.RowKit Go.Maps Go.Lib
open L3 (Blk Reads)
open L5 (Bk Rf enterL)
open L6 (Turn moreB fresh From In Apart)
open L7 (Sg Cn Rs Rc Shr shrC shrL issL chooseG)
open L4 (isF)
structure LwAt (w : World) (x : InV) (a : InA) (G1 G2 b g c b2 g2 c2 : Nat) (W : World) : Prop where
 bi : Blk W w.heap.size 27 (inC x a)
 z1 : Blk W (w.heap.size + 1) 39 (lawA none none none)
 z2 : Blk W (w.heap.size + 2) 44 (lawA none none none)
 k1 : Blk W G1 39 (lawA (some ⟨b, 0, none⟩) (some ⟨g, 0, none⟩) (some ⟨c, 0, none⟩))
 k2 : Blk W G2 44 (lawA (some ⟨b2, 0, none⟩) (some ⟨g2, 0, none⟩) (some ⟨c2, 0, none⟩))
 hin : InAt x a W
 bw : Below w.heap.size w W
theorem LwAt.six {w : World} {x : InV} {a : InA} {G1 G2 b g c b2 g2 c2 : Nat} {W W' : World} {R R2 : Regs} {N N2 : List Int} {B : Nat} (h : LwAt w x a G1 G2 b g c b2 g2 c2 W) (hi : InAt x a w) (s : Six W (keptL w.heap.size G1 G2) b g c b2 g2 c2 R R2 N N2 B W') : LwAt w x a G1 G2 b g c b2 g2 c2 W' := by
 have hb : Below w.heap.size w W' := s.low h.bw (fun k hk => .inl (by omega))
 exact ⟨s.blk h.bi (.inl (by omega)), s.blk h.z1 (.inl (by omega)), s.blk h.z2 (.inl (by omega)), s.blk h.k1 (.inr (.inl rfl)), s.blk h.k2 (.inr (.inr rfl)), hi.below hb, hb⟩
theorem LwAt.drew {w : World} {x : InV} {a : InA} {G1 G2 b g c b2 g2 c2 : Nat} {W : World} (h : LwAt w x a G1 G2 b g c b2 g2 c2 W) : LwAt w x a G1 G2 b g c b2 g2 c2 W.drew :=
 ⟨h.bi, h.z1, h.z2, h.k1, h.k2, h.hin.below (Below.refl _ _).drew, h.bw.drew⟩
theorem qiS {W : World} {ad : Addr} {k : Nat} {l : List BkV} (h : Rd bkL 14 W (some ad) l) (hk : k < l.length) : ∀ j u, (bkL l[k])[j]? = some u -> W.cell? ((ad.add (k * 14)).add j) = some u := fun j u hj => by
 obtain ⟨ad', e, _, hc⟩ := h k hk
 injection e with e
 subst e
 exact hc j u hj
theorem qkp {w w0 w1 w2 w3 w4 : World} {x : InV} {a : InA} {g g2 c b : Nat} (hI : InAt x a w) (h1 : w.heap.size + 3 <= w0.heap.size /\ Sg w1 (fresh w0 w1) g x.f x.bad [] /\ Below w0.heap.size w0 w1) (h2 : Rs w2 (fresh w1 w2) g2 x.f x.bad [] /\ Below w1.heap.size w1 w2) (h3 : Cn w3 (fresh w2 w3) c x.f [] [] 0 /\ Below w2.heap.size w2 w3) (h4 : Bk w4 (fresh w3 w4) b [] /\ Below w3.heap.size w3 w4)
 (k0 : Blk w4 w.heap.size 27 (inC x a)) (k1 : Blk w4 (w.heap.size + 1) 39 (lawA none none none)) (k2 : Blk w4 (w.heap.size + 2) 44 (lawA none none none)) (hb : Below w.heap.size w w4) :
 let w5 := w4.alloc (.cells (lawA (some ⟨b, 0, none⟩) (some ⟨g, 0, none⟩) (some ⟨c, 0, none⟩)) 39)
 let w8 := ((w5.alloc (.cells #[.slice none 0 0] 97)).alloc (.cells #[.int .i64 x.f, .slice none 0 0, .slice none 0 0] 99)).alloc (.cells (lawA (some ⟨w5.heap.size, 0, none⟩) (some ⟨g2, 0, none⟩) (some ⟨w5.heap.size + 1, 0, none⟩)) 44)
 LwAt w x a w4.heap.size (w5.heap.size + 1 + 1) b g c w5.heap.size g2 (w5.heap.size + 1) w8 /\ Six w8 (keptL w.heap.size w4.heap.size (w5.heap.size + 1 + 1)) b g c w5.heap.size g2 (w5.heap.size + 1) ⟨[], x.f, x.bad, [], []⟩ ⟨[], x.f, x.bad, [], []⟩ [] [] 0 w8 /\ w.heap.size + 2 < w4.heap.size /\ w.heap.size + 2 < w5.heap.size + 1 + 1 := by
 intro w5 w8
 have b5 : Below w4.heap.size w4 w5 := qae _ _
 obtain ⟨w6, e6⟩ := nm (w5.alloc (.cells #[.slice none 0 0] 97))
 obtain ⟨w7, e7⟩ := nm (w6.alloc (.cells #[.int .i64 x.f, .slice none 0 0, .slice none 0 0] 99))
 have e8 : w8 = w7.alloc (.cells (lawA (some ⟨w5.heap.size, 0, none⟩) (some ⟨g2, 0, none⟩) (some ⟨w5.heap.size + 1, 0, none⟩)) 44) := by rw [e7, e6]
 have b6 : Below w5.heap.size w5 w6 := by rw [e6]; exact qae _ _
 have b7 : Below w6.heap.size w6 w7 := by rw [e7]; exact qae _ _
 have b8 : Below w7.heap.size w7 w8 := by rw [e8]; exact qae _ _
 have z5 : w5.heap.size = w4.heap.size + 1 := by simp [w5]
 have z6 : w6.heap.size = w5.heap.size + 1 := by rw [e6]; simp
 have z7 : w7.heap.size = w6.heap.size + 1 := by rw [e7]; simp
 have z8 : w8.heap.size = w7.heap.size + 1 := by rw [e8]; simp
 have x5 : Blk w5 w4.heap.size 39 (lawA (some ⟨b, 0, none⟩) (some ⟨g, 0, none⟩) (some ⟨c, 0, none⟩)) := Blk.new _ _ _
 have x6 : Blk w6 w5.heap.size 97 #[.slice none 0 0] := by rw [e6]; exact Blk.new _ _ _
 have x7 : Blk w7 w6.heap.size 99 #[.int .i64 x.f, .slice none 0 0, .slice none 0 0] := by rw [e7]; exact Blk.new _ _ _
 have x8 : Blk w8 w7.heap.size 44 (lawA (some ⟨w5.heap.size, 0, none⟩) (some ⟨g2, 0, none⟩) (some ⟨w5.heap.size + 1, 0, none⟩)) := by rw [e8]; exact Blk.new _ _ _
 have b48 : Below w4.heap.size w4 w8 := nxt (nxt (nxt b5 b6) b7) b8
 have b58 : Below w5.heap.size w5 w8 := nxt (nxt b6 b7) b8
 have hs := six_made (n := w.heap.size) h1.1 h1.2.1 h1.2.2 h2.1 h2.2 h3.1 h3.2 h4.1 h4.2 b5 z5 (rf_new x6) rfl b6 (rc_new x7) rfl b7 b8 z8
 have y7 : w7.heap.size = w5.heap.size + 1 + 1 := by omega
 have y6 : w6.heap.size = w5.heap.size + 1 := z6
 rw [y7, y6] at hs
 rw [y7] at x8
 have q0 := h1.1
 have q1 := h1.2.2.size
 have q2 := h2.2.size
 have q3 := h3.2.size
 have q4 := h4.2.size
 exact ⟨⟨k0.below b48 k0.lt, k1.below b48 k1.lt, k2.below b48 k2.lt, x5.below b58 x5.lt, x8, hI.below (nxt hb b48), nxt hb b48⟩, hs, by omega, by omega⟩
theorem six_end {w w8 W : World} {G1 G2 b g c b2 g2 c2 : Nat} {R R2 : Regs} {N N2 : List Int} {B : Nat} (h : Six w8 (keptL w.heap.size G1 G2) b g c b2 g2 c2 R R2 N N2 B W) (hb : Below w.heap.size w w8) (cs1 cs2 : Array Value) :
 Six w (fun k => k < w.heap.size) b g c b2 g2 c2 R R2 N N2 B ((W.setRow (w.heap.size + 1) cs1).setRow (w.heap.size + 2) cs2) := by
 have hlow : Below w.heap.size w W := h.low hb (fun k hk => .inl (by omega))
 have hlow2 : Below w.heap.size w ((W.setRow (w.heap.size + 1) cs1).setRow (w.heap.size + 2) cs2) := below_setRow (below_setRow hlow (Nat.le_succ _)) (by omega)
 obtain ⟨⟨U, V, h1, h2, h3, h4, h5⟩, hp, ht⟩ := h
 have t1 := qaB W (w.heap.size + 1) cs1
 have t2 := qaB (W.setRow (w.heap.size + 1) cs1) (w.heap.size + 2) cs2
 have p1 : keptL w.heap.size G1 G2 (w.heap.size + 1) := .inl (by omega)
 have p2 : keptL w.heap.size G1 G2 (w.heap.size + 2) := .inl (by omega)
 exact ⟨⟨U, V, (h1.turn t1 (fun k hk e => h4 k hk (by subst e; exact p1))).turn t2 (fun k hk e => h4 k hk (by subst e; exact p2)), (h2.turn t1 (fun k hk e => h5 k hk (by subst e; exact p1))).turn t2 (fun k hk e => h5 k hk (by subst e; exact p2)), h3, fun k hk hlt => h4 k hk (.inl (by omega)), fun k hk hlt => h5 k hk (.inl (by omega))⟩, fun k hk => hk,
  ⟨hlow2.os, hlow2.tape, hlow2.output, hlow2.size, fun k hk _ => hlow2.block k hk⟩⟩
structure TwoL (G1 G2 : Nat) (l1 l2 : Array Value) (W : World) : Prop where
 k1 : Blk W G1 39 l1
 k2 : Blk W G2 44 l2
theorem TwoL.row {G1 G2 : Nat} {l1 l2 : Array Value} {W : World} (h : TwoL G1 G2 l1 l2 W) {q : Nat} (h1 : G1 ≠ q) (h2 : G2 ≠ q) (cs : Array Value) : TwoL G1 G2 l1 l2 (W.setRow q cs) := ⟨(qaB W q cs).blk h.k1 h1, (qaB W q cs).blk h.k2 h2⟩
theorem qmF {W : World} {ad : Addr} {k : Nat} {l : List (List UInt8)} (h : Rd stL 1 W (some ad) l) (hk : k < l.length) : W.cell? (ad.add k) = some (.string (str l[k])) := by
 obtain ⟨ad', e, _, hc⟩ := h k hk
 injection e with e
 subst e
 have := hc 0 (.string (str l[k])) rfl
 rw [Nat.mul_one] at this
 simpa [Addr.add] using this
theorem qj5 {W : World} {ad : Addr} {k : Nat} {l : List Shr} (h : Rd shrL 11 W (some ad) l) (hk : k < l.length) : ∀ j u, (shrL l[k])[j]? = some u -> W.cell? ((ad.add (k * 11)).add j) = some u := fun j u hj => by
 obtain ⟨ad', e, _, hc⟩ := h k hk
 injection e with e
 subst e
 exact hc j u hj
theorem bk_check (y : BkV) (W : World) (hy : y.b.wf) (hp : Rd tmL 10 W y.A y.b.proof) (ht : Rd txL 7 W y.D y.b.txs) : Calls Tryz.prog 36 #[.agg (bkL y).toArray] W (gives (.int .i64 (checkV y.b)) W) := qfY y.b y.A y.c y.D y.d W hy hp ht
theorem bk_bytes (y : BkV) (W : World) (hy : y.b.wf) (hp : Rd tmL 10 W y.A y.b.proof) (ht : Rd txL 7 W y.D y.b.txs) (h0 : checkV y.b = 0) : Calls Tryz.prog 44 #[.agg (bkL y).toArray] W (gives (.string (str (bytesB y.b))) W) := qi8 y.b y.A y.c y.D y.d W hy hp ht h0
theorem bkInfo (y : BkV) : (Tryz.prog.info? 57).map (·.size) = some (bkL y).length := by kernel_rfl
theorem qlP (x : InV) (a : InA) (w : World) (hx : x.wf) (hin : InAt x a w) (hT : T13 w) (hn : L7.newE x.f x.bad = 0) :
 Calls Tryz.prog 10 #[.agg (inC x a)] w (lawsP x w) := by
 have Z0 := hid (qd8 w 27 39 44 (inC x a) (lawA none none none) (lawA none none none))
 have H1 := hid (fun W => L7.new_ok x.f x.bad W hx.bad hn)
 have H2 := hid (fun W => L7.qmp x.f x.bad W hx.f hx.bad hn)
 have H3 := hid (fun W => L7.qlU x.f W (qjt hn))
 have H4 := hid (fun W => L5.qi0 W)
 have HN := hid hn
 have HX := hid hx
 have HI := hid hin
 have HT := hid hT
 clear hx hin hT hn
 go_enter Tryz.func10, Tryz.ntmps10
 go_upto_region 1 with fail
 refine qab (fun w0 hw0 => ?_)
 have hA : Blk w0 w.heap.size 27 (inC x a) /\ Blk w0 (w.heap.size + 1) 39 (lawA none none none) /\ Blk w0 (w.heap.size + 2) 44 (lawA none none none) /\ Below w.heap.size w w0 := by rw [hw0]; exact Z0.out
 clear hw0 Z0
 obtain ⟨k0, k1, k2, hb0⟩ := hA
 have hsz0 : w.heap.size + 3 <= w0.heap.size := by have := k2.lt; omega
 have c0 : w0.cell? ⟨w.heap.size, 0, none⟩ = some (.int .i64 x.f) := k0.cell 0
 have c1 : w0.cell? ⟨w.heap.size, 1, none⟩ = some (.int .u32 x.bad) := k0.cell 1
 go_upto_region 2 with (first
  | (go_at_call 40; refine (H1.out _).mono ?_; rintro e w1 ⟨g, rfl, hSg, hb1⟩))
 have k01 := k0.below hb1 k0.lt
 have k11 := k1.below hb1 k1.lt
 have k21 := k2.below hb1 k2.lt
 have hw1 := nxt hb0 hb1
 have HB1 := hid (And.intro hsz0 (And.intro hSg hb1))
 clear k0 k1 k2 c0 c1 hsz0 hSg hb1 hb0 H1
 have c0 : w1.cell? ⟨w.heap.size, 0, none⟩ = some (.int .i64 x.f) := k01.cell 0
 have c1 : w1.cell? ⟨w.heap.size, 1, none⟩ = some (.int .u32 x.bad) := k01.cell 1
 go_upto_region 3 with (first
  | (go_at_call 41; refine (H2.out _).mono ?_; rintro e w2 ⟨g2, rfl, hRs, hb2⟩))
 have k02 := k01.below hb2 k01.lt
 have k12 := k11.below hb2 k11.lt
 have k22 := k21.below hb2 k21.lt
 have hw2 := nxt hw1 hb2
 have HB2 := hid (And.intro hRs hb2)
 clear k01 k11 k21 c0 c1 hRs hb2 hw1 H2
 have c0 : w2.cell? ⟨w.heap.size, 0, none⟩ = some (.int .i64 x.f) := k02.cell 0
 go_upto_region 4 with (first
  | (go_at_call 42; refine (H3.out _).mono ?_; rintro e w3 ⟨c, rfl, hCn, hb3⟩))
 have k03 := k02.below hb3 k02.lt
 have k13 := k12.below hb3 k12.lt
 have k23 := k22.below hb3 k22.lt
 have hw3 := nxt hw2 hb3
 have HB3 := hid (And.intro hCn hb3)
 clear k02 k12 k22 c0 hCn hb3 hw2 H3
 go_upto_region 7 with (first
  | (go_at_call 43; refine (H4.out _).mono ?_; rintro e w4 ⟨b, rfl, hBk, hb4⟩)
  | (refine wpList_build rfl _ _ rfl #[(0, .pointer (some ⟨b, 0, none⟩)), (1, .pointer (some ⟨g, 0, none⟩)), (2, .pointer (some ⟨c, 0, none⟩))] rfl (qlb _ _ _ _) ?_)
  | (refine qaf rfl _ _ _ rfl _ (lawA (some ⟨b, 0, none⟩) (some ⟨g, 0, none⟩) (some ⟨c, 0, none⟩)) rfl rfl _ _ lawInfo rfl (qbg _ _ _) ?_))
 have k04 := k03.below hb4 k03.lt
 have k14 := k13.below hb4 k13.lt
 have k24 := k23.below hb4 k23.lt
 have hw4 := nxt hw3 hb4
 have hW := qkp (g2 := g2) HI.out HB1.out HB2.out HB3.out ⟨hBk, hb4⟩ k04 k14 k24 hw4
 dsimp only at hW
 have kk := (k04.below (qae w4 (.cells (lawA (some ⟨b, 0, none⟩) (some ⟨g, 0, none⟩) (some ⟨c, 0, none⟩)) 39)) k04.lt)
 obtain ⟨w5, hw5⟩ := nm (w4.alloc (.cells (lawA (some ⟨b, 0, none⟩) (some ⟨g, 0, none⟩) (some ⟨c, 0, none⟩)) 39))
 rw [<- hw5] at hW kk
 have c0 : (w5.alloc (.cells #[.slice none 0 0] 97)).cell? ⟨w.heap.size, 0, none⟩ = some (.int .i64 x.f) := (kk.below (qae _ _) kk.lt).cell 0
 clear kk
 obtain ⟨G1, hG1⟩ := nm (w4.heap.size)
 rw [<- hG1] at hW
 rw [<- hG1]
 refine qab (fun wq hwq => ?_)
 have hq5 : wq = w5 := hwq.trans hw5.symm
 subst hq5
 have HWW := hid hW
 clear hW hwq hw5 hG1 k04 k14 k24 hw4 hBk hb4 hw3 k03 k13 k23 HB1 HB2 HB3 H4
 go_upto_region 8 with (first
  | (refine wpList_build rfl _ _ rfl #[] rfl (qik _) ?_)
  | (refine wpList_build rfl _ _ rfl #[(0, .int .i64 x.f)] rfl (qil _ _) ?_)
  | (refine wpList_build rfl _ _ rfl #[(0, .pointer (some ⟨wq.heap.size, 0, none⟩)), (1, .pointer (some ⟨g2, 0, none⟩)), (2, .pointer (some ⟨wq.heap.size + 1, 0, none⟩))] rfl (qjQ _ _ _ _) ?_)
  | (refine qaf rfl _ _ _ rfl _ (lawA (some ⟨wq.heap.size, 0, none⟩) (some ⟨g2, 0, none⟩) (some ⟨wq.heap.size + 1, 0, none⟩)) rfl rfl _ _ rlawInfo rfl (qbg _ _ _) ?_))
 clear c0
 obtain ⟨G2, hG2⟩ := nm (wq.heap.size + 1 + 1)
 obtain ⟨c2, hc2⟩ := nm (wq.heap.size + 1)
 obtain ⟨b2, hb2⟩ := nm (wq.heap.size)
 have hWW := HWW.out
 rw [<- hG2, <- hc2, <- hb2] at hWW
 rw [<- hG2, <- hc2, <- hb2]
 refine qab (fun w8 hw8 => ?_)
 have hLS : LwAt w x a G1 G2 b g c b2 g2 c2 w8 /\ Six w8 (keptL w.heap.size G1 G2) b g c b2 g2 c2 ⟨[], x.f, x.bad, [], []⟩ ⟨[], x.f, x.bad, [], []⟩ [] [] 0 w8 /\ w.heap.size + 2 < G1 /\ w.heap.size + 2 < G2 := by rw [hw8]; exact hWW
 clear hWW HWW hw8 hG2 hc2 hb2
 obtain ⟨hL, hS, hgg⟩ := hLS
 have hGG := hid hgg
 have HBW := hid hL.bw
 have HL := hid (fun (W' : World) (R R2 : Regs) (N N2 : List Int) (B : Nat) (s : Six w8 (keptL w.heap.size G1 G2) b g c b2 g2 c2 R R2 N N2 B W') => hL.six HI.out s)
 clear hL hgg
 obtain ⟨n1, hn1⟩ := nm (x.bs.length)
 obtain ⟨n2, hn2⟩ := nm (x.cs.length)
 obtain ⟨n3, hn3⟩ := nm (x.ss.length)
 obtain ⟨n4, hn4⟩ := nm (x.gs.length)
 have hm1 : n1 <= 30 := by rw [hn1]; exact HX.out.n1
 have hm2 : n2 <= 10 := by rw [hn2]; exact HX.out.n2
 have hm3 : n3 <= 120 := by rw [hn3]; exact HX.out.n3
 have hm4 : n4 <= 20 := by rw [hn4]; exact HX.out.n4
 have HN1 := hid hn1
 have HN2 := hid hn2
 have HN3 := hid hn3
 have HN4 := hid hn4
 clear hn1 hn2 hn3 hn4
 go_wp2
 go_loopw [13] (fun i wr => ∃ k : Nat, i = .int .i64 k /\ k <= n1 /\ Six w8 (keptL w.heap.size G1 G2) b g c b2 g2 c2 ⟨bookB [] (x.bs.take k), x.f, x.bad, [], []⟩ ⟨bookB [] (x.bs.take k), x.f, x.bad, [], []⟩ [] [] 0 wr) (fun i _ => n1 - (RowKit.intOf i).toNat)
 case atStart => exact ⟨0, rfl, Nat.zero_le _, hS⟩
 case round =>
  obtain ⟨k, rfl, hk, hSk⟩ := hrel
  clear hS
  have hA := HL.out _ _ _ _ _ _ hSk
  have i2 : wr.cell? ⟨w.heap.size, 2, none⟩ = some (.slice a.A1 n1 a.c1) := by rw [HN1.out]; exact hA.bi.cell 2
  by_cases hlt : k < n1
  ·have hkL : k < x.bs.length := by have := HN1.out; omega
   obtain ⟨ad, hA1, hadl, hxx⟩ := hA.hin.r1 k hkL
   clear hxx
   rw [hA1] at i2
   obtain ⟨y, hy⟩ := nm (x.bs[k])
   have hyw : y.b.wf := by rw [hy]; exact HX.out.bs _ (List.getElem_mem hkL)
   have hymem : y ∈ x.bs := by rw [hy]; exact List.getElem_mem hkL
   have hsn : bookB [] (x.bs.take (k + 1)) = if checkV y.b = 0 then enterL (bookB [] (x.bs.take k)) (str (bytesB y.b)) else bookB [] (x.bs.take k) := by rw [hy, <- qjK, List.take_succ_eq_append_getElem hkL]
   have hlen : (bookB [] (x.bs.take k)).length <= 1000000 := by have := (qgj [] (by simp) (x.bs.take k)).2; rw [List.length_take] at this; simp only [List.length_nil] at this; omega
   have HCS := hid (fun W (h : LwAt w x a G1 G2 b g c b2 g2 c2 W) => show ∀ j u, (bkL y)[j]? = some u -> W.cell? ((ad.add (k * 14)).add j) = some u by rw [hy]; exact qiS (by have := h.hin.r1; rw [hA1] at this; exact this) hkL)
   have HCK := hid (fun W (h : LwAt w x a G1 G2 b g c b2 g2 c2 W) => bk_check y W hyw (h.hin.rp y hymem) (h.hin.rt y hymem))
   have HBY := hid (fun W (h : LwAt w x a G1 G2 b g c b2 g2 c2 W) h0 => bk_bytes y W hyw (h.hin.rp y hymem) (h.hin.rt y hymem) h0)
   obtain ⟨K, hK⟩ := nm (bookB [] (x.bs.take k))
   rw [<- hK] at hSk hsn hlen
   have HSN := hid hsn
   have hcs1 := HCS.out wr hA
   have hchk := HCK.out wr hA
   clear hsn hK hy hyw hymem hadl hkL
   by_cases hc : checkV y.b = 0
   case neg =>
    have hc1 : (checkV y.b == 0) = false := by simpa using hc
    have hS' := hid (fun (W : World) (hb : Below wr.heap.size wr W) => hSk.below hb)
    have HS2 := hid (show bookB [] (x.bs.take (k + 1)) = K by rw [HSN.out, if_neg hc])
    clear HCS HBY HCK hc hSk hA HSN hA1
    go_wp2_with (first
     | (refine qai rfl _ _ rfl (ad.add (k * 14)) rfl (bkL y) _ hcs1 Tryz.underlying57 rfl (bkInfo y) ?_)
     | (go_at_call 36; refine hchk.mono ?_; unfold gives; rintro e w9 ⟨rfl, hb9⟩))
    go_roundw
    case rel => exact ⟨k + 1, by go_num, by omega, by rw [HS2.out]; exact hS'.out _ hb9⟩
    case measure => simp [RowKit.intOf]; omega
   have HS2 := hid (show bookB [] (x.bs.take (k + 1)) = enterL K (str (bytesB y.b)) by rw [HSN.out, if_pos hc])
   have hby := fun W h => HBY.out W h hc
   rw [hc] at hchk
   obtain ⟨s, hs⟩ := nm (str (bytesB y.b))
   rw [<- hs] at hby HS2
   have HBY2 := hid hby
   clear HBY HCK hc hs HSN hby
   go_upto_region 12 with (first
    | (refine qai rfl _ _ rfl (ad.add (k * 14)) rfl (bkL y) _ hcs1 Tryz.underlying57 rfl (bkInfo y) ?_)
    | (go_at_call 36; refine hchk.mono ?_; unfold gives; rintro e w9 ⟨rfl, hb9⟩))
   have hS9 := hSk.below hb9
   have hA9 := HL.out _ _ _ _ _ _ hS9
   have i2' : w9.cell? ⟨w.heap.size, 2, none⟩ = some (.slice (some ad) n1 a.c1) := by rw [HN1.out, <- hA1]; exact hA9.bi.cell 2
   have hcs2 := HCS.out w9 hA9
   have hby2 := HBY2.out w9 hA9
   clear hchk hcs1 i2 hb9 hSk hA HCS HBY2 hA9
   go_upto_region 13 with (first
    | (refine qai rfl _ _ rfl (ad.add (k * 14)) rfl (bkL y) _ hcs2 Tryz.underlying57 rfl (bkInfo y) ?_)
    | (go_at_call 44; refine hby2.mono ?_; unfold gives; rintro e w10 ⟨rfl, hb10⟩))
   have hS10 := hS9.below hb10
   have hA10 := HL.out _ _ _ _ _ _ hS10
   have j1 : w10.cell? ⟨G1, 0, none⟩ = some (.pointer (some ⟨b, 0, none⟩)) := hA10.k1.cell 0
   have hE := qhU hS10 hlen s
   clear hby2 hcs2 i2' hb10 hS9 hA10 hS10
   go_upto_region 14 with (first
    | (go_at_call 30; refine hE.mono ?_; rintro e w11 ⟨⟨v11, rfl⟩, hS11⟩))
   have hA11 := HL.out _ _ _ _ _ _ hS11
   have j2 : w11.cell? ⟨G2, 0, none⟩ = some (.pointer (some ⟨b2, 0, none⟩)) := hA11.k2.cell 0
   have hE2 := qgc hS11 hlen s
   clear hE j1 hA11 hS11
   go_wp2_with (first
    | (go_at_call 45; refine hE2.mono ?_; rintro e w12 ⟨⟨v12, rfl⟩, hS12⟩))
   go_roundw
   case rel => exact ⟨k + 1, by go_num, by omega, by rw [HS2.out]; exact hS12⟩
   case measure => simp [RowKit.intOf]; omega
  ·obtain rfl : k = n1 := by omega
   have hfull : x.bs.take k = x.bs := List.take_of_length_le (by have := HN1.out; omega)
   rw [hfull] at hSk
   have hK0 := qgj [] (by simp) x.bs
   obtain ⟨K0, eK0⟩ := nm (bookB [] x.bs)
   rw [<- eK0] at hSk hK0
   have hK0l : K0.length <= 30 := by have := hK0.2; have := HX.out.n1; simp only [List.length_nil] at *; omega
   have HK0 := hid (And.intro eK0 hK0.1)
   clear hA hfull eK0 hK0
   go_wp2
   clear i2
   go_loopw [15] (fun i wr => ∃ k : Nat, i = .int .i64 k /\ k <= n2 /\ Six w8 (keptL w.heap.size G1 G2) b g c b2 g2 c2 ⟨bookC K0 (x.cs.take k), x.f, x.bad, [], []⟩ ⟨bookC K0 (x.cs.take k), x.f, x.bad, [], []⟩ [] [] 0 wr) (fun i _ => n2 - (RowKit.intOf i).toNat)
   case atStart => exact ⟨0, rfl, Nat.zero_le _, hSk⟩
   case round =>
    obtain ⟨k, rfl, hk, hSk⟩ := hrel
    have hA := HL.out _ _ _ _ _ _ hSk
    have i3 : wr.cell? ⟨w.heap.size, 3, none⟩ = some (.slice a.A2 n2 a.c2) := by rw [HN2.out]; exact hA.bi.cell 3
    by_cases hlt : k < n2
    ·have hkL : k < x.cs.length := by have := HN2.out; omega
     obtain ⟨ad, hA1, hadl, hxx⟩ := hA.hin.r2 k hkL
     clear hxx
     rw [hA1] at i3
     have hsn : bookC K0 (x.cs.take (k + 1)) = enterL (bookC K0 (x.cs.take k)) (str x.cs[k]) := by rw [<- qjL, List.take_succ_eq_append_getElem hkL]
     have hlen : (bookC K0 (x.cs.take k)).length <= 1000000 := by have := (qiT K0 HK0.out.2 (x.cs.take k)).2; rw [List.length_take] at this; omega
     have HCS := hid (fun W (h : LwAt w x a G1 G2 b g c b2 g2 c2 W) => show W.cell? (ad.add k) = some (.string (str x.cs[k])) from qmF (by have := h.hin.r2; rw [hA1] at this; exact this) hkL)
     obtain ⟨K, hK⟩ := nm (bookC K0 (x.cs.take k))
     rw [<- hK] at hSk hsn hlen
     obtain ⟨s, hs⟩ := nm (str x.cs[k])
     rw [<- hs] at hsn HCS
     have HSN := hid hsn
     have hAd := hA.drew
     have hSd := hSk.below (Below.refl _ wr).drew
     clear hsn hK hs hadl hkL hA hSk
     go_upto_region 18 with fail
     clear i3
     obtain ⟨wd, hwd⟩ := nm (wr.drew)
     rw [<- hwd] at hAd hSd
     refine qak (LwAt w x a G1 G2 b g c b2 g2 c2) [0, 1, 2, 3, 4, 5, 6] (by kernel_rfl) ?_
     rw [<- hwd]
     refine qar (f := 1) (by kernel_rfl) (fun _ x _ _ _ h => by cases x <;> exact h) hAd [0, 1, 2, 3, 4, 5, 6] _ _ (by kernel_rfl) (by kernel_rfl) (by kernel_rfl) ?_
     have ne : Nonempty (qad (LwAt w x a G1 G2 b g c b2 g2 c2)) := ⟨⟨_, hAd⟩⟩
     have d0 : ∀ y : qad (LwAt w x a G1 G2 b g c b2 g2 c2), y.w.cell? ⟨G1, 0, none⟩ = some (.pointer (some ⟨b, 0, none⟩)) := fun y => y.h.k1.cell 0
     have d1 : ∀ y : qad (LwAt w x a G1 G2 b g c b2 g2 c2), y.w.cell? ⟨w.heap.size, 3, none⟩ = some (.slice (some ad) n2 a.c2) := fun y => by rw [HN2.out, <- hA1]; exact y.h.bi.cell 3
     have d2 : ∀ y : qad (LwAt w x a G1 G2 b g c b2 g2 c2), y.w.cell? (ad.add k) = some (.string s) := fun y => HCS.out y.w y.h
     conv => arg 5; simp [pick]
     iterate 7 go_big_quiet_step (fail)
     refine wpQuiet_nil ?_
     have hE := qhU hSd hlen s
     clear ne d0 d1 d2 hSd hAd hwd
     refine qag 7 (by kernel_rfl) rfl ?_
     go_wp2_with (go_at_call 30; refine hE.mono ?_; rintro e w11 ⟨⟨v11, rfl⟩, hS11⟩)
     have hA11 := HL.out _ _ _ _ _ _ hS11
     refine stepQ.mk ⟨fun _ => hA11, ?_⟩
     refine qaq [] _ _ _ (by kernel_rfl) ?_
     conv => arg 4; simp [pick]
     go_upto_region 19 with fail
     clear hE
     have hAd := hA11.drew
     have hSd := hS11.below (Below.refl _ w11).drew
     clear hA11 hS11
     obtain ⟨wd, hwd⟩ := nm (w11.drew)
     rw [<- hwd] at hAd hSd
     refine qak (LwAt w x a G1 G2 b g c b2 g2 c2) [0, 1, 2, 3, 4, 5, 6] (by kernel_rfl) ?_
     rw [<- hwd]
     refine qar (f := 1) (by kernel_rfl) (fun _ x _ _ _ h => by cases x <;> exact h) hAd [0, 1, 2, 3, 4, 5, 6] _ _ (by kernel_rfl) (by kernel_rfl) (by kernel_rfl) ?_
     have ne : Nonempty (qad (LwAt w x a G1 G2 b g c b2 g2 c2)) := ⟨⟨_, hAd⟩⟩
     have d0 : ∀ y : qad (LwAt w x a G1 G2 b g c b2 g2 c2), y.w.cell? ⟨G2, 0, none⟩ = some (.pointer (some ⟨b2, 0, none⟩)) := fun y => y.h.k2.cell 0
     have d1 : ∀ y : qad (LwAt w x a G1 G2 b g c b2 g2 c2), y.w.cell? ⟨w.heap.size, 3, none⟩ = some (.slice (some ad) n2 a.c2) := fun y => by rw [HN2.out, <- hA1]; exact y.h.bi.cell 3
     have d2 : ∀ y : qad (LwAt w x a G1 G2 b g c b2 g2 c2), y.w.cell? (ad.add k) = some (.string s) := fun y => HCS.out y.w y.h
     conv => arg 5; simp [pick]
     iterate 7 go_big_quiet_step (fail)
     refine wpQuiet_nil ?_
     have hE := qgc hSd hlen s
     clear ne d0 d1 d2 hSd hAd hwd
     refine qag 7 (by kernel_rfl) rfl ?_
     go_wp2_with (go_at_call 45; refine hE.mono ?_; rintro e w12 ⟨⟨v12, rfl⟩, hS12⟩)
     have hA12 := HL.out _ _ _ _ _ _ hS12
     refine stepQ.mk ⟨fun _ => hA12, ?_⟩
     refine qaq [] _ _ _ (by kernel_rfl) ?_
     conv => arg 4; simp [pick]
     clear hE hA12 HCS
     go_wp2_with fail
     go_roundw
     case rel => exact ⟨k + 1, by go_num, by omega, by rw [HSN.out]; exact hS12⟩
     case measure => simp [RowKit.intOf]; omega
    ·obtain rfl : k = n2 := by omega
     have hfull : x.cs.take k = x.cs := List.take_of_length_le (by have := HN2.out; omega)
     rw [hfull] at hSk
     obtain ⟨KC, eKC⟩ := nm (bookC K0 x.cs)
     rw [<- eKC] at hSk
     have HKC := hid eKC
     clear hA hfull eKC
     go_wp2
     clear i3
     go_loopw [16] (fun i wr => ∃ k : Nat, i = .int .i64 k /\ k <= n3 /\ Six w8 (keptL w.heap.size G1 G2) b g c b2 g2 c2 ⟨KC, x.f, x.bad, shsF x.f [] (x.ss.take k), []⟩ ⟨KC, x.f, x.bad, shsF x.f [] (x.ss.take k), []⟩ [] [] 0 wr) (fun i _ => n3 - (RowKit.intOf i).toNat)
     case atStart => exact ⟨0, rfl, Nat.zero_le _, hSk⟩
     case round =>
      obtain ⟨k, rfl, hk, hSk⟩ := hrel
      have hA := HL.out _ _ _ _ _ _ hSk
      have i4 : wr.cell? ⟨w.heap.size, 4, none⟩ = some (.slice a.A3 n3 a.c3) := by rw [HN3.out]; exact hA.bi.cell 4
      by_cases hlt : k < n3
      ·have hkL : k < x.ss.length := by have := HN3.out; omega
       obtain ⟨ad, hA1, hadl, hxx⟩ := hA.hin.r3 k hkL
       clear hxx
       rw [hA1] at i4
       have hsn : shsF x.f [] (x.ss.take (k + 1)) = issL x.f (shsF x.f [] (x.ss.take k)) x.ss[k] := by rw [<- qm8, List.take_succ_eq_append_getElem hkL]
       have hok := qm7 x.f [] (by simp) (x.ss.take k) (fun y hy => HX.out.ss y (List.mem_of_mem_take hy))
       have hlen : (shsF x.f [] (x.ss.take k)).length <= 1000000 := by have := hok.2; rw [List.length_take] at this; simp only [List.length_nil] at this; omega
       have HCS := hid (fun W (h : LwAt w x a G1 G2 b g c b2 g2 c2 W) => show ∀ j u, (shrL x.ss[k])[j]? = some u -> W.cell? ((ad.add (k * 11)).add j) = some u from qj5 (by have := h.hin.r3; rw [hA1] at this; exact this) hkL)
       have hyw := HX.out.ss _ (List.getElem_mem hkL)
       obtain ⟨L, hL⟩ := nm (shsF x.f [] (x.ss.take k))
       rw [<- hL] at hSk hsn hlen hok
       obtain ⟨y, hy⟩ := nm (x.ss[k])
       rw [<- hy] at hsn HCS hyw
       have HSN := hid hsn
       have hcs1 := HCS.out wr hA
       have hE : Calls Tryz.prog 29 #[.pointer (some ⟨g, 0, none⟩), .agg (shrL y).toArray] wr _ := qm9 hSk hlen y hyw
       have HF := hid (And.intro (qjt HN.out) hok.1)
       clear hsn hL hy hadl hkL hA hSk hok
       go_upto_region 24 with (first
        | (refine qai rfl _ _ rfl (ad.add (k * 11)) rfl (shrL y) _ hcs1 Tryz.underlying75 rfl (by kernel_rfl) ?_)
        | (go_at_call 29; refine hE.mono ?_; rintro e w11 ⟨⟨v11, rfl⟩, hS11⟩))
       have hA11 := HL.out _ _ _ _ _ _ hS11
       have i4' : w11.cell? ⟨w.heap.size, 4, none⟩ = some (.slice (some ad) n3 a.c3) := by rw [HN3.out, <- hA1]; exact hA11.bi.cell 4
       have hcs2 := HCS.out w11 hA11
       have hE2 : Calls Tryz.prog 46 #[.pointer (some ⟨g2, 0, none⟩), .agg (shrL y).toArray] w11 _ := qkI hS11 HF.out.1 HF.out.2 hlen y hyw
       clear hE hcs1 i4 hA11 hS11 HCS
       go_wp2_with (first
        | (refine qai rfl _ _ rfl (ad.add (k * 11)) rfl (shrL y) _ hcs2 Tryz.underlying75 rfl (by kernel_rfl) ?_)
        | (go_at_call 46; refine hE2.mono ?_; rintro e w12 ⟨⟨v12, rfl⟩, hS12⟩))
       go_roundw
       case rel => exact ⟨k + 1, by go_num, by omega, by rw [HSN.out]; exact hS12⟩
       case measure => simp [RowKit.intOf]; omega
      ·obtain rfl : k = n3 := by omega
       have hfull : x.ss.take k = x.ss := List.take_of_length_le (by have := HN3.out; omega)
       rw [hfull] at hSk
       obtain ⟨LS, eLS⟩ := nm (shsF x.f [] x.ss)
       rw [<- eLS] at hSk
       have HLS := hid eLS
       clear hA hfull eLS
       go_wp2
       clear i4
       go_loopw [17] (fun i wr => ∃ k : Nat, i = .int .i64 k /\ k <= n4 /\ Six w8 (keptL w.heap.size G1 G2) b g c b2 g2 c2 ⟨KC, x.f, x.bad, LS, gsF x.f [] (x.gs.take k)⟩ ⟨KC, x.f, x.bad, LS, gsF x.f [] (x.gs.take k)⟩ [] [] k wr) (fun i _ => n4 - (RowKit.intOf i).toNat)
       case atStart => exact ⟨0, rfl, Nat.zero_le _, hSk⟩
       case round =>
        obtain ⟨k, rfl, hk, hSk⟩ := hrel
        have hA := HL.out _ _ _ _ _ _ hSk
        have i5 : wr.cell? ⟨w.heap.size, 5, none⟩ = some (.slice a.A4 n4 a.c4) := by rw [HN4.out]; exact hA.bi.cell 5
        by_cases hlt : k < n4
        ·have hkL : k < x.gs.length := by have := HN4.out; omega
         obtain ⟨ad, hA1, hadl, hxx⟩ := hA.hin.r4 k hkL
         clear hxx
         rw [hA1] at i5
         have hsn : gsF x.f [] (x.gs.take (k + 1)) = chooseG x.f (gsF x.f [] (x.gs.take k)) [] x.gs[k].s.a2 x.gs[k].k := by rw [<- gsF_snoc, List.take_succ_eq_append_getElem hkL]
         have hlen : (gsF x.f [] (x.gs.take k)).length <= 1000000 := by have := gsF_ok x.f [] (x.gs.take k); rw [List.length_take] at this; simp only [List.length_nil] at this; omega
         have HCS := hid (fun W (h : LwAt w x a G1 G2 b g c b2 g2 c2 W) => show ∀ j u, (shrL x.gs[k])[j]? = some u -> W.cell? ((ad.add (k * 11)).add j) = some u from qj5 (by have := h.hin.r4; rw [hA1] at this; exact this) hkL)
         obtain ⟨L, hL⟩ := nm (gsF x.f [] (x.gs.take k))
         rw [<- hL] at hSk hsn hlen
         obtain ⟨y, hy⟩ := nm (x.gs[k])
         rw [<- hy] at hsn HCS
         have HSN := hid hsn
         have HF := hid (qjt HN.out)
         have hAd := hA.drew
         have hSd := hSk.below (Below.refl _ wr).drew
         clear hsn hL hy hadl hkL hA hSk
         go_upto_region 28 with fail
         clear i5
         obtain ⟨wd, hwd⟩ := nm (wr.drew)
         rw [<- hwd] at hAd hSd
         refine qak (LwAt w x a G1 G2 b g c b2 g2 c2) [0, 1, 2, 3, 4, 5, 6, 7, 8, 9, 10, 11, 12, 13] (by kernel_rfl) ?_
         rw [<- hwd]
         refine qar (f := 1) (by kernel_rfl) (fun _ x _ _ _ h => by cases x <;> exact h) hAd [0, 1, 2, 3, 4, 5, 6, 7, 8, 9, 10, 11, 12, 13] _ _ (by kernel_rfl) (by kernel_rfl) (by kernel_rfl) ?_
         have ne : Nonempty (qad (LwAt w x a G1 G2 b g c b2 g2 c2)) := ⟨⟨_, hAd⟩⟩
         have d1 : ∀ y : qad (LwAt w x a G1 G2 b g c b2 g2 c2), y.w.cell? ⟨w.heap.size, 5, none⟩ = some (.slice (some ad) n4 a.c4) := fun y => by rw [HN4.out, <- hA1]; exact y.h.bi.cell 5
         have d2 : ∀ z : qad (LwAt w x a G1 G2 b g c b2 g2 c2), z.w.cell? (ad.add (k * 11)) = some (.int .i64 y.k) := fun z => by have := HCS.out z.w z.h 0 _ rfl; simpa [Addr.add] using this
         have d3 : ∀ z : qad (LwAt w x a G1 G2 b g c b2 g2 c2), z.w.cell? { block := (ad.add (k * 11)).block, off := (ad.add (k * 11)).off + 1 + 2 } = some (.int .i64 y.s.a2) := fun z => HCS.out z.w z.h 3 _ rfl
         conv => arg 5; simp [pick]
         iterate 14 go_big_quiet_step (fail)
         refine wpQuiet_nil ?_
         have hE := qkH hSd (by omega) y.s.a2 y.k
         clear ne d1 d2 d3 hSd hAd hwd
         refine qag 14 (by kernel_rfl) rfl ?_
         go_wp2_with (go_at_call 47; refine hE.mono ?_; rintro e w11 ⟨⟨v11, rfl⟩, hS11⟩)
         have hA11 := HL.out _ _ _ _ _ _ hS11
         refine stepQ.mk ⟨fun _ => hA11, ?_⟩
         refine qaq [] _ _ _ (by kernel_rfl) ?_
         conv => arg 4; simp [pick]
         go_upto_region 29 with fail
         clear hE
         have hAd := hA11.drew
         have hSd := hS11.below (Below.refl _ w11).drew
         clear hA11 hS11
         obtain ⟨wd, hwd⟩ := nm (w11.drew)
         rw [<- hwd] at hAd hSd
         refine qak (LwAt w x a G1 G2 b g c b2 g2 c2) [0, 1, 2, 3, 4, 5, 6, 7, 8, 9, 10, 11, 12, 13, 14] (by kernel_rfl) ?_
         rw [<- hwd]
         refine qar (f := 1) (by kernel_rfl) (fun _ x _ _ _ h => by cases x <;> exact h) hAd [0, 1, 2, 3, 4, 5, 6, 7, 8, 9, 10, 11, 12, 13, 14] _ _ (by kernel_rfl) (by kernel_rfl) (by kernel_rfl) ?_
         have ne : Nonempty (qad (LwAt w x a G1 G2 b g c b2 g2 c2)) := ⟨⟨_, hAd⟩⟩
         have d0 : ∀ y : qad (LwAt w x a G1 G2 b g c b2 g2 c2), y.w.cell? ⟨G2, 2, none⟩ = some (.pointer (some ⟨c2, 0, none⟩)) := fun y => y.h.k2.cell 2
         have d1 : ∀ y : qad (LwAt w x a G1 G2 b g c b2 g2 c2), y.w.cell? ⟨w.heap.size, 5, none⟩ = some (.slice (some ad) n4 a.c4) := fun y => by rw [HN4.out, <- hA1]; exact y.h.bi.cell 5
         have d2 : ∀ z : qad (LwAt w x a G1 G2 b g c b2 g2 c2), z.w.cell? (ad.add (k * 11)) = some (.int .i64 y.k) := fun z => by have := HCS.out z.w z.h 0 _ rfl; simpa [Addr.add] using this
         have d3 : ∀ z : qad (LwAt w x a G1 G2 b g c b2 g2 c2), z.w.cell? { block := (ad.add (k * 11)).block, off := (ad.add (k * 11)).off + 1 + 2 } = some (.int .i64 y.s.a2) := fun z => HCS.out z.w z.h 3 _ rfl
         conv => arg 5; simp [pick]
         iterate 15 go_big_quiet_step (fail)
         refine wpQuiet_nil ?_
         have hE := qiI hSd HF.out hlen (by simp) y.s.a2 y.k
         clear ne d0 d1 d2 d3 hSd hAd hwd
         refine qag 15 (by kernel_rfl) rfl ?_
         go_wp2_with (go_at_call 48; refine hE.mono ?_; rintro e w12 ⟨⟨v12, rfl⟩, hS12⟩)
         have hA12 := HL.out _ _ _ _ _ _ hS12
         refine stepQ.mk ⟨fun _ => hA12, ?_⟩
         refine qaq [] _ _ _ (by kernel_rfl) ?_
         conv => arg 4; simp [pick]
         clear hE hA12 HCS
         go_wp2_with fail
         go_roundw
         case rel => exact ⟨k + 1, by go_num, by omega, by rw [HSN.out]; exact hS12⟩
         case measure => simp [RowKit.intOf]; omega
        ·obtain rfl : k = n4 := by omega
         have hfull : x.gs.take k = x.gs := List.take_of_length_le (by have := HN4.out; omega)
         rw [hfull] at hSk
         have hreg : (⟨KC, x.f, x.bad, LS, gsF x.f [] x.gs⟩ : Regs) = regsV x := by rw [HKC.out, HK0.out.1, HLS.out]; rfl
         rw [hreg] at hSk
         clear hfull hreg
         go_upto_region 30 with fail
         have hG1 : w.heap.size + 2 < G1 := hGG.out.1
         have hG2 : w.heap.size + 2 < G2 := hGG.out.2
         have hTw : TwoL G1 G2 (lawA (some ⟨b, 0, none⟩) (some ⟨g, 0, none⟩) (some ⟨c, 0, none⟩)) (lawA (some ⟨b2, 0, none⟩) (some ⟨g2, 0, none⟩) (some ⟨c2, 0, none⟩)) wr.drew := ⟨hA.k1, hA.k2⟩
         have hSd := hSk.below (Below.refl _ wr).drew
         have hz1 : Blk wr.drew (w.heap.size + 1) 39 (lawA none none none) := hA.z1
         have hz2 : Blk wr.drew (w.heap.size + 2) 44 (lawA none none none) := hA.z2
         clear hA hSk i5
         obtain ⟨wd, hwd⟩ := nm (wr.drew)
         rw [<- hwd] at hTw hSd hz1 hz2
         refine qak (TwoL G1 G2 (lawA (some ⟨b, 0, none⟩) (some ⟨g, 0, none⟩) (some ⟨c, 0, none⟩)) (lawA (some ⟨b2, 0, none⟩) (some ⟨g2, 0, none⟩) (some ⟨c2, 0, none⟩))) [0, 1] (by kernel_rfl) ?_
         rw [<- hwd]
         refine qar (f := 3) (by kernel_rfl) (fun _ x _ _ _ h => by cases x <;> exact h) hTw [0, 1] _ _ (by kernel_rfl) (by kernel_rfl) (by kernel_rfl) ?_
         have ne : Nonempty (qad (TwoL G1 G2 (lawA (some ⟨b, 0, none⟩) (some ⟨g, 0, none⟩) (some ⟨c, 0, none⟩)) (lawA (some ⟨b2, 0, none⟩) (some ⟨g2, 0, none⟩) (some ⟨c2, 0, none⟩)))) := ⟨⟨_, hTw⟩⟩
         conv => arg 5; simp [pick]
         refine qam rfl _ _ rfl G1 rfl _ _ _ _ (fun y => y.h.k1) Tryz.underlying39 rfl lawInfo ?_
         conv => arg 6; simp only [Act.put, sA, sB, sC]
         refine qam rfl _ _ rfl G2 rfl _ _ _ _ (fun y => y.h.k2) Tryz.underlying44 rfl rlawInfo ?_
         conv => arg 6; simp only [Act.put, sA, sB, sC]
         refine wpQuiet_nil ?_
         clear ne hwd
         have hz2' := (qaB wd (w.heap.size + 1) (lawA (some ⟨b, 0, none⟩) (some ⟨g, 0, none⟩) (some ⟨c, 0, none⟩))).blk hz2 (by omega)
         refine qag 2 (by kernel_rfl) rfl ?_
         go_wp2_with (first
          | (refine wpList_store_row rfl _ _ _ rfl (w.heap.size + 1) (lawA (some ⟨b, 0, none⟩) (some ⟨g, 0, none⟩) (some ⟨c, 0, none⟩)) rfl rfl _ _ hz1 lawInfo rfl (qbg _ _ _) ?_))
         refine stepQ.mk ⟨fun _ => hTw.row (by omega) (by omega) _, ?_⟩
         refine qag 3 (by kernel_rfl) rfl ?_
         go_wp2_with (first
          | (refine wpList_store_row rfl _ _ _ rfl (w.heap.size + 2) (lawA (some ⟨b2, 0, none⟩) (some ⟨g2, 0, none⟩) (some ⟨c2, 0, none⟩)) rfl rfl _ _ hz2' rlawInfo rfl (qbg _ _ _) ?_))
         refine stepQ.mk ⟨fun _ => (hTw.row (by omega) (by omega) _).row (by omega) (by omega) _, ?_⟩
         refine qaq [4] _ _ _ (by kernel_rfl) ?_
         conv => arg 4; simp [pick]
         have hfin := (six_end hSd HBW.out (lawA (some ⟨b, 0, none⟩) (some ⟨g, 0, none⟩) (some ⟨c, 0, none⟩)) (lawA (some ⟨b2, 0, none⟩) (some ⟨g2, 0, none⟩) (some ⟨c2, 0, none⟩))).le (show k <= 20 by omega)
         have hq1 := (qaB (wd.setRow (w.heap.size + 1) (lawA (some ⟨b, 0, none⟩) (some ⟨g, 0, none⟩) (some ⟨c, 0, none⟩))) (w.heap.size + 2) (lawA (some ⟨b2, 0, none⟩) (some ⟨g2, 0, none⟩) (some ⟨c2, 0, none⟩))).blk (qac (cs := lawA (some ⟨b, 0, none⟩) (some ⟨g, 0, none⟩) (some ⟨c, 0, none⟩)) hz1) (by omega)
         have hq2 := qac (cs := lawA (some ⟨b2, 0, none⟩) (some ⟨g2, 0, none⟩) (some ⟨c2, 0, none⟩)) hz2'
         clear hTw hz1 hz2 hz2' hSd
         go_wp2_with fail
         (try simp only [Exit.inBlock, Exit.then, Act.put])
         refine bodyPost_ret (v := .tuple #[.agg (lawA (some ⟨b, 0, none⟩) (some ⟨g, 0, none⟩) (some ⟨c, 0, none⟩)), .agg (lawA (some ⟨b2, 0, none⟩) (some ⟨g2, 0, none⟩) (some ⟨c2, 0, none⟩)), .bool true]) (qeD rfl _ _ (w.heap.size + 1) (w.heap.size + 2) rfl rfl (.bool true) rfl _ _ (lawA (some ⟨b, 0, none⟩) (some ⟨g, 0, none⟩) (some ⟨c, 0, none⟩)) (lawA (some ⟨b2, 0, none⟩) (some ⟨g2, 0, none⟩) (some ⟨c2, 0, none⟩)) _ _ _ _ hq1 hq2 Tryz.underlying39 rfl lawInfo Tryz.underlying44 rfl rlawInfo) rfl ?_
         exact .inr ⟨HN.out, b, g, c, b2, g2, c2, rfl, hfin⟩
theorem laws_any (x : InV) (a : InA) (w : World) (hx : x.wf) (hin : InAt x a w) (hT : T13 w) : Calls Tryz.prog 10 #[.agg (inC x a)] w (lawsP x w) := by
 by_cases hn : L7.newE x.f x.bad = 0
 ·exact qlP x a w hx hin hT hn
 ·exact (qjl x a w hx.f hx.bad hn).mono fun e W' ⟨he, hb⟩ => .inl ⟨hn, he, hb⟩
