import Derived.Test.YtomaaidhmccngaaGreatDoorB3
import Derived.Test.YtomaaidhmccngaaGreatDoorL5
import Derived.Test.YtomaaidhmccngaaGreatDoorL7C
import Derived.Test.YtomaaidhmccngaaGreatDoorL11D
set_option linter.unusedSimpArgs false
set_option linter.unusedVariables false
set_option maxRecDepth 100000
set_option maxHeartbeats 16000000
namespace Go.Proofs.YtomaaidhmccngaaGreatDoor
open Go.RowKit Go.Maps Go.Lib
open L3 (Blk Reads)
abbrev Fnc := FuncId × Array Value × Array Value
abbrev fncV (p : Fnc) : Value := .func (.func p.1) p.2.1 p.2.2
def Enters (g : FuncId) : Prop := ∀ args w, (callFunc g args).run Tryz.prog w = .ok (.enter g args) w
def firstly (n : Nat) (Q : Nat -> World -> Prop) (P : Int -> World -> Prop) (e : Ending) (w' : World) : Prop :=
 ∃ v, e = .returned (.int .i64 v) /\ (v = 0 -> Q n w') /\ (v ≠ 0 -> P v w')
theorem qdG (fs : List Fnc) (b : Nat) (c : Nat) (Q : Nat -> World -> Prop) (P : Int -> World -> Prop) (w : World)
 (hl : fs.length <= 100) (hc : fs.length <= c)
 (hk : ∀ k W, k < fs.length -> Q k W -> Blk W b 109 (fs.map fncV).toArray)
 (he : ∀ p ∈ fs, Enters p.1)
 (hs : ∀ k (h : k < fs.length) W, Q k W -> Calls Tryz.prog fs[k].1 (fs[k].2.1 ++ fs[k].2.2) W (fun e W' => ∃ v, e = .returned (.int .i64 v) /\ (v = 0 -> Q (k + 1) W') /\ (v ≠ 0 -> P v W')))
 (h0 : Q 0 w) : Calls Tryz.prog 50 #[.slice (some ⟨b, 0, none⟩) fs.length c] w (firstly fs.length Q P) := by
 have HS := hid hs
 have HE := hid he
 have HK := hid hk
 obtain ⟨n, hn⟩ := nm (fs.length)
 rw [<- hn] at hl hc
 rw [<- hn]
 have HN := hid hn
 clear hs he hk hn
 unfold firstly
 go_enter Tryz.func50, Tryz.ntmps50
 go_wp2
 go_loopw [8] (fun i wr => ∃ k : Nat, i = .int .i64 k /\ k <= n /\ Q k wr) (fun i _ => n - (RowKit.intOf i).toNat)
 case atStart => exact ⟨0, rfl, Nat.zero_le _, h0⟩
 case round =>
  obtain ⟨k, rfl, hk, hQ⟩ := hrel
  by_cases hlt : k < n
  ·have hkL : k < fs.length := by have := HN.out; omega
   have hB := HK.out k wr hkL hQ
   have hcell : wr.cell? ⟨b, k, none⟩ = some (fncV fs[k]) := by
    rw [hB.cell k]
    simp [hkL]
   have eg := HE.out _ (List.getElem_mem hkL)
   have hC := HS.out k hkL wr hQ
   obtain ⟨f, hf⟩ := nm (fs[k])
   rw [<- hf] at hcell eg hC
   obtain ⟨g, a, l⟩ := f
   dsimp only at hC
   have eg : ∀ args w, (callFunc g args).run Tryz.prog w = .ok (.enter g args) w := eg
   have HC := hid hC
   clear hC hf hQ hB h0
   go_wp2_with (first
    | (go_at_fn g; refine HC.out.mono ?_; rintro e w2 ⟨v, rfl, hq, hp⟩; have HQ := hid hq; have HP := hid hp; clear hq hp; by_cases hv : v = 0))
   ·go_roundw
    case rel => exact ⟨k + 1, by go_num, by omega, HQ.out hv⟩
    case measure => simp [RowKit.intOf]; omega
   ·go_ret
    exact ⟨v, rfl, fun h => absurd h hv, fun _ => HP.out hv⟩
  ·obtain rfl : k = n := by omega
   go_wp2_with fail
   go_ret
   exact ⟨0, rfl, fun _ => hQ, fun h => absurd rfl h⟩
end Go.Proofs.YtomaaidhmccngaaGreatDoor
namespace Go.Proofs.YtomaaidhmccngaaGreatDoor
open Go.RowKit Go.Lib
open L11 (Crt zeroC mayV endV stmV cmpV Stm stmC)
open L7 (Shr cntE enoughE seeE whoV putN inN)
open L4 (more leadV isF)
structure Regs where
 K : List ByteArray
 f : Int
 bad : Nat
 L : List Shr
 G : List (Int × Int)
structure Regs.wf (R : Regs) : Prop where
 ks : ∀ s ∈ R.K, s.size <= 65536
 kl : R.K.length <= 1000000
 hf : isF R.f = true
 hb : R.bad < 4294967296
 lw : ∀ x ∈ R.L, x.wf
 ll : R.L.length <= 1000000
 gl : R.G.length <= 1000000
def toS (s : Stm) : L7.Stm := ⟨s.a0, s.a1, s.a2, s.a3, s.a4, s.a5, s.a6, s.a7, s.a8, s.a9⟩
theorem toS_C (s : Stm) : L7.stmC (toS s) = stmC s := rfl
theorem toS_wf {s : Stm} (h : s.wf) : (toS s).wf := h
def shrOf (k : Int) (s : Stm) : Shr := ⟨k, toS s⟩
def contV (K : List ByteArray) (n : Int) : Blo × Int :=
 if L5.contE K n ≠ 0 then (zeroB, 50) else if (parseB (L5.contS K n).data.toList).2 ≠ 0 then (zeroB, 120) else ((parseB (L5.contS K n).data.toList).1, 0)
def nbrV (K : List ByteArray) (b : Blo) : Int × Int :=
 if checkV b ≠ 0 then (0, checkV b) else if L5.idx K (str (bytesB b)) = 0 then (0, 50) else ((L5.idx K (str (bytesB b)) : Nat), 0)
def fitsV (c : Crt) (b : Blo) : Bool := decide (b.view = c.view) && (decide (b.round = c.round) && (decide (b.height = c.height) && (!decide (c.kind = 2) || decide (b.author = c.author))))
def fitE (R : Regs) (c : Crt) : Int := if (contV R.K c.block).2 ≠ 0 then (contV R.K c.block).2 else if fitsV c (contV R.K c.block).1 = true then 0 else 110
def sigE (R : Regs) (c : Crt) : Int := enoughE R.f R.bad R.L (toS (stmV c)) c.sg (more 2 R.f)
def coE (R : Regs) (c : Crt) : Int := seeE R.f R.f R.bad R.L c.view c.co
def elcE (R : Regs) (c : Crt) : Int := if endV c = false then 0 else if coE R c ≠ 0 then coE R c else if whoV R.f R.G c.view = c.author then 0 else 70
def certE (R : Regs) (c : Crt) : Int := if mayV c = false then 110 else if c.kind = 0 then 0 else if fitE R c ≠ 0 then fitE R c else if sigE R c ≠ 0 then sigE R c else elcE R c
def certS (R : Regs) (c : Crt) : Bool := mayV c && (!decide (c.kind = 0) && (decide (fitE R c = 0) && (decide (sigE R c = 0) && (endV c && decide (coE R c = 0)))))
def certN (R : Regs) (N : List Int) (c : Crt) : List Int := if certS R c = true then putN N c.view else N
def sgnE (R : Regs) (t : Tmo) : Int := cntE R.f R.bad R.L (shrOf t.signer (stmT t))
def timE (R : Regs) (t : Tmo) : Int := if tmoV t = false then 121 else if sgnE R t ≠ 0 then sgnE R t else certE R t.high
def timN (R : Regs) (N : List Int) (t : Tmo) : List Int := if tmoV t = false then N else if sgnE R t ≠ 0 then N else certN R N t.high
def okR (v : Int) (p : List Tmo) (k : Nat) : Bool := decide ((p[k]!).view = v) && (decide (k = 0) || decide ((p[k - 1]!).signer < (p[k]!).signer))
def risV (v : Int) (p : List Tmo) : Bool := (List.range p.length).all (okR v p)
def eachE (R : Regs) : List Tmo -> Int
 | [] => 0
 | t :: ts => if timE R t ≠ 0 then timE R t else eachE R ts
def eachN (R : Regs) : List Int -> List Tmo -> List Int
 | N, [] => N
 | N, t :: ts => if timE R t ≠ 0 then timN R N t else eachN R (timN R N t) ts
def proE (R : Regs) (v : Int) (p : List Tmo) : Int := if risV v p = false then 121 else if eachE R p ≠ 0 then eachE R p else if (p.length : Int) < more 2 R.f then 61 else 0
def proN (R : Regs) (N : List Int) (v : Int) (p : List Tmo) : List Int := if risV v p = false then N else eachN R N p
def maxV (a b : Crt) : Crt := if cmpV a b < 0 then b else a
def highV : List Tmo -> Crt
 | [] => zeroC
 | t :: ts => ts.foldl (fun c x => maxV c x.high) t.high
def allowE (R : Regs) (b : Blo) : Int := if inN R.f b.author = true /\ (b.height = 0 -> b.author = leadV R.f b.round) then 0 else 40
def autE (R : Regs) (n : Int) (b : Blo) : Int := cntE R.f R.bad R.L (shrOf b.author (stmP n b))
def provE (R : Regs) (b : Blo) : Int := if b.height ≠ 1 then 0 else if proE R b.view b.proof ≠ 0 then proE R b.view b.proof else if cmpV b.par (highV b.proof) < 0 then 212 else 0
def restE (R : Regs) (n : Int) (b : Blo) : Int := if allowE R b ≠ 0 then allowE R b else if autE R n b ≠ 0 then autE R n b else if certE R b.par ≠ 0 then certE R b.par else provE R b
def blkE (R : Regs) (b : Blo) : Int × Int :=
 if (nbrV R.K b).2 ≠ 0 then (0, (nbrV R.K b).2) else if restE R (nbrV R.K b).1 b ≠ 0 then (0, restE R (nbrV R.K b).1 b) else ((nbrV R.K b).1, 0)
theorem qlB (t : Tmo) (ts : List Tmo) (x : Tmo) : highV (t :: ts ++ [x]) = maxV (highV (t :: ts)) x.high := by
 unfold highV
 simp [List.foldl_append]
theorem qfM (R : Regs) (t : Tmo) (ts : List Tmo) : eachE R (t :: ts) = if timE R t ≠ 0 then timE R t else eachE R ts := rfl
theorem qeq (R : Regs) (N : List Int) (t : Tmo) (ts : List Tmo) : eachN R N (t :: ts) = if timE R t ≠ 0 then timN R N t else eachN R (timN R N t) ts := rfl
theorem qj2 {v : Int} {p : List Tmo} {k : Nat} (hk : k < p.length) (h : okR v p k = false) : risV v p = false := by
 unfold risV
 rw [List.all_eq_false]
 exact ⟨k, List.mem_range.2 hk, by rw [h]; simp⟩
theorem qmw {v : Int} {p : List Tmo} (h : ∀ k, k < p.length -> okR v p k = true) : risV v p = true := by
 unfold risV
 rw [List.all_eq_true]
 exact fun k hk => h k (List.mem_range.1 hk)
end Go.Proofs.YtomaaidhmccngaaGreatDoor
namespace Go.Proofs.YtomaaidhmccngaaGreatDoor
open Go.RowKit Go.Maps Go.Lib
open L3 (Blk Reads)
open L5 (Bk)
open L6 (Turn moreB fresh From In Apart)
open L7 (Sg Cn Shr)
open L11 (Crt zeroC mayV endV stmV cmpV Stm stmC crtC)
def T13 (w : World) : Prop := Tabs w /\ L4.Tab w
theorem T13.kept {w w' : World} (h : T13 w) (hb : Below w.heap.size w w') : T13 w' := ⟨h.1.kept hb, h.2.kept hb⟩
def Trio (U : Nat -> Prop) (b g c : Nat) (R : Regs) (N : List Int) (B : Nat) (W : World) : Prop :=
 ∃ (S T X : Nat -> Prop) (m : Nat), Bk W S b R.K /\ Sg W T g R.f R.bad R.L /\ Cn W X c R.f R.G N m /\ m <= B /\ Apart S T /\ Apart T X /\ Apart X S /\ (∀ k, S k -> U k) /\ (∀ k, T k -> U k) /\ (∀ k, X k -> U k) /\ In W U
section
variable {U V : Nat -> Prop} {b g c : Nat} {R : Regs} {N N' : List Int} {B B' : Nat} {w W W' : World}
theorem Trio.inU (h : Trio U b g c R N B W) : In W U := by obtain ⟨S, T, X, m, _, _, _, _, _, _, _, _, _, _, hi⟩ := h; exact hi
theorem Trio.turn (h : Trio U b g c R N B W) (ht : Turn V W W') (hd : ∀ k, U k -> ¬ V k) : Trio U b g c R N B W' := by
 obtain ⟨S, T, X, m, h1, h2, h3, h4, h5, h6, h7, h8, h9, h10, hi⟩ := h
 exact ⟨S, T, X, m, h1.kept ht (fun k _ hk => hd k (h8 k hk)), h2.kept ht (fun k _ hk => hd k (h9 k hk)), h3.kept ht (fun k _ hk => hd k (h10 k hk)), h4, h5, h6, h7, h8, h9, h10, hi.le ht.size⟩
theorem Trio.below (h : Trio U b g c R N B W) (hb : Below W.heap.size W W') : Trio U b g c R N B W' := h.turn (L6.Turn.of_keep (S := fun _ => False) hb) (fun _ _ h => h)
theorem Trio.le (h : Trio U b g c R N B W) (hB : B <= B') : Trio U b g c R N B' W := by
 obtain ⟨S, T, X, m, h1, h2, h3, h4, h5⟩ := h
 exact ⟨S, T, X, m, h1, h2, h3, Nat.le_trans h4 hB, h5⟩
structure Rch (w : World) (U : Nat -> Prop) (b g c : Nat) (R : Regs) (N : List Int) (B : Nat) (W : World) : Prop where
 ex : ∃ V, Trio V b g c R N B W /\ ∀ k, V k -> U k ∨ w.heap.size <= k
 tn : Turn U w W
theorem Rch.start (h : Trio U b g c R N B w) : Rch w U b g c R N B w := ⟨⟨U, h, fun _ => .inl⟩, Turn.refl _ _⟩
theorem Rch.below (h : Rch w U b g c R N B W) (hb : Below W.heap.size W W') : Rch w U b g c R N B W' := by
 obtain ⟨⟨V, hV, hs⟩, ht⟩ := h
 exact ⟨⟨V, hV.below hb, hs⟩, ht.kept hb⟩
theorem Rch.le (h : Rch w U b g c R N B W) (hB : B <= B') : Rch w U b g c R N B' W := by
 obtain ⟨⟨V, hV, hs⟩, ht⟩ := h
 exact ⟨⟨V, hV.le hB, hs⟩, ht⟩
theorem Rch.then (h : Turn U w W) (hs : ∀ k, V k -> U k ∨ w.heap.size <= k) (k : Rch W V b g c R N B W') : Rch w U b g c R N B W' := by
 obtain ⟨⟨V', hV, hs'⟩, ht⟩ := k
 refine ⟨⟨V', hV, fun i hi => ?_⟩, h.trans ht hs⟩
 rcases hs' i hi with h1 | h1
 ·exact hs i h1
 ·exact .inr (Nat.le_trans h.size h1)
theorem Rch.blk (h : Rch w U b g c R N B W) {p : Nat} {t : TypeId} {cs : Array Value} (hb : Blk w p t cs) (hU : ¬ U p) : Blk W p t cs := h.tn.blk hb hU
theorem qmU (h : Trio U b g c R N B W) : Calls Tryz.prog 120 #[.pointer (some ⟨g, 0, none⟩)] W fun e W' => e = .returned (.int .i64 R.f) /\ W = W' := by
 obtain ⟨S, T, X, m, h1, h2, h3, _⟩ := h
 exact L7.f_any T g R.f R.bad R.L W h2
theorem qic (h : Trio U b g c R N B W) (hw : R.wf) (n : Int) : Calls Tryz.prog 80 #[.pointer (some ⟨b, 0, none⟩), .int .i64 n] W (gives (.tuple #[.string (L5.contS R.K n), .int .i64 (L5.contE R.K n : Nat)]) W) := by
 obtain ⟨S, T, X, m, h1, h2, h3, _⟩ := h
 exact L5.qcE S b R.K n W h1 hw.ks (by have := hw.kl; omega)
theorem qmV (h : Trio U b g c R N B W) (s : ByteArray) (hs : s.size <= 140737488351232) : Calls Tryz.prog 87 #[.pointer (some ⟨b, 0, none⟩), .string s] W fun e W' => e = .returned (.tuple #[.int .i64 (L5.idx R.K s : Nat), .int .i64 (L5.lookE R.K s : Nat)]) /\ W = W' := by
 obtain ⟨S, T, X, m, h1, h2, h3, _⟩ := h
 exact (L5.look_any S b R.K s W h1 hs).mono fun e W' ⟨he, hw⟩ => ⟨he, hw.symm⟩
theorem qf2 (h : Trio U b g c R N B W) (hw : R.wf) (x : Shr) (hx : x.wf) : Calls Tryz.prog 34 #[.pointer (some ⟨g, 0, none⟩), .agg (L7.shrC x)] W (gives (.int .i64 (L7.cntE R.f R.bad R.L x)) W) := by
 obtain ⟨S, T, X, m, h1, h2, h3, _⟩ := h
 exact L7.qfL T g R.f R.bad R.L x W h2 hx hw.hb
theorem qiO (h : Trio U b g c R N B W) (hw : R.wf) (s : Stm) (hs : s.wf) (n : Nat) (hn : n < 4294967296) (least : Int) (hT : L4.Tab W) : Calls Tryz.prog 55 #[.pointer (some ⟨g, 0, none⟩), .agg (stmC s), .int .u32 n, .int .i64 least] W (gives (.int .i64 (L7.enoughE R.f R.bad R.L (toS s) n least)) W) := by
 obtain ⟨S, T, X, m, h1, h2, h3, _⟩ := h
 exact L7.qfN T g R.f R.bad R.L (toS s) n least W h2 hs hw.hb hn hT
theorem trio_see (h : Trio U b g c R N B W) (hw : R.wf) (hB : B <= 1000000) (u : Int) (n : Nat) (hn : n < 4294967296) (hT : L4.Tab W) :
 Calls Tryz.prog 123 #[.pointer (some ⟨c, 0, none⟩), .pointer (some ⟨g, 0, none⟩), .int .i64 u, .int .u32 n] W fun e W' =>
  e = .returned (.tuple #[.int .i64 (L7.seeW R.f R.f R.bad R.L R.G u n), .int .i64 (L7.seeE R.f R.f R.bad R.L u n)]) /\ Rch W U b g c R (L7.seeN R.f R.f R.bad R.L N u n) (B + 1) W' := by
 obtain ⟨S, T, X, m, h1, h2, h3, h4, h5, h6, h7, h8, h9, h10, hi⟩ := h
 refine (L7.see_any X T c g m R.f R.f R.bad R.G N R.L u n W h3 (by omega) h2 hw.hb hn hT).mono ?_
 rintro e W' ⟨rfl, hC, ht⟩
 have htU : Turn U W W' := ht.mono fun j _ => h10 j
 exact ⟨rfl, ⟨U, ⟨S, T, X, m + 1, h1.kept ht (fun j _ hj => h7.symm j hj), h2.kept ht (fun j _ hj => h6 j hj), hC, by omega, h5, h6, h7, h8, h9, h10, hi.le ht.size⟩, fun _ => .inl⟩, htU⟩
end
end Go.Proofs.YtomaaidhmccngaaGreatDoor
namespace Go.Proofs.YtomaaidhmccngaaGreatDoor
open Go.RowKit Go.Maps Go.Lib
open L3 (Blk Reads)
open L6 (Turn)
open L11 (Crt zeroC crtL crtC)
abbrev lawA (pb pg pc : Option Addr) : Array Value := #[.pointer pb, .pointer pg, .pointer pc]
def toldB (z : Blo × Int) (w : World) (e : Ending) (w' : World) : Prop :=
 ∃ P T, e = .returned (.tuple #[.agg (bloC z.1 P T), .int .i64 z.2]) /\ LiesF w.heap.size w' z.1 P T /\ Below w.heap.size w w'
def contG (s : ByteArray) (e0 : Int) : Blo × Int := if e0 ≠ 0 then (zeroB, e0) else if (parseB s.data.toList).2 ≠ 0 then (zeroB, 120) else ((parseB s.data.toList).1, 0)
theorem contG_V (K : List ByteArray) (n : Int) : contG (L5.contS K n) (L5.contE K n : Nat) = contV K n := by
 unfold contG contV
 have h : L5.contE K n = 50 ∨ L5.contE K n = 0 := by unfold L5.contE; split <;> simp
 rcases h with h | h <;> rw [h] <;> simp
theorem qaO (w : World) (t u : TypeId) (x y : Array Value) : Blk ((w.alloc (.cells x t)).alloc (.cells y u)) w.heap.size t x /\ Blk ((w.alloc (.cells x t)).alloc (.cells y u)) (w.heap.size + 1) u y /\ Below w.heap.size w ((w.alloc (.cells x t)).alloc (.cells y u)) := by
 have hb := qae w (.cells x t)
 refine ⟨(Blk.new w _ _).alloc _, ?_, hb.alloc hb.size _⟩
 have := Blk.new (w.alloc (.cells x t)) u y
 simpa using this
theorem qir (pb pg pc : Option Addr) (n : Int) (s : ByteArray) (e0 : Int) (w : World) (hs : s.size <= 65536) (hT : Tabs w)
 (hC : ∀ W, Below w.heap.size w W -> Calls Tryz.prog 80 #[.pointer pb, .int .i64 n] W (gives (.tuple #[.string s, .int .i64 e0]) W)) :
 Calls Tryz.prog 19 #[.agg (lawA pb pg pc), .int .i64 n] w (toldB (contG s e0) w) := by
 have Z0 := hid (qaO w 39 57 (lawA pb pg pc) (bloC zeroB (.slice none 0 0) (.slice none 0 0)))
 have HC := hid hC
 have HT := hid hT
 have HP := hid (fun W (hb : Below w.heap.size w W) => qkv s.data.toList W (by have := qa4 s.data.toList; rw [qfw] at this; omega) (hT.kept hb))
 obtain ⟨z, hz⟩ := nm (parseB s.data.toList)
 have hX : contG s e0 = if e0 ≠ 0 then (zeroB, e0) else if z.2 ≠ 0 then (zeroB, 120) else (z.1, 0) := by rw [hz]; rfl
 have HX := hid hX
 have HZ := hid hz
 clear hC hT hX hz hs
 unfold toldB
 go_enter Tryz.func19, Tryz.ntmps19
 go_upto_region 1 with fail
 refine qab (fun w0 hw0 => ?_)
 have hA : Blk w0 w.heap.size 39 (lawA pb pg pc) /\ Blk w0 (w.heap.size + 1) 57 (bloC zeroB (.slice none 0 0) (.slice none 0 0)) /\ Below w.heap.size w w0 := by rw [hw0]; exact Z0.out
 clear hw0 Z0
 obtain ⟨k0, k1, hb0⟩ := hA
 have c0 : w0.cell? ⟨w.heap.size, 0, none⟩ = some (.pointer pb) := k0.cell 0
 go_upto_region 2 with (first
  | (go_at_call 80; refine (HC.out _ hb0).mono ?_; unfold gives; rintro e w1 ⟨rfl, hb1⟩))
 have hw1 := nxt hb0 hb1
 have k11 := k1.below hb1 k1.lt
 clear c0 k0 k1 hb0 hb1 HC
 by_cases h0 : e0 = 0
 ·subst h0
  have hX := HX.out
  rw [if_neg (by simp)] at hX
  obtain ⟨b, q⟩ := z
  dsimp only at hX
  have HX := hid hX
  clear hX
  have hp := HP.out w1 hw1
  unfold parsedF at hp
  rw [<- HZ.out] at hp
  have HPP := hid hp
  clear hp HP HZ
  rw [qfw] at HPP
  go_upto_region 5 with (first
   | (go_at_call 81; refine HPP.out.mono ?_; rintro e w2 ⟨P, T, rfl, hL2, hb2⟩; obtain ⟨A2, n2, c2, D2, m2, d2, rfl, rfl⟩ := hL2.form)
   | (refine qaf rfl _ _ _ rfl _ (bloC b (.slice A2 n2 c2) (.slice D2 m2 d2)) rfl rfl _ _ bloInfo rfl (qaR _ _ _ _ _ _ _) ?_))
  have hb3 := qae w2 (.cells (bloC b (.slice A2 n2 c2) (.slice D2 m2 d2)) 57)
  have hx3 := qby w2 57 b (.slice A2 n2 c2) (.slice D2 m2 d2)
  have k12 := (k11.below hb2 k11.lt)
  have k13 := k12.below hb3 k12.lt
  have hw3 := nxt (nxt hw1 hb2) hb3
  have hl3 := hL2.below hb3
  have hlt1 : w.heap.size + 1 < w1.heap.size := k11.lt
  have hne : w.heap.size + 1 < w2.heap.size := k12.lt
  obtain ⟨G, hG⟩ := nm (w2.heap.size)
  rw [<- hG] at hx3 hne
  rw [<- hG]
  refine qab (fun w3 hw3' => ?_)
  rw [<- hw3'] at hx3 k13 hw3 hl3
  clear hw3' hG hb3 k12 k11 hb2 hw1 HPP hL2
  by_cases hq : q = 0
  ·subst hq
   have hX := HX.out
   rw [if_neg (by simp)] at hX
   have HX := hid hX
   clear hX
   go_wp2_with (first
    | (refine qaa rfl _ _ rfl G rfl _ _ _ _ hx3 Tryz.underlying57 rfl bloInfo ?_)
    | (refine wpList_store_row rfl _ _ _ rfl (w.heap.size + 1) (bloC b (.slice A2 n2 c2) (.slice D2 m2 d2)) rfl rfl _ _ k13 bloInfo rfl (qaR _ _ _ _ _ _ _) ?_))
   (try simp only [Exit.inBlock, Exit.then])
   refine bodyPost_ret (v := .tuple #[.agg (bloC b (.slice A2 n2 c2) (.slice D2 m2 d2)), .int .i64 0]) (qaN rfl _ _ (w.heap.size + 1) rfl (.int .i64 0) rfl _ (bloC b (.slice A2 n2 c2) (.slice D2 m2 d2)) _ _ (qac k13) Tryz.underlying57 rfl bloInfo) rfl ?_
   rw [HX.out]
   exact ⟨_, _, rfl, (hl3.turn (qaB _ _ _) (fun k hk => by omega)).le (by omega), below_setRow hw3 (Nat.le_succ _)⟩
  ·have hX := HX.out
   rw [if_pos hq] at hX
   have HX := hid hX
   have h1 : (q != 0) = true := by simpa using hq
   clear hX hq
   go_wp2_with (first
    | (refine wpList_build rfl _ _ rfl #[] rfl (qch _) ?_)
    | (refine wpList_store_row rfl _ _ _ rfl (w.heap.size + 1) (bloC zeroB (.slice none 0 0) (.slice none 0 0)) rfl rfl _ _ k13 bloInfo rfl (qaR _ _ _ _ _ _ _) ?_))
   (try simp only [Exit.inBlock, Exit.then])
   refine bodyPost_ret (v := .tuple #[.agg (bloC zeroB (.slice none 0 0) (.slice none 0 0)), .int .i64 120]) (qaN rfl _ _ (w.heap.size + 1) rfl (.int .i64 120) rfl _ (bloC zeroB (.slice none 0 0) (.slice none 0 0)) _ _ (qac k13) Tryz.underlying57 rfl bloInfo) rfl ?_
   rw [HX.out]
   exact ⟨_, _, rfl, qbq _ _, below_setRow hw3 (Nat.le_succ _)⟩
 ·have hX := HX.out
  rw [if_pos h0] at hX
  have HX := hid hX
  have h1 : (e0 != 0) = true := by simpa using h0
  clear hX h0 HP HZ
  go_wp2_with (first
   | (refine wpList_build rfl _ _ rfl #[] rfl (qch _) ?_)
   | (refine wpList_store_row rfl _ _ _ rfl (w.heap.size + 1) (bloC zeroB (.slice none 0 0) (.slice none 0 0)) rfl rfl _ _ k11 bloInfo rfl (qaR _ _ _ _ _ _ _) ?_))
  (try simp only [Exit.inBlock, Exit.then])
  refine bodyPost_ret (v := .tuple #[.agg (bloC zeroB (.slice none 0 0) (.slice none 0 0)), .int .i64 e0]) (qaN rfl _ _ (w.heap.size + 1) rfl (.int .i64 e0) rfl _ (bloC zeroB (.slice none 0 0) (.slice none 0 0)) _ _ (qac k11) Tryz.underlying57 rfl bloInfo) rfl ?_
  rw [HX.out]
  exact ⟨_, _, rfl, qbq _ _, below_setRow hw1 (Nat.le_succ _)⟩
theorem qcE {U : Nat -> Prop} {b g c : Nat} {R : Regs} {N : List Int} {B : Nat} (n : Int) (w : World) (h : Trio U b g c R N B w) (hw : R.wf) (hT : Tabs w) :
 Calls Tryz.prog 19 #[.agg (lawA (some ⟨b, 0, none⟩) (some ⟨g, 0, none⟩) (some ⟨c, 0, none⟩)), .int .i64 n] w (toldB (contV R.K n) w) := by
 rw [<- contG_V]
 refine qir _ _ _ n _ _ w ?_ hT (fun W hb => qic (h.below hb) hw n)
 unfold L5.contS
 split
 ·exact Nat.zero_le _
 ·rw [List.getD_eq_getElem?_getD]
  cases hx : R.K[n.toNat - 1]? with
  | none => exact Nat.zero_le _
  | some s => exact hw.ks s (List.mem_of_getElem? hx)
end Go.Proofs.YtomaaidhmccngaaGreatDoor
namespace Go.Proofs.YtomaaidhmccngaaGreatDoor
open Go.RowKit Go.Maps Go.Lib
open L3 (Blk Reads)
open L6 (Turn)
open L11 (Crt zeroC crtL crtC)
def nbrG (b : Blo) (rn re : Int) : Int × Int := if checkV b ≠ 0 then (0, checkV b) else (rn, re)
theorem nbrG_V (K : List ByteArray) (b : Blo) : nbrG b (L5.idx K (str (bytesB b)) : Nat) (L5.lookE K (str (bytesB b)) : Nat) = nbrV K b := by
 unfold nbrG nbrV L5.lookE
 by_cases h : checkV b ≠ 0
 ·rw [if_pos h, if_pos h]
 ·rw [if_neg h, if_neg h]
  by_cases h0 : L5.idx K (str (bytesB b)) = 0
  ·rw [if_pos h0, if_pos h0, h0]; rfl
  ·rw [if_neg h0, if_neg h0]; rfl
theorem qkt (pb pg pc : Option Addr) (b : Blo) (P T : Value) (rn re : Int) (w : World) (hw : b.wf) (hl : Lies w b P T) (hT : Tabs w)
 (hK : checkV b = 0 -> ∀ W, Below w.heap.size w W -> Calls Tryz.prog 87 #[.pointer pb, .string (str (bytesB b))] W (fun e W' => e = .returned (.tuple #[.int .i64 rn, .int .i64 re]) /\ W = W')) :
 Calls Tryz.prog 25 #[.agg (lawA pb pg pc), .agg (bloC b P T)] w (gives (.tuple #[.int .i64 (nbrG b rn re).1, .int .i64 (nbrG b rn re).2]) w) := by
 have Z0 := hid (qaO w 39 57 (lawA pb pg pc) (bloC b P T))
 by_cases h0 : checkV b = 0
 ·have hX : nbrG b rn re = (rn, re) := by unfold nbrG; rw [if_neg (by simpa using h0)]
  have HB := hid (fun W (hb : Below w.heap.size w W) => qle b P T W hw (hl.below hb) (hT.kept hb) h0)
  have HK := hid (hK h0)
  obtain ⟨l, el⟩ := nm (bytesB b)
  rw [<- el] at HB HK
  rw [hX]
  clear hX hK hw hl hT el h0
  go_enter Tryz.func25, Tryz.ntmps25
  go_upto_region 1 with fail
  refine qab (fun w0 hw0 => ?_)
  have hA : Blk w0 w.heap.size 39 (lawA pb pg pc) /\ Blk w0 (w.heap.size + 1) 57 (bloC b P T) /\ Below w.heap.size w w0 := by rw [hw0]; exact Z0.out
  clear hw0 Z0
  obtain ⟨k0, k1, hb0⟩ := hA
  go_upto_region 4 with (first
   | (refine qaa rfl _ _ rfl (w.heap.size + 1) rfl _ _ _ _ k1 Tryz.underlying57 rfl bloInfo ?_)
   | (go_at_call 86; refine (HB.out _ hb0).mono ?_; rintro e w1 ⟨A1, c1, rfl, r1, q1, hb1⟩))
  have hw1 := nxt hb0 hb1
  have k01 := k0.below hb1 k0.lt
  have c0 : w1.cell? ⟨w.heap.size, 0, none⟩ = some (.pointer pb) := k01.cell 0
  have hcv : (convert 134 9 (.slice A1 l.length c1)).run Tryz.prog w1 = .ok (.string (str l)) w1 := by
   have := L3.qfK (c := c1) r1 (Nat.le_refl _)
   rw [List.take_length] at this
   exact this
  clear k0 k1 hb0 k01 r1
  go_wp2_with (first
   | (go_at_call 87; refine (HK.out _ hw1).mono ?_; rintro e w2 ⟨rfl, rfl⟩))
  go_ret2
  exact ⟨rfl, hw1⟩
 ·obtain ⟨k, hk⟩ := nm (checkV b)
  have HB := hid (fun W (hb : Below w.heap.size w W) => qld b P T W hw (hl.below hb) (hT.kept hb) h0)
  have hX : nbrG b rn re = (0, k) := by unfold nbrG; rw [if_pos h0, hk]
  rw [hX]
  rw [<- hk] at h0 HB
  have h1 : (k != 0) = true := by simpa using h0
  clear hX hK hw hl hT hk h0
  go_enter Tryz.func25, Tryz.ntmps25
  go_upto_region 1 with fail
  refine qab (fun w0 hw0 => ?_)
  have hA : Blk w0 w.heap.size 39 (lawA pb pg pc) /\ Blk w0 (w.heap.size + 1) 57 (bloC b P T) /\ Below w.heap.size w w0 := by rw [hw0]; exact Z0.out
  clear hw0 Z0
  obtain ⟨k0, k1, hb0⟩ := hA
  go_wp2_with (first
   | (refine qaa rfl _ _ rfl (w.heap.size + 1) rfl _ _ _ _ k1 Tryz.underlying57 rfl bloInfo ?_)
   | (go_at_call 86; refine (HB.out _ hb0).mono ?_; unfold gives; rintro e w1 ⟨rfl, hb1⟩))
  go_ret2
  exact ⟨rfl, nxt hb0 hb1⟩
theorem qey {U : Nat -> Prop} {b g c : Nat} {R : Regs} {N : List Int} {B : Nat} (x : Blo) (P T : Value) (w : World) (h : Trio U b g c R N B w) (hw : x.wf) (hl : Lies w x P T) (hT : Tabs w) :
 Calls Tryz.prog 25 #[.agg (lawA (some ⟨b, 0, none⟩) (some ⟨g, 0, none⟩) (some ⟨c, 0, none⟩)), .agg (bloC x P T)] w (gives (.tuple #[.int .i64 (nbrV R.K x).1, .int .i64 (nbrV R.K x).2]) w) := by
 rw [<- nbrG_V]
 refine qkt _ _ _ x P T _ _ w hw hl hT (fun h0 W hb => qmV (h.below hb) _ ?_)
 rw [qa4]
 have := qdg h0
 omega
abbrev triA (pb pg pc : Option Addr) (f : Int) : Array Value := #[.pointer pb, .pointer pg, .pointer pc, .int .i64 f]
theorem qlc (pb pg pc : Option Addr) (f : Int) (w : World) : (Instr.build 106 #[(0, .agg (lawA pb pg pc)), (1, .int .i64 f)]).run Tryz.prog w = .ok (.agg (triA pb pg pc f)) w := run_build w _ _ _ (by kernel_rfl)
theorem lawInfo : (Tryz.prog.info? 39).map (fun i => i.size) = some 3 := by kernel_rfl
theorem triInfo : (Tryz.prog.info? 106).map (fun i => i.size) = some 4 := by kernel_rfl
theorem qef (pb pg pc : Option Addr) (f : Int) : (triA pb pg pc f).all (·.oneCell') = true := by kernel_rfl
structure TriAt (w : World) (pb pg pc : Option Addr) (t : Array Value) (W : World) : Prop where
 bl : Blk W w.heap.size 39 (lawA pb pg pc)
 bt : Blk W (w.heap.size + 1) 106 t
 bw : Below w.heap.size w W
theorem TriAt.drew {w W : World} {pb pg pc : Option Addr} {t : Array Value} (h : TriAt w pb pg pc t W) : TriAt w pb pg pc t W.drew := ⟨h.bl, h.bt, h.bw.drew⟩
theorem qf1 (pb pg pc : Option Addr) (f : Int) (w : World) (hF : ∀ W, Below w.heap.size w W -> Calls Tryz.prog 120 #[.pointer pg] W (fun e W' => e = .returned (.int .i64 f) /\ W = W')) :
 Calls Tryz.prog 49 #[.agg (lawA pb pg pc)] w (gives (.agg (triA pb pg pc f)) w) := by
 have Z0 := hid (qaO w 39 106 (lawA pb pg pc) (triA none none none 0))
 have HF := hid hF
 clear hF
 go_enter Tryz.func49, Tryz.ntmps49
 go_upto_region 1 with fail
 refine qab (fun w0 hw0 => ?_)
 have hS : TriAt w pb pg pc (triA none none none 0) w0 := by rw [hw0]; exact ⟨Z0.out.1, Z0.out.2.1, Z0.out.2.2⟩
 clear hw0 Z0
 have hS0 := hS.drew
 refine qak (TriAt w pb pg pc (triA none none none 0)) [0, 1, 2] (by kernel_rfl) ?_
 refine qar (f := 3) (by kernel_rfl) (fun _ x _ _ _ h => by cases x <;> exact h) hS0 [0, 1, 2] _ _ (by kernel_rfl) (by kernel_rfl) (by kernel_rfl) ?_
 have ne : Nonempty (qad (TriAt w pb pg pc (triA none none none 0))) := ⟨⟨_, hS0⟩⟩
 have g0 : ∀ y : qad (TriAt w pb pg pc (triA none none none 0)), y.w.cell? ⟨w.heap.size, 1, none⟩ = some (.pointer pg) := fun y => y.h.bl.cell 1
 have gL : ∀ y : qad (TriAt w pb pg pc (triA none none none 0)), Blk y.w w.heap.size 39 (lawA pb pg pc) := fun y => y.h.bl
 conv => arg 5; simp [pick]
 refine qam rfl _ _ rfl w.heap.size rfl _ _ _ _ gL Tryz.underlying39 rfl lawInfo ?_
 conv => arg 6; simp only [Act.put, sA, sB, sC]
 iterate 2 go_big_quiet_step (fail)
 refine wpQuiet_nil ?_
 obtain ⟨w2, hw2⟩ := nm (w0.drew)
 rw [<- hw2] at hS0 ⊢
 clear hw2 ne g0 gL hS
 have hbw := hS0.bw
 have hbt := hS0.bt
 refine qag 3 (by kernel_rfl) rfl ?_
 go_wp2_with (go_at_call 120; refine (HF.out _ hbw).mono ?_; rintro e w1 ⟨rfl, rfl⟩)
 refine stepQ.mk ⟨fun _ => hS0, ?_⟩
 refine qag 4 (by kernel_rfl) rfl ?_
 refine wpList_build rfl _ _ rfl #[(0, .agg (lawA pb pg pc)), (1, .int .i64 f)] rfl (qlc _ _ _ _ _) ?_
 go_wp2
 refine stepQ.mk ⟨fun _ => hS0, ?_⟩
 refine qaq [5] _ _ _ (by kernel_rfl) ?_
 conv => arg 4; simp [pick]
 go_wp2_with (first
  | (refine wpList_store_row rfl _ _ _ rfl (w.heap.size + 1) (triA pb pg pc f) rfl rfl _ _ hbt triInfo rfl (qef _ _ _ _) ?_))
 (try simp only [Exit.inBlock, Exit.then, Act.put])
 refine bodyPost_ret (v := .agg (triA pb pg pc f)) (qan rfl _ _ (w.heap.size + 1) rfl _ _ _ _ (qac hbt) Tryz.underlying106 rfl triInfo) rfl ?_
 exact ⟨rfl, below_setRow hbw (Nat.le_succ _)⟩
end Go.Proofs.YtomaaidhmccngaaGreatDoor
namespace Go.Proofs.YtomaaidhmccngaaGreatDoor
open Go.RowKit Go.Maps Go.Lib
open L3 (Blk Reads)
open L6 (Turn)
open L11 (Crt zeroC crtL crtC endV)
def fitG (z : Blo × Int) (c : Crt) : Int := if z.2 ≠ 0 then z.2 else if fitsV c z.1 = true then 0 else 110
theorem fitG_E (R : Regs) (c : Crt) : fitG (contV R.K c.block) c = fitE R c := rfl
theorem qdK {W : World} {g : Nat} {t : TypeId} {pb pg pc : Option Addr} {f : Int} (h : Blk W g t (triA pb pg pc f)) : ∀ j u, (lawA pb pg pc).toList[j]? = some u -> W.cell? ((⟨g, 0, none⟩ : Addr).add j) = some u := by
 intro j u hj
 have h2 := h.cell j
 have e : (⟨g, 0, none⟩ : Addr).add j = ⟨g, j, none⟩ := by unfold Addr.add; split <;> simp_all
 rw [e, h2]
 match j, hj with
 | 0, hj => exact hj
 | 1, hj => exact hj
 | 2, hj => exact hj
 | (j + 3), hj => simp at hj
theorem fits_gen (pb pg pc : Option Addr) (f : Int) (c : Crt) (z : Blo × Int) (w : World)
 (hC : ∀ W, Below w.heap.size w W -> Calls Tryz.prog 19 #[.agg (lawA pb pg pc), .int .i64 c.block] W (toldB z W)) :
 Calls Tryz.prog 53 #[.agg (triA pb pg pc f), .agg (crtC c)] w (gives (.int .i64 (fitG z c)) w) := by
 have Z0 := hid (qaO w 106 29 (triA pb pg pc f) (crtC c))
 have HC := hid hC
 obtain ⟨b, q⟩ := z
 obtain ⟨v, hv⟩ := nm (fitG (b, q) c)
 have hX : v = if q ≠ 0 then q else if fitsV c b = true then 0 else 110 := hv
 rw [<- hv]
 have HX := hid hX
 clear hC hv hX
 go_enter Tryz.func53, Tryz.ntmps53
 go_upto_region 1 with fail
 refine qab (fun w0 hw0 => ?_)
 have hA : Blk w0 w.heap.size 106 (triA pb pg pc f) /\ Blk w0 (w.heap.size + 1) 29 (crtC c) /\ Below w.heap.size w w0 := by rw [hw0]; exact Z0.out
 clear hw0 Z0
 obtain ⟨k0, k1, hb0⟩ := hA
 have hlc := qdK k0
 have c1 : w0.cell? ⟨w.heap.size + 1, 1, none⟩ = some (.int .i64 c.block) := k1.cell 1
 go_upto_region 2 with (first
  | (refine qai rfl _ _ rfl ⟨w.heap.size, 0, none⟩ rfl (lawA pb pg pc).toList _ hlc Tryz.underlying39 rfl lawInfo ?_)
  | (go_at_call 19; refine (HC.out _ hb0).mono ?_; rintro e w2 ⟨P, T, rfl, hL2, hb2⟩; obtain ⟨A2, n2, c2, D2, m2, d2, rfl, rfl⟩ := hL2.form)
  | (refine qaf rfl _ _ _ rfl _ (bloC b (.slice A2 n2 c2) (.slice D2 m2 d2)) rfl rfl _ _ bloInfo rfl (qaR _ _ _ _ _ _ _) ?_))
 have hb3 := qae w2 (.cells (bloC b (.slice A2 n2 c2) (.slice D2 m2 d2)) 57)
 have hx3 := qby w2 57 b (.slice A2 n2 c2) (.slice D2 m2 d2)
 have k12 := (k1.below hb2 k1.lt)
 have k13 := k12.below hb3 k12.lt
 have hw3 := nxt (nxt hb0 hb2) hb3
 obtain ⟨G, hG⟩ := nm (w2.heap.size)
 rw [<- hG] at hx3
 rw [<- hG]
 refine qab (fun w3 hw3' => ?_)
 rw [<- hw3'] at hx3 k13 hw3
 clear hw3' hG hb3 k12 hb2 hL2 k0 k1 hb0 hlc c1 HC
 have d0 : w3.cell? ⟨G, 0, none⟩ = some (.int .i64 b.view) := hx3.cell 0
 have d1 : w3.cell? ⟨G, 1, none⟩ = some (.int .i64 b.round) := hx3.cell 1
 have d2' : w3.cell? ⟨G, 2, none⟩ = some (.int .i64 b.height) := hx3.cell 2
 have d3 : w3.cell? ⟨G, 3, none⟩ = some (.int .i64 b.author) := hx3.cell 3
 have e0 : w3.cell? ⟨w.heap.size + 1, 0, none⟩ = some (.int .i64 c.kind) := k13.cell 0
 have e2 : w3.cell? ⟨w.heap.size + 1, 2, none⟩ = some (.int .i64 c.view) := k13.cell 2
 have e3 : w3.cell? ⟨w.heap.size + 1, 3, none⟩ = some (.int .i64 c.round) := k13.cell 3
 have e4 : w3.cell? ⟨w.heap.size + 1, 4, none⟩ = some (.int .i64 c.height) := k13.cell 4
 have e5 : w3.cell? ⟨w.heap.size + 1, 5, none⟩ = some (.int .i64 c.author) := k13.cell 5
 clear hx3 k13
 by_cases h0 : q = 0
 ·subst h0
  have hX := HX.out
  rw [if_neg (by simp)] at hX
  clear HX
  by_cases h1 : b.view = c.view
  ·by_cases h2 : b.round = c.round
   ·by_cases h3 : b.height = c.height
    ·by_cases h4 : c.kind = 2
     ·by_cases h5 : b.author = c.author
      ·have E := hid (show v = 0 by rw [hX]; simp [fitsV, h1, h2, h3, h5])
       rw [h1] at d0
       rw [h2] at d1
       rw [h3] at d2'
       rw [h4] at e0
       rw [h5] at d3
       clear hX h1 h2 h3 h4 h5
       go_wp2
       go_ret
       exact ⟨by rw [E.out]; rfl, hw3⟩
      ·have E := hid (show v = 110 by rw [hX]; simp [fitsV, h4, h5])
       rw [h1] at d0
       rw [h2] at d1
       rw [h3] at d2'
       rw [h4] at e0
       have f5 : (b.author != c.author) = true := by simpa using h5
       clear hX h1 h2 h3 h4 h5
       go_wp2
       go_ret
       exact ⟨by rw [E.out]; rfl, hw3⟩
     ·have E := hid (show v = 0 by rw [hX]; simp [fitsV, h1, h2, h3, h4])
      rw [h1] at d0
      rw [h2] at d1
      rw [h3] at d2'
      have f4 : (c.kind == 2) = false := by simpa using h4
      clear hX h1 h2 h3 h4
      go_wp2
      go_ret
      exact ⟨by rw [E.out]; rfl, hw3⟩
    ·have E := hid (show v = 110 by rw [hX]; simp [fitsV, h3])
     rw [h1] at d0
     rw [h2] at d1
     have f3 : (b.height != c.height) = true := by simpa using h3
     clear hX h1 h2 h3
     go_wp2
     go_ret
     exact ⟨by rw [E.out]; rfl, hw3⟩
   ·have E := hid (show v = 110 by rw [hX]; simp [fitsV, h2])
    rw [h1] at d0
    have f2 : (b.round != c.round) = true := by simpa using h2
    clear hX h1 h2
    go_wp2
    go_ret
    exact ⟨by rw [E.out]; rfl, hw3⟩
  ·have E := hid (show v = 110 by rw [hX]; simp [fitsV, h1])
   have f1 : (b.view != c.view) = true := by simpa using h1
   clear hX h1
   go_wp2
   go_ret
   exact ⟨by rw [E.out]; rfl, hw3⟩
 ·have hX := HX.out
  rw [if_pos h0] at hX
  have E := hid hX
  have h1 : (q != 0) = true := by simpa using h0
  clear hX HX h0
  go_wp2
  go_ret
  exact ⟨by rw [E.out]; rfl, hw3⟩
theorem qki {U : Nat -> Prop} {b g c : Nat} {R : Regs} {N : List Int} {B : Nat} (x : Crt) (w : World) (h : Trio U b g c R N B w) (hw : R.wf) (hB : B <= 1000000) (hx : x.wf) (hT : T13 w) :
 Calls Tryz.prog 58 #[.agg (triA (some ⟨b, 0, none⟩) (some ⟨g, 0, none⟩) (some ⟨c, 0, none⟩) R.f), .agg (crtC x)] w fun e W' =>
  e = .returned (.int .i64 (elcE R x)) /\ Rch w U b g c R (if endV x && decide (coE R x = 0) then L7.putN N x.view else N) (B + 1) W' := by
 have Z0 := hid (qaO w 106 29 (triA (some ⟨b, 0, none⟩) (some ⟨g, 0, none⟩) (some ⟨c, 0, none⟩) R.f) (crtC x))
 have HE := hid (fun W => c_end x _ W rfl)
 have HS := hid (fun W (hb : Below w.heap.size w W) => trio_see (h.below hb) hw hB x.view x.co hx.2.2.2.2.2.2.2 (hT.2.kept hb))
 have HR := hid (fun W (hb : Below w.heap.size w W) => ((Rch.start h).below hb).le (Nat.le_succ B))
 have HT := hid (fun W W' (hb : Below w.heap.size w W) (k : Rch W U b g c R (L7.seeN R.f R.f R.bad R.L N x.view x.co) (B + 1) W') => Rch.then (L6.Turn.of_keep hb) (fun _ => .inl) k)
 have hX : elcE R x = if endV x = false then 0 else if coE R x ≠ 0 then coE R x else if L7.whoV R.f R.G x.view = x.author then 0 else 70 := rfl
 have hN : L7.seeN R.f R.f R.bad R.L N x.view x.co = if coE R x = 0 then L7.putN N x.view else N := rfl
 have hW : L7.seeW R.f R.f R.bad R.L R.G x.view x.co = if coE R x = 0 then L7.whoV R.f R.G x.view else 0 := rfl
 have hQ : L7.seeE R.f R.f R.bad R.L x.view x.co = coE R x := rfl
 rw [hN, hW, hQ] at HS
 rw [hN] at HT
 obtain ⟨q, hq⟩ := nm (coE R x)
 rw [<- hq] at HS HT hX ⊢
 obtain ⟨who, hwho⟩ := nm (L7.whoV R.f R.G x.view)
 rw [<- hwho] at HS hX
 obtain ⟨v, hv⟩ := nm (elcE R x)
 rw [<- hv] at hX ⊢
 obtain ⟨u, hu⟩ := nm (endV x)
 rw [<- hu] at HE hX ⊢
 obtain ⟨M, hM⟩ := nm (L7.putN N x.view)
 rw [<- hM] at HS HT ⊢
 obtain ⟨N2, hN2⟩ := nm ((if u && decide (q = 0) then M else N))
 rw [<- hN2]
 have HN2 := hid hN2
 have HX := hid hX
 have HI := hid (fun k (hk : w.heap.size <= k) => (fun hU => by have := h.inU k hU; omega : ¬ U k))
 clear hX hN hW hQ hq hwho hv hu hM h hw hx hT hN2
 go_enter Tryz.func58, Tryz.ntmps58
 go_upto_region 1 with fail
 refine qab (fun w0 hw0 => ?_)
 have hA : Blk w0 w.heap.size 106 (triA (some ⟨b, 0, none⟩) (some ⟨g, 0, none⟩) (some ⟨c, 0, none⟩) R.f) /\ Blk w0 (w.heap.size + 1) 29 (crtC x) /\ Below w.heap.size w w0 := by rw [hw0]; exact Z0.out
 clear hw0 Z0
 obtain ⟨k0, k1, hb0⟩ := hA
 cases u with
 | false =>
   have E := hid (show v = 0 by rw [HX.out]; rfl)
   clear HX
   go_wp2_with (first
    | (refine qaa rfl _ _ rfl (w.heap.size + 1) rfl _ _ _ _ k1 Tryz.underlying29 rfl L11.crtInfo ?_)
    | (go_at_call 122; refine (HE.out _).mono ?_; unfold gives; rintro e w1 ⟨rfl, hb1⟩))
   go_ret
   exact ⟨by rw [E.out]; rfl, by rw [HN2.out]; exact HR.out _ (nxt hb0 hb1)⟩
 | true =>
   go_upto_region 3 with (first
    | (refine qaa rfl _ _ rfl (w.heap.size + 1) rfl _ _ _ _ k1 Tryz.underlying29 rfl L11.crtInfo ?_)
    | (go_at_call 122; refine (HE.out _).mono ?_; unfold gives; rintro e w1 ⟨rfl, hb1⟩))
   have hw1 := nxt hb0 hb1
   have k01 := k0.below hb1 k0.lt
   have k11 := k1.below hb1 k1.lt
   clear k0 k1 hb0 hb1
   have c1 : w1.cell? ⟨w.heap.size, 1, none⟩ = some (.pointer (some ⟨g, 0, none⟩)) := k01.cell 1
   have c2 : w1.cell? ⟨w.heap.size, 2, none⟩ = some (.pointer (some ⟨c, 0, none⟩)) := k01.cell 2
   have e2 : w1.cell? ⟨w.heap.size + 1, 2, none⟩ = some (.int .i64 x.view) := k11.cell 2
   have e7 : w1.cell? ⟨w.heap.size + 1, 7, none⟩ = some (.int .u32 x.co) := k11.cell 7
   have hcall := HS.out _ hw1
   have hend := HT.out w1
   have HK := hid (fun W' (ht : Turn U w1 W') => ht.blk k11 (HI.out _ (Nat.le_succ _)))
   by_cases h0 : q = 0
   ·have HM := hid (show N2 = M by rw [HN2.out]; simp [h0])
    rw [if_pos h0, if_pos h0] at hcall
    simp only [if_pos h0] at hend
    clear HN2
    subst h0
    have HC := hid hcall
    have HD := hid hend
    clear hcall hend HS HT k01 k11
    go_upto_region 4 with (first
     | (go_at_call 123; refine HC.out.mono ?_; rintro e w2 ⟨rfl, hR2⟩))
    have hfin := HD.out w2 hw1 hR2
    have k2 := HK.out w2 hR2.tn
    have e5 : w2.cell? ⟨w.heap.size + 1, 5, none⟩ = some (.int .i64 x.author) := k2.cell 5
    clear HK HD HC k2 hR2 c1 c2 e2 e7 hw1
    by_cases h1 : who = x.author
    ·have E := hid (show v = 0 by rw [HX.out]; simp [h1])
     rw [<- h1] at e5
     clear HX h1
     go_wp2
     go_ret
     exact ⟨by rw [E.out]; rfl, by rw [HM.out]; exact hfin⟩
    ·have E := hid (show v = 70 by rw [HX.out]; simp [h1])
     have f1 : (who != x.author) = true := by simpa using h1
     clear HX h1
     go_wp2
     go_ret
     exact ⟨by rw [E.out]; rfl, by rw [HM.out]; exact hfin⟩
   ·have HM := hid (show N2 = N by rw [HN2.out]; simp [h0])
    rw [if_neg h0, if_neg h0] at hcall
    simp only [if_neg h0] at hend
    have E := hid (show v = q by rw [HX.out]; simp [h0])
    have f1 : (q != 0) = true := by simpa using h0
    have HC := hid hcall
    have HD := hid hend
    clear hcall hend HS HT k01 k11 HN2 HK HX h0
    go_upto_region 4 with (first
     | (go_at_call 123; refine HC.out.mono ?_; rintro e w2 ⟨rfl, hR2⟩))
    have hfin := HD.out w2 hw1 hR2
    clear HD HC hR2 c1 c2 e2 e7 hw1
    go_wp2
    go_ret
    exact ⟨by rw [E.out]; rfl, by rw [HM.out]; exact hfin⟩
end Go.Proofs.YtomaaidhmccngaaGreatDoor
namespace Go.Proofs.YtomaaidhmccngaaGreatDoor
open Go.RowKit Go.Maps Go.Lib
open L3 (Blk Reads)
open L6 (Turn In)
open L11 (Crt zeroC crtL crtC endV mayV stmV stmC qaj)
open L4 (more)
theorem qhX (a b c d : Fnc) (w : World) : (Instr.buildSlice 163 4 #[(0, fncV a), (1, fncV b), (2, fncV c), (3, fncV d)]).run Tryz.prog w = .ok (.slice (some ⟨w.heap.size, 0, none⟩) 4 4) (w.alloc (.cells #[fncV a, fncV b, fncV c, fncV d] 109)) := by kernel_rfl
theorem qgz (fn : Fn) (x y : Array Value) (w : World) : (Instr.makeFunc fn x y).run Tryz.prog w = .ok (.func fn x y) w := rfl
theorem ent_c1 : Enters 51 := enters_of Tryz.func51 (by kernel_rfl) rfl
theorem ent_c2 : Enters 52 := enters_of Tryz.func52 (by kernel_rfl) rfl
theorem ent_c3 : Enters 54 := enters_of Tryz.func54 (by kernel_rfl) rfl
theorem ent_c4 : Enters 57 := enters_of Tryz.func57 (by kernel_rfl) rfl
structure BoxC (gt gc : Nat) (t : Array Value) (x : Crt) (W : World) : Prop where
 bt : Blk W gt 106 t
 bc : Blk W gc 29 (crtC x)
theorem BoxC.below {gt gc : Nat} {t : Array Value} {x : Crt} {W W' : World} (h : BoxC gt gc t x W) (hb : Below W.heap.size W W') : BoxC gt gc t x W' := ⟨h.bt.below hb h.bt.lt, h.bc.below hb h.bc.lt⟩
theorem BoxC.drew {gt gc : Nat} {t : Array Value} {x : Crt} {W : World} (h : BoxC gt gc t x W) : BoxC gt gc t x W.drew := ⟨h.bt, h.bc⟩
theorem c1_any (gc : Nat) (x : Crt) (e1 : Int) (W : World) (hb : Blk W gc 29 (crtC x)) (h1 : Calls Tryz.prog 37 #[.agg (crtC x)] W (gives (.int .i64 e1) W)) :
 Calls Tryz.prog 51 #[.pointer (some ⟨gc, 0, none⟩)] W (gives (.int .i64 e1) W) := by
 go_enter Tryz.func51, Tryz.ntmps51
 go_wp2_with (first
  | (refine qaa rfl _ _ rfl gc rfl _ _ _ _ hb Tryz.underlying29 rfl L11.crtInfo ?_)
  | (go_at_call 37; refine h1.mono ?_; unfold gives; rintro e w1 ⟨rfl, hb1⟩))
 go_ret
 exact ⟨rfl, hb1⟩
theorem c2_any (gt gc : Nat) (t : Array Value) (x : Crt) (e2 : Int) (W : World) (hts : (Tryz.prog.info? 106).map (·.size) = some t.size) (hb : BoxC gt gc t x W) (h2 : Calls Tryz.prog 53 #[.agg t, .agg (crtC x)] W (gives (.int .i64 e2) W)) :
 Calls Tryz.prog 52 #[.pointer (some ⟨gt, 0, none⟩), .pointer (some ⟨gc, 0, none⟩)] W (gives (.int .i64 e2) W) := by
 go_enter Tryz.func52, Tryz.ntmps52
 go_wp2_with (first
  | (refine qaa rfl _ _ rfl gt rfl _ _ _ _ hb.bt Tryz.underlying106 rfl hts ?_)
  | (refine qaa rfl _ _ rfl gc rfl _ _ _ _ hb.bc Tryz.underlying29 rfl L11.crtInfo ?_)
  | (go_at_call 53; refine h2.mono ?_; unfold gives; rintro e w1 ⟨rfl, hb1⟩))
 go_ret
 exact ⟨rfl, hb1⟩
theorem c4_any (gt gc : Nat) (t : Array Value) (x : Crt) (E : Int -> World -> Prop) (W : World) (hts : (Tryz.prog.info? 106).map (·.size) = some t.size) (hb : BoxC gt gc t x W)
 (h4 : Calls Tryz.prog 58 #[.agg t, .agg (crtC x)] W (fun e W' => ∃ v, e = .returned (.int .i64 v) /\ E v W')) :
 Calls Tryz.prog 57 #[.pointer (some ⟨gt, 0, none⟩), .pointer (some ⟨gc, 0, none⟩)] W (fun e W' => ∃ v, e = .returned (.int .i64 v) /\ E v W') := by
 go_enter Tryz.func57, Tryz.ntmps57
 go_wp2_with (first
  | (refine qaa rfl _ _ rfl gt rfl _ _ _ _ hb.bt Tryz.underlying106 rfl hts ?_)
  | (refine qaa rfl _ _ rfl gc rfl _ _ _ _ hb.bc Tryz.underlying29 rfl L11.crtInfo ?_)
  | (go_at_call 58; refine h4.mono ?_; rintro e w1 ⟨v, rfl, hE⟩))
 go_ret
 exact ⟨v, rfl, hE⟩
structure C3At (w W0 : World) (gt gc : Nat) (t : Array Value) (x : Crt) (W : World) : Prop where
 bx : BoxC gt gc t x W
 bw : Below w.heap.size w W
 b0 : Below W0.heap.size W0 W
theorem C3At.below {w W0 : World} {gt gc : Nat} {t : Array Value} {x : Crt} {W W' : World} (h : C3At w W0 gt gc t x W) (hb : Below W.heap.size W W') : C3At w W0 gt gc t x W' := ⟨h.bx.below hb, nxt h.bw hb, nxt h.b0 hb⟩
theorem c3_any (w : World) (gt gc : Nat) (pb pg pc : Option Addr) (f : Int) (x : Crt) (e3 : Int) (W : World) (hb : BoxC gt gc (triA pb pg pc f) x W) (hw : Below w.heap.size w W)
 (h3 : ∀ W, Below w.heap.size w W -> Calls Tryz.prog 55 #[.pointer pg, .agg (stmC (stmV x)), .int .u32 x.sg, .int .i64 (more 2 f)] W (gives (.int .i64 e3) W)) :
 Calls Tryz.prog 54 #[.pointer (some ⟨gt, 0, none⟩), .pointer (some ⟨gc, 0, none⟩)] W (gives (.int .i64 e3) W) := by
 have hS0 : C3At w W gt gc (triA pb pg pc f) x W.drew := ⟨hb.drew, hw.drew, (Below.refl _ _).drew⟩
 have HS := hid hS0
 have H3 := hid h3
 clear hb hw h3 hS0
 go_enter Tryz.func54, Tryz.ntmps54
 go_upto_region 1 with fail
 have hS := HS.out
 have ne : Nonempty (qad (C3At w W gt gc (triA pb pg pc f) x)) := ⟨⟨_, hS⟩⟩
 have d0 : ∀ y : qad (C3At w W gt gc (triA pb pg pc f) x), y.w.cell? ⟨gt, 1, none⟩ = some (.pointer pg) := fun y => y.h.bx.bt.cell 1
 have d1 : ∀ y : qad (C3At w W gt gc (triA pb pg pc f) x), y.w.cell? ⟨gt, 3, none⟩ = some (.int .i64 f) := fun y => y.h.bx.bt.cell 3
 have d2 : ∀ y : qad (C3At w W gt gc (triA pb pg pc f) x), y.w.cell? ⟨gc, 6, none⟩ = some (.int .u32 x.sg) := fun y => y.h.bx.bc.cell 6
 refine qat (C3At w W gt gc (triA pb pg pc f) x) (by kernel_rfl) (by kernel_rfl) hS ?_
 repeat (first
  | (refine qam rfl _ _ rfl gc rfl _ _ _ _ (fun y => y.h.bx.bc) Tryz.underlying29 rfl L11.crtInfo ?_
     conv => arg 6; simp only [Act.put, sA, sB, sC])
  | (refine qaj rfl 35 _ _ rfl Tryz.call35 [.agg (crtC x)] rfl (v := .agg (stmC (stmV x))) (fun y => (L11.qgL x y.w).mono fun e w' ⟨he, hb⟩ => ⟨he, y.h.below hb⟩) ?_
     conv => arg 6; simp only [Act.put, sA, sB, sC])
  | (refine qaj rfl 56 _ _ rfl Tryz.call56 [.int .i64 f] rfl (v := .int .i64 (more 2 f)) (fun y => (L4.qfW f y.w).mono fun e w' ⟨he, hb⟩ => ⟨he, hb ▸ y.h⟩) ?_
     conv => arg 6; simp only [Act.put, sA, sB, sC])
  | (refine qaj rfl 55 _ _ rfl Tryz.call55 [.pointer pg, .agg (stmC (stmV x)), .int .u32 x.sg, .int .i64 (more 2 f)] rfl (v := .int .i64 e3) (fun y => (H3.out y.w y.h.bw).mono fun e w' ⟨he, hb⟩ => ⟨he, y.h.below hb⟩) ?_
     conv => arg 6; simp only [Act.put, sA, sB, sC])
  | go_big_quiet_step (fail))
 refine wpQuiet_nil ?_
 intro y
 obtain ⟨w8, hA8⟩ := y
 dsimp only
 clear ne d0 d1 d2
 go_wp2
 go_ret
 exact ⟨rfl, hA8.b0⟩
end Go.Proofs.YtomaaidhmccngaaGreatDoor
namespace Go.Proofs.YtomaaidhmccngaaGreatDoor
open Go.RowKit Go.Maps Go.Lib
open L3 (Blk Reads)
open L6 (Turn In)
open L11 (Crt zeroC crtL crtC endV mayV stmV stmC qaj)
open L4 (more)
def fst3 (a b c : Int) : Int := if a ≠ 0 then a else if b ≠ 0 then b else c
def fourE (w : World) (e1 e2 e3 : Int) (E4 : Int -> World -> Prop) (v : Int) (W' : World) : Prop :=
 (v ≠ 0 /\ v = fst3 e1 e2 e3 /\ Below w.heap.size w W') ∨ (e1 = 0 /\ e2 = 0 /\ e3 = 0 /\ E4 v W')
abbrev certFs (gt gc : Nat) : List Fnc := [(51, #[], #[.pointer (some ⟨gc, 0, none⟩)]), (52, #[], #[.pointer (some ⟨gt, 0, none⟩), .pointer (some ⟨gc, 0, none⟩)]), (54, #[], #[.pointer (some ⟨gt, 0, none⟩), .pointer (some ⟨gc, 0, none⟩)]), (57, #[], #[.pointer (some ⟨gt, 0, none⟩), .pointer (some ⟨gc, 0, none⟩)])]
structure CertQ (w : World) (bs gt gc : Nat) (t : Array Value) (x : Crt) (e1 e2 e3 : Int) (E4 : Int -> World -> Prop) (k : Nat) (W : World) : Prop where
 bf : Blk W bs 109 ((certFs gt gc).map fncV).toArray
 bx : BoxC gt gc t x W
 bw : k <= 3 -> Below w.heap.size w W
 h1 : 1 <= k -> e1 = 0
 h2 : 2 <= k -> e2 = 0
 h3 : 3 <= k -> e3 = 0
 h4 : k = 4 -> E4 0 W
theorem qjW (w : World) (gt gc : Nat) (pb pg pc : Option Addr) (f : Int) (x : Crt) (e1 e2 e3 : Int) (U : Nat -> Prop) (E4 : Int -> World -> Prop) (hU : ∀ k, w.heap.size <= k -> ¬ U k) (hgt : w.heap.size <= gt) (hgc : w.heap.size <= gc)
 (h1 : ∀ W, Below w.heap.size w W -> Calls Tryz.prog 37 #[.agg (crtC x)] W (gives (.int .i64 e1) W))
 (h2 : e1 = 0 -> ∀ W, Below w.heap.size w W -> Calls Tryz.prog 53 #[.agg (triA pb pg pc f), .agg (crtC x)] W (gives (.int .i64 e2) W))
 (h3 : e1 = 0 -> e2 = 0 -> ∀ W, Below w.heap.size w W -> Calls Tryz.prog 55 #[.pointer pg, .agg (stmC (stmV x)), .int .u32 x.sg, .int .i64 (more 2 f)] W (gives (.int .i64 e3) W))
 (h4 : e1 = 0 -> e2 = 0 -> e3 = 0 -> ∀ W, Below w.heap.size w W -> Calls Tryz.prog 58 #[.agg (triA pb pg pc f), .agg (crtC x)] W (fun e W' => ∃ v, e = .returned (.int .i64 v) /\ Turn U W W' /\ E4 v W'))
 (W : World) (hW : Below w.heap.size w W) (hb : BoxC gt gc (triA pb pg pc f) x W) :
 Calls Tryz.prog 50 #[.slice (some ⟨W.heap.size, 0, none⟩) 4 4] (W.alloc (.cells ((certFs gt gc).map fncV).toArray 109)) (fun e W' => ∃ v, e = .returned (.int .i64 v) /\ fourE w e1 e2 e3 E4 v W') := by
 have hb0 := qae W (.cells ((certFs gt gc).map fncV).toArray 109)
 have hsz := hW.size
 refine Calls.mono (qdG (certFs gt gc) W.heap.size 4 (CertQ w W.heap.size gt gc (triA pb pg pc f) x e1 e2 e3 E4) (fourE w e1 e2 e3 E4) _ (by simp) (by simp) (fun k V _ h => h.bf) ?_ ?_ ?_) ?_
 ·intro p hp
  simp only [List.mem_cons, List.not_mem_nil, or_false] at hp
  rcases hp with rfl | rfl | rfl | rfl
  ·exact ent_c1
  ·exact ent_c2
  ·exact ent_c3
  ·exact ent_c4
 ·intro k hk V q
  have hk4 : k < 4 := hk
  obtain rfl | rfl | rfl | rfl : k = 0 ∨ k = 1 ∨ k = 2 ∨ k = 3 := by omega
  ·have hw := q.bw (by omega)
   refine (c1_any gc x e1 V q.bx.bc (h1 V hw)).mono ?_
   rintro e V' ⟨rfl, hb'⟩
   refine ⟨e1, rfl, fun h => ⟨q.bf.below hb' q.bf.lt, q.bx.below hb', fun _ => nxt hw hb', fun _ => h, fun h => by omega, fun h => by omega, fun h => by omega⟩, fun h => .inl ⟨h, by unfold fst3; rw [if_pos h], nxt hw hb'⟩⟩
  ·have hw := q.bw (by omega)
   have g1 := q.h1 (by omega)
   refine (c2_any gt gc (triA pb pg pc f) x e2 V triInfo q.bx (h2 g1 V hw)).mono ?_
   rintro e V' ⟨rfl, hb'⟩
   refine ⟨e2, rfl, fun h => ⟨q.bf.below hb' q.bf.lt, q.bx.below hb', fun _ => nxt hw hb', fun _ => g1, fun _ => h, fun h => by omega, fun h => by omega⟩, fun h => .inl ⟨h, by unfold fst3; rw [if_neg (by simpa using g1), if_pos h], nxt hw hb'⟩⟩
  ·have hw := q.bw (by omega)
   have g1 := q.h1 (by omega)
   have g2 := q.h2 (by omega)
   refine (c3_any w gt gc pb pg pc f x e3 V q.bx hw (h3 g1 g2)).mono ?_
   rintro e V' ⟨rfl, hb'⟩
   refine ⟨e3, rfl, fun h => ⟨q.bf.below hb' q.bf.lt, q.bx.below hb', fun _ => nxt hw hb', fun _ => g1, fun _ => g2, fun _ => h, fun h => by omega⟩, fun h => .inl ⟨h, by unfold fst3; rw [if_neg (by simpa using g1), if_neg (by simpa using g2)], nxt hw hb'⟩⟩
  ·have hw := q.bw (by omega)
   have g1 := q.h1 (by omega)
   have g2 := q.h2 (by omega)
   have g3 := q.h3 (by omega)
   refine (c4_any gt gc (triA pb pg pc f) x (fun v V' => Turn U V V' /\ E4 v V') V triInfo q.bx (h4 g1 g2 g3 V hw)).mono ?_
   rintro e V' ⟨v, rfl, ht, hE⟩
   refine ⟨v, rfl, fun h => ⟨ht.blk q.bf (hU _ hsz), ⟨ht.blk q.bx.bt (hU _ hgt), ht.blk q.bx.bc (hU _ hgc)⟩, fun h => by omega, fun _ => g1, fun _ => g2, fun _ => g3, fun _ => h ▸ hE⟩, fun h => .inr ⟨g1, g2, g3, hE⟩⟩
 ·exact ⟨Blk.new _ _ _, hb.below hb0, fun _ => nxt hW hb0, fun h => by omega, fun h => by omega, fun h => by omega, fun h => by omega⟩
 ·rintro e V ⟨v, rfl, hq, hp⟩
  refine ⟨v, rfl, ?_⟩
  by_cases hv : v = 0
  ·have q := hq hv
   subst hv
   exact .inr ⟨q.h1 (by simp), q.h2 (by simp), q.h3 (by simp), q.h4 (by simp)⟩
  ·exact hp hv
theorem cert_gen (pb pg pc : Option Addr) (f : Int) (x : Crt) (e1 e2 e3 : Int) (U : Nat -> Prop) (E4 : Int -> World -> Prop) (w : World) (hU : In w U) (hx : x.kind ≠ 0)
 (hF : ∀ W, Below w.heap.size w W -> Calls Tryz.prog 120 #[.pointer pg] W (fun e W' => e = .returned (.int .i64 f) /\ W = W'))
 (h1 : ∀ W, Below w.heap.size w W -> Calls Tryz.prog 37 #[.agg (crtC x)] W (gives (.int .i64 e1) W))
 (h2 : e1 = 0 -> ∀ W, Below w.heap.size w W -> Calls Tryz.prog 53 #[.agg (triA pb pg pc f), .agg (crtC x)] W (gives (.int .i64 e2) W))
 (h3 : e1 = 0 -> e2 = 0 -> ∀ W, Below w.heap.size w W -> Calls Tryz.prog 55 #[.pointer pg, .agg (stmC (stmV x)), .int .u32 x.sg, .int .i64 (more 2 f)] W (gives (.int .i64 e3) W))
 (h4 : e1 = 0 -> e2 = 0 -> e3 = 0 -> ∀ W, Below w.heap.size w W -> Calls Tryz.prog 58 #[.agg (triA pb pg pc f), .agg (crtC x)] W (fun e W' => ∃ v, e = .returned (.int .i64 v) /\ Turn U W W' /\ E4 v W')) :
 Calls Tryz.prog 11 #[.agg (lawA pb pg pc), .agg (crtC x)] w (fun e W' => ∃ v, e = .returned (.int .i64 v) /\ fourE w e1 e2 e3 E4 v W') := by
 have Z0 := hid (qaO w 39 29 (lawA pb pg pc) (crtC x))
 have HT := hid (fun W (hb : Below w.heap.size w W) => qf1 pb pg pc f W (fun W' hb' => hF W' (nxt hb hb')))
 have H1 := hid h1
 have H2 := hid h2
 have H3 := hid h3
 have H4 := hid h4
 have HI := hid (fun k (hk : w.heap.size <= k) => (fun hUk => by have := hU k hUk; omega : ¬ U k))
 have hk : (x.kind == 0) = false := by simpa using hx
 have hk' : (x.kind != 0) = true := by simpa using hx
 have hmf := qgz
 clear hF h1 h2 h3 h4 hU hx
 go_enter Tryz.func11, Tryz.ntmps11
 go_upto_region 1 with fail
 refine qab (fun w0 hw0 => ?_)
 have hA : Blk w0 w.heap.size 39 (lawA pb pg pc) /\ Blk w0 (w.heap.size + 1) 29 (crtC x) /\ Below w.heap.size w w0 := by rw [hw0]; exact Z0.out
 clear hw0 Z0
 obtain ⟨k0, k1, hb0⟩ := hA
 have c0 : w0.cell? ⟨w.heap.size + 1, 0, none⟩ = some (.int .i64 x.kind) := k1.cell 0
 go_upto_region 4 with (first
  | (refine qaa rfl _ _ rfl w.heap.size rfl _ _ _ _ k0 Tryz.underlying39 rfl lawInfo ?_)
  | (go_at_call 49; refine (HT.out _ hb0).mono ?_; unfold gives; rintro e w2 ⟨rfl, hb2⟩)
  | (refine qaf rfl _ _ _ rfl _ (triA pb pg pc f) rfl rfl _ _ triInfo rfl (qef _ _ _ _) ?_))
 have hb3 := qae w2 (.cells (triA pb pg pc f) 106)
 have hx3 : Blk (w2.alloc (.cells (triA pb pg pc f) 106)) w2.heap.size 106 (triA pb pg pc f) := Blk.new _ _ _
 have k12 := k1.below hb2 k1.lt
 have k13 := k12.below hb3 k12.lt
 have hw3 := nxt (nxt hb0 hb2) hb3
 have hgt : w.heap.size <= w2.heap.size := by have := k12.lt; omega
 obtain ⟨G, hG⟩ := nm (w2.heap.size)
 rw [<- hG] at hx3 hgt
 rw [<- hG]
 refine qab (fun w3 hw3' => ?_)
 rw [<- hw3'] at hx3 k13 hw3
 clear hw3' hG hb3 k12 hb2 k0 k1 hb0 c0 HT
 have HB : Hid (BoxC G (w.heap.size + 1) (triA pb pg pc f) x w3) := hid ⟨hx3, k13⟩
 clear hx3 k13
 have hC := qjW w G (w.heap.size + 1) pb pg pc f x e1 e2 e3 U E4 HI.out hgt (Nat.le_succ _) H1.out H2.out H3.out H4.out w3 hw3 HB.out
 have HC := hid hC
 clear hC HI H1 H2 H3 H4 HB hw3 hgt
 go_wp2_with (first
  | (refine wpList_buildSlice rfl _ _ _ rfl #[(0, fncV (51, #[], #[.pointer (some ⟨w.heap.size + 1, 0, none⟩)])), (1, fncV (52, #[], #[.pointer (some ⟨G, 0, none⟩), .pointer (some ⟨w.heap.size + 1, 0, none⟩)])), (2, fncV (54, #[], #[.pointer (some ⟨G, 0, none⟩), .pointer (some ⟨w.heap.size + 1, 0, none⟩)])), (3, fncV (57, #[], #[.pointer (some ⟨G, 0, none⟩), .pointer (some ⟨w.heap.size + 1, 0, none⟩)]))] rfl (qhX _ _ _ _ _) ?_)
  | (go_at_call 50; refine HC.out.mono ?_; rintro e w5 ⟨v, rfl, hv⟩))
 go_ret
 exact ⟨v, rfl, hv⟩
theorem qlk (pb pg pc : Option Addr) (x : Crt) (w : World) (hx : x.kind = 0) (hw : x.wf) :
 Calls Tryz.prog 11 #[.agg (lawA pb pg pc), .agg (crtC x)] w (gives (.int .i64 (errI (mayV x) 110)) w) := by
 have Z0 := hid (qaO w 39 29 (lawA pb pg pc) (crtC x))
 have H1 := hid (fun W => L11.qaD x W hw)
 obtain ⟨v, hv⟩ := nm (errI (mayV x) 110)
 have hvL : L11.errI (mayV x) 110 = v := by rw [hv]; rfl
 rw [hvL] at H1
 rw [<- hv]
 have hk := hx
 clear hw hv hvL hx
 go_enter Tryz.func11, Tryz.ntmps11
 go_upto_region 1 with fail
 refine qab (fun w0 hw0 => ?_)
 have hA : Blk w0 w.heap.size 39 (lawA pb pg pc) /\ Blk w0 (w.heap.size + 1) 29 (crtC x) /\ Below w.heap.size w w0 := by rw [hw0]; exact Z0.out
 clear hw0 Z0
 obtain ⟨k0, k1, hb0⟩ := hA
 have c0 : w0.cell? ⟨w.heap.size + 1, 0, none⟩ = some (.int .i64 0) := by have := k1.cell 0; rw [this]; show some (Value.int .i64 x.kind) = _; rw [hk]
 clear hk
 go_wp2_with (first
  | (refine qaa rfl _ _ rfl (w.heap.size + 1) rfl _ _ _ _ k1 Tryz.underlying29 rfl L11.crtInfo ?_)
  | (go_at_call 37; refine (H1.out _).mono ?_; rintro e w1 ⟨rfl, hb1⟩))
 go_ret
 exact ⟨rfl, nxt hb0 hb1⟩
theorem qgo {U : Nat -> Prop} {b g c : Nat} {R : Regs} {N : List Int} {B : Nat} (x : Crt) (w : World) (h : Trio U b g c R N B w) (hw : R.wf) (hB : B <= 1000000) (hx : x.wf) (hT : T13 w) :
 Calls Tryz.prog 11 #[.agg (lawA (some ⟨b, 0, none⟩) (some ⟨g, 0, none⟩) (some ⟨c, 0, none⟩)), .agg (crtC x)] w fun e W' =>
  e = .returned (.int .i64 (certE R x)) /\ Rch w U b g c R (certN R N x) (B + 1) W' := by
 by_cases hk : x.kind = 0
 ·refine (qlk _ _ _ x w hk hx).mono ?_
  rintro e W' ⟨rfl, hb⟩
  have e1 : certE R x = errI (mayV x) 110 := by unfold certE errI; rw [if_pos hk]; cases mayV x <;> rfl
  have e2 : certN R N x = N := by unfold certN certS; rw [decide_eq_true hk]; simp
  rw [e1, e2]
  exact ⟨rfl, ((Rch.start h).below hb).le (Nat.le_succ _)⟩
 ·refine Calls.mono (cert_gen (some ⟨b, 0, none⟩) (some ⟨g, 0, none⟩) (some ⟨c, 0, none⟩) R.f x (errI (mayV x) 110) (fitE R x) (sigE R x) U (fun v W' => v = elcE R x /\ Rch w U b g c R (if endV x && decide (coE R x = 0) then L7.putN N x.view else N) (B + 1) W') w h.inU hk ?_ ?_ ?_ ?_ ?_) ?_
  ·exact fun W hb => qmU (h.below hb)
  ·exact fun W hb => L11.qaD x W hx
  ·intro _ W hb
   rw [<- fitG_E]
   exact fits_gen _ _ _ _ x _ W (fun W' hb' => qcE x.block W' (h.below (nxt hb hb')) hw (hT.1.kept (nxt hb hb')))
  ·intro e1 _ W hb
   exact qiO (h.below hb) hw (stmV x) (L11.qmI hx) x.sg hx.2.2.2.2.2.2.1 _ (hT.2.kept hb)
  ·intro _ _ _ W hb
   refine (qki x W (h.below hb) hw hB hx (hT.kept hb)).mono ?_
   rintro e W' ⟨rfl, hR⟩
   exact ⟨_, rfl, hR.tn, rfl, Rch.then (L6.Turn.of_keep hb) (fun _ => .inl) hR⟩
  ·rintro e W' ⟨v, rfl, hv⟩
   rcases hv with ⟨hv0, hv, hb⟩ | ⟨g1, g2, g3, hv, hR⟩
   ·have e1 : certE R x = v := by
     rw [hv] at hv0 ⊢
     unfold certE fst3 errI
     unfold fst3 errI at hv0
     cases hm : mayV x
     ·simp [hm]
     ·simp only [hm, if_true, ne_eq, not_true_eq_false, if_false] at hv0 ⊢
      rw [if_neg (by simp), if_neg hk]
      by_cases h2 : fitE R x = 0
      ·simp [h2] at hv0
       simp [h2, hv0]
      ·simp [h2]
    have e2 : certN R N x = N := by
     unfold certN certS
     rw [if_neg]
     intro hs
     simp only [Bool.and_eq_true, decide_eq_true_eq] at hs
     apply hv0
     rw [hv]
     unfold fst3 errI
     simp [hs.1, hs.2.2.1, hs.2.2.2.1]
    rw [e1, e2]
    exact ⟨rfl, ((Rch.start h).below hb).le (Nat.le_succ _)⟩
   ·have hm : mayV x = true := by
     cases hm : mayV x
     ·rw [hm] at g1; exact absurd g1 (by decide)
     ·rfl
    have e1 : certE R x = elcE R x := by unfold certE; rw [hm, g2, g3, if_neg (by simp), if_neg hk]; simp
    have e2 : certN R N x = if endV x && decide (coE R x = 0) then L7.putN N x.view else N := by
     unfold certN certS
     rw [hm, g2, g3, decide_eq_false hk]
     simp
    rw [e1, e2, hv]
    exact ⟨rfl, hR⟩
end Go.Proofs.YtomaaidhmccngaaGreatDoor
namespace Go.Proofs.YtomaaidhmccngaaGreatDoor
open Go.RowKit Go.Maps Go.Lib
open L3 (Blk Reads)
open L6 (Turn In)
open L11 (Crt zeroC crtL crtC endV mayV stmV stmC Stm qaj)
open L7 (shrC Shr)
theorem ent_t1 : Enters 64 := enters_of Tryz.func64 (by kernel_rfl) rfl
theorem ent_t2 : Enters 66 := enters_of Tryz.func66 (by kernel_rfl) rfl
theorem ent_t3 : Enters 68 := enters_of Tryz.func68 (by kernel_rfl) rfl
theorem qmC (a b c : Fnc) (w : World) : (Instr.buildSlice 163 3 #[(0, fncV a), (1, fncV b), (2, fncV c)]).run Tryz.prog w = .ok (.slice (some ⟨w.heap.size, 0, none⟩) 3 3) (w.alloc (.cells #[fncV a, fncV b, fncV c] 109)) := by kernel_rfl
theorem qel (k : Int) (s : Stm) (w : World) : (Instr.build 75 #[(0, .int .i64 k), (1, .agg (stmC s))]).run Tryz.prog w = .ok (.agg (shrC (shrOf k s))) w := L7.qbN k (toS s) w
structure BoxT (gl gt : Nat) (pb pg pc : Option Addr) (t : Tmo) (W : World) : Prop where
 bl : Blk W gl 39 (lawA pb pg pc)
 bt : Blk W gt 31 (tmC t)
theorem BoxT.below {gl gt : Nat} {pb pg pc : Option Addr} {t : Tmo} {W W' : World} (h : BoxT gl gt pb pg pc t W) (hb : Below W.heap.size W W') : BoxT gl gt pb pg pc t W' := ⟨h.bl.below hb h.bl.lt, h.bt.below hb h.bt.lt⟩
theorem t1_any (gt : Nat) (t : Tmo) (e1 : Int) (W : World) (hb : Blk W gt 31 (tmC t)) (h1 : Calls Tryz.prog 65 #[.agg (tmC t)] W (gives (.int .i64 e1) W)) :
 Calls Tryz.prog 64 #[.pointer (some ⟨gt, 0, none⟩)] W (gives (.int .i64 e1) W) := by
 go_enter Tryz.func64, Tryz.ntmps64
 go_wp2_with (first
  | (refine qaa rfl _ _ rfl gt rfl _ _ _ _ hb Tryz.underlying31 rfl tmInfo ?_)
  | (go_at_call 65; refine h1.mono ?_; unfold gives; rintro e w1 ⟨rfl, hb1⟩))
 go_ret
 exact ⟨rfl, hb1⟩
theorem t3_any (gl gt : Nat) (pb pg pc : Option Addr) (t : Tmo) (E : Int -> World -> Prop) (W : World) (hb : BoxT gl gt pb pg pc t W)
 (h3 : Calls Tryz.prog 11 #[.agg (lawA pb pg pc), .agg (crtC t.high)] W (fun e W' => ∃ v, e = .returned (.int .i64 v) /\ E v W')) :
 Calls Tryz.prog 68 #[.pointer (some ⟨gl, 0, none⟩), .pointer (some ⟨gt, 0, none⟩)] W (fun e W' => ∃ v, e = .returned (.int .i64 v) /\ E v W') := by
 have c2 := qbj hb.bt (qfc t)
 go_enter Tryz.func68, Tryz.ntmps68
 go_wp2_with (first
  | (refine qaa rfl _ _ rfl gl rfl _ _ _ _ hb.bl Tryz.underlying39 rfl lawInfo ?_)
  | (refine qai rfl _ _ rfl ⟨gt, 2, none⟩ rfl (crtL t.high) _ c2 Tryz.underlying29 rfl L11.crtInfo ?_)
  | (go_at_call 11; refine h3.mono ?_; rintro e w1 ⟨v, rfl, hE⟩))
 go_ret
 exact ⟨v, rfl, hE⟩
structure T2At (w W0 : World) (gl gt : Nat) (pb pg pc : Option Addr) (t : Tmo) (W : World) : Prop where
 bx : BoxT gl gt pb pg pc t W
 bw : Below w.heap.size w W
 b0 : Below W0.heap.size W0 W
theorem T2At.below {w W0 : World} {gl gt : Nat} {pb pg pc : Option Addr} {t : Tmo} {W W' : World} (h : T2At w W0 gl gt pb pg pc t W) (hb : Below W.heap.size W W') : T2At w W0 gl gt pb pg pc t W' := ⟨h.bx.below hb, nxt h.bw hb, nxt h.b0 hb⟩
theorem t2_any (w : World) (gl gt : Nat) (pb pg pc : Option Addr) (t : Tmo) (e2 : Int) (W : World) (hb : BoxT gl gt pb pg pc t W) (hw : Below w.heap.size w W)
 (h2 : ∀ W, Below w.heap.size w W -> Calls Tryz.prog 34 #[.pointer pg, .agg (shrC (shrOf t.signer (stmT t)))] W (gives (.int .i64 e2) W)) :
 Calls Tryz.prog 66 #[.pointer (some ⟨gl, 0, none⟩), .pointer (some ⟨gt, 0, none⟩)] W (gives (.int .i64 e2) W) := by
 have hS0 : T2At w W gl gt pb pg pc t W.drew := ⟨⟨hb.bl, hb.bt⟩, hw.drew, (Below.refl _ _).drew⟩
 have HS := hid hS0
 have H2 := hid h2
 clear hb hw h2 hS0
 go_enter Tryz.func66, Tryz.ntmps66
 go_upto_region 1 with fail
 have hS := HS.out
 have ne : Nonempty (qad (T2At w W gl gt pb pg pc t)) := ⟨⟨_, hS⟩⟩
 have d0 : ∀ y : qad (T2At w W gl gt pb pg pc t), y.w.cell? ⟨gl, 1, none⟩ = some (.pointer pg) := fun y => y.h.bx.bl.cell 1
 have d1 : ∀ y : qad (T2At w W gl gt pb pg pc t), y.w.cell? ⟨gt, 0, none⟩ = some (.int .i64 t.signer) := fun y => y.h.bx.bt.cell 0
 refine qat (T2At w W gl gt pb pg pc t) (by kernel_rfl) (by kernel_rfl) hS ?_
 repeat (first
  | (refine qam rfl _ _ rfl gt rfl _ _ _ _ (fun y => y.h.bx.bt) Tryz.underlying31 rfl tmInfo ?_
     conv => arg 6; simp only [Act.put, sA, sB, sC])
  | (refine qaj rfl 67 _ _ rfl Tryz.call67 [.agg (tmC t)] rfl (v := .agg (stmC (stmT t))) (fun y => (qe1 t y.w).mono fun e w' ⟨he, hb⟩ => ⟨he, y.h.below hb⟩) ?_
     conv => arg 6; simp only [Act.put, sA, sB, sC])
  | (refine qa5 rfl _ _ rfl #[(0, .int .i64 t.signer), (1, .agg (stmC (stmT t)))] rfl (v := .agg (shrC (shrOf t.signer (stmT t)))) (fun W => qel _ _ W) ?_
     conv => arg 6; simp only [Act.put, sA, sB, sC])
  | (refine qaj rfl 34 _ _ rfl Tryz.call34 [.pointer pg, .agg (shrC (shrOf t.signer (stmT t)))] rfl (v := .int .i64 e2) (fun y => (H2.out y.w y.h.bw).mono fun e w' ⟨he, hb⟩ => ⟨he, y.h.below hb⟩) ?_
     conv => arg 6; simp only [Act.put, sA, sB, sC])
  | go_big_quiet_step (fail))
 refine wpQuiet_nil ?_
 intro y
 obtain ⟨w8, hA8⟩ := y
 dsimp only
 clear ne d0 d1
 go_wp2
 go_ret
 exact ⟨rfl, hA8.b0⟩
def threeE (w : World) (e1 e2 : Int) (E3 : Int -> World -> Prop) (v : Int) (W' : World) : Prop :=
 (v ≠ 0 /\ v = (if e1 ≠ 0 then e1 else e2) /\ Below w.heap.size w W') ∨ (e1 = 0 /\ e2 = 0 /\ E3 v W')
abbrev timFs (gl gt : Nat) : List Fnc := [(64, #[], #[.pointer (some ⟨gt, 0, none⟩)]), (66, #[], #[.pointer (some ⟨gl, 0, none⟩), .pointer (some ⟨gt, 0, none⟩)]), (68, #[], #[.pointer (some ⟨gl, 0, none⟩), .pointer (some ⟨gt, 0, none⟩)])]
structure TimQ (w : World) (bs gl gt : Nat) (pb pg pc : Option Addr) (t : Tmo) (e1 e2 : Int) (E3 : Int -> World -> Prop) (k : Nat) (W : World) : Prop where
 bf : Blk W bs 109 ((timFs gl gt).map fncV).toArray
 bx : BoxT gl gt pb pg pc t W
 bw : k <= 2 -> Below w.heap.size w W
 h1 : 1 <= k -> e1 = 0
 h2 : 2 <= k -> e2 = 0
 h3 : k = 3 -> E3 0 W
theorem qmQ (w : World) (gl gt : Nat) (pb pg pc : Option Addr) (t : Tmo) (e1 e2 : Int) (U : Nat -> Prop) (E3 : Int -> World -> Prop) (hU : ∀ k, w.heap.size <= k -> ¬ U k) (hgl : w.heap.size <= gl) (hgt : w.heap.size <= gt)
 (h1 : ∀ W, Below w.heap.size w W -> Calls Tryz.prog 65 #[.agg (tmC t)] W (gives (.int .i64 e1) W))
 (h2 : e1 = 0 -> ∀ W, Below w.heap.size w W -> Calls Tryz.prog 34 #[.pointer pg, .agg (shrC (shrOf t.signer (stmT t)))] W (gives (.int .i64 e2) W))
 (h3 : e1 = 0 -> e2 = 0 -> ∀ W, Below w.heap.size w W -> Calls Tryz.prog 11 #[.agg (lawA pb pg pc), .agg (crtC t.high)] W (fun e W' => ∃ v, e = .returned (.int .i64 v) /\ Turn U W W' /\ E3 v W'))
 (W : World) (hW : Below w.heap.size w W) (hb : BoxT gl gt pb pg pc t W) :
 Calls Tryz.prog 50 #[.slice (some ⟨W.heap.size, 0, none⟩) 3 3] (W.alloc (.cells ((timFs gl gt).map fncV).toArray 109)) (fun e W' => ∃ v, e = .returned (.int .i64 v) /\ threeE w e1 e2 E3 v W') := by
 have hb0 := qae W (.cells ((timFs gl gt).map fncV).toArray 109)
 have hsz := hW.size
 refine Calls.mono (qdG (timFs gl gt) W.heap.size 3 (TimQ w W.heap.size gl gt pb pg pc t e1 e2 E3) (threeE w e1 e2 E3) _ (by simp) (by simp) (fun k V _ h => h.bf) ?_ ?_ ?_) ?_
 ·intro p hp
  simp only [List.mem_cons, List.not_mem_nil, or_false] at hp
  rcases hp with rfl | rfl | rfl
  ·exact ent_t1
  ·exact ent_t2
  ·exact ent_t3
 ·intro k hk V q
  have hk4 : k < 3 := hk
  obtain rfl | rfl | rfl : k = 0 ∨ k = 1 ∨ k = 2 := by omega
  ·have hw := q.bw (by omega)
   refine (t1_any gt t e1 V q.bx.bt (h1 V hw)).mono ?_
   rintro e V' ⟨rfl, hb'⟩
   refine ⟨e1, rfl, fun h => ⟨q.bf.below hb' q.bf.lt, q.bx.below hb', fun _ => nxt hw hb', fun _ => h, fun h => by omega, fun h => by omega⟩, fun h => .inl ⟨h, by rw [if_pos h], nxt hw hb'⟩⟩
  ·have hw := q.bw (by omega)
   have g1 := q.h1 (by omega)
   refine (t2_any w gl gt pb pg pc t e2 V q.bx hw (h2 g1)).mono ?_
   rintro e V' ⟨rfl, hb'⟩
   refine ⟨e2, rfl, fun h => ⟨q.bf.below hb' q.bf.lt, q.bx.below hb', fun _ => nxt hw hb', fun _ => g1, fun _ => h, fun h => by omega⟩, fun h => .inl ⟨h, by rw [if_neg (by simpa using g1)], nxt hw hb'⟩⟩
  ·have hw := q.bw (by omega)
   have g1 := q.h1 (by omega)
   have g2 := q.h2 (by omega)
   refine (t3_any gl gt pb pg pc t (fun v V' => Turn U V V' /\ E3 v V') V q.bx (h3 g1 g2 V hw)).mono ?_
   rintro e V' ⟨v, rfl, ht, hE⟩
   refine ⟨v, rfl, fun h => ⟨ht.blk q.bf (hU _ hsz), ⟨ht.blk q.bx.bl (hU _ hgl), ht.blk q.bx.bt (hU _ hgt)⟩, fun h => by omega, fun _ => g1, fun _ => g2, fun _ => h ▸ hE⟩, fun h => .inr ⟨g1, g2, hE⟩⟩
 ·exact ⟨Blk.new _ _ _, hb.below hb0, fun _ => nxt hW hb0, fun h => by omega, fun h => by omega, fun h => by omega⟩
 ·rintro e V ⟨v, rfl, hq, hp⟩
  refine ⟨v, rfl, ?_⟩
  by_cases hv : v = 0
  ·have q := hq hv
   subst hv
   exact .inr ⟨q.h1 (by simp), q.h2 (by simp), q.h3 (by simp)⟩
  ·exact hp hv
theorem tim_gen (pb pg pc : Option Addr) (t : Tmo) (e1 e2 : Int) (U : Nat -> Prop) (E3 : Int -> World -> Prop) (w : World) (hU : In w U)
 (h1 : ∀ W, Below w.heap.size w W -> Calls Tryz.prog 65 #[.agg (tmC t)] W (gives (.int .i64 e1) W))
 (h2 : e1 = 0 -> ∀ W, Below w.heap.size w W -> Calls Tryz.prog 34 #[.pointer pg, .agg (shrC (shrOf t.signer (stmT t)))] W (gives (.int .i64 e2) W))
 (h3 : e1 = 0 -> e2 = 0 -> ∀ W, Below w.heap.size w W -> Calls Tryz.prog 11 #[.agg (lawA pb pg pc), .agg (crtC t.high)] W (fun e W' => ∃ v, e = .returned (.int .i64 v) /\ Turn U W W' /\ E3 v W')) :
 Calls Tryz.prog 13 #[.agg (lawA pb pg pc), .agg (tmC t)] w (fun e W' => ∃ v, e = .returned (.int .i64 v) /\ threeE w e1 e2 E3 v W') := by
 have Z0 := hid (qaO w 39 31 (lawA pb pg pc) (tmC t))
 have HI := hid (fun k (hk : w.heap.size <= k) => (fun hUk => by have := hU k hUk; omega : ¬ U k))
 have HF := hid (fun W hW hb => qmQ w w.heap.size (w.heap.size + 1) pb pg pc t e1 e2 U E3 HI.out (Nat.le_refl _) (Nat.le_succ _) h1 h2 h3 W hW hb)
 have hmf := qgz
 clear h1 h2 h3 hU HI
 go_enter Tryz.func13, Tryz.ntmps13
 go_upto_region 1 with fail
 refine qab (fun w0 hw0 => ?_)
 have hA : BoxT w.heap.size (w.heap.size + 1) pb pg pc t w0 /\ Below w.heap.size w w0 := by rw [hw0]; exact ⟨⟨Z0.out.1, Z0.out.2.1⟩, Z0.out.2.2⟩
 clear hw0 Z0
 have hC := HF.out w0 hA.2 hA.1
 have HC := hid hC
 clear hC HF hA
 go_wp2_with (first
  | (refine wpList_buildSlice rfl _ _ _ rfl #[(0, fncV (64, #[], #[.pointer (some ⟨w.heap.size + 1, 0, none⟩)])), (1, fncV (66, #[], #[.pointer (some ⟨w.heap.size, 0, none⟩), .pointer (some ⟨w.heap.size + 1, 0, none⟩)])), (2, fncV (68, #[], #[.pointer (some ⟨w.heap.size, 0, none⟩), .pointer (some ⟨w.heap.size + 1, 0, none⟩)]))] rfl (qmC _ _ _ _) ?_)
  | (go_at_call 50; refine HC.out.mono ?_; rintro e w5 ⟨v, rfl, hv⟩))
 go_ret
 exact ⟨v, rfl, hv⟩
theorem qmP {U : Nat -> Prop} {b g c : Nat} {R : Regs} {N : List Int} {B : Nat} (t : Tmo) (w : World) (h : Trio U b g c R N B w) (hw : R.wf) (hB : B <= 1000000) (ht : t.wf) (hT : T13 w) :
 Calls Tryz.prog 13 #[.agg (lawA (some ⟨b, 0, none⟩) (some ⟨g, 0, none⟩) (some ⟨c, 0, none⟩)), .agg (tmC t)] w fun e W' =>
  e = .returned (.int .i64 (timE R t)) /\ Rch w U b g c R (timN R N t) (B + 1) W' := by
 refine Calls.mono (tim_gen (some ⟨b, 0, none⟩) (some ⟨g, 0, none⟩) (some ⟨c, 0, none⟩) t (errI (tmoV t) 121) (sgnE R t) U (fun v W' => v = certE R t.high /\ Rch w U b g c R (certN R N t.high) (B + 1) W') w h.inU ?_ ?_ ?_) ?_
 ·exact fun W hb => qf0 t W ht
 ·exact fun _ W hb => qf2 (h.below hb) hw _ ⟨ht.1, qmH ht⟩
 ·intro _ _ W hb
  refine (qgo t.high W (h.below hb) hw hB ht.2.2 (hT.kept hb)).mono ?_
  rintro e W' ⟨rfl, hR⟩
  exact ⟨_, rfl, hR.tn, rfl, Rch.then (L6.Turn.of_keep hb) (fun _ => .inl) hR⟩
 ·rintro e W' ⟨v, rfl, hv⟩
  rcases hv with ⟨hv0, hv, hb⟩ | ⟨g1, g2, hv, hR⟩
  ·cases hm : tmoV t
   ·have e1 : timE R t = v := by rw [hv]; unfold timE errI; rw [hm]; rfl
    have e2 : timN R N t = N := by unfold timN; rw [hm]; rfl
    rw [e1, e2]
    exact ⟨rfl, ((Rch.start h).below hb).le (Nat.le_succ _)⟩
   ·have e0 : v = sgnE R t := by rw [hv, hm]; rfl
    rw [e0] at hv0
    have e1 : timE R t = v := by rw [e0]; unfold timE; rw [hm, if_neg (by simp), if_pos hv0]
    have e2 : timN R N t = N := by unfold timN; rw [hm, if_neg (by simp), if_pos hv0]
    rw [e1, e2]
    exact ⟨rfl, ((Rch.start h).below hb).le (Nat.le_succ _)⟩
  ·have hm : tmoV t = true := by
    cases hm : tmoV t
    ·rw [hm] at g1; exact absurd g1 (by decide)
    ·rfl
   have e1 : timE R t = certE R t.high := by unfold timE; rw [hm, g2, if_neg (by simp), if_neg (by simp)]
   have e2 : timN R N t = certN R N t.high := by unfold timN; rw [hm, g2, if_neg (by simp), if_neg (by simp)]
   rw [e1, e2, hv]
   exact ⟨rfl, hR⟩
