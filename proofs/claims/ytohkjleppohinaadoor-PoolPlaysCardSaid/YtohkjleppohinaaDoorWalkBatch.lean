/-
  A batch is some that wait, each once: the walk.
-/
import Derived.Test.YtohkjleppohinaaDoorBatch
import Derived.Test.YtohkjleppohinaaDoorRefBatch
import Derived.Test.YtohkjleppohinaaDoorAlive
import Derived.Test.YtohkjleppohinaaDoorGreats
set_option linter.unusedSimpArgs false
set_option linter.unusedVariables false
set_option maxRecDepth 10000
namespace Go.Proofs.YtohkjleppohinaaDoor
open Go.RowKit Go.Lib
open L3 (Blk Reads block_of_add add_of_add)
open L6 (Turn moreB fresh From In)

/-- What waits when these were added. -/
def addsL (most : Int) (L : List Txx) : List Txx := L.foldl (addL most) []
theorem adds_snoc {most : Int} {L : List Txx} {k : Nat} (h : k < L.length) : addsL most (L.take (k + 1)) = addL most (addsL most (L.take k)) L[k] := by
  unfold addsL
  rw [List.take_succ_eq_append_getElem h, List.foldl_append]
  rfl
/-- A pool of the call's own. -/
structure BaAt (w : World) (g : Nat) (most : Int) (L : List Txx) (S : Nat → Prop) (wr : World) : Prop where
  pl : Pl wr S g most L
  inn : In wr S
  frm : From w.heap.size S
  bw : Below w.heap.size w wr
theorem BaAt.below {w wr wr' : World} {g : Nat} {most : Int} {L : List Txx} {S : Nat → Prop} (h : BaAt w g most L S wr) (hb : Below wr.heap.size wr wr') : BaAt w g most L S wr' := ⟨h.pl.below hb, h.inn.le hb.size, h.frm, nxt h.bw hb⟩
theorem BaAt.turn {w wr wr' : World} {g : Nat} {most : Int} {L L' : List Txx} {S : Nat → Prop} (h : BaAt w g most L S wr) (hp : Pl wr' (moreB S wr wr') g most L') (ht : Turn S wr wr') : BaAt w g most L' (moreB S wr wr') wr' :=
  ⟨hp, h.inn.more ht.size, h.frm.more h.bw.size, L6.nxtT h.bw ht h.frm⟩
theorem BaAt.new {w w0 w1 : World} {g : Nat} {most : Int} (hb0 : Below w.heap.size w w0) (hp : Pl w1 (fresh w0 w1) g most []) (hb : Below w0.heap.size w0 w1) : BaAt w g most [] (fresh w0 w1) w1 :=
  ⟨hp, In.fresh _ _, fun k hk => Nat.le_trans hb0.size hk.1, nxt hb0 hb⟩
set_option maxHeartbeats 4000000 in
set_option maxRecDepth 100000 in
theorem batchlaw_any (most : Int) (A1 : Option Addr) (n1 c1 : Nat) (D1 : Nat → Txx) (A2 : Option Addr) (n2 c2 : Nat) (D2 : Nat → Txx) (n : Int) (w : World) (h1 : Txs w A1 n1 D1) (hn1 : n1 ≤ maxLen) (h2 : Txs w A2 n2 D2) (hn2 : n2 ≤ maxLen)
    (hbn : -9223372036854775808 ≤ n ∧ n ≤ 9223372036854775807) (hT : Tabs w) : Calls Tryd.prog 4 #[.int .i64 most, .slice A1 n1 c1, .slice A2 n2 c2, .int .i64 n] w (gives (.bool true) w) := by
  have HA := Lib.hid (alive_any w hT)
  have HT := Lib.hid (fun w' (hb : Below w.heap.size w w') => hT.kept hb)
  clear hT
  by_cases hmo : most < 1 ∨ 64 < most
  case pos =>
    have HN := Lib.hid (fun W => new_not most W hmo)
    clear hmo
    go_enter Tryd.func4, Tryd.ntmps4
    go_wp2_with (first
      | (go_at_call 6; refine HA.out.mono ?_; unfold gives; rintro e w1 ⟨rfl, hb1⟩)
      | (go_at_call 7; refine (HN.out _).mono ?_; unfold gives; rintro e w2 ⟨rfl, hb2⟩)
      | go_in)
    go_ret
    exact ⟨rfl, nxt hb1 hb2⟩
  case neg =>
    have HN := Lib.hid (fun W => new_ok most W (by omega) (by omega))
    have HG1 := Lib.hid (fun W (hb : Below w.heap.size w W) => greatX_any A1 n1 c1 D1 W (h1.below hb) hn1)
    have HG2 := Lib.hid (fun W (hb : Below w.heap.size w W) => greatX_any A2 n2 c2 D2 W (h2.below hb) hn2)
    rcases Bool.eq_false_or_eq_true (greatX n1 D1) with hg1 | hg1
    · rw [hg1] at HG1
      clear hmo hg1 HG2
      go_enter Tryd.func4, Tryd.ntmps4
      go_wp2_with (first
        | (go_at_call 6; refine HA.out.mono ?_; unfold gives; rintro e w1 ⟨rfl, hb1⟩)
        | (go_at_call 7; refine (HN.out _).mono ?_; rintro e w2 ⟨rfl, _, hb2⟩)
        | (go_at_call 8; refine (HG1.out _ (nxt hb1 hb2)).mono ?_; unfold gives; rintro e w3 ⟨rfl, hb3⟩)
        | go_in)
      go_ret
      exact ⟨rfl, nxt (nxt hb1 hb2) hb3⟩
    rw [hg1] at HG1
    rcases Bool.eq_false_or_eq_true (greatX n2 D2) with hg2 | hg2
    · rw [hg2] at HG2
      clear hmo hg1 hg2
      go_enter Tryd.func4, Tryd.ntmps4
      go_wp2_with (first
        | (go_at_call 6; refine HA.out.mono ?_; unfold gives; rintro e w1 ⟨rfl, hb1⟩)
        | (go_at_call 7; refine (HN.out _).mono ?_; rintro e w2 ⟨rfl, _, hb2⟩)
        | (go_at_call 8; first
            | ((with_reducible refine (HG1.out _ (nxt hb1 hb2)).mono ?_); unfold gives; rintro e w3 ⟨rfl, hb3⟩)
            | ((with_reducible refine (HG2.out _ (nxt (nxt hb1 hb2) hb3)).mono ?_); unfold gives; rintro e w4 ⟨rfl, hb4⟩))
        | go_in)
      go_ret
      exact ⟨rfl, nxt (nxt (nxt hb1 hb2) hb3) hb4⟩
    rw [hg2] at HG2
    obtain ⟨hl1, hk1⟩ := small_txs h1 hg1
    obtain ⟨hl2, hk2⟩ := small_txs h2 hg2
    have hr1 := h1.rd
    have hr2 := h2.rd
    have he1 := txsL_len n1 D1
    have he2 := txsL_len n2 D2
    obtain ⟨L1, hL1⟩ : ∃ L1, L1 = txsL n1 D1 := ⟨_, rfl⟩
    obtain ⟨L2', hL2⟩ : ∃ L2', L2' = txsL n2 D2 := ⟨_, rfl⟩
    rw [← hL1] at hl1 hk1 hr1 he1
    rw [← hL2] at hl2 hk2 hr2 he2
    rw [he1] at hk1
    rw [he2] at hk2
    have HL1 := Lib.hid (And.intro hl1 (And.intro hr1 he1))
    have HL2 := Lib.hid (And.intro hl2 (And.intro hr2 he2))
    clear hmo hg1 hg2 hl1 hl2 hr1 hr2 he1 he2 hL1 hL2 h1 h2
    go_enter Tryd.func4, Tryd.ntmps4
    go_wp2_with (first
      | (go_at_call 6; refine HA.out.mono ?_; unfold gives; rintro e w1 ⟨rfl, hb1⟩)
      | (go_at_call 7; refine (HN.out _).mono ?_; rintro e w2 ⟨rfl, hp2, hb2⟩)
      | (go_at_call 8; first
          | ((with_reducible refine (HG1.out _ (nxt hb1 hb2)).mono ?_); unfold gives; rintro e w3 ⟨rfl, hb3⟩)
          | ((with_reducible refine (HG2.out _ (nxt (nxt hb1 hb2) hb3)).mono ?_); unfold gives; rintro e w4 ⟨rfl, hb4⟩))
      | go_in)
    have hB := ((BaAt.new hb1 hp2 hb2).below hb3).below hb4
    obtain ⟨g, hg⟩ : ∃ g, g = w1.heap.size := ⟨_, rfl⟩
    rw [← hg] at hB ⊢
    clear hg hp2 hb1 hb2 hb3 hb4 HG1 HG2 HN HA
    go_loopw [11] (fun i wr => ∃ (k : Nat) (S : Nat → Prop), i = .int .i64 k ∧ k ≤ n1 ∧ BaAt w g most (addsL most (L1.take k)) S wr) (fun i _ => n1 - (RowKit.intOf i).toNat)
    case atStart => exact ⟨0, _, rfl, Nat.zero_le _, hB⟩
    case round =>
      obtain ⟨k, S, rfl, hk, hB⟩ := hrel
      by_cases hlt : k < n1
      · have hkL : k < L1.length := by rw [HL1.out.2.2]; exact hlt
        obtain ⟨ad, rfl, hadl, hcs⟩ := (HL1.out.2.1.below hB.bw) k hkL
        have hx := HL1.out.1 _ (List.getElem_mem hkL)
        have hsn := adds_snoc (most := most) hkL
        obtain ⟨x, hxe⟩ : ∃ x, x = L1[k] := ⟨_, rfl⟩
        rw [← hxe] at hcs hx hsn
        have hcs1 : ∀ j u, (txL x)[j]? = some u → wr.cell? ((ad.add (k * 7)).add j) = some u := hcs
        have HAD := Lib.hid (add_any hB.pl x hx (HT.out _ hB.bw))
        have HSN := Lib.hid hsn
        clear hxe hsn hcs hx hkL
        go_wp2_with (first
          | (refine wpList_cells_at rfl _ _ rfl (ad.add (k * 7)) rfl (txL x) _ hcs1 Tryd.underlying35 rfl txInfo ?_)
          | (go_at_call 10; refine HAD.out.mono ?_; rintro e w2 ⟨rfl, hp2, ht2⟩)
          | go_in)
        go_roundw
        case rel => exact ⟨k + 1, _, by go_num, by omega, by rw [HSN.out]; exact hB.turn hp2 ht2⟩
        case measure => simp [RowKit.intOf]; omega
      · obtain rfl : k = n1 := by omega
        have hall : L1.take k = L1 := by rw [← HL1.out.2.2, List.take_length]
        rw [hall] at hB
        obtain ⟨L, hLe⟩ : ∃ L, L = addsL most L1 := ⟨_, rfl⟩
        rw [← hLe] at hB
        clear hLe hall hlt
        have HAL := Lib.hid (all_any hB.pl)
        have HBA := Lib.hid (fun W (hb : Below wr.heap.size wr W) => batch_any (hB.pl.below hb) n A2 c2 L2' (HL2.out.2.1.below (nxt hB.bw hb)) HL2.out.1 (by rw [HL2.out.2.2]; omega))
        have HLE := Lib.hid (fun W (hb : Below wr.heap.size wr W) => len_any (hB.pl.below hb))
        have HAL2 := Lib.hid (fun W (hb : Below wr.heap.size wr W) => all_any (hB.pl.below hb))
        have HF := Lib.hid hB.pl.fine
        obtain ⟨m, hm⟩ : ∃ m, m = L.length := ⟨_, rfl⟩
        obtain ⟨b, hbe⟩ : ∃ b, b = batchL n L2' L := ⟨_, rfl⟩
        obtain ⟨o, ho⟩ : ∃ o, o = b.length := ⟨_, rfl⟩
        have hm64 : m ≤ 64 := by rw [hm]; exact HF.out.len
        have hmm : (m : Int) ≤ most := by rw [hm]; exact HF.out.2.1
        have hom : (o : Int) ≤ max n 0 := by rw [ho, hbe]; exact batA_len (by simp only [List.length_nil]; omega)
        have ho64 : o ≤ 64 := by have := batch_le n L2' L; rw [ho, hbe]; omega
        rw [HL2.out.2.2, ← hbe] at HBA
        unfold backL at HBA HAL HAL2
        rw [← ho] at HBA
        rw [← hm] at HAL HAL2 HLE
        have HM := Lib.hid hm
        have HB := Lib.hid hbe
        have HO := Lib.hid ho
        have g1 : ¬ most < (m : Int) := by omega
        clear hm hbe ho
        go_upto_region 12 with (first
          | (go_at_call 18; refine HAL.out.mono ?_; rintro e w2 ⟨A3, c3, rfl, hr3, _, hb2⟩)
          | (go_at_call 12; refine (HBA.out _ hb2).mono ?_; rintro e w3 ⟨A4, c4, rfl, hr4, _, hb3⟩)
          | go_in)
        have hwL := HF.out.wf
        have HSA := Lib.hid (fun W A5 c5 (hra : Rd txL 7 W A3 L) (hrb : Rd txL 7 W A5 L) => refsame_any A3 A5 c3 c5 L L W hwL hwL hra hrb (by have := HM.out; omega) (by have := HM.out; omega))
        simp only [decide_true, ← HM.out] at HSA
        have hb23 := nxt hb2 hb3
        clear HAL HBA hwL
        go_upto_region 14 with (first
          | (go_at_call 19; refine (HLE.out _ hb23).mono ?_; unfold gives; rintro e w4 ⟨rfl, hb4⟩)
          | (go_at_call 18; refine (HAL2.out _ (nxt hb23 hb4)).mono ?_; rintro e w5 ⟨A5, c5, rfl, hr5, _, hb5⟩)
          | (go_at_call 11; refine (HSA.out _ A5 c5 ((hr3.below hb3).below (nxt hb4 hb5)) hr5).mono ?_; unfold gives; rintro e w6 ⟨rfl, hb6⟩)
          | go_in)
        have hb6 := nxt (nxt hb4 hb5) hb6
        have hr3 := (hr3.below hb3).below hb6
        have hr4 := hr4.below hb6
        have hbw := nxt (nxt hB.bw hb23) hb6
        have hr2 := HL2.out.2.1.below hbw
        clear hb2 hb3 hb4 hb5 hb23 hr5 HSA HAL2 HLE hB hom
        have HR := Lib.hid (And.intro hr3 (And.intro hr4 hr2))
        have HHA := Lib.hid (fun W x (hb : Below w6.heap.size w6 W) (hx : x.wf 1000) => refhas_any A3 c3 L x W HF.out.wf hx (hr3.below hb) (by have := HM.out; omega))
        have HHW := Lib.hid (fun W x (hb : Below w6.heap.size w6 W) (hx : x.wf 1000) => refhas_any A2 c2 L2' x W HL2.out.1 hx (hr2.below hb) (by have := HL2.out.2.2; omega))
        rw [← HM.out] at HHA
        rw [HL2.out.2.2] at HHW
        clear hr3 hr4 hr2
        go_wp2
        go_loopw [14] (fun s wr => ∃ i : Nat, s = .int .i64 i ∧ i ≤ o ∧ Below w6.heap.size w6 wr) (fun s _ => o - (RowKit.intOf s).toNat)
        case atStart => exact ⟨0, rfl, Nat.zero_le _, Below.refl _ _⟩
        case round =>
          obtain ⟨i, rfl, hi, hbi⟩ := hrel
          obtain ⟨wo, hwo⟩ : ∃ wo, wo = wr := ⟨_, rfl⟩
          subst hwo
          by_cases hio : i < o
          · have hiL : i < b.length := by have := HO.out; omega
            obtain ⟨ae, rfl, _, hes⟩ := (HR.out.2.1.below hbi) i hiL
            obtain ⟨hyL, hyW⟩ := batch_sub (n := n) (W := L2') (L := L) (x := b[i]) (by rw [← HB.out]; exact List.getElem_mem hiL)
            have hpw := fun q (hq : q < i) => List.pairwise_iff_getElem.1 (batA_pair (n := n) (W := L2') (L := L) (acc := []) List.Pairwise.nil) q i (by rw [show batA n L2' [] L = b from HB.out.symm]; omega) (by rw [show batA n L2' [] L = b from HB.out.symm]; omega) hq
            have hpw2 : ∀ q z, q < i → b[q]? = some z → sameT z b[i] = false := by
              intro q z hq hz
              have := hpw q hq
              simp only [show batA n L2' [] L = b from HB.out.symm] at this
              rw [List.getElem?_eq_getElem (by omega)] at hz
              injection hz with hz
              rw [← hz]
              exact this
            have hy := HF.out.wf _ hyL
            obtain ⟨y, hye⟩ : ∃ y, y = b[i] := ⟨_, rfl⟩
            simp only [← hye] at hes hyL hyW hy hpw2
            have hes1 : ∀ j u, (txL y)[j]? = some u → wo.cell? ((ae.add (i * 7)).add j) = some u := hes
            have H1 : Calls Tryd.prog 20 #[.slice A3 m c3, .agg (txL y).toArray] wo (gives (.bool true) wo) := by
              have := HHA.out wo y hbi hy
              rw [hasX_iff.2 hyL] at this
              exact this
            have H2 : ∀ W, Below wo.heap.size wo W → Calls Tryd.prog 20 #[.slice A2 n2 c2, .agg (txL y).toArray] W (gives (.bool false) W) := fun W hb => by
              have := HHW.out W y (nxt hbi hb) hy
              rw [hyW] at this
              exact this
            have HH1 := Lib.hid H1
            have HH2 := Lib.hid H2
            have HPW := Lib.hid hpw2
            have HYE : Hid (∀ h, y = b[i]'h) := Lib.hid (fun _ => hye)
            clear hye hyL hyW hy hpw hpw2 hes H1 H2 hiL
            go_upto_region 19 with (first
              | (refine wpList_cells_at rfl _ _ rfl (ae.add (i * 7)) rfl (txL y) _ hes2 Tryd.underlying35 rfl txInfo ?_)
              | (refine wpList_cells_at rfl _ _ rfl (ae.add (i * 7)) rfl (txL y) _ hes1 Tryd.underlying35 rfl txInfo ?_)
              | (go_at_call 20; first
                  | ((with_reducible refine HH1.out.mono ?_); unfold gives; rintro e w7 ⟨rfl, hb7⟩
                     have hes2 : ∀ j u, (txL y)[j]? = some u → w7.cell? ((ae.add (i * 7)).add j) = some u := fun j u hj => (hb7.cell (p := (ae.add (i * 7)).add j) (L2.cell_in (hes1 j u hj))).trans (hes1 j u hj))
                  | ((with_reducible refine (HH2.out _ hb7).mono ?_); unfold gives; rintro e w8 ⟨rfl, hb8⟩))
              | go_in)
            have hb9 := nxt (nxt hbi hb7) hb8
            clear hes1 hes2 hb7 hb8 HH1 HH2
            go_wp2
            go_loopw [15] (fun s wi => ∃ q : Nat, s = .int .i64 q ∧ q ≤ i ∧ Below w6.heap.size w6 wi) (fun s _ => i - (RowKit.intOf s).toNat)
            case atStart => exact ⟨0, rfl, Nat.zero_le _, hb9⟩
            case round =>
              obtain ⟨q, rfl, hq, hbq⟩ := hrel
              obtain ⟨wi, hwi⟩ : ∃ wi, wi = wr := ⟨_, rfl⟩
              subst hwi
              by_cases hqi : q < i
              · have hqL : q < b.length := by have := HO.out; omega
                have hiL : i < b.length := by have := HO.out; omega
                obtain ⟨af, haf, _, hfs⟩ := (HR.out.2.1.below hbq) q hqL
                injection haf with haf
                subst haf
                obtain ⟨af, haf, _, hgs⟩ := (HR.out.2.1.below hbq) i hiL
                injection haf with haf
                subst haf
                have hns := HPW.out q b[q] hqi (List.getElem?_eq_getElem hqL)
                have hgy : b[i] = y := (HYE.out hiL).symm
                rw [hgy] at hgs
                obtain ⟨z, hze⟩ : ∃ z, z = b[q] := ⟨_, rfl⟩
                rw [← hze] at hfs hns
                have r1 : wi.cell? ⟨(ae.add (q * 7)).block, (ae.add (q * 7)).off + 1, none⟩ = some (.string (str z.frm)) := by have := hfs 1 _ rfl; rwa [add_pos _ _ (by decide)] at this
                have r6 : wi.cell? ⟨(ae.add (q * 7)).block, (ae.add (q * 7)).off + 6, none⟩ = some (.int .i64 z.nonce) := by have := hfs 6 _ rfl; rwa [add_pos _ _ (by decide)] at this
                have x1 : wi.cell? ⟨(ae.add (i * 7)).block, (ae.add (i * 7)).off + 1, none⟩ = some (.string (str y.frm)) := by have := hgs 1 _ rfl; rwa [add_pos _ _ (by decide)] at this
                have x6 : wi.cell? ⟨(ae.add (i * 7)).block, (ae.add (i * 7)).off + 6, none⟩ = some (.int .i64 y.nonce) := by have := hgs 6 _ rfl; rwa [add_pos _ _ (by decide)] at this
                rcases same_three z y with ⟨h1, h3⟩ | ⟨_, _, h3⟩ | ⟨h1, h2, h3⟩
                · have e1 := str_ne h1
                  clear h1 h3 hfs hgs hns hgy hze hqL hiL
                  go_upto_region 22 with fail
                  go_quiet (fail)
                  go_wp2
                  go_roundw
                  case rel => exact ⟨q + 1, by go_num, by omega, L6.below_drewN hbq _⟩
                  case measure => simp [RowKit.intOf]; omega
                · rw [h3] at hns
                  cases hns
                · have e1 := str_eq h1
                  have e2 : (z.nonce == y.nonce) = false := by simpa using h2
                  clear h1 h2 h3 hfs hgs hns hgy hze hqL hiL
                  go_upto_region 22 with fail
                  go_quiet (fail)
                  go_wp2
                  go_roundw
                  case rel => exact ⟨q + 1, by go_num, by omega, L6.below_drewN hbq _⟩
                  case measure => simp [RowKit.intOf]; omega
              · obtain rfl : q = i := by omega
                go_wp2
                go_roundw
                case rel => exact ⟨q + 1, by go_num, by omega, hbq⟩
                case measure => simp [RowKit.intOf]; omega
          · obtain rfl : i = o := by omega
            clear HHA
            by_cases hfull : (i : Int) = max n 0
            · go_wp2
              go_ret
              exact ⟨rfl, nxt hbw hbi⟩
            · have hin : (i : Int) < n := by
                have h1 : (b.length : Int) ≤ max n 0 := by rw [HB.out]; exact batA_len (by simp only [List.length_nil]; omega)
                rw [← HO.out] at h1
                omega
              have HOUT := Lib.hid (fun x (hx : x ∈ L) => batA_out (n := n) (W := L2') (x := x) (L := L) (acc := []) (by rw [show batA n L2' [] L = b from HB.out.symm, ← HO.out]; exact hin) hx)
              rw [show batA n L2' [] L = b from HB.out.symm] at HOUT
              have hne : ¬ ((i : Int) == max n 0) = true := by simpa using hfull
              clear hin hfull
              go_wp2
              go_loopw [16] (fun s wr => ∃ j : Nat, s = .int .i64 j ∧ j ≤ m ∧ Below w6.heap.size w6 wr) (fun s _ => m - (RowKit.intOf s).toNat)
              case atStart => exact ⟨0, rfl, Nat.zero_le _, hbi⟩
              case round =>
                obtain ⟨j, rfl, hj, hbj⟩ := hrel
                obtain ⟨wp, hwp⟩ : ∃ wp, wp = wr := ⟨_, rfl⟩
                subst hwp
                by_cases hjm : j < m
                · have hjL : j < L.length := by have := HM.out; omega
                  obtain ⟨ad, rfl, _, hcs⟩ := (HR.out.1.below hbj) j hjL
                  have hout := HOUT.out L[j] (List.getElem_mem hjL)
                  have hx := HF.out.wf _ (List.getElem_mem hjL)
                  obtain ⟨x, hxe⟩ : ∃ x, x = L[j] := ⟨_, rfl⟩
                  rw [← hxe] at hcs hout hx
                  have hcs1 : ∀ j' u, (txL x)[j']? = some u → wp.cell? ((ad.add (j * 7)).add j') = some u := hcs
                  obtain ⟨b0, hb0⟩ : ∃ b0, b0 = hasX L2' x := ⟨_, rfl⟩
                  rw [← hb0] at hout
                  have HB0 := Lib.hid hb0
                  have HH : Hid (Calls Tryd.prog 20 #[.slice A2 n2 c2, .agg (txL x).toArray] wp (gives (.bool b0) wp)) := Lib.hid (by
                    have := HHW.out wp x hbj hx
                    rw [← hb0] at this
                    exact this)
                  have HX := Lib.hid hout
                  clear hcs hout hx hxe hb0 hjL
                  go_upto_region 30 with (first
                    | (refine wpList_cells_at rfl _ _ rfl (ad.add (j * 7)) rfl (txL x) _ hcs1 Tryd.underlying35 rfl txInfo ?_)
                    | (go_at_call 20; (with_reducible refine HH.out.mono ?_); unfold gives; rintro e w7 ⟨rfl, hb7⟩)
                    | go_in)
                  have hb9 := nxt hbj hb7
                  have HC2 : Hid (∀ W, Below wp.heap.size wp W → ∀ j' u, (txL x)[j']? = some u → W.cell? ((ad.add (j * 7)).add j') = some u) := Lib.hid fun W hb j' u hj => (hb.cell (p := (ad.add (j * 7)).add j') (L2.cell_in (hcs1 j' u hj))).trans (hcs1 j' u hj)
                  clear hcs1 HH
                  go_wp2
                  go_loopw [17, 18] (fun s17 s18 wi => ∃ (q : Nat) (b' : Bool), s18 = .int .i64 q ∧ q ≤ i ∧ s17 = .bool b' ∧ Hid (b' = (b0 || (b.take q).any (fun y => sameT y x))) ∧ Below wp.heap.size wp wi) (fun _ s18 _ => i - (RowKit.intOf s18).toNat)
                  case atStart => exact ⟨0, b0, rfl, Nat.zero_le _, rfl, Lib.hid (by simp), hb7⟩
                  case round =>
                    obtain ⟨q, b', rfl, hq, rfl, hb, hbq⟩ := hrel
                    by_cases hqi : q < i
                    · have hqL : q < b.length := by have := HO.out; omega
                      obtain ⟨ae, rfl, _, hes⟩ := (HR.out.2.1.below (nxt hbj hbq)) q hqL
                      have hsn := any_snoc (p := fun y => sameT y x) hqL
                      obtain ⟨y, hye⟩ : ∃ y, y = b[q] := ⟨_, rfl⟩
                      rw [← hye] at hes hsn
                      have hsn' : (b0 || (b.take (q + 1)).any (fun y => sameT y x)) = (b' || sameT y x) := by rw [hsn, ← Bool.or_assoc, ← hb.out]
                      have r1 : wr.cell? ⟨(ae.add (q * 7)).block, (ae.add (q * 7)).off + 1, none⟩ = some (.string (str y.frm)) := by have := hes 1 _ rfl; rwa [add_pos _ _ (by decide)] at this
                      have r6 : wr.cell? ⟨(ae.add (q * 7)).block, (ae.add (q * 7)).off + 6, none⟩ = some (.int .i64 y.nonce) := by have := hes 6 _ rfl; rwa [add_pos _ _ (by decide)] at this
                      have x1 : wr.cell? ⟨(ad.add (j * 7)).block, (ad.add (j * 7)).off + 1, none⟩ = some (.string (str x.frm)) := by have := HC2.out wr hbq 1 _ rfl; rwa [add_pos _ _ (by decide)] at this
                      have x6 : wr.cell? ⟨(ad.add (j * 7)).block, (ad.add (j * 7)).off + 6, none⟩ = some (.int .i64 x.nonce) := by have := HC2.out wr hbq 6 _ rfl; rwa [add_pos _ _ (by decide)] at this
                      have HS := Lib.hid hsn'
                      clear hes hsn hsn' hye hqL
                      cases b' with
                      | true =>
                        go_upto_region 33 with fail
                        go_quiet (fail)
                        go_wp2
                        go_roundw
                        case rel => exact ⟨q + 1, true, by go_num, by omega, rfl, Lib.hid (by rw [HS.out]; rfl), L6.below_drewN hbq _⟩
                        case measure => simp [RowKit.intOf]; omega
                      | false =>
                        rcases same_three y x with ⟨h1, h3⟩ | ⟨h1, h2, h3⟩ | ⟨h1, h2, h3⟩
                        · have e1 := str_ne h1
                          have HE := Lib.hid (HS.out.trans (by rw [h3]))
                          clear h1 h3
                          go_upto_region 33 with fail
                          go_quiet (fail)
                          go_wp2
                          go_roundw
                          case rel => exact ⟨q + 1, false, by go_num, by omega, rfl, Lib.hid (by rw [HE.out]; rfl), L6.below_drewN hbq _⟩
                          case measure => simp [RowKit.intOf]; omega
                        · have e1 := str_eq h1
                          have e2 : (y.nonce == x.nonce) = true := by simpa using h2
                          have HE := Lib.hid (HS.out.trans (by rw [h3]))
                          clear h1 h2 h3
                          go_upto_region 33 with fail
                          go_quiet (fail)
                          go_wp2
                          go_roundw
                          case rel => exact ⟨q + 1, true, by go_num, by omega, rfl, Lib.hid (by rw [HE.out]; rfl), L6.below_drewN hbq _⟩
                          case measure => simp [RowKit.intOf]; omega
                        · have e1 := str_eq h1
                          have e2 : (y.nonce == x.nonce) = false := by simpa using h2
                          have HE := Lib.hid (HS.out.trans (by rw [h3]))
                          clear h1 h2 h3
                          go_upto_region 33 with fail
                          go_quiet (fail)
                          go_wp2
                          go_roundw
                          case rel => exact ⟨q + 1, false, by go_num, by omega, rfl, Lib.hid (by rw [HE.out]; rfl), L6.below_drewN hbq _⟩
                          case measure => simp [RowKit.intOf]; omega
                    · obtain rfl : q = i := by omega
                      have hb2 : b' = true := by
                        have h1 := hb.out
                        rw [List.take_of_length_le (by rw [← HO.out]; exact Nat.le_refl _)] at h1
                        rcases HX.out with h2 | h2
                        · rw [h1, h2]; rfl
                        · rw [h1, h2, Bool.or_true]
                      subst hb2
                      go_wp2
                      go_roundw
                      case rel => exact ⟨j + 1, by go_num, by omega, nxt hbj hbq⟩
                      case measure => simp [RowKit.intOf]; omega
                · obtain rfl : j = m := by omega
                  go_wp2
                  go_ret
                  exact ⟨rfl, nxt hbw hbj⟩
end Go.Proofs.YtohkjleppohinaaDoor
