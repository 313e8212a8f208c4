/-
  Orphans that come into the tree: the closure that calls itself.
-/
import Derived.Test.YtgclofemhhhepaaSortK
import Derived.Shelf.Abstract
set_option linter.unusedSimpArgs false
set_option linter.unusedVariables false
set_option maxRecDepth 10000
namespace Go.Proofs.Ytgclofemhhhepaa
open Go.RowKit Go.Maps Go.Lib
open L3 (Blk Reads)
open L6 (Turn moreB fresh From In)

theorem twin.nums {L M : List Ent} (h : twin L M) : L.map (·.n) = M.map (·.n) := by
  have := congrArg (List.map Prod.fst) h
  simpa [List.map_map, Function.comp_def] using this
theorem inF_setIn {M : List Ent} (h : (M.map (·.n)).Nodup) {e : Ent} (he : e ∈ M) (z : Int) : inF (setIn e.n M) z = if z = e.n then some e.b else inF M z := by
  have h' : ((setIn e.n M).map (·.n)).Nodup := by rw [← (setIn_twin e.n M).nums]; exact h
  refine opt_ext fun b => ?_
  rw [inF_iff h']
  by_cases c : z = e.n
  · rw [if_pos c]
    constructor
    · rintro ⟨f, hf, h1, h2, h3⟩
      rcases setIn_mem hf with ⟨x, hx, hn, rfl⟩ | ⟨_, hn⟩
      · have : x = e := one_eq h hx he hn
        rw [← h3, this]
      · exact absurd (h1.trans c) hn
    · intro hb
      injection hb with hb
      exact ⟨{ e with isin := true }, List.mem_map.2 ⟨e, he, if_pos rfl⟩, c.symm, rfl, hb⟩
  · rw [if_neg c, inF_iff h]
    constructor
    · rintro ⟨f, hf, h1, h2, h3⟩
      rcases setIn_mem hf with ⟨x, hx, hn, rfl⟩ | ⟨hf2, hn⟩
      · exact absurd (h1.symm.trans hn) c
      · exact ⟨f, hf2, h1, h2, h3⟩
    · rintro ⟨f, hf, h1, h2, h3⟩
      exact ⟨f, List.mem_map.2 ⟨f, hf, if_neg (by rw [h1]; exact c)⟩, h1, h2, h3⟩
theorem outF_setIn {M : List Ent} (h : (M.map (·.n)).Nodup) {e : Ent} (he : e ∈ M) (z : Int) : outF (setIn e.n M) z = if z = e.n then none else outF M z := by
  have h' : ((setIn e.n M).map (·.n)).Nodup := by rw [← (setIn_twin e.n M).nums]; exact h
  refine opt_ext fun b => ?_
  rw [outF_iff h']
  by_cases c : z = e.n
  · rw [if_pos c]
    constructor
    · rintro ⟨f, hf, h1, h2, h3⟩
      rcases setIn_mem hf with ⟨x, hx, hn, rfl⟩ | ⟨_, hn⟩
      · cases h2
      · exact absurd (h1.trans c) hn
    · intro hb; cases hb
  · rw [if_neg c, outF_iff h]
    constructor
    · rintro ⟨f, hf, h1, h2, h3⟩
      rcases setIn_mem hf with ⟨x, hx, hn, rfl⟩ | ⟨hf2, hn⟩
      · exact absurd (h1.symm.trans hn) c
      · exact ⟨f, hf2, h1, h2, h3⟩
    · rintro ⟨f, hf, h1, h2, h3⟩
      exact ⟨f, List.mem_map.2 ⟨f, hf, if_neg (by rw [h1]; exact c)⟩, h1, h2, h3⟩
theorem setIn_len (k : Int) (L : List Ent) : (setIn k L).length = L.length := by unfold setIn; simp
/-- A tree out of its parts. -/
theorem Tm.make {w : World} {S : Nat → Prop} {g bb bo n1 n2 : Nat} {most r rd : Int} {L : List Ent} {DB DO : DataW Unit} (hb : Blk w g 66 #[.int .i64 most, .int .i64 r, .int .i64 rd, .map (some bb), .map (some bo)])
    (h1 : w.ownsMap Try.prog 3 blElem bb n1 DB) (h2 : w.ownsMap Try.prog 3 blElem bo n2 DO) (h3 : FitsI blD DB (inF L)) (h4 : FitsI blD DO (outF L)) (ho : (L.map (·.n)).Nodup) (hn : ∀ e ∈ L, inI e.n) (hS : S g ∧ S bb ∧ S bo) (hne : bb ≠ bo) : Tm w S g bb bo most r rd L := by
  have s1 : Maps.size DB = (inN L).length := map_size h1 h3 (nodup_sub ho _) (fun x hx => by obtain ⟨e, he, rfl, _⟩ := inN_mem.1 hx; exact hn e he) (fun x _ => by rw [inF_isSome ho, inN_mem])
  have s2 : Maps.size DO = orph L := by
    rw [← orph_len]
    exact map_size h2 h4 (nodup_sub ho _) (fun x hx => by obtain ⟨e, he, rfl, _⟩ := outN_mem.1 hx; exact hn e he) (fun x _ => by rw [outF_isSome ho, outN_mem])
  have hl := in_len L
  exact ⟨DB, DO, hb, own_tight h1 (by omega), own_tight h2 (by omega), h3, h4, hS.1, hS.2.1, hS.2.2, hne⟩
theorem Tm.orphs {w : World} {S : Nat → Prop} {g bb bo : Nat} {most r rd : Int} {L : List Ent} {DO : DataW Unit} {n2 : Nat} (h2 : w.ownsMap Try.prog 3 blElem bo n2 DO) (h4 : FitsI blD DO (outF L)) (ho : (L.map (·.n)).Nodup) : (intKeys DO).Nodup ∧ ∀ e ∈ L, inI e.n → e.isin = false → e.n ∈ intKeys DO := by
  obtain ⟨k1, k2, _, k4⟩ := keys_of h2 h4
  exact ⟨k1, fun e he hi hf => (k4 _ hi).2 ((outF_isSome ho).2 ⟨e, he, rfl, hf⟩)⟩
/-- What the store of one that comes in meets. -/
def StAt (ct g bb x : Nat) (y : Bl) (W : World) : Prop := W.cell? ⟨ct, 0, none⟩ = some (.pointer (some ⟨g, 0, none⟩)) ∧ W.cell? ⟨g, 3, none⟩ = some (.map (some bb)) ∧ Blk W x 39 (blC y)
theorem len_sub : ∀ {l m : List Int}, l.Nodup → (∀ x ∈ l, x ∈ m) → l.length ≤ m.length
  | [], _, _, _ => Nat.zero_le _
  | x :: l, m, h, hs => by
    have hn := List.nodup_cons.1 h
    have hx := hs x List.mem_cons_self
    have := len_sub (m := m.erase x) hn.2 fun y hy => (List.mem_erase_of_ne (by rintro rfl; exact hn.1 hy)).2 (hs y (List.mem_cons_of_mem _ hy))
    rw [List.length_erase_of_mem hx] at this
    have := List.length_pos_of_mem hx
    simp only [List.length_cons]
    omega
theorem Taking.orph_le {r n : Int} {ks : List Int} {L M : List Ent} (h1 : OneN r L) (h : Taking r n ks L M) : orph M ≤ orph L := by
  have e1 := in_len L
  have e2 := in_len M
  have e3 := h.twin.len
  have e4 := len_sub (l := inN L) (m := inN M) (nodup_sub h1.1 _) fun x hx => inN_mem.2 (h.mono x (inN_mem.1 hx))
  omega
/-- What the closure leaves. -/
def TakePost (S : Nat → Prop) (g bb bo : Nat) (most r rd : Int) (L : List Ent) (n : Int) (w : World) (e : Ending) (w' : World) : Prop :=
  e = .returned (.tuple #[]) ∧ ∃ M, Took r n L M ∧ Tm w' S g bb bo most r rd M ∧ Turn S w w'
/-- What holds of a round. -/
def TakeAt (S : Nat → Prop) (g bb bo : Nat) (most r rd : Int) (L : List Ent) (n : Int) (w : World) (Z : List Int) (v : Value) (j : Nat) (wr : World) : Prop :=
  ∃ M, Taking r n (Z.drop j) L M ∧ Tm wr S g bb bo most r rd M ∧ Turn S w wr ∧ wr.ownsRow w.heap.size 3 1 v Z.length (Z.map (Value.int .i64))
set_option maxHeartbeats 4000000 in
set_option maxRecDepth 100000 in
theorem take_any {S : Nat → Prop} {g bb bo ct cf : Nat} {most r rd : Int} (hSc : ¬ S ct) (hSf : ¬ S cf) (m : Nat) : ∀ (L : List Ent) (w : World) (n : Int), orph L ≤ m → L.length ≤ 1000000 → Tm w S g bb bo most r rd L → In w S →
    Blk w ct 24 #[.pointer (some ⟨g, 0, none⟩)] → Blk w cf 73 #[.func (.func 41) #[] #[.pointer (some ⟨ct, 0, none⟩), .pointer (some ⟨cf, 0, none⟩)]] →
    OneN r L → (∀ e ∈ L, inI e.n) → Hang r L n → inI n →
    Calls Try.prog 41 #[.int .i64 n, .pointer (some ⟨ct, 0, none⟩), .pointer (some ⟨cf, 0, none⟩)] w (TakePost S g bb bo most r rd L n w) := by
  induction m using Nat.strongRecOn with
  | _ m ih =>
    intro L w n hm hl hT hIn hct hcf hone hnum hn hni
    obtain ⟨DB, DO, hb, h1, h2, h3, h4, g1, g2, g3, hne⟩ := hT
    have hT0 : Tm w S g bb bo most r rd L := ⟨DB, DO, hb, h1, h2, h3, h4, g1, g2, g3, hne⟩
    obtain ⟨_, ki, kl, _⟩ := keys_of h2 h4
    obtain ⟨k1, k2⟩ := Tm.orphs (w := w) (S := S) (g := g) (bb := bb) (most := most) (r := r) (rd := rd) h2 h4 hone.1
    have hsz := h2.size_le
    have HS := Lib.hid (sortedB_any h2 k1 (by omega))
    have HK := Lib.hid (keysB_any bo w)
    have c0 := hct.cell 0
    have c4 : w.cell? ⟨g, 4, none⟩ = some (.map (some bo)) := hb.cell 4
    have K2 := Lib.hid k2
    clear h1 h2 h3 h4 hb k1 k2
    go_enter Try.func41, Try.ntmps41
    go_wp2_with (first
      | (go_at_call 42; refine HK.out.mono ?_; rintro e w' ⟨rfl, rfl⟩)
      | (go_at_call 35; refine HS.out.mono ?_; rintro e w1 ⟨v, Z, rfl, hZ1, hZ2, hrow, hb1⟩; obtain ⟨A, c, rfl, hc, hrd⟩ := L6.row_reads hrow)
      | go_in)
    have HB := Lib.hid hb1
    have hvr : ∀ k, (Value.slice A Z.length c).ownBlock = some k → ¬ S k := fun k hk hs => by have := (hrow.lt k hk).1; have := hIn k hs; omega
    have HV := Lib.hid hvr
    have hIs := Lib.hid hIn
    have hstart : TakeAt S g bb bo most r rd L n w Z (.slice A Z.length c) 0 w1 :=
      ⟨L, Taking.start (fun e he hi => (hZ2 _).2 (K2.out e he (hnum e he) hi)), hT0.below hb1, L6.Turn.of_keep hb1, hrow⟩
    have hZi : ∀ x ∈ Z, inI x := fun x hx => ki x ((hZ2 x).1 hx)
    have HZ := Lib.hid hZi
    have hZl : Z.length ≤ 1000000 := by
      have := len_sub (l := Z) (m := intKeys DO) (hZ1.imp fun h => by omega) (fun x hx => (hZ2 x).1 hx)
      omega
    clear hb1 hvr hrd hZ1 hZ2 HK HS K2 c4 hrow hIn hZi c0 hT0 ki kl hsz
    go_loopw [15] (fun i wr => ∃ j : Nat, i = .int .i64 j ∧ j ≤ Z.length ∧ TakeAt S g bb bo most r rd L n w Z (.slice A Z.length c) j wr) (fun i _ => Z.length - (RowKit.intOf i).toNat)
    case atStart => exact ⟨0, rfl, Nat.zero_le _, hstart⟩
    case round =>
      clear hstart
      obtain ⟨j, rfl, hj, hR⟩ := hrel
      by_cases hlt : j < Z.length
      · obtain ⟨M, hT, hM, htw, hrw⟩ := hR
        obtain ⟨ad, u, rfl, hadl, hu, hcell⟩ := (Reads.of_own hrw).at_ hlt
        have hmem : Z[j] ∈ Z := List.getElem_mem hlt
        have hki := HZ.out _ hmem
        have hdrop := List.drop_eq_getElem_cons hlt
        have hu2 : u = .int .i64 Z[j] := by
          rw [List.getElem?_map, List.getElem?_eq_getElem hlt] at hu
          exact (Option.some.inj hu).symm
        obtain ⟨k, hk⟩ : ∃ k, k = Z[j] := ⟨_, rfl⟩
        rw [← hk] at hki hdrop hu2
        subst hu2
        rw [hdrop] at hT
        clear hu hk hmem hdrop
        obtain ⟨DB, DO, hb, h1, h2, h3, h4, g1, g2, g3, hne⟩ := hM
        have hM : Tm wr S g bb bo most r rd M := ⟨DB, DO, hb, h1, h2, h3, h4, g1, g2, g3, hne⟩
        have oneM := hT.twin.one hone
        have numM : ∀ e ∈ M, inI e.n := fun e he => by obtain ⟨f, hf, hn, _⟩ := twin_mem hT.twin.symm he; rw [← hn]; exact hnum f hf
        have b0 : wr.cell? ⟨ct, 0, none⟩ = some (.pointer (some ⟨g, 0, none⟩)) := (htw.blk hct hSc).cell 0
        have b4 : wr.cell? ⟨g, 4, none⟩ = some (.map (some bo)) := hb.cell 4
        obtain ⟨hat, hh⟩ := look_out h4 hki
        by_cases ho : outs M k
        · obtain ⟨e, he, hek, hei⟩ := ho
          have hno : outs M k := ⟨e, he, hek, hei⟩
          rw [decide_eq_true hno] at hh
          have hye : outF M k = some e.b := by rw [← hek]; exact outF_some oneM.1 he hei
          rw [hye] at hat
          replace hat : DO.atKey (keyI k) (blD zeroBl) = blD e.b := hat
          have hb2 : Below wr.heap.size wr (wr.alloc (.cells (blC e.b) 39)) := below_box _ e.b
          have b5 : (wr.alloc (.cells (blC e.b) 39)).cell? ⟨wr.heap.size, 5, none⟩ = some (.int .i64 e.p) := (box_new wr 39 e.b).cell 5
          by_cases hp : e.p = n
          · have hpq : (e.p == n) = true := by simpa using hp
            obtain ⟨y, hy⟩ : ∃ y, y = e.b := ⟨_, rfl⟩
            obtain ⟨ep, hep⟩ : ∃ ep, ep = e.p := ⟨_, rfl⟩
            obtain ⟨w2, hw2⟩ : ∃ w2, w2 = wr.alloc (.cells (blC y) 39) := ⟨_, rfl⟩
            have kx := box_new wr 39 y
            rw [← hep] at b5 hpq
            rw [← hy] at hat b5 hb2
            rw [← hw2] at hb2 kx
            have F1 := Lib.hid (show FitsI blD (DB.put (keyI k) (blD y)) (inF (setIn k M)) from (h3.put h1.isMap hki y).congr fun z _ => by
              have := inF_setIn oneM.1 he z
              rw [hek] at this
              rw [this, hy])
            have F2 := Lib.hid (show FitsI blD (DO.del (keyI k)) (outF (setIn k M)) from (h4.del hki).congr fun z _ => by
              have := outF_setIn oneM.1 he z
              rw [hek] at this
              rw [this])
            have HO := Lib.hid (Nat.lt_of_lt_of_le (setIn_orph oneM.1 he hek hei) (hT.orph_le hone))
            have HG := Lib.hid (show Hang r (setIn k M) k from (setIn_twin k M).hang.1 (by rw [← hek]; exact .up e he (by rw [hp]; exact hT.twin.hang.1 hn)))
            have HST := Lib.hid (fun K (ht : Took r k (setIn k M) K) => (hT.step hone hn he hek hei hp ht).1)
            have HY := Lib.hid hy
            have HE := Lib.hid hep
            have HEK := Lib.hid hek
            have HEI := Lib.hid hei
            have HP := Lib.hid hp
            clear hy hep hek hei hp hye
            have tw2 : Turn S w w2 := htw.kept hb2
            have x0 : w2.cell? ⟨ct, 0, none⟩ = some (.pointer (some ⟨g, 0, none⟩)) := (tw2.blk hct hSc).cell 0
            have hbg : Blk w2 g 66 #[.int .i64 most, .int .i64 r, .int .i64 rd, .map (some bb), .map (some bo)] := hb.below hb2 hb.lt
            have x4 : w2.cell? ⟨g, 4, none⟩ = some (.map (some bo)) := hbg.cell 4
            have h2' := L6.Turn.map (S := fun _ => False) (L6.Turn.of_keep hb2) h2 (fun h => h)
            have h1' := L6.Turn.map (S := fun _ => False) (L6.Turn.of_keep hb2) h1 (fun h => h)
            have hgo : g ≠ bo := L6.blk_ne_map hb h2
            have hxo : wr.heap.size ≠ bo := by have := h2.lt; omega
            have hgb : g ≠ bb := L6.blk_ne_map hb h1
            have hxb : wr.heap.size ≠ bb := by have := h1.lt; omega
            have hlM : M.length ≤ 1000000 := by rw [← hT.twin.len]; exact hl
            go_upto_region 5 with (first
              | (at_lookup; refine wpList_look_bl_ok _ rfl _ _ rfl bo _ DO rfl h2 k rfl hki y true hat hh ?_)
              | (refine wpList_store_new rfl _ _ _ rfl wr (blC y) rfl rfl 39 _ blInfo rfl (blC_ones _) ?_)
              | go_in)
            rw [← hw2]
            clear hw2 hat hh h2 h1 hcell b0 b4 b5
            go_wp2_with (first
              | (at_delete; refine wpList_delete_own _ rfl _ _ 64 3 rfl 39 kdI Try.underlying64 blElem bo _ DO rfl h2' _ (keyI k) rfl (key_at hki) ?_; intro w3 hown3 hturn3)
              | go_in)
            have hg3 := hturn3.grown
            have tw3 : Turn S w w3 := tw2.grown hg3 (fun i e => by cases e; exact .inl g3)
            have kx3 := kx.grown hg3 (by simpa using hxo)
            have hbg3 := hbg.grown hg3 (by simpa using hgo)
            have h13 := h1'.kept hg3 (by simpa using hne)
            have hS : StAt ct g bb wr.heap.size y w3.drew := ⟨(tw3.blk hct hSc).cell 0, hbg3.cell 3, kx3⟩
            clear x0 x4 h2' h1' hturn3
            (try simp only [Act.put])
            refine wp_region_K (StAt ct g bb wr.heap.size y) [0, 1, 2, 3, 4, 5] (by kernel_rfl) ?_
            refine wpK_quiet (f := 1) (by kernel_rfl) (fun _ x _ _ _ h => by cases x <;> exact h) hS [0, 1, 2, 3, 4, 5] _ _ (by kernel_rfl) (by kernel_rfl) (by kernel_rfl) ?_
            have ne : Nonempty (WorldIn (StAt ct g bb wr.heap.size y)) := ⟨⟨_, hS⟩⟩
            have r0 := fun z : WorldIn (StAt ct g bb wr.heap.size y) => z.h.1
            have r1 := fun z : WorldIn (StAt ct g bb wr.heap.size y) => z.h.2.1
            conv => arg 5; simp [pick]
            iterate 5 go_big_quiet_step (fail)
            refine wpQuiet_row rfl _ _ rfl wr.heap.size rfl _ _ _ _ (fun z => z.h.2.2) Try.underlying39 rfl blInfo ?_
            conv => arg 6; simp only [Act.put, List.setIfInBounds_toArray, List.set_cons_zero, List.set_cons_succ]
            refine wpQuiet_nil ?_
            refine wpK_seq [6] _ _ _ (by kernel_rfl) ?_
            conv => arg 4; simp [pick]
            have h13d := h13.drew
            go_upto_region 7 with (first
              | (at_mapUpdate; refine wpList_mapUpdate_own _ rfl _ _ _ 64 rfl 3 39 kdI Try.underlying64 blElem bb _ DB rfl h13d (by unfold maxLen; omega) _ _ (keyI k) rfl rfl (key_at hki) (blD y) [] (blElem_mk y) ?_; intro w4 hown4 hg4)
              | go_in)
            have tw4 : Turn S w w4 := tw3.drew.grown hg4 (fun i e => by cases e; exact .inl g2)
            have ur4 : Turn S wr w4 := ((L6.Turn.of_keep (S := S) hb2).grown hg3 (fun i e => by cases e; exact .inl g3)).drew.grown hg4 (fun i e => by cases e; exact .inl g2)
            have hbg4 := hbg3.drew.grown hg4 (by simpa using hgb)
            have h24 := hown3.drew.kept hg4 (by simpa using hne.symm)
            have hct4 := tw4.blk hct hSc
            have hcf4 := tw4.blk hcf hSf
            have y0 := hcf4.cell 0
            have oneK := (setIn_twin k M).one oneM
            have numK : ∀ e ∈ setIn k M, inI e.n := fun e he => by obtain ⟨f, hf, hn, _⟩ := twin_mem (setIn_twin k M).symm he; rw [← hn]; exact numM f hf
            have TK : Tm w4 S g bb bo most r rd (setIn k M) := Tm.make hbg4 hown4 h24 F1.out F2.out oneK.1 numK ⟨g1, g2, g3⟩ hne
            have HI := Lib.hid (ih (orph (setIn k M)) (Nat.lt_of_lt_of_le HO.out hm) (setIn k M) w4 k (Nat.le_refl _) (by rw [setIn_len]; exact hlM) TK (hIs.out.le tw4.size) hct4 hcf4 oneK numK HG.out hki)
            clear hS ne r0 r1 h13d h13 hown3 hown4 h24 hbg4 hbg3 hbg kx3 kx hg3 hg4 tw3 tw2 oneK numK TK hct4 hcf4 hM
            go_wp2_with (fail)
            refine HI.out.mono ?_
            rintro e5 w5 ⟨rfl, M2, hTk, hM5, tw5⟩
            go_wp2
            have HR := Lib.hid (show TakeAt S g bb bo most r rd L n w Z (.slice (some ad) Z.length c) (j + 1) w5 from
              ⟨M2, HST.out M2 hTk, hM5, tw4.trans tw5 (fun _ h => .inl h), L6.Turn.row (ur4.trans tw5 (fun _ h => .inl h)) hrw HV.out⟩)
            clear hTk hM5 tw5 tw4 ur4 hrw htw hT h3 h4 hb oneM numM he hno HST
            go_roundw
            case rel => exact ⟨j + 1, by go_num, by omega, HR.out⟩
            case measure => simp [RowKit.intOf]; omega
          · have hpq : (e.p == n) = false := by simpa using hp
            have HR := Lib.hid (show TakeAt S g bb bo most r rd L n w Z (.slice (some ad) Z.length c) (j + 1) (wr.alloc (.cells (blC e.b) 39)) from
              ⟨M, hT.pass (fun f hf hn hi => by rw [one_eq oneM.1 hf he (hn.trans hek.symm)]; exact hp), hM.below hb2, htw.kept hb2, L6.Turn.row (S := fun _ => False) (L6.Turn.of_keep hb2) hrw (fun _ _ h => h)⟩)
            obtain ⟨y, hy⟩ : ∃ y, y = e.b := ⟨_, rfl⟩
            obtain ⟨ep, hep⟩ : ∃ ep, ep = e.p := ⟨_, rfl⟩
            rw [← hep] at b5 hpq
            rw [← hy] at hat b5 HR
            clear hT hM h1 h3 h4 hb oneM numM htw hrw hno hye hb2 he hek hei hp hy hep
            go_wp2_with (first
              | (at_lookup; refine wpList_look_bl_ok _ rfl _ _ rfl bo _ DO rfl h2 k rfl hki y true hat hh ?_)
              | (refine wpList_store_new rfl _ _ _ rfl wr (blC y) rfl rfl 39 _ blInfo rfl (blC_ones _) ?_)
              | go_in)
            go_roundw
            case rel => exact ⟨j + 1, by go_num, by omega, HR.out⟩
            case measure => simp [RowKit.intOf]; omega
        · rw [decide_eq_false ho] at hh
          obtain ⟨y, hy⟩ : ∃ y, y = (outF M k).getD zeroBl := ⟨_, rfl⟩
          rw [← hy] at hat
          have hb2 : Below wr.heap.size wr (wr.alloc (.cells (blC y) 39)) := below_box _ y
          have HR := Lib.hid (show TakeAt S g bb bo most r rd L n w Z (.slice (some ad) Z.length c) (j + 1) (wr.alloc (.cells (blC y) 39)) from
            ⟨M, hT.pass (fun e he hn hi => absurd ⟨e, he, hn, hi⟩ ho), hM.below hb2, htw.kept hb2, L6.Turn.row (S := fun _ => False) (L6.Turn.of_keep hb2) hrw (fun _ _ h => h)⟩)
          clear hT hM h1 h3 h4 hb oneM numM htw hrw hy ho hb2
          go_wp2_with (first
            | (at_lookup; refine wpList_look_bl_ok _ rfl _ _ rfl bo _ DO rfl h2 k rfl hki y false hat hh ?_)
            | (refine wpList_store_new rfl _ _ _ rfl wr (blC y) rfl rfl 39 _ blInfo rfl (blC_ones _) ?_)
            | go_in)
          go_roundw
          case rel => exact ⟨j + 1, by go_num, by omega, HR.out⟩
          case measure => simp [RowKit.intOf]; omega
      · have hjj : j = Z.length := by omega
        have HR := Lib.hid hR
        clear hR
        go_wp2
        go_end0
        obtain ⟨M, hT, hM, htw, _⟩ := HR.out
        rw [hjj, List.drop_length] at hT
        exact ⟨rfl, M, hT.done, hM, htw⟩
end Go.Proofs.Ytgclofemhhhepaa
