/-
  chunk: ChunkOrders, walked.
-/
import Derived.Test.YtflapcaaaipoeaaEa
namespace Go.Proofs.Ytflapcaaaipoeaa
open Go.RowKit Go.Lib
set_option linter.unusedVariables false

theorem dat_of {w W : World} {b o : Nat} {q : Ck} {d : Option Addr} {cap : Nat} {v : Value} {m : List Ck} (h : CkAt w b o q d cap) (hO : OwnC 44 W w.heap.size v m) (f : Fr (fun _ => False) w W) : Dat W v q d cap :=
  ⟨h.lies.keep f (fun _ _ h => h), h.nil, h.size, h.len, h.sp, fun h0 ad e hb => by
    obtain ⟨ad2, e2, hcell⟩ := h.lies.2 0 h0
    rw [e] at e2
    cases e2
    have hlt := World.block_lt_of_cell? w _ hcell
    rw [add_block] at hlt
    have := (hO.form.2 _ hb).1
    omega⟩
theorem order_nil : orderE [] = 4 := by decide
theorem ds_all {l : List Ck} (h : ∀ i, i < l.length → (l.getD i default).2.length ≤ 9000) : ∀ c ∈ l, c.2.length ≤ 9000 := fun c hc => by
  obtain ⟨i, hi, e⟩ := mem_getD hc
  rw [← e]; exact h i hi
theorem ds_of {l : List Ck} (h : ∀ c ∈ l, c.2.length ≤ 9000) : ∀ i, i < l.length → (l.getD i default).2.length ≤ 9000 := fun i hi => h _ (by rw [List.getD_eq_getElem?_getD, List.getElem?_eq_getElem hi]; exact List.getElem_mem hi)

set_option maxHeartbeats 3200000 in
set_option maxRecDepth 20000 in
theorem orders_law (a : Option Addr) (c : Nat) (l : List Ck) (x y z : Nat) (w : World) (hl : LiesC w a l) (hlen : l.length ≤ 281474976710656) (hc : l.length ≤ c) (hx : x < 256) (hy : y < 256) (hz : z < 256) :
    Calls Try.prog 6 #[.slice a l.length c, .agg #[.int .u8 (x : Int), .int .u8 (y : Int), .int .u8 (z : Int)]] w fun e w' => e = .returned (.bool true) ∧ Fr (fun _ => False) w w' := by
  have hb0 := heap_alloc_new w (Obj.cells #[.int .u8 (x : Int), .int .u8 (y : Int), .int .u8 (z : Int)] 49)
  have HB0 := hide hb0
  have HF0 := hide (Fr.of_alloc w (Obj.cells #[.int .u8 (x : Int), .int .u8 (y : Int), .int .u8 (z : Int)] 49))
  have Hl := hide hl
  have Hfew := hide (fun w hl => few_c a c l w hl hlen)
  clear hl hb0
  cases hfw : fewB l
  · rw [hfw] at Hfew
    go_enter Try.func6, Try.ntmps6
    go_wp2_with fail
    refine (awake_c _).mono ?_
    rintro e w1 ⟨rfl, hf1⟩
    have HF1 := hide (HF0.out.join hf1)
    clear hf1 HF0 HB0
    go_wp2_with fail
    refine (Hfew.out w1 (Hl.out.keep HF1.out (fun _ _ h => h))).mono ?_
    rintro e w2 ⟨rfl, hf2⟩
    go_wp2
    go_ret
    exact ⟨rfl, HF1.out.join hf2⟩
  · rw [hfw] at Hfew
    obtain ⟨h100, hfn, hds⟩ := few_data hfw
    have Hds := hide hds
    clear hfw hds hfn
    go_enter Try.func6, Try.ntmps6
    go_wp2_with fail
    refine (awake_c _).mono ?_
    rintro e w1 ⟨rfl, hf1⟩
    have HF1 := hide (HF0.out.join hf1)
    have HB1 := hide ((hf1.block _ (lt_of HB0.out) (fun h => h)).trans HB0.out)
    clear hf1 HF0 HB0
    go_wp2_with fail
    refine (Hfew.out w1 (Hl.out.keep HF1.out (fun _ _ h => h))).mono ?_
    rintro e w2 ⟨rfl, hf2⟩
    have HF2 := hide (HF1.out.join hf2)
    have HB2 := hide ((hf2.block _ (lt_of HB1.out) (fun h => h)).trans HB1.out)
    clear hf2 HF1 HB1 Hfew
    rcases Nat.eq_zero_or_pos l.length with h0 | hpos
    · obtain rfl := List.eq_nil_of_length_eq_zero h0
      go_wp2
      go_ret
      exact ⟨rfl, HF2.out⟩
    · obtain ⟨b, o, _, _, rfl, _⟩ := Hl.out 0 hpos
      obtain ⟨L, hL⟩ : ∃ L, l.length = L := ⟨_, rfl⟩
      have HPL := hide hL
      rw [hL] at hlen hc h100 hpos ⊢
      obtain ⟨i, hi⟩ : ∃ i, x % L = i := ⟨_, rfl⟩
      have hiL : i < L := by rw [← hi]; exact Nat.mod_lt _ hpos
      obtain ⟨j, hj⟩ : ∃ j, y % L = j := ⟨_, rfl⟩
      have hjL : j < L := by rw [← hj]; exact Nat.mod_lt _ hpos
      have e1 : (x : Int) % (L : Int) = (i : Int) := by rw [← hi]; rfl
      have e2 : (x : Int).tmod (L : Int) = (i : Int) := by rw [← hi]; rfl
      have e3 : (y : Int) % (L : Int) = (j : Int) := by rw [← hj]; rfl
      have e4 : (y : Int).tmod (L : Int) = (j : Int) := by rw [← hj]; rfl
      have hN0 : ¬ L = 0 := by omega
      have hNi : ((L : Int) == 0) = false := by simp; omega
      have c0 := cell_of HB2.out (o := 0) rfl
      have c1 := cell_of HB2.out (o := 1) rfl
      clear hi hj hL
      go_upto_region 5 with fail
      go_region
      have HF3 := hide (HF2.out.join (Fr.drew1 _ w2))
      have HB3 : Hid (w2.drew.heap[w.heap.size]? = _) := HB2.out
      have HL3 := hide (Hl.out.keep HF3.out (fun _ _ h => h))
      clear HF2 HB2 c0 c1 e1 e2 e3 e4 hN0 hNi
      generalize w2.drew = w3 at *
      have HF4 := hide (Fr.of_alloc w3 (.cells #[] 44))
      have HE4 := hide (OwnC.fresh w3 w3.heap.size (Nat.le_refl _))
      have Hsm : Hid (([] : List Ck).length + l.length ≤ 1000000) := by show _ ≤ _; rw [HPL.out]; simp only [List.length_nil]; omega
      have Hsz : Hid (w3.heap.size ≤ (w3.alloc (.cells #[] 44)).heap.size) := by show _ ≤ _; simp
      go_upto_region 7 with (at_builtin; go_must (refine wpList_appCs rfl _ _ rfl w3.heap.size (.slice (some ⟨w3.heap.size, 0, none⟩) 0 0) [] rfl HE4.out ⟨b, o, none⟩ L c rfl l HPL.out.symm w3 HL3.out HF4.out (Nat.le_refl _) Hsm.out Hsz.out ?_); intro v1 w1' ho1 hf1)
      rw [List.nil_append] at ho1
      have hf1' := fr_ownC HF4.out HE4.out (Nat.le_refl _) hf1
      have HF5 := hide (HF3.out.join hf1')
      have HB5 := hide ((hf1'.block _ (lt_of HB3.out) (fun h => h)).trans HB3.out)
      have HL1 := hide (HL3.out.keep hf1' (fun _ _ h => h))
      have Hlt : Hid (w.heap.size < w3.heap.size) := lt_of HB3.out
      obtain ⟨⟨va, vc, hv1, hvc, hvm, hvn⟩, _⟩ := ho1.form
      obtain ⟨g, rfl⟩ := hvn (by intro h; rw [h] at HPL; have := HPL.out; simp at this; omega)
      rw [HPL.out] at hv1 hvc
      subst hv1
      have HO1 := hide ho1
      have c2 := cell_of HB5.out (o := 2) rfl
      have hm4 : z % 4 < 4 := Nat.mod_lt _ (by decide)
      have hzi : (z : Int) % 4 = ((z % 4 : Nat) : Int) := rfl
      have hzt : (z : Int).tmod 4 = ((z % 4 : Nat) : Int) := rfl
      clear ho1 hf1 hf1' HE4 HF4 Hsm Hsz HF3 HB3 HL3
      generalize z % 4 = m at *
      generalize w1' = w1 at *
      match m, hm4 with
      | 0, _ =>
        go_upto_region 9 with fail
        clear c2 hzi hzt
        obtain ⟨xs, how, hone, hcs⟩ := HO1.out
        obtain ⟨d1, k1, i1, i2, hd1⟩ := hcs i (by rw [HPL.out]; exact hiL)
        obtain ⟨d2, k2, j1, j2, hd2⟩ := hcs j (by rw [HPL.out]; exact hjL)
        have ci1 := how.cells (g := g) rfl _ _ i1
        have ci2 := how.cells (g := g) rfl _ _ i2
        have cj1 := how.cells (g := g) rfl _ _ j1
        have cj2 := how.cells (g := g) rfl _ _ j2
        rw [add_none, Nat.zero_add, Nat.mul_comm] at ci1 ci2 cj1 cj2
        obtain ⟨cur, hcur⟩ : ∃ cur, w1.heap[g]? = some (.cells cur 44 (0, 0)) := by
          rcases how.2 with ⟨h, _⟩ | ⟨g', cap, cur, h, _, hg, _⟩
          · cases h
          · cases h; exact ⟨cur, hg⟩
        have fi1 := frozen_of (o := i * 2) hcur
        have fi2 := frozen_of (o := i * 2 + 1) hcur
        have fj1 := frozen_of (o := j * 2) hcur
        have fj2 := frozen_of (o := j * 2 + 1) hcur
        have h01 : (0 : Int) ≤ (i : Int) := by omega
        have h02 : (i : Int) < (L : Int) := by omega
        have h03 : (0 : Int) ≤ (j : Int) := by omega
        have h04 : (j : Int) < (L : Int) := by omega
        have Hd1 := hide hd1
        have Hd2 := hide hd2
        have Hcur := hide hcur
        have Hcs := hide hcs
        have How := hide how
        clear hcs how hone i1 i2 j1 j2
        have hsw := liesC_swap HO1.out (by rw [HPL.out]; exact hiL) (by rw [HPL.out]; exact hjL) rfl rfl hd1 hd2
        have hgb := (HO1.out.form.2 g rfl).1
        have hm1 : l.getD i default ∈ l := by rw [List.getD_eq_getElem?_getD, List.getElem?_eq_getElem (by rw [HPL.out]; exact hiL)]; exact List.getElem_mem _
        have hm2 : l.getD j default ∈ l := by rw [List.getD_eq_getElem?_getD, List.getElem?_eq_getElem (by rw [HPL.out]; exact hjL)]; exact List.getElem_mem _
        have hds2 : ∀ c ∈ (l.set i (l.getD j default)).set j (l.getD i default), c.2.length ≤ 9000 := by
          intro c hc
          rcases List.mem_or_eq_of_mem_set hc with h | h
          · rcases List.mem_or_eq_of_mem_set h with h | h
            · exact ds_all Hds.out c h
            · rw [h]; exact ds_all Hds.out _ hm2
          · rw [h]; exact ds_all Hds.out _ hm1
        have HDS := hide (ds_of hds2)
        have hn2 : ((l.set i (l.getD j default)).set j (l.getD i default)).length = L := by rw [List.length_set, List.length_set]; exact HPL.out
        have hsz2 := (World.block_lt_of_cell? w1 _ ci1)
        clear hd1 hd2 hds2 hm1 hm2
        generalize hqi : l.getD i default = qi at *
        generalize hqj : l.getD j default = qj at *
        obtain ⟨ki, di⟩ := qi
        obtain ⟨kj, dj⟩ := qj
        simp only [] at ci1 ci2 cj1 cj2
        have Hqi := hide hqi
        have Hqj := hide hqj
        clear hqi hqj
        generalize hni : di.length = ni at *
        generalize hnj : dj.length = nj at *
        have Hsw := hide hsw
        have HN := hide hn2
        clear hni hnj hsw hn2
        have hfs := (((Fr.of_setCell w1 ⟨g, i * 2, none⟩ (.string kj)).join (Fr.of_setCell _ ⟨g, i * 2 + 1, none⟩ (.slice d2 nj k2))).join (Fr.of_setCell _ ⟨g, j * 2, none⟩ (.string ki))).join (Fr.of_setCell _ ⟨g, j * 2 + 1, none⟩ (.slice d1 ni k1))
        have HFS := hide ((HF5.out.trans hfs).mono (S' := fun _ => False) fun k hk h => by
          rcases h with h | h
          · exact h
          · have h2 : k = g := h
            have := Hlt.out
            omega)
        have hw2 := heap_setCell_own (o := i * 2 + 1) (.slice d2 nj k2) (heap_setCell_own (o := i * 2) (.string kj) hcur)
        have hcell0 : ∀ p, w1.cell? ⟨g, p, none⟩ = cur[p]? := fun p => by
          simp only [World.cell?, hcur]; rfl
        have z1 := cj1
        have z2 := cj2
        rw [hcell0] at z1 z2
        have hcs : j * 2 + 1 < cur.size := by
          rcases Nat.lt_or_ge (j * 2 + 1) cur.size with h | h
          · exact h
          · rw [Array.getElem?_eq_none h] at z2; cases z2
        have sf1 := frozen_of (o := j * 2) hw2
        have sf2 := frozen_of (o := j * 2 + 1) hw2
        obtain ⟨u1, su1⟩ : ∃ u1, ((w1.setCell ⟨g, i * 2, none⟩ (.string kj)).setCell ⟨g, i * 2 + 1, none⟩ (.slice d2 nj k2)).cell? ⟨g, j * 2, none⟩ = some u1 := by
          refine ⟨((cur.setIfInBounds (i * 2) (.string kj)).setIfInBounds (i * 2 + 1) (.slice d2 nj k2))[j * 2]'(by simp only [Array.size_setIfInBounds]; omega), ?_⟩
          simp only [World.cell?, hw2]
          exact Array.getElem?_eq_getElem _
        obtain ⟨u2, su2⟩ : ∃ u2, ((w1.setCell ⟨g, i * 2, none⟩ (.string kj)).setCell ⟨g, i * 2 + 1, none⟩ (.slice d2 nj k2)).cell? ⟨g, j * 2 + 1, none⟩ = some u2 := by
          refine ⟨((cur.setIfInBounds (i * 2) (.string kj)).setIfInBounds (i * 2 + 1) (.slice d2 nj k2))[j * 2 + 1]'(by simp only [Array.size_setIfInBounds]; omega), ?_⟩
          simp only [World.cell?, hw2]
          exact Array.getElem?_eq_getElem _
        clear hfs hw2 hcell0 z1 z2 hcs hcur hsz2 hgb
        go_region
        have HLW := hide (Hsw.out.keep (Fr.drew1 (fun _ => False) _) (fun _ _ h => h))
        have HFW := hide (HFS.out.join (Fr.drew1 (fun _ => False) _))
        clear Hsw HFS su1 su2 sf1 sf2 ci1 ci2 cj1 cj2 fi1 fi2 fj1 fj2 h01 h02 h03 h04 Hcur Hcs How HO1 HF5 HB5 HL1 Hl Hd1 Hd2
        generalize ((((w1.setCell ⟨g, i * 2, none⟩ (.string kj)).setCell ⟨g, i * 2 + 1, none⟩ (.slice d2 nj k2)).setCell ⟨g, j * 2, none⟩ (.string ki)).setCell ⟨g, j * 2 + 1, none⟩ (.slice d1 ni k1)).drew = W at *
        have hbk := back_c (some ⟨g, 0, none⟩) (vc) ((l.set i (kj, dj)).set j (ki, di)) W HLW.out (by have := HN.out; omega) (fun i hi => Nat.le_trans (HDS.out i hi) (by decide))
        rw [HN.out] at hbk
        have HBK := hide hbk
        clear hbk
        go_wp2_with fail
        refine HBK.out.mono ?_
        rintro e u1 ⟨v, rfl, hob, hfb⟩
        obtain ⟨⟨ja, jc, hv, hjc, _⟩, _⟩ := hob.form
        rw [HN.out] at hv
        subst hv
        have HFU := hide (HFW.out.join hfb)
        have HLU := hide (HLW.out.keep hfb (fun _ _ h => h))
        have hoc := order_c ja jc ((l.set i (kj, dj)).set j (ki, di)) u1 hob.lies (by have := HN.out; omega) hjc
        rw [HN.out, order_same] at hoc
        have HOC := hide hoc
        clear hoc hob hfb hjc HBK HFW HLW
        go_wp2_with fail
        refine HOC.out.mono ?_
        rintro e u2 ⟨rfl, hf2⟩
        have hrc := rorder_c (some ⟨g, 0, none⟩) (vc) ((l.set i (kj, dj)).set j (ki, di)) u2 (HLU.out.keep hf2 (fun _ _ h => h)) (by have := HN.out; omega)
        rw [HN.out] at hrc
        have HRC := hide hrc
        have HFV := hide (HFU.out.join hf2)
        have hnc : Calls Try.prog 16 #[.slice none 0 0] u2 fun e w' => e = .returned (.int .i64 (orderE [])) ∧ Fr (fun _ => False) u2 w' := order_c none 0 [] u2 (LiesC.nil _ _) (by decide) (Nat.le_refl _)
        rw [order_nil] at hnc
        have HNC := hide hnc
        clear hrc hf2 hnc HFU HLU HOC
        generalize rorderE ((l.set i (kj, dj)).set j (ki, di)) = E at *
        go_wp2_with fail
        refine HRC.out.mono ?_
        rintro e u3 ⟨rfl, rfl⟩
        go_wp2_with fail
        refine HNC.out.mono ?_
        rintro e u4 ⟨rfl, hf4⟩
        have HFX := hide (HFV.out.join hf4)
        go_wp2
        go_ret
        exact ⟨rfl, HFX.out⟩
      | 1, _ =>
        go_upto_region 11 with fail
        clear c2 hzi hzt
        have p1 : (0 : Int) ≤ (i : Int) := by omega
        have p2 : (i : Int) ≤ (c : Int) := by omega
        have p3 : (0 : Int) ≤ (i : Int) + 1 := by omega
        have p4 : (i : Int) + 1 ≤ (L : Int) := by omega
        have p5 : IntKind.i64.wrap ((i : Int) + 1) = (i : Int) + 1 := i64w _ (by omega) (by omega)
        have p6 : ((i : Int) + 1).toNat = i + 1 := by omega
        have p7 : (L : Int) ≤ (c : Int) := by omega
        have Hti : Hid ((l.take i).length = i) := by show _ = _; rw [List.length_take, HPL.out]; omega
        have Hdi : Hid ((l.drop (i + 1)).length = L - (i + 1)) := by show _ = _; rw [List.length_drop, HPL.out]
        have Hsm1 : Hid (([] : List Ck).length + (l.take i).length ≤ 1000000) := by show _ ≤ _; rw [Hti.out]; simp only [List.length_nil]; omega
        have Hsm2 : Hid ((l.take i).length + (l.drop (i + 1)).length ≤ 1000000) := by show _ ≤ _; rw [Hti.out, Hdi.out]; omega
        obtain ⟨n, hn⟩ : ∃ n, L - 1 = n := ⟨_, rfl⟩
        have HN : Hid ((l.take i ++ l.drop (i + 1)).length = n) := by show _ = _; rw [List.length_append, Hti.out, Hdi.out]; omega
        have hn2 : n ≤ 100 := by omega
        have HDS := hide (ds_of (l := l.take i ++ l.drop (i + 1)) (fun c hc => ds_all Hds.out c ((List.mem_append.1 hc).elim List.mem_of_mem_take List.mem_of_mem_drop)))
        clear hn
        have p8 : (i : Int) ≤ (i : Int) + 1 := by omega
        by_cases hci : c = i + 1
        · have HLD : Hid (LiesC w1 (some ⟨b, o, none⟩) (l.drop (i + 1))) := by
            show LiesC _ _ _
            rw [List.drop_eq_nil_of_le (by rw [HPL.out]; omega)]
            exact LiesC.nil _ _
          have Hd0 : Hid ((l.drop (i + 1)).length = 0) := by show _ = _; rw [Hdi.out]; omega
          subst hci
          refine wp_region_held_drew (S := fun W' => Fr (fun _ => False) w1 W') (by kernel_rfl) (by exact Fr.drew1 _ w1) (fun hHeld => ?_)
          obtain ⟨v0, hv0⟩ : ∃ W, W = w1.drew := ⟨_, rfl⟩
          rw [← hv0] at hHeld ⊢
          clear hv0
          refine wpAnyH_take (i := 1) (v := ?v1_1) rfl (by kernel_rfl) (by kernel_rfl) (by kernel_rfl) (fun _ _ _ h => h) (Or.inl ⟨by rfl, ?hy1_1⟩) hHeld ?rest1_1
          case hy1_1 => (intro W hSw; (try dsimp only at hSw); skip; go_simp; all_goals (with_reducible rfl))
          change wpAnyH _ _ _ _ _ _ _ (Act.put _ (some 55) _) _
          simp only [Act.put, List.setIfInBounds_toArray, List.set_cons_zero, List.set_cons_succ]
          refine wpAnyH_take (i := 2) (v := ?v2_1) rfl (by kernel_rfl) (by kernel_rfl) (by kernel_rfl) (fun _ _ _ h => h) (Or.inl ⟨by rfl, ?hy2_1⟩) hHeld ?rest2_1
          case hy2_1 => (intro W hSw; (try dsimp only at hSw); skip; go_simp; all_goals (with_reducible rfl))
          change wpAnyH _ _ _ _ _ _ _ (Act.put _ (some 56) _) _
          simp only [Act.put, List.setIfInBounds_toArray, List.set_cons_zero, List.set_cons_succ]
          refine wpAnyH_take (i := 5) (v := ?v5_1) rfl (by kernel_rfl) (by kernel_rfl) (by kernel_rfl) (fun _ _ _ h => h) (Or.inl ⟨by rfl, ?hy5_1⟩) hHeld ?rest5_1
          case hy5_1 => (intro W hSw; (try dsimp only at hSw); skip; go_simp; all_goals (with_reducible rfl))
          change wpAnyH _ _ _ _ _ _ _ (Act.put _ (some 59) _) _
          simp only [Act.put, List.setIfInBounds_toArray, List.set_cons_zero, List.set_cons_succ]
          refine wpAnyH_take (i := 6) (v := ?v6_1) rfl (by kernel_rfl) (by kernel_rfl) (by kernel_rfl) (fun _ _ _ h => h) (Or.inl ⟨by rfl, ?hy6_1⟩) hHeld ?rest6_1
          case hy6_1 => (intro W hSw; (try dsimp only at hSw); skip; go_simp; all_goals (with_reducible rfl))
          change wpAnyH _ _ _ _ _ _ _ (Act.put _ (some 60) _) _
          simp only [Act.put, List.setIfInBounds_toArray, List.set_cons_zero, List.set_cons_succ]
          refine wpAnyH_take (i := 3) (v := ?v3_2) rfl (by kernel_rfl) (by kernel_rfl) (by kernel_rfl) (fun _ _ _ h => h) (Or.inl ⟨by rfl, ?hy3_2⟩) hHeld ?rest3_2
          case hy3_2 => (intro W hSw; (try dsimp only at hSw); skip; go_simp; all_goals (with_reducible rfl))
          change wpAnyH _ _ _ _ _ _ _ (Act.put _ (some 57) _) _
          simp only [Act.put, List.setIfInBounds_toArray, List.set_cons_zero, List.set_cons_succ]
          refine wpAnyH_take (i := 7) (v := ?v7_2) rfl (by kernel_rfl) (by kernel_rfl) (by kernel_rfl) (fun _ _ _ h => h) (Or.inl ⟨by rfl, ?hy7_2⟩) hHeld ?rest7_2
          case hy7_2 => (intro W hSw; (try dsimp only at hSw); skip; go_simp; all_goals (with_reducible rfl))
          change wpAnyH _ _ _ _ _ _ _ (Act.put _ (some 61) _) _
          simp only [Act.put, List.setIfInBounds_toArray, List.set_cons_zero, List.set_cons_succ]
          refine wpAnyH_take (i := 8) (v := ?v8_3) rfl (by kernel_rfl) (by kernel_rfl) (by kernel_rfl) (fun _ _ _ h => h) (Or.inl ⟨by rfl, ?hy8_3⟩) hHeld ?rest8_3
          case hy8_3 => (intro W hSw; (try dsimp only at hSw); skip; go_simp; all_goals (with_reducible rfl))
          change wpAnyH _ _ _ _ _ _ _ (Act.put _ (some 62) _) _
          simp only [Act.put, List.setIfInBounds_toArray, List.set_cons_zero, List.set_cons_succ]
          refine wpAnyH_ready (rs := [0]) (by kernel_rfl) (by simp) ?_
          refine (AllReadyH.cons rfl (fun K hK => ?_) AllReadyH.nil)
          try simp only [List.getElem_toArray, List.getElem_cons_zero]
          go_simp
          obtain ⟨v1, hv1⟩ : ∃ W, W = v0.alloc (.cells #[] 44) := ⟨_, rfl⟩
          obtain ⟨E, hE⟩ : ∃ E, E = v0.heap.size := ⟨_, rfl⟩
          rw [← hv1, ← hE]
          have hF1 : Fr (fun _ => False) v0 v1 := by rw [hv1]; exact Fr.of_alloc _ _
          have hO1 : OwnC 44 v1 w1.heap.size (.slice (some ⟨E, 0, none⟩) 0 0) [] := by rw [hv1, hE]; exact OwnC.fresh v0 _ hHeld.size
          clear hv1
          refine hK.out _ _ (hHeld.join hF1) (fun hHeld => ?_)
          clear hK K
          refine wpAnyH_ready (rs := [4]) (by kernel_rfl) (by simp) ?_
          refine (AllReadyH.cons rfl (fun K hK => ?_) AllReadyH.nil)
          try simp only [List.getElem_toArray, List.getElem_cons_succ, List.getElem_cons_zero]
          rw [if_pos (by rfl)]
          refine wp_appCs _ _ rfl w1.heap.size (.slice (some ⟨E, 0, none⟩) 0 0) [] (by first | rfl | (rw [hE]; rfl)) hO1 ⟨b, o, none⟩ i _ rfl (l.take i) Hti.out.symm w1 (HL1.out.take i) hHeld (Nat.le_refl _) Hsm1.out hHeld.size ?_
          rintro r4 v2 hO2 hF2
          rw [List.nil_append] at hO2
          have hFF2 := fr_ownC hHeld hO1 (Nat.le_refl _) hF2
          refine hK.out _ _ hFF2 (fun hHeld => ?_)
          clear hK K
          refine wpAnyH_ready (rs := [9]) (by kernel_rfl) (by simp) ?_
          refine (AllReadyH.cons rfl (fun K hK => ?_) AllReadyH.nil)
          try simp only [List.getElem_toArray, List.getElem_cons_succ, List.getElem_cons_zero]
          rw [if_pos (by rfl)]
          refine wp_appCs _ _ rfl w1.heap.size r4 (l.take i) rfl hO2 ⟨b, o, none⟩ 0 _ rfl (l.drop (i + 1)) Hd0.out.symm w1 HLD.out hHeld (Nat.le_refl _) Hsm2.out hHeld.size ?_
          rintro r9 v3 hO3 hF3
          have hFF3 := fr_ownC hHeld hO2 (Nat.le_refl _) hF3
          refine hK.out _ _ hFF3 (fun hHeld => ?_)
          clear hK K
          refine wpAnyH_take (i := 10) (v := ?v10_4) rfl (by kernel_rfl) (by kernel_rfl) (by kernel_rfl) (fun _ _ _ h => h) (Or.inl ⟨by rfl, ?hy10_4⟩) hHeld ?rest10_4
          case hy10_4 => (intro W hSw; (try dsimp only at hSw); skip; go_simp; all_goals (with_reducible rfl))
          change wpAnyH _ _ _ _ _ _ _ (Act.put _ (some 7) _) _
          simp only [Act.put, List.setIfInBounds_toArray, List.set_cons_zero, List.set_cons_succ]
          refine wpAnyH_done (by kernel_rfl) ?_ _
          obtain ⟨⟨ra, rc, hrr, _⟩, _⟩ := hO3.form
          rw [HN.out] at hrr
          subst hrr
          have HLW := hide hO3.lies
          have HFW := hide (HF5.out.join hHeld)
          clear hHeld HF5
          have hbk := back_c ra (rc) (l.take i ++ l.drop (i + 1)) v3 HLW.out (by have := HN.out; omega) (fun i hi => Nat.le_trans (HDS.out i hi) (by decide))
          rw [HN.out] at hbk
          have HBK := hide hbk
          clear hbk
          go_wp2_with fail
          refine HBK.out.mono ?_
          rintro e u1 ⟨v, rfl, hob, hfb⟩
          obtain ⟨⟨ja, jc, hv, hjc, _⟩, _⟩ := hob.form
          rw [HN.out] at hv
          subst hv
          have HFU := hide (HFW.out.join hfb)
          have HLU := hide (HLW.out.keep hfb (fun _ _ h => h))
          have hoc := order_c ja jc (l.take i ++ l.drop (i + 1)) u1 hob.lies (by have := HN.out; omega) hjc
          rw [HN.out, order_same] at hoc
          have HOC := hide hoc
          clear hoc hob hfb hjc HBK HFW HLW
          go_wp2_with fail
          refine HOC.out.mono ?_
          rintro e u2 ⟨rfl, hf2⟩
          have hrc := rorder_c ra (rc) (l.take i ++ l.drop (i + 1)) u2 (HLU.out.keep hf2 (fun _ _ h => h)) (by have := HN.out; omega)
          rw [HN.out] at hrc
          have HRC := hide hrc
          have HFV := hide (HFU.out.join hf2)
          have hnc : Calls Try.prog 16 #[.slice none 0 0] u2 fun e w' => e = .returned (.int .i64 (orderE [])) ∧ Fr (fun _ => False) u2 w' := order_c none 0 [] u2 (LiesC.nil _ _) (by decide) (Nat.le_refl _)
          rw [order_nil] at hnc
          have HNC := hide hnc
          clear hrc hf2 hnc HFU HLU HOC
          generalize rorderE (l.take i ++ l.drop (i + 1)) = E at *
          go_wp2_with fail
          refine HRC.out.mono ?_
          rintro e u3 ⟨rfl, rfl⟩
          go_wp2_with fail
          refine HNC.out.mono ?_
          rintro e u4 ⟨rfl, hf4⟩
          have HFX := hide (HFV.out.join hf4)
          go_wp2
          go_ret
          exact ⟨rfl, HFX.out⟩
        · have HLD := hide (HL1.out.drop (i + 1))
          refine wp_region_held_drew (S := fun W' => Fr (fun _ => False) w1 W') (by kernel_rfl) (by exact Fr.drew1 _ w1) (fun hHeld => ?_)
          obtain ⟨v0, hv0⟩ : ∃ W, W = w1.drew := ⟨_, rfl⟩
          rw [← hv0] at hHeld ⊢
          clear hv0
          refine wpAnyH_take (i := 1) (v := ?v1_5) rfl (by kernel_rfl) (by kernel_rfl) (by kernel_rfl) (fun _ _ _ h => h) (Or.inl ⟨by rfl, ?hy1_5⟩) hHeld ?rest1_5
          case hy1_5 => (intro W hSw; (try dsimp only at hSw); skip; go_simp; all_goals (with_reducible rfl))
          change wpAnyH _ _ _ _ _ _ _ (Act.put _ (some 55) _) _
          simp only [Act.put, List.setIfInBounds_toArray, List.set_cons_zero, List.set_cons_succ]
          refine wpAnyH_take (i := 2) (v := ?v2_5) rfl (by kernel_rfl) (by kernel_rfl) (by kernel_rfl) (fun _ _ _ h => h) (Or.inl ⟨by rfl, ?hy2_5⟩) hHeld ?rest2_5
          case hy2_5 => (intro W hSw; (try dsimp only at hSw); skip; go_simp; all_goals (with_reducible rfl))
          change wpAnyH _ _ _ _ _ _ _ (Act.put _ (some 56) _) _
          simp only [Act.put, List.setIfInBounds_toArray, List.set_cons_zero, List.set_cons_succ]
          refine wpAnyH_take (i := 5) (v := ?v5_5) rfl (by kernel_rfl) (by kernel_rfl) (by kernel_rfl) (fun _ _ _ h => h) (Or.inl ⟨by rfl, ?hy5_5⟩) hHeld ?rest5_5
          case hy5_5 => (intro W hSw; (try dsimp only at hSw); skip; go_simp; all_goals (with_reducible rfl))
          change wpAnyH _ _ _ _ _ _ _ (Act.put _ (some 59) _) _
          simp only [Act.put, List.setIfInBounds_toArray, List.set_cons_zero, List.set_cons_succ]
          refine wpAnyH_take (i := 6) (v := ?v6_5) rfl (by kernel_rfl) (by kernel_rfl) (by kernel_rfl) (fun _ _ _ h => h) (Or.inl ⟨by rfl, ?hy6_5⟩) hHeld ?rest6_5
          case hy6_5 => (intro W hSw; (try dsimp only at hSw); skip; go_simp; all_goals (with_reducible rfl))
          change wpAnyH _ _ _ _ _ _ _ (Act.put _ (some 60) _) _
          simp only [Act.put, List.setIfInBounds_toArray, List.set_cons_zero, List.set_cons_succ]
          refine wpAnyH_take (i := 3) (v := ?v3_6) rfl (by kernel_rfl) (by kernel_rfl) (by kernel_rfl) (fun _ _ _ h => h) (Or.inl ⟨by rfl, ?hy3_6⟩) hHeld ?rest3_6
          case hy3_6 => (intro W hSw; (try dsimp only at hSw); skip; go_simp; all_goals (with_reducible rfl))
          change wpAnyH _ _ _ _ _ _ _ (Act.put _ (some 57) _) _
          simp only [Act.put, List.setIfInBounds_toArray, List.set_cons_zero, List.set_cons_succ]
          refine wpAnyH_take (i := 7) (v := ?v7_6) rfl (by kernel_rfl) (by kernel_rfl) (by kernel_rfl) (fun _ _ _ h => h) (Or.inl ⟨by rfl, ?hy7_6⟩) hHeld ?rest7_6
          case hy7_6 => (intro W hSw; (try dsimp only at hSw); skip; go_simp; all_goals (with_reducible rfl))
          change wpAnyH _ _ _ _ _ _ _ (Act.put _ (some 61) _) _
          simp only [Act.put, List.setIfInBounds_toArray, List.set_cons_zero, List.set_cons_succ]
          refine wpAnyH_take (i := 8) (v := ?v8_7) rfl (by kernel_rfl) (by kernel_rfl) (by kernel_rfl) (fun _ _ _ h => h) (Or.inl ⟨by rfl, ?hy8_7⟩) hHeld ?rest8_7
          case hy8_7 => (intro W hSw; (try dsimp only at hSw); skip; go_simp; all_goals (with_reducible rfl))
          change wpAnyH _ _ _ _ _ _ _ (Act.put _ (some 62) _) _
          simp only [Act.put, List.setIfInBounds_toArray, List.set_cons_zero, List.set_cons_succ]
          refine wpAnyH_ready (rs := [0]) (by kernel_rfl) (by simp) ?_
          refine (AllReadyH.cons rfl (fun K hK => ?_) AllReadyH.nil)
          try simp only [List.getElem_toArray, List.getElem_cons_zero]
          go_simp
          obtain ⟨v1, hv1⟩ : ∃ W, W = v0.alloc (.cells #[] 44) := ⟨_, rfl⟩
          obtain ⟨E, hE⟩ : ∃ E, E = v0.heap.size := ⟨_, rfl⟩
          rw [← hv1, ← hE]
          have hF1 : Fr (fun _ => False) v0 v1 := by rw [hv1]; exact Fr.of_alloc _ _
          have hO1 : OwnC 44 v1 w1.heap.size (.slice (some ⟨E, 0, none⟩) 0 0) [] := by rw [hv1, hE]; exact OwnC.fresh v0 _ hHeld.size
          clear hv1
          refine hK.out _ _ (hHeld.join hF1) (fun hHeld => ?_)
          clear hK K
          refine wpAnyH_ready (rs := [4]) (by kernel_rfl) (by simp) ?_
          refine (AllReadyH.cons rfl (fun K hK => ?_) AllReadyH.nil)
          try simp only [List.getElem_toArray, List.getElem_cons_succ, List.getElem_cons_zero]
          rw [if_pos (by rfl)]
          refine wp_appCs _ _ rfl w1.heap.size (.slice (some ⟨E, 0, none⟩) 0 0) [] (by first | rfl | (rw [hE]; rfl)) hO1 ⟨b, o, none⟩ i _ rfl (l.take i) Hti.out.symm w1 (HL1.out.take i) hHeld (Nat.le_refl _) Hsm1.out hHeld.size ?_
          rintro r4 v2 hO2 hF2
          rw [List.nil_append] at hO2
          have hFF2 := fr_ownC hHeld hO1 (Nat.le_refl _) hF2
          refine hK.out _ _ hFF2 (fun hHeld => ?_)
          clear hK K
          refine wpAnyH_ready (rs := [9]) (by kernel_rfl) (by simp) ?_
          refine (AllReadyH.cons rfl (fun K hK => ?_) AllReadyH.nil)
          try simp only [List.getElem_toArray, List.getElem_cons_succ, List.getElem_cons_zero]
          rw [if_pos (by rfl)]
          refine wp_appCs _ _ rfl w1.heap.size r4 (l.take i) rfl hO2 ⟨b, o + (i + 1) * 2, none⟩ (L - (i + 1)) _ rfl (l.drop (i + 1)) Hdi.out.symm w1 HLD.out hHeld (Nat.le_refl _) Hsm2.out hHeld.size ?_
          rintro r9 v3 hO3 hF3
          have hFF3 := fr_ownC hHeld hO2 (Nat.le_refl _) hF3
          refine hK.out _ _ hFF3 (fun hHeld => ?_)
          clear hK K
          refine wpAnyH_take (i := 10) (v := ?v10_8) rfl (by kernel_rfl) (by kernel_rfl) (by kernel_rfl) (fun _ _ _ h => h) (Or.inl ⟨by rfl, ?hy10_8⟩) hHeld ?rest10_8
          case hy10_8 => (intro W hSw; (try dsimp only at hSw); skip; go_simp; all_goals (with_reducible rfl))
          change wpAnyH _ _ _ _ _ _ _ (Act.put _ (some 7) _) _
          simp only [Act.put, List.setIfInBounds_toArray, List.set_cons_zero, List.set_cons_succ]
          refine wpAnyH_done (by kernel_rfl) ?_ _
          obtain ⟨⟨ra, rc, hrr, _⟩, _⟩ := hO3.form
          rw [HN.out] at hrr
          subst hrr
          have HLW := hide hO3.lies
          have HFW := hide (HF5.out.join hHeld)
          clear hHeld HF5
          have hbk := back_c ra (rc) (l.take i ++ l.drop (i + 1)) v3 HLW.out (by have := HN.out; omega) (fun i hi => Nat.le_trans (HDS.out i hi) (by decide))
          rw [HN.out] at hbk
          have HBK := hide hbk
          clear hbk
          go_wp2_with fail
          refine HBK.out.mono ?_
          rintro e u1 ⟨v, rfl, hob, hfb⟩
          obtain ⟨⟨ja, jc, hv, hjc, _⟩, _⟩ := hob.form
          rw [HN.out] at hv
          subst hv
          have HFU := hide (HFW.out.join hfb)
          have HLU := hide (HLW.out.keep hfb (fun _ _ h => h))
          have hoc := order_c ja jc (l.take i ++ l.drop (i + 1)) u1 hob.lies (by have := HN.out; omega) hjc
          rw [HN.out, order_same] at hoc
          have HOC := hide hoc
          clear hoc hob hfb hjc HBK HFW HLW
          go_wp2_with fail
          refine HOC.out.mono ?_
          rintro e u2 ⟨rfl, hf2⟩
          have hrc := rorder_c ra (rc) (l.take i ++ l.drop (i + 1)) u2 (HLU.out.keep hf2 (fun _ _ h => h)) (by have := HN.out; omega)
          rw [HN.out] at hrc
          have HRC := hide hrc
          have HFV := hide (HFU.out.join hf2)
          have hnc : Calls Try.prog 16 #[.slice none 0 0] u2 fun e w' => e = .returned (.int .i64 (orderE [])) ∧ Fr (fun _ => False) u2 w' := order_c none 0 [] u2 (LiesC.nil _ _) (by decide) (Nat.le_refl _)
          rw [order_nil] at hnc
          have HNC := hide hnc
          clear hrc hf2 hnc HFU HLU HOC
          generalize rorderE (l.take i ++ l.drop (i + 1)) = E at *
          go_wp2_with fail
          refine HRC.out.mono ?_
          rintro e u3 ⟨rfl, rfl⟩
          go_wp2_with fail
          refine HNC.out.mono ?_
          rintro e u4 ⟨rfl, hf4⟩
          have HFX := hide (HFV.out.join hf4)
          go_wp2
          go_ret
          exact ⟨rfl, HFX.out⟩
      | 2, _ =>
        go_upto_region 13 with fail
        clear c2 hzi hzt
        have p1 : (0 : Int) ≤ (i : Int) := by omega
        have p2 : (i : Int) ≤ (c : Int) := by omega
        have p3 : (0 : Int) ≤ (j : Int) := by omega
        have p4 : (j : Int) < (L : Int) := by omega
        have p5 : (i : Int) ≤ (L : Int) := by omega
        have p7 : (L : Int) ≤ (c : Int) := by omega
        have p8 : ¬ c = i := by omega
        have Hti : Hid ((l.take i).length = i) := by show _ = _; rw [List.length_take, HPL.out]; omega
        have Hdi : Hid ((l.drop i).length = L - i) := by show _ = _; rw [List.length_drop, HPL.out]
        obtain ⟨b', o', d, cap, hbo, hck⟩ := HL1.out j (by rw [HPL.out]; exact hjL)
        cases hbo
        have hmq : l.getD j default ∈ l := by rw [List.getD_eq_getElem?_getD, List.getElem?_eq_getElem (by rw [HPL.out]; exact hjL)]; exact List.getElem_mem _
        generalize l.getD j default = q at *
        obtain ⟨kj, ds⟩ := q
        have hcj1 : w1.cell? ⟨b, o + j * 2, none⟩ = some (.string kj) := hck.kind
        have hcj2 : w1.cell? ⟨b, o + j * 2 + 1, none⟩ = some (.slice d ds.length cap) := hck.data
        have Hdat := hide (fun (W : World) (v : Value) (m : List Ck) (h : OwnC 44 W w1.heap.size v m) (f : Fr (fun _ => False) w1 W) => dat_of hck h f)
        have HDS := hide (ds_of (l := l.take i ++ [(kj, ds)] ++ l.drop i) (fun c hc => ds_all Hds.out c ((List.mem_append.1 hc).elim (fun h => (List.mem_append.1 h).elim List.mem_of_mem_take (fun h => by rw [List.mem_singleton] at h; rw [h]; exact hmq)) List.mem_of_mem_drop)))
        have Hsm1 : Hid (([] : List Ck).length + (l.take i).length ≤ 1000000) := by show _ ≤ _; rw [Hti.out]; simp only [List.length_nil]; omega
        have Hsm3 : Hid ((l.take i).length ≤ 1000000) := by show _ ≤ _; rw [Hti.out]; omega
        have Hl3 : (l.take i ++ [(kj, ds)]).length = i + 1 := by rw [List.length_append, Hti.out]; rfl
        have Hsm2 : Hid ((l.take i ++ [(kj, ds)]).length + (l.drop i).length ≤ 1000000) := by show _ ≤ _; rw [Hl3, Hdi.out]; omega
        obtain ⟨n, hn⟩ : ∃ n, L + 1 = n := ⟨_, rfl⟩
        have HN : Hid ((l.take i ++ [(kj, ds)] ++ l.drop i).length = n) := by show _ = _; rw [List.length_append, Hl3, Hdi.out]; omega
        have hn2 : n ≤ 101 := by omega
        have HLD := hide (HL1.out.drop i)
        generalize hnj : ds.length = nj at *
        have HNj := hide hnj
        clear hn hck hmq hnj Hl3
        refine wp_region_held_drew (S := fun W' => Fr (fun _ => False) w1 W') (by kernel_rfl) (by exact Fr.drew1 _ w1) (fun hHeld => ?_)
        obtain ⟨v0, hv0⟩ : ∃ W, W = w1.drew := ⟨_, rfl⟩
        rw [← hv0] at hHeld ⊢
        clear hv0
        refine wpAnyH_take (i := 1) (v := ?v1_9) rfl (by kernel_rfl) (by kernel_rfl) (by kernel_rfl) (fun _ _ _ h => h) (Or.inl ⟨by rfl, ?hy1_9⟩) hHeld ?rest1_9
        case hy1_9 => (intro W hSw; (try dsimp only at hSw); have z1 := cell_fr hSw hcj1 (fun h => h); have z2 := cell_fr hSw hcj2 (fun h => h); go_simp; all_goals (with_reducible rfl))
        change wpAnyH _ _ _ _ _ _ _ (Act.put _ (some 67) _) _
        simp only [Act.put, List.setIfInBounds_toArray, List.set_cons_zero, List.set_cons_succ]
        refine wpAnyH_take (i := 2) (v := ?v2_9) rfl (by kernel_rfl) (by kernel_rfl) (by kernel_rfl) (fun _ _ _ h => h) (Or.inl ⟨by rfl, ?hy2_9⟩) hHeld ?rest2_9
        case hy2_9 => (intro W hSw; (try dsimp only at hSw); have z1 := cell_fr hSw hcj1 (fun h => h); have z2 := cell_fr hSw hcj2 (fun h => h); go_simp; all_goals (with_reducible rfl))
        change wpAnyH _ _ _ _ _ _ _ (Act.put _ (some 68) _) _
        simp only [Act.put, List.setIfInBounds_toArray, List.set_cons_zero, List.set_cons_succ]
        refine wpAnyH_take (i := 5) (v := ?v5_9) rfl (by kernel_rfl) (by kernel_rfl) (by kernel_rfl) (fun _ _ _ h => h) (Or.inl ⟨by rfl, ?hy5_9⟩) hHeld ?rest5_9
        case hy5_9 => (intro W hSw; (try dsimp only at hSw); have z1 := cell_fr hSw hcj1 (fun h => h); have z2 := cell_fr hSw hcj2 (fun h => h); go_simp; all_goals (with_reducible rfl))
        change wpAnyH _ _ _ _ _ _ _ (Act.put _ (some 71) _) _
        simp only [Act.put, List.setIfInBounds_toArray, List.set_cons_zero, List.set_cons_succ]
        refine wpAnyH_take (i := 6) (v := ?v6_9) rfl (by kernel_rfl) (by kernel_rfl) (by kernel_rfl) (fun _ _ _ h => h) (Or.inl ⟨by rfl, ?hy6_9⟩) hHeld ?rest6_9
        case hy6_9 => (intro W hSw; (try dsimp only at hSw); have z1 := cell_fr hSw hcj1 (fun h => h); have z2 := cell_fr hSw hcj2 (fun h => h); go_simp; all_goals (with_reducible rfl))
        change wpAnyH _ _ _ _ _ _ _ (Act.put _ (some 72) _) _
        simp only [Act.put, List.setIfInBounds_toArray, List.set_cons_zero, List.set_cons_succ]
        refine wpAnyH_take (i := 11) (v := ?v11_9) rfl (by kernel_rfl) (by kernel_rfl) (by kernel_rfl) (fun _ _ _ h => h) (Or.inl ⟨by rfl, ?hy11_9⟩) hHeld ?rest11_9
        case hy11_9 => (intro W hSw; (try dsimp only at hSw); have z1 := cell_fr hSw hcj1 (fun h => h); have z2 := cell_fr hSw hcj2 (fun h => h); go_simp; all_goals (with_reducible rfl))
        change wpAnyH _ _ _ _ _ _ _ (Act.put _ (some 77) _) _
        simp only [Act.put, List.setIfInBounds_toArray, List.set_cons_zero, List.set_cons_succ]
        refine wpAnyH_take (i := 12) (v := ?v12_9) rfl (by kernel_rfl) (by kernel_rfl) (by kernel_rfl) (fun _ _ _ h => h) (Or.inl ⟨by rfl, ?hy12_9⟩) hHeld ?rest12_9
        case hy12_9 => (intro W hSw; (try dsimp only at hSw); have z1 := cell_fr hSw hcj1 (fun h => h); have z2 := cell_fr hSw hcj2 (fun h => h); go_simp; all_goals (with_reducible rfl))
        change wpAnyH _ _ _ _ _ _ _ (Act.put _ (some 78) _) _
        simp only [Act.put, List.setIfInBounds_toArray, List.set_cons_zero, List.set_cons_succ]
        refine wpAnyH_take (i := 3) (v := ?v3_10) rfl (by kernel_rfl) (by kernel_rfl) (by kernel_rfl) (fun _ _ _ h => h) (Or.inl ⟨by rfl, ?hy3_10⟩) hHeld ?rest3_10
        case hy3_10 => (intro W hSw; (try dsimp only at hSw); have z1 := cell_fr hSw hcj1 (fun h => h); have z2 := cell_fr hSw hcj2 (fun h => h); go_simp; all_goals (with_reducible rfl))
        change wpAnyH _ _ _ _ _ _ _ (Act.put _ (some 69) _) _
        simp only [Act.put, List.setIfInBounds_toArray, List.set_cons_zero, List.set_cons_succ]
        refine wpAnyH_take (i := 7) (v := ?v7_10) rfl (by kernel_rfl) (by kernel_rfl) (by kernel_rfl) (fun _ _ _ h => h) (Or.inl ⟨by rfl, ?hy7_10⟩) hHeld ?rest7_10
        case hy7_10 => (intro W hSw; (try dsimp only at hSw); have z1 := cell_fr hSw hcj1 (fun h => h); have z2 := cell_fr hSw hcj2 (fun h => h); go_simp; all_goals (with_reducible rfl))
        change wpAnyH _ _ _ _ _ _ _ (Act.put _ (some 73) _) _
        simp only [Act.put, List.setIfInBounds_toArray, List.set_cons_zero, List.set_cons_succ]
        refine wpAnyH_take (i := 13) (v := ?v13_10) rfl (by kernel_rfl) (by kernel_rfl) (by kernel_rfl) (fun _ _ _ h => h) (Or.inl ⟨by rfl, ?hy13_10⟩) hHeld ?rest13_10
        case hy13_10 => (intro W hSw; (try dsimp only at hSw); have z1 := cell_fr hSw hcj1 (fun h => h); have z2 := cell_fr hSw hcj2 (fun h => h); go_simp; all_goals (with_reducible rfl))
        change wpAnyH _ _ _ _ _ _ _ (Act.put _ (some 79) _) _
        simp only [Act.put, List.setIfInBounds_toArray, List.set_cons_zero, List.set_cons_succ]
        refine wpAnyH_take (i := 8) (v := ?v8_11) rfl (by kernel_rfl) (by kernel_rfl) (by kernel_rfl) (fun _ _ _ h => h) (Or.inl ⟨by rfl, ?hy8_11⟩) hHeld ?rest8_11
        case hy8_11 => (intro W hSw; (try dsimp only at hSw); have z1 := cell_fr hSw hcj1 (fun h => h); have z2 := cell_fr hSw hcj2 (fun h => h); go_simp; all_goals (with_reducible rfl))
        change wpAnyH _ _ _ _ _ _ _ (Act.put _ (some 74) _) _
        simp only [Act.put, List.setIfInBounds_toArray, List.set_cons_zero, List.set_cons_succ]
        refine wpAnyH_ready (rs := [0, 9]) (by kernel_rfl) (by simp) ?_
        refine (AllReadyH.cons rfl (fun K hK => ?_) (AllReadyH.cons rfl (fun K hK => ?_) AllReadyH.nil))
        · skip
          try simp only [List.getElem_toArray, List.getElem_cons_zero]
          go_simp
          obtain ⟨v1, hv1⟩ : ∃ W, W = v0.alloc (.cells #[] 44) := ⟨_, rfl⟩
          obtain ⟨E, hE⟩ : ∃ E, E = v0.heap.size := ⟨_, rfl⟩
          rw [← hv1, ← hE]
          have hF1 : Fr (fun _ => False) v0 v1 := by rw [hv1]; exact Fr.of_alloc _ _
          have hO1 : OwnC 44 v1 w1.heap.size (.slice (some ⟨E, 0, none⟩) 0 0) [] := by rw [hv1, hE]; exact OwnC.fresh v0 _ hHeld.size
          have hElt : E < v1.heap.size := by rw [hv1, hE]; simp
          clear hv1
          refine hK.out _ _ (hHeld.join hF1) (fun hHeld => ?_)
          clear hK K
          refine wpAnyH_ready (rs := [4, 9]) (by kernel_rfl) (by simp) ?_
          refine (AllReadyH.cons rfl (fun K hK => ?_) (AllReadyH.cons rfl (fun K hK => ?_) AllReadyH.nil))
          · skip
            try simp only [List.getElem_toArray, List.getElem_cons_succ, List.getElem_cons_zero]
            rw [if_pos (by rfl)]
            refine wp_appCs _ _ rfl w1.heap.size (.slice (some ⟨E, 0, none⟩) 0 0) [] (by first | rfl | (rw [hE]; rfl)) hO1 ⟨b, o, none⟩ i _ rfl (l.take i) Hti.out.symm w1 (HL1.out.take i) hHeld (Nat.le_refl _) Hsm1.out hHeld.size ?_
            rintro r4 v2 hO2 hF2
            rw [List.nil_append] at hO2
            have hFF2 := fr_ownC hHeld hO1 (Nat.le_refl _) hF2
            refine hK.out _ _ hFF2 (fun hHeld => ?_)
            clear hK K
            refine wpAnyH_ready (rs := [9]) (by kernel_rfl) (by simp) ?_
            refine (AllReadyH.cons rfl (fun K hK => ?_) AllReadyH.nil)
            try simp only [List.getElem_toArray, List.getElem_cons_succ, List.getElem_cons_zero]
            go_simp
            obtain ⟨v3, hv3⟩ : ∃ W, W = v2.alloc (.cells #[.string kj, .slice d nj cap] 44) := ⟨_, rfl⟩
            obtain ⟨G, hG⟩ : ∃ G, G = v2.heap.size := ⟨_, rfl⟩
            rw [← hv3, ← hG]
            have hF3 : Fr (fun _ => False) v2 v3 := by rw [hv3]; exact Fr.of_alloc _ _
            have hGa3 : v3.cell? ⟨G, 0, none⟩ = some (.string kj) := by rw [hv3, hG]; simp only [World.cell?]; rw [heap_alloc_new]; rfl
            have hGb3 : v3.cell? ⟨G, 1, none⟩ = some (.slice d nj cap) := by rw [hv3, hG]; simp only [World.cell?]; rw [heap_alloc_new]; rfl
            have hO3 := hO2.keep hF3 (fun _ _ h => h)
            have hGlt : G < v3.heap.size := by rw [hv3, hG]; simp
            clear hv3
            refine hK.out _ _ (hHeld.join hF3) (fun hHeld => ?_)
            clear hK K
            refine wpAnyH_ready (rs := [10]) (by kernel_rfl) (by simp) ?_
            refine (AllReadyH.cons rfl (fun K hK => ?_) AllReadyH.nil)
            try simp only [List.getElem_toArray, List.getElem_cons_succ, List.getElem_cons_zero]
            rw [if_pos (by rfl)]
            refine wp_appC 44 28 Try.underlying28 Try.info44 _ _ rfl w1.heap.size r4 (l.take i) rfl hO3 ⟨G, 0, none⟩ 1 (by first | rfl | (rw [hG]; rfl)) (kj, ds) d cap (by rw [add_none]; exact hGa3) (show _ = some (Value.slice d ds.length cap) by rw [HNj.out, add_none]; exact hGb3) (Hdat.out _ _ _ hO3 hHeld) Hsm3.out hHeld.size ?_
            rintro r10 v4 hO4 hF4
            have hFF4 := fr_ownC hHeld hO3 (Nat.le_refl _) hF4
            refine hK.out _ _ hFF4 (fun hHeld => ?_)
            clear hK K
            refine wpAnyH_ready (rs := [14]) (by kernel_rfl) (by simp) ?_
            refine (AllReadyH.cons rfl (fun K hK => ?_) AllReadyH.nil)
            try simp only [List.getElem_toArray, List.getElem_cons_succ, List.getElem_cons_zero]
            rw [if_pos (by rfl)]
            refine wp_appCs _ _ rfl w1.heap.size r10 (l.take i ++ [(kj, ds)]) rfl hO4 ⟨b, o + i * 2, none⟩ (L - i) _ rfl (l.drop i) Hdi.out.symm w1 HLD.out hHeld (Nat.le_refl _) Hsm2.out hHeld.size ?_
            rintro r14 v5 hO5 hF5
            have hFF5 := fr_ownC hHeld hO4 (Nat.le_refl _) hF5
            refine hK.out _ _ hFF5 (fun hHeld => ?_)
            clear hK K
            refine wpAnyH_take (i := 15) (v := ?v15_12) rfl (by kernel_rfl) (by kernel_rfl) (by kernel_rfl) (fun _ _ _ h => h) (Or.inl ⟨by rfl, ?hy15_12⟩) hHeld ?rest15_12
            case hy15_12 => (intro W hSw; (try dsimp only at hSw); have z1 := cell_fr hSw hcj1 (fun h => h); have z2 := cell_fr hSw hcj2 (fun h => h); go_simp; all_goals (with_reducible rfl))
            change wpAnyH _ _ _ _ _ _ _ (Act.put _ (some 7) _) _
            simp only [Act.put, List.setIfInBounds_toArray, List.set_cons_zero, List.set_cons_succ]
            refine wpAnyH_done (by kernel_rfl) ?_ _
            obtain ⟨⟨ra, rc, hrr, _⟩, _⟩ := hO5.form
            rw [HN.out] at hrr
            subst hrr
            have HLW := hide hO5.lies
            have HFW := hide (HF5.out.join hHeld)
            clear hHeld HF5
            have hbk := back_c ra (rc) (l.take i ++ [(kj, ds)] ++ l.drop i) v5 HLW.out (by have := HN.out; omega) (fun i hi => Nat.le_trans (HDS.out i hi) (by decide))
            rw [HN.out] at hbk
            have HBK := hide hbk
            clear hbk
            go_wp2_with fail
            refine HBK.out.mono ?_
            rintro e u1 ⟨v, rfl, hob, hfb⟩
            obtain ⟨⟨ja, jc, hv, hjc, _⟩, _⟩ := hob.form
            rw [HN.out] at hv
            subst hv
            have HFU := hide (HFW.out.join hfb)
            have HLU := hide (HLW.out.keep hfb (fun _ _ h => h))
            have hoc := order_c ja jc (l.take i ++ [(kj, ds)] ++ l.drop i) u1 hob.lies (by have := HN.out; omega) hjc
            rw [HN.out, order_same] at hoc
            have HOC := hide hoc
            clear hoc hob hfb hjc HBK HFW HLW
            go_wp2_with fail
            refine HOC.out.mono ?_
            rintro e u2 ⟨rfl, hf2⟩
            have hrc := rorder_c ra (rc) (l.take i ++ [(kj, ds)] ++ l.drop i) u2 (HLU.out.keep hf2 (fun _ _ h => h)) (by have := HN.out; omega)
            rw [HN.out] at hrc
            have HRC := hide hrc
            have HFV := hide (HFU.out.join hf2)
            have hnc : Calls Try.prog 16 #[.slice none 0 0] u2 fun e w' => e = .returned (.int .i64 (orderE [])) ∧ Fr (fun _ => False) u2 w' := order_c none 0 [] u2 (LiesC.nil _ _) (by decide) (Nat.le_refl _)
            rw [order_nil] at hnc
            have HNC := hide hnc
            clear hrc hf2 hnc HFU HLU HOC
            generalize rorderE (l.take i ++ [(kj, ds)] ++ l.drop i) = E at *
            go_wp2_with fail
            refine HRC.out.mono ?_
            rintro e u3 ⟨rfl, rfl⟩
            go_wp2_with fail
            refine HNC.out.mono ?_
            rintro e u4 ⟨rfl, hf4⟩
            have HFX := hide (HFV.out.join hf4)
            go_wp2
            go_ret
            exact ⟨rfl, HFX.out⟩
          · skip
            try simp only [List.getElem_toArray, List.getElem_cons_succ, List.getElem_cons_zero]
            go_simp
            obtain ⟨v2, hv2⟩ : ∃ W, W = v1.alloc (.cells #[.string kj, .slice d nj cap] 44) := ⟨_, rfl⟩
            obtain ⟨G, hG⟩ : ∃ G, G = v1.heap.size := ⟨_, rfl⟩
            rw [← hv2, ← hG]
            have hF2 : Fr (fun _ => False) v1 v2 := by rw [hv2]; exact Fr.of_alloc _ _
            have hGa2 : v2.cell? ⟨G, 0, none⟩ = some (.string kj) := by rw [hv2, hG]; simp only [World.cell?]; rw [heap_alloc_new]; rfl
            have hGb2 : v2.cell? ⟨G, 1, none⟩ = some (.slice d nj cap) := by rw [hv2, hG]; simp only [World.cell?]; rw [heap_alloc_new]; rfl
            have hO2 := hO1.keep hF2 (fun _ _ h => h)
            have hEG : E ≠ G := fun e => by rw [← e] at hG; have := hElt; omega
            have hGlt : G < v2.heap.size := by rw [hv2, hG]; simp
            clear hv2
            refine hK.out _ _ (hHeld.join hF2) (fun hHeld => ?_)
            clear hK K
            refine wpAnyH_ready (rs := [4]) (by kernel_rfl) (by simp) ?_
            refine (AllReadyH.cons rfl (fun K hK => ?_) AllReadyH.nil)
            try simp only [List.getElem_toArray, List.getElem_cons_succ, List.getElem_cons_zero]
            rw [if_pos (by rfl)]
            refine wp_appCs _ _ rfl w1.heap.size (.slice (some ⟨E, 0, none⟩) 0 0) [] (by first | rfl | (rw [hE]; rfl)) hO2 ⟨b, o, none⟩ i _ rfl (l.take i) Hti.out.symm w1 (HL1.out.take i) hHeld (Nat.le_refl _) Hsm1.out hHeld.size ?_
            rintro r4 v3 hO3 hF3
            rw [List.nil_append] at hO3
            have hFF3 := fr_ownC hHeld hO2 (Nat.le_refl _) hF3
            have hGa3 := cell_fr hF3 hGa2 (fun e => hEG (by have e2 : some E = some G := e; exact Option.some.inj e2))
            have hGb3 := cell_fr hF3 hGb2 (fun e => hEG (by have e2 : some E = some G := e; exact Option.some.inj e2))
            refine hK.out _ _ hFF3 (fun hHeld => ?_)
            clear hK K
            refine wpAnyH_ready (rs := [10]) (by kernel_rfl) (by simp) ?_
            refine (AllReadyH.cons rfl (fun K hK => ?_) AllReadyH.nil)
            try simp only [List.getElem_toArray, List.getElem_cons_succ, List.getElem_cons_zero]
            rw [if_pos (by rfl)]
            refine wp_appC 44 28 Try.underlying28 Try.info44 _ _ rfl w1.heap.size r4 (l.take i) rfl hO3 ⟨G, 0, none⟩ 1 (by first | rfl | (rw [hG]; rfl)) (kj, ds) d cap (by rw [add_none]; exact hGa3) (show _ = some (Value.slice d ds.length cap) by rw [HNj.out, add_none]; exact hGb3) (Hdat.out _ _ _ hO3 hHeld) Hsm3.out hHeld.size ?_
            rintro r10 v4 hO4 hF4
            have hFF4 := fr_ownC hHeld hO3 (Nat.le_refl _) hF4
            refine hK.out _ _ hFF4 (fun hHeld => ?_)
            clear hK K
            refine wpAnyH_ready (rs := [14]) (by kernel_rfl) (by simp) ?_
            refine (AllReadyH.cons rfl (fun K hK => ?_) AllReadyH.nil)
            try simp only [List.getElem_toArray, List.getElem_cons_succ, List.getElem_cons_zero]
            rw [if_pos (by rfl)]
            refine wp_appCs _ _ rfl w1.heap.size r10 (l.take i ++ [(kj, ds)]) rfl hO4 ⟨b, o + i * 2, none⟩ (L - i) _ rfl (l.drop i) Hdi.out.symm w1 HLD.out hHeld (Nat.le_refl _) Hsm2.out hHeld.size ?_
            rintro r14 v5 hO5 hF5
            have hFF5 := fr_ownC hHeld hO4 (Nat.le_refl _) hF5
            refine hK.out _ _ hFF5 (fun hHeld => ?_)
            clear hK K
            refine wpAnyH_take (i := 15) (v := ?v15_13) rfl (by kernel_rfl) (by kernel_rfl) (by kernel_rfl) (fun _ _ _ h => h) (Or.inl ⟨by rfl, ?hy15_13⟩) hHeld ?rest15_13
            case hy15_13 => (intro W hSw; (try dsimp only at hSw); have z1 := cell_fr hSw hcj1 (fun h => h); have z2 := cell_fr hSw hcj2 (fun h => h); go_simp; all_goals (with_reducible rfl))
            change wpAnyH _ _ _ _ _ _ _ (Act.put _ (some 7) _) _
            simp only [Act.put, List.setIfInBounds_toArray, List.set_cons_zero, List.set_cons_succ]
            refine wpAnyH_done (by kernel_rfl) ?_ _
            obtain ⟨⟨ra, rc, hrr, _⟩, _⟩ := hO5.form
            rw [HN.out] at hrr
            subst hrr
            have HLW := hide hO5.lies
            have HFW := hide (HF5.out.join hHeld)
            clear hHeld HF5
            have hbk := back_c ra (rc) (l.take i ++ [(kj, ds)] ++ l.drop i) v5 HLW.out (by have := HN.out; omega) (fun i hi => Nat.le_trans (HDS.out i hi) (by decide))
            rw [HN.out] at hbk
            have HBK := hide hbk
            clear hbk
            go_wp2_with fail
            refine HBK.out.mono ?_
            rintro e u1 ⟨v, rfl, hob, hfb⟩
            obtain ⟨⟨ja, jc, hv, hjc, _⟩, _⟩ := hob.form
            rw [HN.out] at hv
            subst hv
            have HFU := hide (HFW.out.join hfb)
            have HLU := hide (HLW.out.keep hfb (fun _ _ h => h))
            have hoc := order_c ja jc (l.take i ++ [(kj, ds)] ++ l.drop i) u1 hob.lies (by have := HN.out; omega) hjc
            rw [HN.out, order_same] at hoc
            have HOC := hide hoc
            clear hoc hob hfb hjc HBK HFW HLW
            go_wp2_with fail
            refine HOC.out.mono ?_
            rintro e u2 ⟨rfl, hf2⟩
            have hrc := rorder_c ra (rc) (l.take i ++ [(kj, ds)] ++ l.drop i) u2 (HLU.out.keep hf2 (fun _ _ h => h)) (by have := HN.out; omega)
            rw [HN.out] at hrc
            have HRC := hide hrc
            have HFV := hide (HFU.out.join hf2)
            have hnc : Calls Try.prog 16 #[.slice none 0 0] u2 fun e w' => e = .returned (.int .i64 (orderE [])) ∧ Fr (fun _ => False) u2 w' := order_c none 0 [] u2 (LiesC.nil _ _) (by decide) (Nat.le_refl _)
            rw [order_nil] at hnc
            have HNC := hide hnc
            clear hrc hf2 hnc HFU HLU HOC
            generalize rorderE (l.take i ++ [(kj, ds)] ++ l.drop i) = E at *
            go_wp2_with fail
            refine HRC.out.mono ?_
            rintro e u3 ⟨rfl, rfl⟩
            go_wp2_with fail
            refine HNC.out.mono ?_
            rintro e u4 ⟨rfl, hf4⟩
            have HFX := hide (HFV.out.join hf4)
            go_wp2
            go_ret
            exact ⟨rfl, HFX.out⟩
        · skip
          try simp only [List.getElem_toArray, List.getElem_cons_succ, List.getElem_cons_zero]
          go_simp
          obtain ⟨v1, hv1⟩ : ∃ W, W = v0.alloc (.cells #[.string kj, .slice d nj cap] 44) := ⟨_, rfl⟩
          obtain ⟨G, hG⟩ : ∃ G, G = v0.heap.size := ⟨_, rfl⟩
          rw [← hv1, ← hG]
          have hF1 : Fr (fun _ => False) v0 v1 := by rw [hv1]; exact Fr.of_alloc _ _
          have hGa1 : v1.cell? ⟨G, 0, none⟩ = some (.string kj) := by rw [hv1, hG]; simp only [World.cell?]; rw [heap_alloc_new]; rfl
          have hGb1 : v1.cell? ⟨G, 1, none⟩ = some (.slice d nj cap) := by rw [hv1, hG]; simp only [World.cell?]; rw [heap_alloc_new]; rfl
          have hGlt : G < v1.heap.size := by rw [hv1, hG]; simp
          clear hv1
          refine hK.out _ _ (hHeld.join hF1) (fun hHeld => ?_)
          clear hK K
          refine wpAnyH_ready (rs := [0]) (by kernel_rfl) (by simp) ?_
          refine (AllReadyH.cons rfl (fun K hK => ?_) AllReadyH.nil)
          try simp only [List.getElem_toArray, List.getElem_cons_zero]
          go_simp
          obtain ⟨v2, hv2⟩ : ∃ W, W = v1.alloc (.cells #[] 44) := ⟨_, rfl⟩
          obtain ⟨E, hE⟩ : ∃ E, E = v1.heap.size := ⟨_, rfl⟩
          rw [← hv2, ← hE]
          have hF2 : Fr (fun _ => False) v1 v2 := by rw [hv2]; exact Fr.of_alloc _ _
          have hO2 : OwnC 44 v2 w1.heap.size (.slice (some ⟨E, 0, none⟩) 0 0) [] := by rw [hv2, hE]; exact OwnC.fresh v1 _ hHeld.size
          have hGa2 := cell_fr hF2 hGa1 (fun h => h)
          have hGb2 := cell_fr hF2 hGb1 (fun h => h)
          have hEG : E ≠ G := fun e => by rw [e] at hE; have := hGlt; omega
          have hElt : E < v2.heap.size := by rw [hv2, hE]; simp
          clear hv2
          refine hK.out _ _ (hHeld.join hF2) (fun hHeld => ?_)
          clear hK K
          refine wpAnyH_ready (rs := [4]) (by kernel_rfl) (by simp) ?_
          refine (AllReadyH.cons rfl (fun K hK => ?_) AllReadyH.nil)
          try simp only [List.getElem_toArray, List.getElem_cons_succ, List.getElem_cons_zero]
          rw [if_pos (by rfl)]
          refine wp_appCs _ _ rfl w1.heap.size (.slice (some ⟨E, 0, none⟩) 0 0) [] (by first | rfl | (rw [hE]; rfl)) hO2 ⟨b, o, none⟩ i _ rfl (l.take i) Hti.out.symm w1 (HL1.out.take i) hHeld (Nat.le_refl _) Hsm1.out hHeld.size ?_
          rintro r4 v3 hO3 hF3
          rw [List.nil_append] at hO3
          have hFF3 := fr_ownC hHeld hO2 (Nat.le_refl _) hF3
          have hGa3 := cell_fr hF3 hGa2 (fun e => hEG (by have e2 : some E = some G := e; exact Option.some.inj e2))
          have hGb3 := cell_fr hF3 hGb2 (fun e => hEG (by have e2 : some E = some G := e; exact Option.some.inj e2))
          refine hK.out _ _ hFF3 (fun hHeld => ?_)
          clear hK K
          refine wpAnyH_ready (rs := [10]) (by kernel_rfl) (by simp) ?_
          refine (AllReadyH.cons rfl (fun K hK => ?_) AllReadyH.nil)
          try simp only [List.getElem_toArray, List.getElem_cons_succ, List.getElem_cons_zero]
          rw [if_pos (by rfl)]
          refine wp_appC 44 28 Try.underlying28 Try.info44 _ _ rfl w1.heap.size r4 (l.take i) rfl hO3 ⟨G, 0, none⟩ 1 (by first | rfl | (rw [hG]; rfl)) (kj, ds) d cap (by rw [add_none]; exact hGa3) (show _ = some (Value.slice d ds.length cap) by rw [HNj.out, add_none]; exact hGb3) (Hdat.out _ _ _ hO3 hHeld) Hsm3.out hHeld.size ?_
          rintro r10 v4 hO4 hF4
          have hFF4 := fr_ownC hHeld hO3 (Nat.le_refl _) hF4
          refine hK.out _ _ hFF4 (fun hHeld => ?_)
          clear hK K
          refine wpAnyH_ready (rs := [14]) (by kernel_rfl) (by simp) ?_
          refine (AllReadyH.cons rfl (fun K hK => ?_) AllReadyH.nil)
          try simp only [List.getElem_toArray, List.getElem_cons_succ, List.getElem_cons_zero]
          rw [if_pos (by rfl)]
          refine wp_appCs _ _ rfl w1.heap.size r10 (l.take i ++ [(kj, ds)]) rfl hO4 ⟨b, o + i * 2, none⟩ (L - i) _ rfl (l.drop i) Hdi.out.symm w1 HLD.out hHeld (Nat.le_refl _) Hsm2.out hHeld.size ?_
          rintro r14 v5 hO5 hF5
          have hFF5 := fr_ownC hHeld hO4 (Nat.le_refl _) hF5
          refine hK.out _ _ hFF5 (fun hHeld => ?_)
          clear hK K
          refine wpAnyH_take (i := 15) (v := ?v15_14) rfl (by kernel_rfl) (by kernel_rfl) (by kernel_rfl) (fun _ _ _ h => h) (Or.inl ⟨by rfl, ?hy15_14⟩) hHeld ?rest15_14
          case hy15_14 => (intro W hSw; (try dsimp only at hSw); have z1 := cell_fr hSw hcj1 (fun h => h); have z2 := cell_fr hSw hcj2 (fun h => h); go_simp; all_goals (with_reducible rfl))
          change wpAnyH _ _ _ _ _ _ _ (Act.put _ (some 7) _) _
          simp only [Act.put, List.setIfInBounds_toArray, List.set_cons_zero, List.set_cons_succ]
          refine wpAnyH_done (by kernel_rfl) ?_ _
          obtain ⟨⟨ra, rc, hrr, _⟩, _⟩ := hO5.form
          rw [HN.out] at hrr
          subst hrr
          have HLW := hide hO5.lies
          have HFW := hide (HF5.out.join hHeld)
          clear hHeld HF5
          have hbk := back_c ra (rc) (l.take i ++ [(kj, ds)] ++ l.drop i) v5 HLW.out (by have := HN.out; omega) (fun i hi => Nat.le_trans (HDS.out i hi) (by decide))
          rw [HN.out] at hbk
          have HBK := hide hbk
          clear hbk
          go_wp2_with fail
          refine HBK.out.mono ?_
          rintro e u1 ⟨v, rfl, hob, hfb⟩
          obtain ⟨⟨ja, jc, hv, hjc, _⟩, _⟩ := hob.form
          rw [HN.out] at hv
          subst hv
          have HFU := hide (HFW.out.join hfb)
          have HLU := hide (HLW.out.keep hfb (fun _ _ h => h))
          have hoc := order_c ja jc (l.take i ++ [(kj, ds)] ++ l.drop i) u1 hob.lies (by have := HN.out; omega) hjc
          rw [HN.out, order_same] at hoc
          have HOC := hide hoc
          clear hoc hob hfb hjc HBK HFW HLW
          go_wp2_with fail
          refine HOC.out.mono ?_
          rintro e u2 ⟨rfl, hf2⟩
          have hrc := rorder_c ra (rc) (l.take i ++ [(kj, ds)] ++ l.drop i) u2 (HLU.out.keep hf2 (fun _ _ h => h)) (by have := HN.out; omega)
          rw [HN.out] at hrc
          have HRC := hide hrc
          have HFV := hide (HFU.out.join hf2)
          have hnc : Calls Try.prog 16 #[.slice none 0 0] u2 fun e w' => e = .returned (.int .i64 (orderE [])) ∧ Fr (fun _ => False) u2 w' := order_c none 0 [] u2 (LiesC.nil _ _) (by decide) (Nat.le_refl _)
          rw [order_nil] at hnc
          have HNC := hide hnc
          clear hrc hf2 hnc HFU HLU HOC
          generalize rorderE (l.take i ++ [(kj, ds)] ++ l.drop i) = E at *
          go_wp2_with fail
          refine HRC.out.mono ?_
          rintro e u3 ⟨rfl, rfl⟩
          go_wp2_with fail
          refine HNC.out.mono ?_
          rintro e u4 ⟨rfl, hf4⟩
          have HFX := hide (HFV.out.join hf4)
          go_wp2
          go_ret
          exact ⟨rfl, HFX.out⟩
      | 3, _ =>
        go_upto_region 14 with fail
        clear c2 hzi hzt
        have HLW := hide HO1.out.lies
        have HN := HPL
        have HDS := Hds
        have HFW := HF5
        clear HO1 HF5 HB5 HL1 Hl
        have hbk := back_c (some ⟨g, 0, none⟩) (vc) (l) w1 HLW.out (by have := HN.out; omega) (fun i hi => Nat.le_trans (HDS.out i hi) (by decide))
        rw [HN.out] at hbk
        have HBK := hide hbk
        clear hbk
        go_wp2_with fail
        refine HBK.out.mono ?_
        rintro e u1 ⟨v, rfl, hob, hfb⟩
        obtain ⟨⟨ja, jc, hv, hjc, _⟩, _⟩ := hob.form
        rw [HN.out] at hv
        subst hv
        have HFU := hide (HFW.out.join hfb)
        have HLU := hide (HLW.out.keep hfb (fun _ _ h => h))
        have hoc := order_c ja jc (l) u1 hob.lies (by have := HN.out; omega) hjc
        rw [HN.out, order_same] at hoc
        have HOC := hide hoc
        clear hoc hob hfb hjc HBK HFW HLW
        go_wp2_with fail
        refine HOC.out.mono ?_
        rintro e u2 ⟨rfl, hf2⟩
        have hrc := rorder_c (some ⟨g, 0, none⟩) (vc) (l) u2 (HLU.out.keep hf2 (fun _ _ h => h)) (by have := HN.out; omega)
        rw [HN.out] at hrc
        have HRC := hide hrc
        have HFV := hide (HFU.out.join hf2)
        have hnc : Calls Try.prog 16 #[.slice none 0 0] u2 fun e w' => e = .returned (.int .i64 (orderE [])) ∧ Fr (fun _ => False) u2 w' := order_c none 0 [] u2 (LiesC.nil _ _) (by decide) (Nat.le_refl _)
        rw [order_nil] at hnc
        have HNC := hide hnc
        clear hrc hf2 hnc HFU HLU HOC
        generalize rorderE (l) = E at *
        go_wp2_with fail
        refine HRC.out.mono ?_
        rintro e u3 ⟨rfl, rfl⟩
        go_wp2_with fail
        refine HNC.out.mono ?_
        rintro e u4 ⟨rfl, hf4⟩
        have HFX := hide (HFV.out.join hf4)
        go_wp2
        go_ret
        exact ⟨rfl, HFX.out⟩
end Go.Proofs.Ytflapcaaaipoeaa
