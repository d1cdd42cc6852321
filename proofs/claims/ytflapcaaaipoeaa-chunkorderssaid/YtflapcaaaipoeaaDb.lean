/-
  chunk: ChunkBack, walked.
-/
import Derived.Test.YtflapcaaaipoeaaDa
namespace Go.Proofs.Ytflapcaaaipoeaa
open Go.RowKit Go.Lib
set_option linter.unusedVariables false

theorem one_alloc (w : World) (b : Nat) (h : b < 256) : Lies (w.alloc (.cells #[.int .u8 (b : Int)] 5)) (some ⟨w.heap.size, 0, none⟩) [b] := by
  refine ⟨fun x hx => ?_, fun j hj => ⟨_, rfl, ?_⟩⟩
  · rw [List.mem_singleton] at hx; omega
  · rw [add_none]
    simp only [World.cell?]
    rw [heap_alloc_new]
    match j, hj with
    | 0, _ => rfl
theorem lies_ne {w w' : World} {S : Nat → Prop} {G : Nat} {bs : List Nat} (h : Lies w (some ⟨G, 0, none⟩) bs) (f : Fr S w w') (hS : ¬ S G) : Lies w' (some ⟨G, 0, none⟩) bs := by
  refine ⟨h.1, fun j hj => ?_⟩
  obtain ⟨ad, e, hc⟩ := h.2 j hj
  refine ⟨ad, e, cell_fr f hc ?_⟩
  cases e
  rw [add_block]
  exact hS

theorem lies_set {w : World} {D I xv : Nat} {bs : List Nat} {cs : Array Value} {T : TypeId} {fz : Nat × Nat} (h : Lies w (some ⟨D, 0, none⟩) bs) (hg : w.heap[D]? = some (.cells cs T fz)) (hI : I < bs.length) (hx : xv < 256) :
    Lies (w.setCell ⟨D, I, none⟩ (.int .u8 (xv : Int))) (some ⟨D, 0, none⟩) (bs.set I xv) := by
  refine ⟨fun b hb => ?_, fun j hj => ?_⟩
  · rcases List.mem_or_eq_of_mem_set hb with h1 | h1
    · exact h.1 b h1
    · rw [h1]; exact hx
  · rw [List.length_set] at hj
    obtain ⟨ad, e, hc⟩ := h.2 j hj
    refine ⟨ad, e, ?_⟩
    cases e
    rw [add_none, Nat.zero_add] at hc ⊢
    have hI2 := (h.2 I hI)
    obtain ⟨ad2, e2, hc2⟩ := hI2
    cases e2
    rw [add_none, Nat.zero_add] at hc2
    simp only [World.cell?, hg] at hc hc2
    simp only [World.cell?, heap_setCell_own _ hg]
    by_cases hji : j = I
    · subst hji
      have hlt : j < cs.size := by
        rcases Nat.lt_or_ge j cs.size with hlt | hge
        · exact hlt
        · simp [hge] at hc2
      simp [hlt, hj]
    · have hji' : ¬ I = j := fun h => hji h.symm
      simp [hji'] at hc ⊢
      exact hc

set_option maxHeartbeats 3200000 in
set_option maxRecDepth 20000 in
theorem back_law (a : Option Addr) (c : Nat) (l : List Ck) (x y : Nat) (w : World) (hl : LiesC w a l) (hlen : l.length ≤ 281474976710656) (hc : l.length ≤ c) (hx : x < 65536) (hy : y < 65536) :
    Calls Try.prog 5 #[.slice a l.length c, .agg #[.int .u16 (x : Int), .int .u16 (y : Int)]] w fun e w' => e = .returned (.bool true) ∧ Fr (fun _ => False) w w' := by
  have hb0 := heap_alloc_new w (Obj.cells #[.int .u16 (x : Int), .int .u16 (y : Int)] 46)
  have HB0 := hide hb0
  have HF0 := hide (Fr.of_alloc w (Obj.cells #[.int .u16 (x : Int), .int .u16 (y : Int)] 46))
  have Hl := hide hl
  have Hfew := hide (fun w hl => few_c a c l w hl hlen)
  clear hl hb0
  cases hfw : fewB l
  · rw [hfw] at Hfew
    go_enter Try.func5, Try.ntmps5
    go_wp2_with fail
    refine (awake_c _).mono ?_
    rintro e w1 ⟨rfl, hf1⟩
    have HF1 := hide (HF0.out.join hf1)
    clear hf1 HF0 HB0
    go_wp2_with fail
    refine (Hfew.out w1 (Hl.out.keep HF1.out (fun _ _ h => h))).mono ?_
    rintro e w2 ⟨rfl, hf2⟩
    go_wp2
    go_ret
    exact ⟨rfl, HF1.out.join hf2⟩
  · rw [hfw] at Hfew
    obtain ⟨h100, hfn, hds⟩ := few_data hfw
    have Hds := hide hds
    have Hsz := hide (size_in l h100 hfn)
    clear hfw hds hfn
    go_enter Try.func5, Try.ntmps5
    go_wp2_with fail
    refine (awake_c _).mono ?_
    rintro e w1 ⟨rfl, hf1⟩
    have HF1 := hide (HF0.out.join hf1)
    have HB1 := hide ((hf1.block _ (lt_of HB0.out) (fun h => h)).trans HB0.out)
    clear hf1 HF0 HB0
    go_wp2_with fail
    refine (Hfew.out w1 (Hl.out.keep HF1.out (fun _ _ h => h))).mono ?_
    rintro e w2 ⟨rfl, hf2⟩
    have HF2 := hide (HF1.out.join hf2)
    have HB2 := hide ((hf2.block _ (lt_of HB1.out) (fun h => h)).trans HB1.out)
    have hb2 : Hid (w.heap.size < w2.heap.size) := lt_of HB2.out
    clear hf2 HF1 HB1 Hfew
    go_wp2_with fail
    go_loopw [5, 6] (fun ov iv wr => ∃ (k : Nat) (va : Option Addr) (vc : Nat), k ≤ l.length ∧ iv = .int .i64 k ∧ ov = .slice va (noEnd (l.take k)).length vc ∧ OwnC 44 wr w2.heap.size (.slice va (noEnd (l.take k)).length vc) (noEnd (l.take k)) ∧ Fr (fun _ => False) w2 wr) (fun _ iv _ => l.length - (intOf iv).toNat)
    case atStart => exact ⟨0, none, 0, by omega, rfl, rfl, OwnC.nil _ _ _, Fr.refl _ _⟩
    case round =>
      obtain ⟨k, va, vc, hkl, rfl, rfl, ho, hf⟩ := hrel
      by_cases hlt : k < l.length
      · obtain ⟨b, o, d, cap, rfl, hck⟩ := Hl.out k hlt
        have h0 : (0 : Int) ≤ (k : Int) := by omega
        have h1 : (k : Int) < (l.length : Int) := by omega
        have hc1 := cell_fr (HF2.out.join hf) hck.kind (fun h => h)
        have hc2 := cell_fr (HF2.out.join hf) hck.data (fun h => h)
        have HNE := hide (noEnd_snoc l k hlt)
        have HL := hide hck.lies
        have Hnil := hide hck.nil
        have Hks := hide hck.size
        have Hln := hide hck.len
        have Hsp := hide hck.sp
        have HO := hide ho
        have HF := hide hf
        clear hck ho hf
        generalize l.getD k default = q at *
        obtain ⟨kd, ds⟩ := q
        simp only [] at hc1 hc2
        by_cases he : kd = sIend
        · have hbe : (kd.toList == [73, 69, 78, 68]) = true := by rw [eqL]; exact decide_eq_true he
          have HN : Hid (noEnd (l.take (k + 1)) = noEnd (l.take k)) := by show _ = _; rw [HNE.out, if_pos he]
          clear he HNE
          go_wp2
          go_roundw
          case rel => exact ⟨k + 1, va, vc, hlt, by go_num, by rw [HN.out], by rw [HN.out]; exact HO.out, HF.out⟩
          case measure => simp [intOf]; omega
        · have hbe : (kd.toList == [73, 69, 78, 68]) = false := by rw [eqL]; exact decide_eq_false he
          have HN : Hid (noEnd (l.take (k + 1)) = noEnd (l.take k) ++ [(kd, ds)]) := by show _ = _; rw [HNE.out, if_neg he]
          have hnl : (noEnd (l.take k)).length ≤ 100 := by have := noEnd_len (l.take k); rw [List.length_take] at this; omega
          clear he HNE
          generalize noEnd (l.take k) = nk at *
          obtain ⟨n, hn⟩ : ∃ n, ds.length = n := ⟨_, rfl⟩
          have Hn := hide hn
          rw [hn] at hc2
          clear hn
          have hA := heap_alloc_new wr (Obj.cells #[.string kd, .slice d n cap] 44)
          have HF3 := hide (HF.out.join (Fr.of_alloc wr (Obj.cells #[.string kd, .slice d n cap] 44)))
          have HO3 := hide (HO.out.keep (Fr.of_alloc wr (Obj.cells #[.string kd, .slice d n cap] 44)) (fun _ _ h => h))
          have hc70 : (wr.alloc (Obj.cells #[.string kd, .slice d n cap] 44)).cell? ((⟨wr.heap.size, 0, none⟩ : Addr).add 0) = some (.string ((kd, ds) : Ck).1) := by
            rw [add_none]; simp only [World.cell?]; rw [hA]; rfl
          have hc71 : (wr.alloc (Obj.cells #[.string kd, .slice d n cap] 44)).cell? ((⟨wr.heap.size, 0, none⟩ : Addr).add 1) = some (.slice d ((kd, ds) : Ck).2.length cap) := by
            rw [add_none]; simp only [World.cell?]; rw [hA, show ((kd, ds) : Ck).2.length = n from Hn.out]; rfl
          have hdat : Dat (wr.alloc (Obj.cells #[.string kd, .slice d n cap] 44)) (.slice va nk.length vc) (kd, ds) d cap := ⟨HL.out.keep (HF2.out.join HF3.out) (fun _ _ h => h), Hnil.out, Hks.out, Hln.out, Hsp.out, fun h0 ad' e hb => by
            obtain ⟨ad2, e2, hcell⟩ := HL.out.2 0 h0
            rw [e] at e2
            cases e2
            have hlt := World.block_lt_of_cell? w _ hcell
            rw [add_block] at hlt
            have := (HO.out.form.2 _ hb).1
            have := hb2.out
            omega⟩
          have Hc70 := hide hc70
          have Hc71 := hide hc71
          have HDT := hide hdat
          have hl1 : Hid (nk.length ≤ 1000000) := by show _ ≤ _; omega
          have hb1 : Hid (w2.heap.size ≤ (wr.alloc (Obj.cells #[.string kd, .slice d n cap] 44)).heap.size) := HF3.out.size
          clear hA hc70 hc71 hdat
          go_wp2_with (at_builtin; go_must (refine wpList_appC 44 28 Try.underlying28 Try.info44 rfl _ _ rfl w2.heap.size _ nk rfl HO3.out ⟨wr.heap.size, 0, none⟩ 1 rfl (kd, ds) d cap Hc70.out Hc71.out HDT.out hl1.out hb1.out ?_); intro v7 w7 ho7 hf7)
          have HF7 := hide (fr_ownC HF3.out HO3.out (Nat.le_refl _) hf7)
          obtain ⟨⟨va', vc', hv7, _⟩, _⟩ := ho7.form
          subst hv7
          go_roundw
          case rel => exact ⟨k + 1, va', vc', hlt, by go_num, by rw [HN.out], by rw [HN.out]; exact ho7, HF7.out⟩
          case measure => simp [intOf]; omega
      · have hke : k = l.length := by omega
        subst hke
        rw [List.take_length] at ho ⊢
        have HO := hide ho
        have HF := hide hf
        clear ho hf
        have hnl := noEnd_len l
        have hA := heap_alloc_new wr (Obj.cells #[.string ⟨#[73, 69, 78, 68]⟩, .slice none 0 0] 44)
        have HF3 := hide (HF.out.join (Fr.of_alloc wr (Obj.cells #[.string ⟨#[73, 69, 78, 68]⟩, .slice none 0 0] 44)))
        have HO3 := hide (HO.out.keep (Fr.of_alloc wr (Obj.cells #[.string ⟨#[73, 69, 78, 68]⟩, .slice none 0 0] 44)) (fun _ _ h => h))
        have hc70 : (wr.alloc (Obj.cells #[.string ⟨#[73, 69, 78, 68]⟩, .slice none 0 0] 44)).cell? ((⟨wr.heap.size, 0, none⟩ : Addr).add 0) = some (.string ((sIend, []) : Ck).1) := by
          rw [add_none]; simp only [World.cell?]; rw [hA]; rfl
        have hc71 : (wr.alloc (Obj.cells #[.string ⟨#[73, 69, 78, 68]⟩, .slice none 0 0] 44)).cell? ((⟨wr.heap.size, 0, none⟩ : Addr).add 1) = some (.slice none ((sIend, []) : Ck).2.length 0) := by
          rw [add_none]; simp only [World.cell?]; rw [hA]; rfl
        have hdat : Dat (wr.alloc (Obj.cells #[.string ⟨#[73, 69, 78, 68]⟩, .slice none 0 0] 44)) (.slice va (noEnd l).length vc) (sIend, []) none 0 := ⟨Lies.nil _ _, fun _ => ⟨rfl, rfl⟩, by decide, by decide, by decide, fun h0 => absurd h0 (by decide)⟩
        have Hc70 := hide hc70
        have Hc71 := hide hc71
        have HDT := hide hdat
        have hl1 : Hid ((noEnd l).length ≤ 1000000) := by show _ ≤ _; omega
        have hb1 : Hid (w2.heap.size ≤ (wr.alloc (Obj.cells #[.string ⟨#[73, 69, 78, 68]⟩, .slice none 0 0] 44)).heap.size) := HF3.out.size
        clear hA hc70 hc71 hdat
        go_upto_region 12 with (at_builtin; go_must (refine wpList_appC 44 28 Try.underlying28 Try.info44 rfl _ _ rfl w2.heap.size _ (noEnd l) rfl HO3.out ⟨wr.heap.size, 0, none⟩ 1 rfl (sIend, []) none 0 Hc70.out Hc71.out HDT.out hl1.out hb1.out ?_); intro v7 w7 ho7 hf7)
        have HF7 := hide (HF2.out.join (fr_ownC HF3.out HO3.out (Nat.le_refl _) hf7))
        have HF27 := hide (fr_ownC HF3.out HO3.out (Nat.le_refl _) hf7)
        obtain ⟨⟨ia, ic, hv7, _⟩, _⟩ := ho7.form
        subst hv7
        have hin : noEnd l ++ [(sIend, [])] = inL l := rfl
        rw [hin] at ho7 ⊢
        have HIn := hide ho7.lies
        have hil : (inL l).length ≤ 101 := by rw [← hin, List.length_append]; simp only [List.length_cons, List.length_nil]; omega
        have HB7 := hide ((HF27.out.block _ (lt_of HB2.out) (fun h => h)).trans HB2.out)
        have Hids : Hid (∀ i, i < (inL l).length → ((inL l).getD i default).2.length ≤ 9000) := by
          show ∀ i, _
          intro i hi
          have hm : (inL l).getD i default ∈ inL l := by rw [List.getD_eq_getElem?_getD, List.getElem?_eq_getElem hi]; exact List.getElem_mem hi
          rw [← hin] at hm
          rcases List.mem_append.1 hm with h | h
          · obtain ⟨j, hj, e⟩ := mem_getD (noEnd_mem h).1
            rw [← hin, ← e]; exact Hds.out j hj
          · rw [List.mem_singleton] at h
            rw [← hin, h]; exact Nat.zero_le _
        clear HO3 HF3 Hc70 Hc71 HDT hl1 hb1 ho7 hf7 HO HF HF2 HB2 hin hnl
        have Hback := hide (back_c ia ic (inL l) w7 HIn.out (by omega) (fun i hi => Nat.le_trans (Hids.out i hi) (by decide)))
        go_wp2_with fail
        refine Hback.out.mono ?_
        rintro e w8 ⟨v, rfl, ho8, hf8⟩
        obtain ⟨⟨ja, jc, hx8, _⟩, _⟩ := ho8.form
        subst hx8
        have HF8 := hide (HF7.out.join hf8)
        have HIn8 := hide (HIn.out.keep hf8 (fun _ _ h => h))
        have HB8 := hide ((hf8.block _ (lt_of HB7.out) (fun h => h)).trans HB7.out)
        have HJ := hide (join_c ja jc (inL l) w8 ho8.lies (by omega))
        clear ho8 hf8 HF7 HF27 HIn HB7 Hback
        go_wp2_with fail
        refine HJ.out.mono ?_
        rintro e w9 ⟨hout, hf9⟩
        have HF9 := hide (HF8.out.join hf9)
        have HIn9 := hide (HIn8.out.keep hf9 (fun _ _ h => h))
        have HB9 := hide ((hf9.block _ (lt_of HB8.out) (fun h => h)).trans HB8.out)
        clear hf9 HF8 HIn8 HB8 HJ
        cases hkk : kindsB (inL l)
        · have hjv : joinV (inL l) = .error 1 := by unfold joinV; rw [if_pos hkk]
          unfold JoinOut at hout
          rw [hjv] at hout
          subst hout
          go_wp2
          go_ret
          exact ⟨rfl, HF9.out⟩
        · have hjv : joinV (inL l) = .ok (pl (inL l) (inL l).length) := by
            unfold joinV; rw [if_neg (by rw [hkk]; simp), if_pos (by have := Hsz.out; omega)]
          unfold JoinOut at hout
          rw [hjv] at hout
          obtain ⟨v, rfl, ho⟩ := hout
          have hg : ∀ c ∈ inL l, GoodC c := good_in hkk fun i hi => by
            obtain ⟨b, o, d, cap, _, hck⟩ := Hl.out i hi
            exact ⟨hck.lies.1, Hds.out i hi⟩
          have hpn : (pl (inL l) (inL l).length).length ≤ 20000 := by
            rw [pl_length hkk _ (Nat.le_refl _), List.take_length]; exact Hsz.out
          have hpos4 : 8 ≤ (pl (inL l) (inL l).length).length := by rw [pl_length hkk _ (Nat.le_refl _), List.take_length]; unfold sizeL; omega
          have hpos : 0 < (pl (inL l) (inL l).length).length := by omega
          have hsm := ho.small
          have HCY := hide (cut_yes hg (ends_in l) (by omega))
          have HC4 := hide (cut_more (x % 256) hg (ends_in l) (by omega))
          have HC2 := hide (fun m (hm : m < (pl (inL l) (inL l).length).length) => cut_take hg (ends_in l) (by omega) hm)
          have HC5 := hide (fun j v (hj : j < 4) (hv : v < 256) hne => cut_turned (v := v) (j := j) hg (by omega) hj hv hne)
          obtain ⟨ba, bc, hv, hbc, hbn, _⟩ := ho.form
          subst hv
          have hcap := ho.cap
          have HBL := hide ho.lies
          clear ho hg hjv
          generalize pl (inL l) (inL l).length = P at *
          obtain ⟨N, hN⟩ : ∃ N, P.length = N := ⟨_, rfl⟩
          have HPN := hide hN
          have HCU := hide (cut_c ba bc P w9 HBL.out hbc hcap)
          rw [hN] at HCU hpn hpos hpos4 hbc ⊢
          have HN8 := hide hpos4
          clear hpos4
          have HBn := hide hbn
          have hP63 : ([] : List Nat).length + P.length ≤ 140737488355328 := by rw [hN, List.length_nil]; omega
          have hP64 : P.length + [x % 256].length ≤ 140737488355328 := by rw [hN]; simp only [List.length_cons, List.length_nil]; omega
          have hPX : (P ++ [x % 256]).length = N + 1 := by rw [List.length_append, hN]; rfl
          have HP63 := hide hP63
          have HP64 := hide hP64
          have HPX := hide hPX
          have Hsm := hide hsm
          clear hN hbn hP63 hP64 hPX hsm
          go_wp2_with fail
          refine HCU.out.mono ?_
          rintro e w10 ⟨hout, hf10⟩
          unfold CutOut at hout
          rw [HCY.out] at hout
          obtain ⟨v, rfl, hoc⟩ := hout
          obtain ⟨⟨ca, cc, hv, _, _, _⟩, _⟩ := hoc.form
          subst hv
          have HCL := hide hoc.lies
          have HF10 := hide (HF9.out.join hf10)
          have HIn10 := hide (HIn9.out.keep hf10 (fun _ _ h => h))
          have HB10 := hide ((hf10.block _ (lt_of HB9.out) (fun h => h)).trans HB9.out)
          have HBL9 := HBL
          have HBL := hide (HBL9.out.keep hf10 (fun _ _ h => h))
          clear hoc hf10 HF9 HIn9 HB9 HCU HBL9 HCY
          have c0 : w10.cell? ⟨w.heap.size, 0, none⟩ = some (.int .u16 (x : Int)) := cell_of HB10.out (o := 0) rfl
          have c1 : w10.cell? ⟨w.heap.size, 1, none⟩ = some (.int .u16 (y : Int)) := cell_of HB10.out (o := 1) rfl
          obtain ⟨xb, hxe⟩ : ∃ xb, x % 256 = xb := ⟨_, rfl⟩
          have hxb : xb < 256 := by omega
          have hxw : IntKind.u8.wrap (x : Int) = (xb : Int) := u8w x xb hxe
          rw [hxe] at HC4 HP64 HPX
          clear hxe
          go_upto_region 16 with fail
          go_cut [11, 12] from 61 to 72 (fun _ hv wx => hv = .int .i64 4 ∧ Fr (fun _ => False) w10 wx)
          case first =>
            refine wp_region_held_drew (S := fun W' => Fr (fun _ => False) w10 W') (by kernel_rfl) (by exact Fr.drew1 _ w10) (fun hHeld => ?_)
            obtain ⟨v0, hv0⟩ : ∃ W, W = w10.drew := ⟨_, rfl⟩
            rw [← hv0] at hHeld ⊢
            clear hv0
            refine wpAnyH_take (i := 1) (v := ?v1_1) rfl (by kernel_rfl) (by kernel_rfl) (by kernel_rfl) (fun _ _ _ h => h) (Or.inl ⟨by rfl, ?hy1_1⟩) hHeld ?rest1_1
            case hy1_1 => (intro W hSw; (try dsimp only at hSw); have z0 := cell_fr hSw c0 (fun h => h); go_simp; all_goals (with_reducible rfl))
            change wpAnyH _ _ _ _ _ _ _ (Act.put _ (some 63) _) _
            simp only [Act.put, List.setIfInBounds_toArray, List.set_cons_zero, List.set_cons_succ]
            refine wpAnyH_take (i := 3) (v := ?v3_1) rfl (by kernel_rfl) (by kernel_rfl) (by kernel_rfl) (fun _ _ _ h => h) (Or.inl ⟨by rfl, ?hy3_1⟩) hHeld ?rest3_1
            case hy3_1 => (intro W hSw; (try dsimp only at hSw); have z0 := cell_fr hSw c0 (fun h => h); go_simp; all_goals (with_reducible rfl))
            change wpAnyH _ _ _ _ _ _ _ (Act.put _ (some 65) _) _
            simp only [Act.put, List.setIfInBounds_toArray, List.set_cons_zero, List.set_cons_succ]
            refine wpAnyH_take (i := 4) (v := ?v4_2) rfl (by kernel_rfl) (by kernel_rfl) (by kernel_rfl) (fun _ _ _ h => h) (Or.inl ⟨by rfl, ?hy4_2⟩) hHeld ?rest4_2
            case hy4_2 => (intro W hSw; (try dsimp only at hSw); have z0 := cell_fr hSw c0 (fun h => h); go_simp; all_goals (with_reducible rfl))
            change wpAnyH _ _ _ _ _ _ _ (Act.put _ (some 66) _) _
            simp only [Act.put, List.setIfInBounds_toArray, List.set_cons_zero, List.set_cons_succ]
            refine wpAnyH_take (i := 5) (v := ?v5_3) rfl (by kernel_rfl) (by kernel_rfl) (by kernel_rfl) (fun _ _ _ h => h) (Or.inl ⟨by rfl, ?hy5_3⟩) hHeld ?rest5_3
            case hy5_3 => (intro W hSw; (try dsimp only at hSw); have z0 := cell_fr hSw c0 (fun h => h); go_simp; all_goals (with_reducible rfl))
            change wpAnyH _ _ _ _ _ _ _ (Act.put _ (some 67) _) _
            simp only [Act.put, List.setIfInBounds_toArray, List.set_cons_zero, List.set_cons_succ]
            refine wpAnyH_ready (rs := [0, 6]) (by kernel_rfl) (by simp) ?_
            refine (AllReadyH.cons rfl (fun K hK => ?_) (AllReadyH.cons rfl (fun K hK => ?_) AllReadyH.nil))
            · skip
              try simp only [List.getElem_toArray, List.getElem_cons_zero]
              go_simp
              obtain ⟨v1, hv1⟩ : ∃ W, W = v0.alloc (.cells #[] 5) := ⟨_, rfl⟩
              obtain ⟨E, hE⟩ : ∃ E, E = v0.heap.size := ⟨_, rfl⟩
              rw [← hv1, ← hE]
              have hF1 : Fr (fun _ => False) v0 v1 := by rw [hv1]; exact Fr.of_alloc _ _
              have hO1 : OwnB v1 w10.heap.size (.slice (some ⟨E, 0, none⟩) 0 0) [] := by rw [hv1, hE]; exact (OwnB.fresh v0 0 (Nat.zero_le _) #[] rfl).base hHeld.size
              have hElt : E < v1.heap.size := by rw [hv1, hE]; simp
              clear hv1
              refine hK.out _ _ (hHeld.join hF1) (fun hHeld => ?_)
              clear hK K
              refine wpAnyH_ready (rs := [2, 6]) (by kernel_rfl) (by simp) ?_
              refine (AllReadyH.cons rfl (fun K hK => ?_) (AllReadyH.cons rfl (fun K hK => ?_) AllReadyH.nil))
              · skip
                try simp only [List.getElem_toArray, List.getElem_cons_succ, List.getElem_cons_zero]
                rw [if_pos (by rfl)]
                refine wp_appBn _ _ rfl w10.heap.size (.slice (some ⟨E, 0, none⟩) 0 0) [] (by first | rfl | (rw [hE]; rfl)) hO1 ba N bc P rfl HPN.out.symm (HBL.out.keep hHeld (fun _ _ h => h)) (fun h => HBn.out h) HP63.out hHeld.size ?_
                rintro r2 v2 hO2 hF2
                rw [List.nil_append] at hO2
                have hFF2 := fr_own hHeld hO1 (Nat.le_refl _) hF2
                refine hK.out _ _ hFF2 (fun hHeld => ?_)
                clear hK K
                refine wpAnyH_ready (rs := [6]) (by kernel_rfl) (by simp) ?_
                refine (AllReadyH.cons rfl (fun K hK => ?_) AllReadyH.nil)
                try simp only [List.getElem_toArray, List.getElem_cons_succ, List.getElem_cons_zero]
                go_simp
                obtain ⟨v3, hv3⟩ : ∃ W, W = v2.alloc (.cells #[.int .u8 (xb : Int)] 5) := ⟨_, rfl⟩
                obtain ⟨G, hG⟩ : ∃ G, G = v2.heap.size := ⟨_, rfl⟩
                rw [← hv3, ← hG]
                have hF3 : Fr (fun _ => False) v2 v3 := by rw [hv3]; exact Fr.of_alloc _ _
                have hG3 : Lies v3 (some ⟨G, 0, none⟩) [xb] := by rw [hv3, hG]; exact one_alloc v2 xb hxb
                have hO3 := hO2.keep hF3 (fun _ _ h => h)
                have hGlt : G < v3.heap.size := by rw [hv3, hG]; simp
                clear hv3
                refine hK.out _ _ (hHeld.join hF3) (fun hHeld => ?_)
                clear hK K
                refine wpAnyH_ready (rs := [7]) (by kernel_rfl) (by simp) ?_
                refine (AllReadyH.cons rfl (fun K hK => ?_) AllReadyH.nil)
                try simp only [List.getElem_toArray, List.getElem_cons_succ, List.getElem_cons_zero]
                rw [if_pos (by rfl)]
                refine wp_appBn _ _ rfl w10.heap.size r2 P rfl hO3 (some ⟨G, 0, none⟩) 1 1 [xb] (by first | rfl | (rw [hG]; rfl)) rfl hG3 (fun h => by cases h) HP64.out hHeld.size ?_
                rintro r7 v4 hO4 hF4
                have hFF4 := fr_own hHeld hO3 (Nat.le_refl _) hF4
                obtain ⟨ra, rc, hr7, hrc, _, _⟩ := hO4.form
                rw [HPX.out] at hr7 hrc
                subst hr7
                have hcm7 := hO4.cap
                refine hK.out _ _ hFF4 (fun hHeld => ?_)
                clear hK K
                refine wpAnyH_ready (rs := [8]) (by kernel_rfl) (by simp) ?_
                refine (AllReadyH.cons rfl (fun K hK => ?_) AllReadyH.nil)
                try simp only [List.getElem_toArray, List.getElem_cons_succ, List.getElem_cons_zero]
                go_simp
                have hct := cut_c ra rc (P ++ [xb]) v4 hO4.lies (by rw [HPX.out]; exact hrc) hcm7
                rw [HPX.out] at hct
                refine hct.mono ?_
                rintro e v5 ⟨hout, hF5⟩
                unfold CutOut at hout
                rw [HC4.out] at hout
                subst hout
                refine hK.out _ _ (hHeld.join hF5) (fun hHeld => ?_)
                clear hK K
                refine wpAnyH_take (i := 9) (v := ?v9_4) rfl (by kernel_rfl) (by kernel_rfl) (by kernel_rfl) (fun _ _ _ h => h) (Or.inl ⟨by rfl, ?hy9_4⟩) hHeld ?rest9_4
                case hy9_4 => (intro W hSw; (try dsimp only at hSw); have z0 := cell_fr hSw c0 (fun h => h); go_simp; all_goals (with_reducible rfl))
                change wpAnyH _ _ _ _ _ _ _ (Act.put _ (some 61) _) _
                simp only [Act.put, List.setIfInBounds_toArray, List.set_cons_zero, List.set_cons_succ]
                refine wpAnyH_take (i := 10) (v := ?v10_5) rfl (by kernel_rfl) (by kernel_rfl) (by kernel_rfl) (fun _ _ _ h => h) (Or.inl ⟨by rfl, ?hy10_5⟩) hHeld ?rest10_5
                case hy10_5 => (intro W hSw; (try dsimp only at hSw); have z0 := cell_fr hSw c0 (fun h => h); go_simp; all_goals (with_reducible rfl))
                change wpAnyH _ _ _ _ _ _ _ (Act.put _ (some 71) _) _
                simp only [Act.put, List.setIfInBounds_toArray, List.set_cons_zero, List.set_cons_succ]
                refine wpAnyH_take (i := 11) (v := ?v11_5) rfl (by kernel_rfl) (by kernel_rfl) (by kernel_rfl) (fun _ _ _ h => h) (Or.inl ⟨by rfl, ?hy11_5⟩) hHeld ?rest11_5
                case hy11_5 => (intro W hSw; (try dsimp only at hSw); have z0 := cell_fr hSw c0 (fun h => h); go_simp; all_goals (with_reducible rfl))
                change wpAnyH _ _ _ _ _ _ _ (Act.put _ (some 72) _) _
                simp only [Act.put, List.setIfInBounds_toArray, List.set_cons_zero, List.set_cons_succ]
                refine wpAnyH_take (i := 12) (v := ?v12_6) rfl (by kernel_rfl) (by kernel_rfl) (by kernel_rfl) (fun _ _ _ h => h) (Or.inl ⟨by rfl, ?hy12_6⟩) hHeld ?rest12_6
                case hy12_6 => (intro W hSw; (try dsimp only at hSw); have z0 := cell_fr hSw c0 (fun h => h); go_simp; all_goals (with_reducible rfl))
                change wpAnyH _ _ _ _ _ _ _ (Act.put _ (some 11) _) _
                simp only [Act.put, List.setIfInBounds_toArray, List.set_cons_zero, List.set_cons_succ]
                refine wpAnyH_take (i := 13) (v := ?v13_6) rfl (by kernel_rfl) (by kernel_rfl) (by kernel_rfl) (fun _ _ _ h => h) (Or.inl ⟨by rfl, ?hy13_6⟩) hHeld ?rest13_6
                case hy13_6 => (intro W hSw; (try dsimp only at hSw); have z0 := cell_fr hSw c0 (fun h => h); go_simp; all_goals (with_reducible rfl))
                change wpAnyH _ _ _ _ _ _ _ (Act.put _ (some 12) _) _
                simp only [Act.put, List.setIfInBounds_toArray, List.set_cons_zero, List.set_cons_succ]
                refine wpAnyH_done (by kernel_rfl) ?_ _
                go_wp2_with fail
                go_meet
                case rel => exact ⟨rfl, hHeld⟩
              · skip
                try simp only [List.getElem_toArray, List.getElem_cons_succ, List.getElem_cons_zero]
                go_simp
                obtain ⟨v2, hv2⟩ : ∃ W, W = v1.alloc (.cells #[.int .u8 (xb : Int)] 5) := ⟨_, rfl⟩
                obtain ⟨G, hG⟩ : ∃ G, G = v1.heap.size := ⟨_, rfl⟩
                rw [← hv2, ← hG]
                have hF2 : Fr (fun _ => False) v1 v2 := by rw [hv2]; exact Fr.of_alloc _ _
                have hG2 : Lies v2 (some ⟨G, 0, none⟩) [xb] := by rw [hv2, hG]; exact one_alloc v1 xb hxb
                have hO2 := hO1.keep hF2 (fun _ _ h => h)
                have hEG : E ≠ G := fun e => by rw [← e] at hG; have := hElt; omega
                have hGlt : G < v2.heap.size := by rw [hv2, hG]; simp
                clear hv2
                refine hK.out _ _ (hHeld.join hF2) (fun hHeld => ?_)
                clear hK K
                refine wpAnyH_ready (rs := [2]) (by kernel_rfl) (by simp) ?_
                refine (AllReadyH.cons rfl (fun K hK => ?_) AllReadyH.nil)
                try simp only [List.getElem_toArray, List.getElem_cons_succ, List.getElem_cons_zero]
                rw [if_pos (by rfl)]
                refine wp_appBn _ _ rfl w10.heap.size (.slice (some ⟨E, 0, none⟩) 0 0) [] (by first | rfl | (rw [hE]; rfl)) hO2 ba N bc P rfl HPN.out.symm (HBL.out.keep hHeld (fun _ _ h => h)) (fun h => HBn.out h) HP63.out hHeld.size ?_
                rintro r2 v3 hO3 hF3
                rw [List.nil_append] at hO3
                have hFF3 := fr_own hHeld hO2 (Nat.le_refl _) hF3
                have hG3 : Lies v3 (some ⟨G, 0, none⟩) [xb] := lies_ne hG2 hF3 (fun e => hEG (by have e2 : some E = some G := e; exact Option.some.inj e2))
                refine hK.out _ _ hFF3 (fun hHeld => ?_)
                clear hK K
                refine wpAnyH_ready (rs := [7]) (by kernel_rfl) (by simp) ?_
                refine (AllReadyH.cons rfl (fun K hK => ?_) AllReadyH.nil)
                try simp only [List.getElem_toArray, List.getElem_cons_succ, List.getElem_cons_zero]
                rw [if_pos (by rfl)]
                refine wp_appBn _ _ rfl w10.heap.size r2 P rfl hO3 (some ⟨G, 0, none⟩) 1 1 [xb] (by first | rfl | (rw [hG]; rfl)) rfl hG3 (fun h => by cases h) HP64.out hHeld.size ?_
                rintro r7 v4 hO4 hF4
                have hFF4 := fr_own hHeld hO3 (Nat.le_refl _) hF4
                obtain ⟨ra, rc, hr7, hrc, _, _⟩ := hO4.form
                rw [HPX.out] at hr7 hrc
                subst hr7
                have hcm7 := hO4.cap
                refine hK.out _ _ hFF4 (fun hHeld => ?_)
                clear hK K
                refine wpAnyH_ready (rs := [8]) (by kernel_rfl) (by simp) ?_
                refine (AllReadyH.cons rfl (fun K hK => ?_) AllReadyH.nil)
                try simp only [List.getElem_toArray, List.getElem_cons_succ, List.getElem_cons_zero]
                go_simp
                have hct := cut_c ra rc (P ++ [xb]) v4 hO4.lies (by rw [HPX.out]; exact hrc) hcm7
                rw [HPX.out] at hct
                refine hct.mono ?_
                rintro e v5 ⟨hout, hF5⟩
                unfold CutOut at hout
                rw [HC4.out] at hout
                subst hout
                refine hK.out _ _ (hHeld.join hF5) (fun hHeld => ?_)
                clear hK K
                refine wpAnyH_take (i := 9) (v := ?v9_7) rfl (by kernel_rfl) (by kernel_rfl) (by kernel_rfl) (fun _ _ _ h => h) (Or.inl ⟨by rfl, ?hy9_7⟩) hHeld ?rest9_7
                case hy9_7 => (intro W hSw; (try dsimp only at hSw); have z0 := cell_fr hSw c0 (fun h => h); go_simp; all_goals (with_reducible rfl))
                change wpAnyH _ _ _ _ _ _ _ (Act.put _ (some 61) _) _
                simp only [Act.put, List.setIfInBounds_toArray, List.set_cons_zero, List.set_cons_succ]
                refine wpAnyH_take (i := 10) (v := ?v10_8) rfl (by kernel_rfl) (by kernel_rfl) (by kernel_rfl) (fun _ _ _ h => h) (Or.inl ⟨by rfl, ?hy10_8⟩) hHeld ?rest10_8
                case hy10_8 => (intro W hSw; (try dsimp only at hSw); have z0 := cell_fr hSw c0 (fun h => h); go_simp; all_goals (with_reducible rfl))
                change wpAnyH _ _ _ _ _ _ _ (Act.put _ (some 71) _) _
                simp only [Act.put, List.setIfInBounds_toArray, List.set_cons_zero, List.set_cons_succ]
                refine wpAnyH_take (i := 11) (v := ?v11_8) rfl (by kernel_rfl) (by kernel_rfl) (by kernel_rfl) (fun _ _ _ h => h) (Or.inl ⟨by rfl, ?hy11_8⟩) hHeld ?rest11_8
                case hy11_8 => (intro W hSw; (try dsimp only at hSw); have z0 := cell_fr hSw c0 (fun h => h); go_simp; all_goals (with_reducible rfl))
                change wpAnyH _ _ _ _ _ _ _ (Act.put _ (some 72) _) _
                simp only [Act.put, List.setIfInBounds_toArray, List.set_cons_zero, List.set_cons_succ]
                refine wpAnyH_take (i := 12) (v := ?v12_9) rfl (by kernel_rfl) (by kernel_rfl) (by kernel_rfl) (fun _ _ _ h => h) (Or.inl ⟨by rfl, ?hy12_9⟩) hHeld ?rest12_9
                case hy12_9 => (intro W hSw; (try dsimp only at hSw); have z0 := cell_fr hSw c0 (fun h => h); go_simp; all_goals (with_reducible rfl))
                change wpAnyH _ _ _ _ _ _ _ (Act.put _ (some 11) _) _
                simp only [Act.put, List.setIfInBounds_toArray, List.set_cons_zero, List.set_cons_succ]
                refine wpAnyH_take (i := 13) (v := ?v13_9) rfl (by kernel_rfl) (by kernel_rfl) (by kernel_rfl) (fun _ _ _ h => h) (Or.inl ⟨by rfl, ?hy13_9⟩) hHeld ?rest13_9
                case hy13_9 => (intro W hSw; (try dsimp only at hSw); have z0 := cell_fr hSw c0 (fun h => h); go_simp; all_goals (with_reducible rfl))
                change wpAnyH _ _ _ _ _ _ _ (Act.put _ (some 12) _) _
                simp only [Act.put, List.setIfInBounds_toArray, List.set_cons_zero, List.set_cons_succ]
                refine wpAnyH_done (by kernel_rfl) ?_ _
                go_wp2_with fail
                go_meet
                case rel => exact ⟨rfl, hHeld⟩
            · skip
              try simp only [List.getElem_toArray, List.getElem_cons_succ, List.getElem_cons_zero]
              go_simp
              obtain ⟨v1, hv1⟩ : ∃ W, W = v0.alloc (.cells #[.int .u8 (xb : Int)] 5) := ⟨_, rfl⟩
              obtain ⟨G, hG⟩ : ∃ G, G = v0.heap.size := ⟨_, rfl⟩
              rw [← hv1, ← hG]
              have hF1 : Fr (fun _ => False) v0 v1 := by rw [hv1]; exact Fr.of_alloc _ _
              have hG1 : Lies v1 (some ⟨G, 0, none⟩) [xb] := by rw [hv1, hG]; exact one_alloc v0 xb hxb
              have hGlt : G < v1.heap.size := by rw [hv1, hG]; simp
              clear hv1
              refine hK.out _ _ (hHeld.join hF1) (fun hHeld => ?_)
              clear hK K
              refine wpAnyH_ready (rs := [0]) (by kernel_rfl) (by simp) ?_
              refine (AllReadyH.cons rfl (fun K hK => ?_) AllReadyH.nil)
              try simp only [List.getElem_toArray, List.getElem_cons_zero]
              go_simp
              obtain ⟨v2, hv2⟩ : ∃ W, W = v1.alloc (.cells #[] 5) := ⟨_, rfl⟩
              obtain ⟨E, hE⟩ : ∃ E, E = v1.heap.size := ⟨_, rfl⟩
              rw [← hv2, ← hE]
              have hF2 : Fr (fun _ => False) v1 v2 := by rw [hv2]; exact Fr.of_alloc _ _
              have hO2 : OwnB v2 w10.heap.size (.slice (some ⟨E, 0, none⟩) 0 0) [] := by rw [hv2, hE]; exact (OwnB.fresh v1 0 (Nat.zero_le _) #[] rfl).base hHeld.size
              have hG2 := hG1.keep hF2 (fun _ _ h => h)
              have hEG : E ≠ G := fun e => by rw [e] at hE; have := hGlt; omega
              have hElt : E < v2.heap.size := by rw [hv2, hE]; simp
              clear hv2
              refine hK.out _ _ (hHeld.join hF2) (fun hHeld => ?_)
              clear hK K
              refine wpAnyH_ready (rs := [2]) (by kernel_rfl) (by simp) ?_
              refine (AllReadyH.cons rfl (fun K hK => ?_) AllReadyH.nil)
              try simp only [List.getElem_toArray, List.getElem_cons_succ, List.getElem_cons_zero]
              rw [if_pos (by rfl)]
              refine wp_appBn _ _ rfl w10.heap.size (.slice (some ⟨E, 0, none⟩) 0 0) [] (by first | rfl | (rw [hE]; rfl)) hO2 ba N bc P rfl HPN.out.symm (HBL.out.keep hHeld (fun _ _ h => h)) (fun h => HBn.out h) HP63.out hHeld.size ?_
              rintro r2 v3 hO3 hF3
              rw [List.nil_append] at hO3
              have hFF3 := fr_own hHeld hO2 (Nat.le_refl _) hF3
              have hG3 : Lies v3 (some ⟨G, 0, none⟩) [xb] := lies_ne hG2 hF3 (fun e => hEG (by have e2 : some E = some G := e; exact Option.some.inj e2))
              refine hK.out _ _ hFF3 (fun hHeld => ?_)
              clear hK K
              refine wpAnyH_ready (rs := [7]) (by kernel_rfl) (by simp) ?_
              refine (AllReadyH.cons rfl (fun K hK => ?_) AllReadyH.nil)
              try simp only [List.getElem_toArray, List.getElem_cons_succ, List.getElem_cons_zero]
              rw [if_pos (by rfl)]
              refine wp_appBn _ _ rfl w10.heap.size r2 P rfl hO3 (some ⟨G, 0, none⟩) 1 1 [xb] (by first | rfl | (rw [hG]; rfl)) rfl hG3 (fun h => by cases h) HP64.out hHeld.size ?_
              rintro r7 v4 hO4 hF4
              have hFF4 := fr_own hHeld hO3 (Nat.le_refl _) hF4
              obtain ⟨ra, rc, hr7, hrc, _, _⟩ := hO4.form
              rw [HPX.out] at hr7 hrc
              subst hr7
              have hcm7 := hO4.cap
              refine hK.out _ _ hFF4 (fun hHeld => ?_)
              clear hK K
              refine wpAnyH_ready (rs := [8]) (by kernel_rfl) (by simp) ?_
              refine (AllReadyH.cons rfl (fun K hK => ?_) AllReadyH.nil)
              try simp only [List.getElem_toArray, List.getElem_cons_succ, List.getElem_cons_zero]
              go_simp
              have hct := cut_c ra rc (P ++ [xb]) v4 hO4.lies (by rw [HPX.out]; exact hrc) hcm7
              rw [HPX.out] at hct
              refine hct.mono ?_
              rintro e v5 ⟨hout, hF5⟩
              unfold CutOut at hout
              rw [HC4.out] at hout
              subst hout
              refine hK.out _ _ (hHeld.join hF5) (fun hHeld => ?_)
              clear hK K
              refine wpAnyH_take (i := 9) (v := ?v9_10) rfl (by kernel_rfl) (by kernel_rfl) (by kernel_rfl) (fun _ _ _ h => h) (Or.inl ⟨by rfl, ?hy9_10⟩) hHeld ?rest9_10
              case hy9_10 => (intro W hSw; (try dsimp only at hSw); have z0 := cell_fr hSw c0 (fun h => h); go_simp; all_goals (with_reducible rfl))
              change wpAnyH _ _ _ _ _ _ _ (Act.put _ (some 61) _) _
              simp only [Act.put, List.setIfInBounds_toArray, List.set_cons_zero, List.set_cons_succ]
              refine wpAnyH_take (i := 10) (v := ?v10_11) rfl (by kernel_rfl) (by kernel_rfl) (by kernel_rfl) (fun _ _ _ h => h) (Or.inl ⟨by rfl, ?hy10_11⟩) hHeld ?rest10_11
              case hy10_11 => (intro W hSw; (try dsimp only at hSw); have z0 := cell_fr hSw c0 (fun h => h); go_simp; all_goals (with_reducible rfl))
              change wpAnyH _ _ _ _ _ _ _ (Act.put _ (some 71) _) _
              simp only [Act.put, List.setIfInBounds_toArray, List.set_cons_zero, List.set_cons_succ]
              refine wpAnyH_take (i := 11) (v := ?v11_11) rfl (by kernel_rfl) (by kernel_rfl) (by kernel_rfl) (fun _ _ _ h => h) (Or.inl ⟨by rfl, ?hy11_11⟩) hHeld ?rest11_11
              case hy11_11 => (intro W hSw; (try dsimp only at hSw); have z0 := cell_fr hSw c0 (fun h => h); go_simp; all_goals (with_reducible rfl))
              change wpAnyH _ _ _ _ _ _ _ (Act.put _ (some 72) _) _
              simp only [Act.put, List.setIfInBounds_toArray, List.set_cons_zero, List.set_cons_succ]
              refine wpAnyH_take (i := 12) (v := ?v12_12) rfl (by kernel_rfl) (by kernel_rfl) (by kernel_rfl) (fun _ _ _ h => h) (Or.inl ⟨by rfl, ?hy12_12⟩) hHeld ?rest12_12
              case hy12_12 => (intro W hSw; (try dsimp only at hSw); have z0 := cell_fr hSw c0 (fun h => h); go_simp; all_goals (with_reducible rfl))
              change wpAnyH _ _ _ _ _ _ _ (Act.put _ (some 11) _) _
              simp only [Act.put, List.setIfInBounds_toArray, List.set_cons_zero, List.set_cons_succ]
              refine wpAnyH_take (i := 13) (v := ?v13_12) rfl (by kernel_rfl) (by kernel_rfl) (by kernel_rfl) (fun _ _ _ h => h) (Or.inl ⟨by rfl, ?hy13_12⟩) hHeld ?rest13_12
              case hy13_12 => (intro W hSw; (try dsimp only at hSw); have z0 := cell_fr hSw c0 (fun h => h); go_simp; all_goals (with_reducible rfl))
              change wpAnyH _ _ _ _ _ _ _ (Act.put _ (some 12) _) _
              simp only [Act.put, List.setIfInBounds_toArray, List.set_cons_zero, List.set_cons_succ]
              refine wpAnyH_done (by kernel_rfl) ?_ _
              go_wp2_with fail
              go_meet
              case rel => exact ⟨rfl, hHeld⟩
          case rest =>
            obtain ⟨rfl, hfc⟩ := hcut
            have HF11 := hide (HF10.out.join hfc)
            have HIn11 := hide (HIn10.out.keep hfc (fun _ _ h => h))
            have HCL11 := hide (HCL.out.keep hfc (fun _ _ h => h))
            have HBL11 := hide (HBL.out.keep hfc (fun _ _ h => h))
            have HB11 := hide ((hfc.block _ (lt_of HB10.out) (fun h => h)).trans HB10.out)
            obtain ⟨m, hm⟩ : ∃ m, x % N = m := ⟨_, rfl⟩
            have hmN : m < N := by rw [← hm]; exact Nat.mod_lt _ hpos
            have htl : (P.take m).length = m := by rw [List.length_take, HPN.out]; omega
            have hct := cut_c ba bc (P.take m) wc (HBL11.out.take m) (by rw [htl]; omega) hcap
            rw [htl] at hct
            have HCT := hide hct
            have HV2 := hide (HC2.out m (by rw [HPN.out]; exact hmN))
            have e1 : (x : Int) % (N : Int) = (m : Int) := by rw [← hm]; rfl
            have e2 : (x : Int).tmod (N : Int) = (m : Int) := by rw [← hm]; rfl
            have hN0 : ¬ N = 0 := by omega
            have hNi : ((N : Int) == 0) = false := by simp; omega
            have hmi : (m : Int) ≤ (bc : Int) := by omega
            have hm0 : (0 : Int) ≤ (m : Int) := by omega
            have d0 := cell_of HB11.out (o := 0) rfl
            have Hm := hide hm
            clear hfc HF10 HIn10 HCL HBL HB10 c0 c1 hct htl hm HC2
            have Hcap := hide hcap
            clear hcap
            go_upto_region 17 with fail
            go_wp2_with fail
            refine HCT.out.mono ?_
            rintro e w12 ⟨hout, hf12⟩
            unfold CutOut at hout
            rw [HV2.out] at hout
            subst hout
            have HF12 := hide (HF11.out.join hf12)
            have HIn12 := hide (HIn11.out.keep hf12 (fun _ _ h => h))
            have HCL12 := hide (HCL11.out.keep hf12 (fun _ _ h => h))
            have HBL12 := hide ((HBL11.out.keep hf12 (fun _ _ h => h)).keep (Fr.of_alloc w12 (.cells #[] 5)) (fun _ _ h => h))
            have HB12 := hide ((hf12.block _ (lt_of HB11.out) (fun h => h)).trans HB11.out)
            have HE12 := hide (OwnB.fresh w12 0 (Nat.zero_le _) #[] rfl)
            have hs12 : Hid (w12.heap.size ≤ (w12.alloc (.cells #[] 5)).heap.size) := by show _ ≤ _; simp
            clear hf12 HF11 HIn11 HCL11 HBL11 HB11 HCT HV2 e1 e2 hNi hmi hm0 d0 hmN
            go_upto_region 19 with (at_builtin; go_must (refine wpList_appBn rfl _ _ rfl w12.heap.size (.slice (some ⟨w12.heap.size, 0, none⟩) 0 0) [] rfl HE12.out ba N bc P rfl HPN.out.symm HBL12.out (fun h => HBn.out h) HP63.out hs12.out ?_); intro v13 w13 ho13 hf13)
            rw [List.nil_append] at ho13
            have hf13' := fr_own (Fr.of_alloc w12 (.cells #[] 5)) HE12.out (Nat.le_refl _) hf13
            obtain ⟨D, cap13, cur, fz, hv13, hD, hg13, hfz, hcl, hcx, hcs, hct⟩ : ∃ g cap cur fz, v13 = .slice (some ⟨g, 0, none⟩) P.length cap ∧ w12.heap.size ≤ g ∧ w13.heap[g]? = some (.cells cur 5 fz) ∧ (cur.size ≤ fz.1 ∨ fz.2 = 0) ∧ P.length ≤ cap ∧ cap ≤ maxLen ∧ cur.size = cap ∧ cur.toList.take P.length = cellsOf P := by
              rcases ho13.own with ⟨_, h⟩ | h
              · exfalso
                have := HPN.out
                rw [h] at this
                simp at this
                omega
              · exact h
            subst hv13
            rw [HPN.out] at hcl ⊢
            have HF13 := hide (HF12.out.join hf13')
            have HIn13 := hide (HIn12.out.keep hf13' (fun _ _ h => h))
            have HCL13 := hide (HCL12.out.keep hf13' (fun _ _ h => h))
            have HB13 := hide ((hf13'.block _ (lt_of HB12.out) (fun h => h)).trans HB12.out)
            have hDlt : w.heap.size < D := by have := lt_of HB12.out; omega
            obtain ⟨j, hj⟩ : ∃ j, y % 4 = j := ⟨_, rfl⟩
            have hj4 : j < 4 := by omega
            obtain ⟨Y, hY⟩ : ∃ Y, y / 256 = Y := ⟨_, rfl⟩
            obtain ⟨s, hs⟩ : ∃ s, Y % 8 = s := ⟨_, rfl⟩
            have hs8 : s < 8 := by omega
            obtain ⟨pw, hpw⟩ : ∃ pw, pw = 2 ^ s := ⟨_, rfl⟩
            obtain ⟨I, hI⟩ : ∃ I, I = N - 1 - j := ⟨_, rfl⟩
            have hN4 : 4 ≤ N := by have := HN8.out; omega
            have hIN : I < N := by omega
            have hci := (OwnB.lies ho13).2 I (by rw [HPN.out]; exact hIN)
            obtain ⟨_, ead, hcell⟩ := hci
            cases ead
            rw [add_none, Nat.zero_add] at hcell
            have hob := Hsm.out (P.getD I 0) (getD_mem P I (by rw [HPN.out]; exact hIN))
            have hfr : w13.frozen? ⟨D, I, none⟩ = false := by
              obtain ⟨lo, hi⟩ := fz
              simp only [World.frozen?, hg13, Bool.and_eq_false_iff, decide_eq_false_iff_not]
              simp only at hfz
              omega
            have hnI : (N : Int) - 1 - (j : Int) = (I : Int) := by omega
            have q1 : (y : Int) % 4 = (j : Int) := by omega
            have q2 : (y : Int).tmod 4 = (j : Int) := by rw [← hj]; rfl
            have q3 : (y : Int) / 256 = (Y : Int) := by omega
            have q4 : bits .and .u16 (Y : Int) 7 = (s : Int) := by
              rw [show (7 : Int) = ((7 : Nat) : Int) from rfl, u16_and_nat _ _ (by omega) (by decide), ← hs, show 7 = 2 ^ 3 - 1 from rfl, Nat.and_two_pow_sub_one_eq_mod]
            have c1 : w13.cell? ⟨w.heap.size, 1, none⟩ = some (.int .u16 (y : Int)) := cell_of HB13.out (o := 1) rfl
            generalize hoe : P.getD I 0 = ob at *
            have q5 : (2 : Int) ^ s = (pw : Int) := by rw [hpw]; push_cast; rfl
            have hpw1 : 1 ≤ pw ∧ pw < 256 := by
              rw [hpw]
              match s, hs8 with
              | 0, _ | 1, _ | 2, _ | 3, _ | 4, _ | 5, _ | 6, _ | 7, _ => decide
            obtain ⟨xv, hxv⟩ : ∃ xv, ob ^^^ pw = xv := ⟨_, rfl⟩
            have q6 : bits .xor .u8 (ob : Int) (pw : Int) = (xv : Int) := by rw [u8_xor_nat _ _ hob hpw1.2, hxv]
            have HXV := hide hxv
            have HHJ := hide hj
            clear hxv
            have q7 : IntKind.u8.wrap (pw : Int) = (pw : Int) := u8w pw pw (by omega)
            have hxv256 : xv < 256 := by
              rw [← HXV.out]; exact Nat.xor_lt_two_pow (n := 8) hob hpw1.2
            have hxvne : xv ≠ ob := by
              intro h
              have e : ob ^^^ (ob ^^^ pw) = ob ^^^ ob := by rw [HXV.out, h]
              rw [← Nat.xor_assoc, Nat.xor_self, Nat.zero_xor] at e
              omega
            have HSET := hide (lies_set (OwnB.lies ho13) hg13 (by rw [HPN.out]; exact hIN) hxv256)
            have hVB : cutV (P.set I xv) = .error 5 := by
              have h := HC5.out j xv hj4 hxv256 (by rw [HPN.out, ← hI, hoe]; exact hxvne)
              rw [HPN.out, ← hI] at h
              exact h
            have HVB := hide hVB
            have HFS := hide (((hf13'.trans (Fr.of_setCell w13 ⟨D, I, none⟩ (.int .u8 (xv : Int)))).mono (S' := fun _ => False) fun i hi h => by
              rcases h with h | h
              · exact h
              · simp only [] at h
                omega).join (Fr.drew1 _ _))
            have hslen : (P.set I xv).length = N := by rw [List.length_set]; exact HPN.out
            have HSL := hide hslen
            have Hcl := hide hcl
            have Hcx := hide hcx
            clear hpw hI hY hs hcl hcx hcs hct hg13 hfz ho13 hf13' hf13 hN4 HBn HP63 hVB hslen
            go_region
            have HF14 := hide (HF12.out.join HFS.out)
            have HIn14 := hide (HIn12.out.keep HFS.out (fun _ _ h => h))
            have HCL14 := hide (HCL12.out.keep HFS.out (fun _ _ h => h))
            have HS14 := hide (HSET.out.keep (Fr.drew1 (fun _ => False) _) (fun _ _ h => h))
            clear HF12 HIn12 HCL12 HBL12 HB12 HE12 hs12 hD hDlt HF13 HIn13 HCL13 HB13 HFS HSET c1 hcell hfr hnI q1 q2 q3 q4 q5 q6 q7 hpw1 HHJ HXV hj hj4 hs8 hoe hob hIN hxvne hxv256
            generalize (w13.setCell ⟨D, I, none⟩ (.int .u8 (xv : Int))).drew = w14 at *
            have hcb := cut_c (some ⟨D, 0, none⟩) cap13 (P.set I xv) w14 HS14.out (by rw [HSL.out]; exact Hcl.out) Hcx.out
            rw [HSL.out] at hcb
            have HCB := hide hcb
            clear hcb
            go_wp2_with fail
            refine HCB.out.mono ?_
            rintro e w15 ⟨hout, hf15⟩
            unfold CutOut at hout
            rw [HVB.out] at hout
            subst hout
            have HF15 := hide (HF14.out.join hf15)
            have HIn15 := hide (HIn14.out.keep hf15 (fun _ _ h => h))
            have HCL15 := hide (HCL14.out.keep hf15 (fun _ _ h => h))
            have HM := hide (model_c ca cc (inL l) w15 HCL15.out (by omega))
            clear hf15 HF14 HIn14 HCL14 HS14 HCB HVB
            go_wp2_with fail
            refine HM.out.mono ?_
            rintro e w16 ⟨v, rfl, ho16, hf16⟩
            obtain ⟨⟨ma, mc, hv16, _⟩, _⟩ := ho16.form
            subst hv16
            have HF16 := hide (HF15.out.join hf16)
            have HIn16 := hide (HIn15.out.keep hf16 (fun _ _ h => h))
            have HSM := hide (same_c ma ia mc ic (inL l) w16 ho16.lies HIn16.out (by omega))
            clear hf16 ho16 HF15 HIn15 HM
            go_wp2_with fail
            refine HSM.out.mono ?_
            rintro e w17 ⟨rfl, hf17⟩
            have HF17 := hide (HF16.out.join hf17)
            go_wp2
            go_ret
            exact ⟨rfl, HF17.out⟩
end Go.Proofs.Ytflapcaaaipoeaa
