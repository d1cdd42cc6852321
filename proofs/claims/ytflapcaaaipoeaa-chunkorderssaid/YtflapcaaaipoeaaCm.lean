/-
  chunk: the first chunk of some bytes.
-/
import Derived.Test.YtflapcaaaipoeaaCl
namespace Go.Proofs.Ytflapcaaaipoeaa
open Go.RowKit Go.Lib
set_option linter.unusedVariables false

def kindOf (bs : List Nat) : ByteArray := strOf ((bs.drop 4).take 4)
def dataOf (bs : List Nat) : List Nat := (bs.drop 8).take (w32 bs)
/-- The sum that a chunk of this kind and these data bears. -/
def sumOf (k : ByteArray) (d : List Nat) : Nat := (crc 0#32 (strBytes k ++ d)).toNat
/-- What is wrong with the first chunk. -/
def firstE (bs : List Nat) : Int := if bs.length < 12 then 2 else if 2147483647 < w32 bs ∨ kindB (kindOf bs) = false then 4 else if bs.length - 12 < w32 bs then 2 else if w32 (bs.drop (8 + w32 bs)) ≠ sumOf (kindOf bs) (dataOf bs) then 5 else 0

theorem ret51 {w : World} {R : Nat} {x0 x1 : Value} (h : w.heap[R]? = some (.cells #[x0, x1] 51 (0, 0))) (x y : Value) : (loadVar 51 ⟨R, 0, none⟩).run Try.prog ((w.setCell ⟨R, 0, none⟩ x).setCell ⟨R, 1, none⟩ y) = .ok (.agg #[x, y]) ((w.setCell ⟨R, 0, none⟩ x).setCell ⟨R, 1, none⟩ y) := by
  have hfin : ((w.setCell ⟨R, 0, none⟩ x).setCell ⟨R, 1, none⟩ y).heap[R]? = some (.cells #[x, y] 51 (0, 0)) := heap_setCell_own _ (heap_setCell_own _ h)
  obtain ⟨d, u1, u2, u3⟩ := Try.und51
  exact run_loadVar_mid (P := Try.prog) _ R 0 51 [x, y] d (rangeAt_cells hfin) u1 u2 u3
theorem fr51 {w w2 : World} (h : Fr (fun _ => False) w w2) (x y : Value) : Fr (fun _ => False) w ((w2.setCell ⟨w.heap.size, 0, none⟩ x).setCell ⟨w.heap.size, 1, none⟩ y) := by
  refine ((h.trans (Fr.of_setCell _ _ _)).trans (Fr.of_setCell _ _ _)).mono fun i hi h => ?_
  simp only [false_or] at h
  omega

set_option maxHeartbeats 1000000 in
theorem first_c (T : Nat) (a : Option Addr) (c : Nat) (bs : List Nat) (w : World) (ht : IsTab w T) (hl : Lies w a bs) (hc : bs.length ≤ c) (hcm : c ≤ maxLen) (hm : bs.length ≤ 262144) :
    Calls Try.prog 22 #[.slice a bs.length c, .pointer (some ⟨T, 0, none⟩)] w fun e w' => ((firstE bs ≠ 0 ∧ e = .returned (.tuple #[.agg #[.string ⟨#[]⟩, .slice none 0 0], .int .i64 (firstE bs)])) ∨ (firstE bs = 0 ∧ ∃ v, e = .returned (.tuple #[.agg #[.string (kindOf bs), v], .int .i64 0]) ∧ OwnB w' (w.heap.size + 1) v (dataOf bs))) ∧ Fr (fun _ => False) w w' := by
  unfold maxLen at hcm
  have HG : Hid (firstE bs = if bs.length < 12 then 2 else if 2147483647 < w32 bs ∨ kindB (kindOf bs) = false then 4 else if bs.length - 12 < w32 bs then 2 else if w32 (bs.drop (8 + w32 bs)) ≠ sumOf (kindOf bs) (dataOf bs) then 5 else 0) := rfl
  by_cases h12 : bs.length < 12
  · have g1 : decide ((bs.length : Int) < 12) = true := by simp; omega
    have HN : Hid (firstE bs = 2) := by show _ = _; rw [HG.out, if_pos h12]
    have hb : (w.alloc (.cells #[.string ⟨#[]⟩, .slice none 0 0] 51)).heap[w.heap.size]? = some (.cells #[.string ⟨#[]⟩, .slice none 0 0] 51 (0, 0)) := heap_alloc_new _ _
    have HB := hide hb
    have HF := hide (Fr.of_alloc w (.cells #[.string ⟨#[]⟩, .slice none 0 0] 51))
    clear hl ht HG h12 hb
    generalize bs.length = n at *
    go_enter Try.func22, Try.ntmps22
    go_upto_region 1 with fail
    generalize w.alloc (.cells #[.string ⟨#[]⟩, .slice none 0 0] 51) = w1 at *
    have r0 := cell_of HB.out (o := 0) rfl
    have r1 := cell_of HB.out (o := 1) rfl
    have e0 := frozen_of HB.out (o := 0)
    have e1 := frozen_of HB.out (o := 1)
    go_wp2
    exact bodyPost_ret (results_two (t := 4) (s := 5) Try.results22 rfl (ret51 HB.out _ _) rfl) rfl ⟨.inl ⟨by rw [HN.out]; decide, by rw [HN.out]; rfl⟩, fr51 HF.out _ _⟩
  · have Hl := hide (hl.keep (Fr.of_alloc w (.cells #[.string ⟨#[]⟩, .slice none 0 0] 51)) (fun _ _ h => h))
    have Ht := hide (ht.keep (Fr.of_alloc w (.cells #[.string ⟨#[]⟩, .slice none 0 0] 51)) (fun h => h))
    have hb : (w.alloc (.cells #[.string ⟨#[]⟩, .slice none 0 0] 51)).heap[w.heap.size]? = some (.cells #[.string ⟨#[]⟩, .slice none 0 0] 51 (0, 0)) := heap_alloc_new _ _
    have HB := hide hb
    have HF := hide (Fr.of_alloc w (.cells #[.string ⟨#[]⟩, .slice none 0 0] 51))
    clear hb
    have g1 : decide ((bs.length : Int) < 12) = false := by simp; omega
    have g2 : (8 : Int) ≤ (c : Int) := by omega
    obtain ⟨ad, rfl, _⟩ := hl.2 0 (by omega)
    clear hl ht
    go_enter Try.func22, Try.ntmps22
    go_upto_region 3 with fail
    generalize w.alloc (.cells #[.string ⟨#[]⟩, .slice none 0 0] 51) = w1 at *
    have Hw := hide (fun k => Calls.quiet_of (n := k) (word_c (some ad) c bs (w1.drewN k) (Hl.out.keep (Fr.of_drewN w1 k) (fun _ _ h => h)) (by omega) (by omega)))
    have e4 : (bs.drop 4).take 4 = (bs.drop 4).take 4 := rfl
    have hcv : ∀ k c', (convert 22 9 (.slice (some ⟨ad.block, ad.off + 4, none⟩) 4 c')).run Try.prog (w1.drewN k) = .ok (.string (kindOf bs)) (w1.drewN k) := by
      intro k c'
      have h1 := ((Hl.out.keep (Fr.of_drewN w1 k) (fun _ _ h => h)).drop 4 c (by omega) hc).take 4
      rw [if_neg (by omega)] at h1
      have h2 := conv_str c' h1
      rw [show ((bs.drop 4).take 4).length = 4 by rw [List.length_take, List.length_drop]; omega] at h2
      have h3 : (some ad).map (·.add 4) = some (⟨ad.block, ad.off + 4, none⟩ : Addr) := by simp [Addr.add]
      rw [h3] at h2
      exact h2
    have c4 : ¬ c = 4 := by omega
    go_quiet ((go_at_call 37; exact Hw.out _))
    have hw2 : ∃ w2, w2 = w1.drewN nq := ⟨_, rfl⟩
    obtain ⟨w2, hw2⟩ := hw2
    have Hl2 := hide (Hl.out.keep (Fr.of_drewN w1 nq) (fun _ _ h => h))
    have Ht2 := hide (Ht.out.keep (Fr.of_drewN w1 nq) (fun h => h))
    have HF2 := hide (HF.out.join (Fr.of_drewN w1 nq))
    have HB2 : Hid ((w1.drewN nq).heap[w.heap.size]? = some (.cells #[.string ⟨#[]⟩, .slice none 0 0] 51 (0, 0))) := HB.out
    rw [← hw2] at *
    clear hw2 Hw hcv Hl Ht HF HB e4 g1
    have r0 := cell_of HB2.out (o := 0) rfl
    have r1 := cell_of HB2.out (o := 1) rfl
    have e0 := frozen_of HB2.out (o := 0)
    have e1 := frozen_of HB2.out (o := 1)
    have hmk := mayBeKind_c (kindOf bs)
    have hks : (kindOf bs).size ≤ maxLen := by
      unfold kindOf
      rw [strOf_size, List.length_take]
      unfold maxLen
      omega
    by_cases h4 : 2147483647 < w32 bs ∨ kindB (kindOf bs) = false
    · have HN : Hid (firstE bs = 4) := by show _ = _; rw [HG.out, if_neg h12, if_pos h4]
      clear HG Hl2 Ht2
      by_cases hA : 2147483647 < w32 bs
      · have d1 : decide ((2147483647 : Int) < (w32 bs : Int)) = true := by simp; omega
        clear h4 hA hmk
        generalize kindOf bs = kd at *
        generalize w32 bs = m at *
        generalize bs.length = n at *
        go_wp2
        exact bodyPost_ret (results_two (t := 4) (s := 5) Try.results22 rfl (ret51 HB2.out _ _) rfl) rfl ⟨.inl ⟨by rw [HN.out]; decide, by rw [HN.out]; rfl⟩, fr51 HF2.out _ _⟩
      · have d1 : decide ((2147483647 : Int) < (w32 bs : Int)) = false := by simp; omega
        have hkF : kindB (kindOf bs) = false := h4.elim (fun h => absurd h hA) id
        rw [hkF] at hmk
        clear h4 hA hkF
        generalize kindOf bs = kd at *
        generalize w32 bs = m at *
        generalize bs.length = n at *
        go_wp2_with (go_at_call 34; refine (hmk _ hks).mono ?_; rintro e w' ⟨rfl, rfl⟩)
        exact bodyPost_ret (results_two (t := 4) (s := 5) Try.results22 rfl (ret51 HB2.out _ _) rfl) rfl ⟨.inl ⟨by rw [HN.out]; decide, by rw [HN.out]; rfl⟩, fr51 HF2.out _ _⟩
    · have d1 : decide ((2147483647 : Int) < (w32 bs : Int)) = false := by simp; omega
      have hkF : kindB (kindOf bs) = true := by
        cases hh : kindB (kindOf bs)
        · exact absurd (.inr hh) h4
        · rfl
      rw [hkF] at hmk
      by_cases h6 : bs.length - 12 < w32 bs
      · have HN : Hid (firstE bs = 2) := by show _ = _; rw [HG.out, if_neg h12, if_neg h4, if_pos h6]
        have d3 : (bs.length : Int) - 12 < (w32 bs : Int) := by omega
        have d4 : w32 bs ≤ 2147483647 := by omega
        clear HG Hl2 Ht2 h4 h6 hkF
        generalize kindOf bs = kd at *
        generalize w32 bs = m at *
        generalize bs.length = n at *
        go_wp2_with (go_at_call 34; refine (hmk _ hks).mono ?_; rintro e w' ⟨rfl, rfl⟩)
        exact bodyPost_ret (results_two (t := 4) (s := 5) Try.results22 rfl (ret51 HB2.out _ _) rfl) rfl ⟨.inl ⟨by rw [HN.out]; decide, by rw [HN.out]; rfl⟩, fr51 HF2.out _ _⟩
      · have d2 : decide ((bs.length : Int) - 12 < (w32 bs : Int)) = false := by simp; omega
        have HS : Hid (firstE bs = if w32 (bs.drop (8 + w32 bs)) ≠ sumOf (kindOf bs) (dataOf bs) then 5 else 0) := by show _ = _; rw [HG.out, if_neg h12, if_neg h4, if_neg h6]
        obtain ⟨m, hm'⟩ : ∃ m, m = w32 bs := ⟨_, rfl⟩
        have hmn : m + 12 ≤ bs.length := by omega
        have hdl : dataOf bs = (bs.drop 8).take m := by rw [hm']; rfl
        have hdn : (dataOf bs).length = m := by rw [hdl, List.length_take, List.length_drop]; omega
        rw [← hm'] at HS d1 d2 ⊢
        have HM := hide hm'
        have w8 : IntKind.u32.wrap (8 + (m : Int)) = 8 + (m : Int) := by rw [IntKind.wrap_u32']; omega
        clear HG h4 h6 hkF hm'
        have hc5 := hide ((Hl2.out.drop 8 c (by omega) hc).take m)
        have hc6 := hide (Hl2.out.drop (8 + m) c (by omega) hc)
        have hlen6 : (bs.drop (8 + m)).length = bs.length - (8 + m) := List.length_drop
        have q1 : (8 : Int) ≤ 8 + (m : Int) := by omega
        have q2 : 8 + (m : Int) ≤ (c : Int) := by omega
        have q3 : 8 + (m : Int) ≤ (bs.length : Int) := by omega
        have q4 : ¬ c = 8 := by omega
        have q5 : ¬ c = 8 + m := by omega
        have hx8 : (some ad).map (·.add 8) = some (⟨ad.block, ad.off + 8, none⟩ : Addr) := by simp [Addr.add]
        have hx9 : (some ad).map (·.add (8 + m)) = some (ad.add (8 + m)) := rfl
        rw [if_neg (by omega), hx8, ← hdl] at hc5
        rw [if_neg (by omega), hx9] at hc6
        clear hx8 hx9
        have HD := hide hdl
        have HN5 := hide hdn
        have H12 := hide h12
        have HL6 := hide hlen6
        clear hdl hdn h12 hlen6
        go_upto_region 8 with (go_at_call 34; refine (hmk _ hks).mono ?_; rintro e w' ⟨rfl, rfl⟩)
        generalize hn : bs.length = n at *
        go_quiet (fail)
        rw [show 8 + m - 8 = m by omega]
        have hda : (some (⟨ad.block, ad.off + 8, none⟩ : Addr) = none) → c - 8 = 0 ∧ dataOf bs = [] := fun h => by cases h
        generalize some (⟨ad.block, ad.off + 8, none⟩ : Addr) = da at *
        generalize some (ad.add (8 + m)) = sa at *
        obtain ⟨w3, hw3⟩ : ∃ w3, w3 = w2.drewN nq := ⟨_, rfl⟩
        have hc5b := hide (hc5.out.keep (Fr.of_drewN w2 nq) (fun _ _ h => h))
        have hc6b := hide (hc6.out.keep (Fr.of_drewN w2 nq) (fun _ _ h => h))
        have Ht3 := hide (Ht2.out.keep (Fr.of_drewN w2 nq) (fun h => h))
        have HF3 := hide (HF2.out.join (Fr.of_drewN w2 nq))
        have HB3 : Hid ((w2.drewN nq).heap[w.heap.size]? = some (.cells #[.string ⟨#[]⟩, .slice none 0 0] 51 (0, 0))) := HB2.out
        rw [← hw3] at *
        clear hw3 Hl2 Ht2 HF2 HB2 hc5 hc6 r0 r1 e0 e1
        have hwd := word_c sa (c - (8 + m)) (bs.drop (8 + m)) w3 hc6b.out (by rw [HL6.out]; omega) (by rw [HL6.out]; omega)
        rw [HL6.out] at hwd
        have HW := hide hwd
        clear hwd
        go_wp2_with fail
        refine HW.out.mono ?_
        rintro e w4 ⟨rfl, nq2, hw4⟩
        have f4 : Fr (fun _ => False) w3 w4 := by rw [hw4]; exact Fr.of_drewN w3 nq2
        have hks2 : (strBytes (kindOf bs)).length ≤ 2147483648 := by
          rw [strBytes_length]
          unfold kindOf
          rw [strOf_size, List.length_take]
          omega
        have hck := chunk_c T (kindOf bs) da (c - 8) (dataOf bs) w4 (Ht3.out.keep f4 (fun h => h)) hks2 (hc5b.out.keep f4 (fun _ _ h => h)) (by rw [HN5.out]; omega)
        rw [HN5.out] at hck
        have HK := hide hck
        have hc5c := hide (hc5b.out.keep f4 (fun _ _ h => h))
        have HF4 := hide (HF3.out.join f4)
        have HB4 : Hid (w4.heap[w.heap.size]? = some (.cells #[.string ⟨#[]⟩, .slice none 0 0] 51 (0, 0))) := (f4.block _ (lt_of HB3.out) (fun h => h)).trans HB3.out
        clear hck hc5b hc6b Ht3 HF3 HB3 hw4 f4 HW
        go_wp2_with fail
        refine HK.out.mono ?_
        rintro e w5 ⟨rfl, f5⟩
        have hc5d := hide (hc5c.out.keep f5 (fun _ _ h => h))
        have HF5 := hide (HF4.out.join f5)
        have HB5 : Hid (w5.heap[w.heap.size]? = some (.cells #[.string ⟨#[]⟩, .slice none 0 0] 51 (0, 0))) := (f5.block _ (lt_of HB4.out) (fun h => h)).trans HB4.out
        clear f5 HK HF4 HB4 hc5c
        replace HS : Hid (firstE bs = if w32 (bs.drop (8 + m)) ≠ (crc 0#32 (strBytes (kindOf bs) ++ dataOf bs)).toNat then 5 else 0) := HS.out
        generalize (crc 0#32 (strBytes (kindOf bs) ++ dataOf bs)).toNat = z1 at *
        generalize w32 (bs.drop (8 + m)) = z2 at *
        have r0 := cell_of HB5.out (o := 0) rfl
        have r1 := cell_of HB5.out (o := 1) rfl
        have e0 := frozen_of HB5.out (o := 0)
        have e1 := frozen_of HB5.out (o := 1)
        by_cases hz : z2 = z1
        · subst hz
          have HE : Hid (firstE bs = 0) := by show _ = _; rw [HS.out, if_neg (fun h => h rfl)]
          have hbe : ((z2 : Int) == (z2 : Int)) = true := by simp
          have hcl := clone_c da (c - 8) (dataOf bs) w5 hc5d.out hda (by rw [HN5.out]; omega)
          rw [HN5.out] at hcl
          have HC := hide hcl
          clear HS hcl hda r0 r1 e0 e1
          go_wp2_with fail
          refine HC.out.mono ?_
          rintro e w6 ⟨v, rfl, ho, f6⟩
          obtain ⟨va, vc, hv, _⟩ := ho.form
          rw [HN5.out] at hv
          subst hv
          have HF6 := hide (HF5.out.join f6)
          have HB6 : Hid (w6.heap[w.heap.size]? = some (.cells #[.string ⟨#[]⟩, .slice none 0 0] 51 (0, 0))) := (f6.block _ (lt_of HB5.out) (fun h => h)).trans HB5.out
          have hlt := lt_of HB5.out
          have HO := hide ho
          have Hlt := hide hlt
          clear f6 HC ho HF5 HB5 hlt
          have r0 := cell_of HB6.out (o := 0) rfl
          have r1 := cell_of HB6.out (o := 1) rfl
          have e0 := frozen_of HB6.out (o := 0)
          have e1 := frozen_of HB6.out (o := 1)
          go_wp2
          refine bodyPost_ret (results_two (t := 4) (s := 5) Try.results22 rfl (ret51 HB6.out _ _) rfl) rfl ⟨.inr ⟨HE.out, _, rfl, ?_⟩, fr51 HF6.out _ _⟩
          have h7 := HO.out.base (b' := w.heap.size + 1) (Hlt.out)
          have hn7 : ∀ k, (Value.slice va m vc).ownBlock = some k → ¬ (k = w.heap.size) := fun k hk e => by
            obtain ⟨_, _, _, _, _, hf⟩ := h7.form
            have := (hf k hk).1
            omega
          exact (h7.keep (Fr.of_setCell _ _ _) hn7).keep (Fr.of_setCell _ _ _) hn7
        · have HE : Hid (firstE bs = 5) := by show _ = _; rw [HS.out, if_pos hz]
          have hbe : ((z2 : Int) == (z1 : Int)) = false := by simp; omega
          clear HS hz
          go_wp2
          exact bodyPost_ret (results_two (t := 4) (s := 5) Try.results22 rfl (ret51 HB5.out _ _) rfl) rfl ⟨.inl ⟨by rw [HE.out]; decide, by rw [HE.out]; rfl⟩, fr51 HF5.out _ _⟩
end Go.Proofs.Ytflapcaaaipoeaa
