/-
  filter: FilterBack, walked.
-/
import Derived.Test.YtkafhjjdeldkbaaMl
namespace Go.Proofs.Ytkafhjjdeldkbaa
open Go.RowKit Go.Lib
set_option linter.unusedVariables false

theorem pair_cell (w : World) (T : TypeId) (x y : Value) : (w.alloc (.cells #[x, y] T)).heap[w.heap.size]? = some (.cells #[x, y] T (0, 0)) := heap_alloc_new _ _

set_option maxHeartbeats 3200000 in
theorem back_law (x y : Nat) (a a2 : Option Addr) (c c2 : Nat) (xs ys : List Nat) (w : World) (hx8 : x < 256) (hy8 : y < 256) (hx : Lies w a xs) (hy : Lies w a2 ys) (hxl : xs.length ≤ 9223372036854775807) (hyl : ys.length ≤ 9223372036854775807) :
    Calls Try.prog 4 #[.slice a xs.length c, .slice a2 ys.length c2, .agg #[.int .u8 (x : Int), .int .u8 (y : Int)]] w fun e w' => e = .returned (.bool true) ∧ Fr (fun _ => False) w w' := by
  have hb0 := pair_cell w 29 (.int .u8 (x : Int)) (.int .u8 (y : Int))
  have HB0 := hide hb0
  have HF0 := hide (Fr.of_alloc w (Obj.cells #[.int .u8 (x : Int), .int .u8 (y : Int)] 29))
  have Hx := hide hx
  have Hy := hide hy
  clear hx hy hb0
  by_cases hfew : xs.length ≤ 3000 ∧ (ys.length = 0 ∨ ys.length = xs.length)
  · have hx3 : xs.length ≤ 3000 := hfew.1
    obtain ⟨K, hK⟩ : ∃ K : Nat, K = x % 5 := ⟨_, rfl⟩
    obtain ⟨B, hB⟩ : ∃ B : Nat, B = 1 + y % 8 := ⟨_, rfl⟩
    have hk4 : K ≤ 4 := by omega
    have hb8 : 1 ≤ B ∧ B ≤ 8 := by omega
    have m1 : (x : Int).tmod 5 = (K : Int) := by rw [Int.tmod_eq_emod_of_nonneg (by omega)]; omega
    obtain ⟨y8, hy8'⟩ : ∃ z : Nat, z = y % 8 := ⟨_, rfl⟩
    have m2 : (y : Int).tmod 8 = (y8 : Int) := by rw [Int.tmod_eq_emod_of_nonneg (by omega)]; omega
    have y87 : y8 < 8 := by omega
    have m3 : (1 : Int) + (y8 : Int) = (B : Int) := by omega
    have HD := hide (fun (w : World) (a : Option Addr) (c : Nat) (zs : List Nat) (hz : zs.length = xs.length) (hx : Lies w a zs) (hy : Lies w a2 ys) => do_yes K B a a2 c c2 zs ys w hk4 hb8 hx hy (by rw [hz]; exact hfew.2) (by omega))
    have HU := hide (fun (w : World) (a : Option Addr) (c : Nat) (zs : List Nat) (hz : zs.length = xs.length) (hx : Lies w a zs) (hy : Lies w a2 ys) => undo_yes K B a a2 c c2 zs ys w hk4 hb8 hx hy (by rw [hz]; exact hfew.2) (by omega))
    have E1 : Hid (undoV K (doV K xs ys B) ys B = xs) := undo_do K B hb8.1 Hx.out.1 Hy.out.1
    have E2 : Hid (doV K (undoV K xs ys B) ys B = xs) := do_undo K B hb8.1 Hx.out.1 Hy.out.1
    have L1 : Hid ((doV K xs ys B).length = xs.length) := doV_length _ _ _ _
    have L2 : Hid ((undoV K xs ys B).length = xs.length) := undoV_length _ _ _ _
    have hz : (((ys.length : Int) != 0) = false ∧ True) ∨ (((ys.length : Int) != 0) = true ∧ ((ys.length : Int) != (xs.length : Int)) = false) := by
      rcases hfew.2 with h | h
      · exact .inl ⟨by rw [h]; rfl, trivial⟩
      · by_cases h0 : ys.length = 0
        · exact .inl ⟨by rw [h0]; rfl, trivial⟩
        · exact .inr ⟨by simp; exact fun e => h0 (by rw [e]; rfl), by rw [h]; simp⟩
    clear hK hB hfew hy8' hk4 hb8
    generalize hD : doV K xs ys B = D at *
    generalize hU : undoV K xs ys B = U at *
    have HDe := hide hD
    have HUe := hide hU
    clear hD hU
    rcases hz with ⟨z1, z2⟩ | ⟨z1, z2⟩
    all_goals
      go_enter Try.func4, Try.ntmps4
      go_wp2_with fail
      refine (awake_c _).mono ?_
      rintro e w1 ⟨rfl, hf1⟩
      have HF1 := hide (HF0.out.join hf1)
      have hB1 := (hf1.block _ (lt_of HB0.out) (fun h => h)).trans HB0.out
      have e0 : w1.cell? ⟨w.heap.size, 0, none⟩ = some (.int .u8 (x : Int)) := cell_of (o := 0) hB1 rfl
      have e1 : w1.cell? ⟨w.heap.size, 1, none⟩ = some (.int .u8 (y : Int)) := cell_of (o := 1) hB1 rfl
      clear hf1 HF0 HB0 hB1
      go_wp2
      go_region
      have HC1 := hide (HD.out w1.drew a c xs rfl (Hx.out.keep (HF1.out.join (Fr.of_drewN w1 1)) (fun _ _ h => h)) (Hy.out.keep (HF1.out.join (Fr.of_drewN w1 1)) (fun _ _ h => h)))
      rw [HDe.out] at HC1
      have HF2 := hide (HF1.out.join (Fr.of_drewN w1 1))
      clear HF1 e0 e1 z1 z2
      go_wp2_with fail
      refine HC1.out.mono ?_
      rintro e w2 ⟨v1, rfl, ho1, hf2⟩
      obtain ⟨va1, vc1, rfl, _⟩ := ho1.form
      have HF3 := hide (HF2.out.join hf2)
      have HC2 := hide (HU.out w2 va1 vc1 D L1.out ho1.lies (Hy.out.keep HF3.out (fun _ _ h => h)))
      rw [E1.out] at HC2
      clear ho1 hf2 HF2 HC1
      go_wp2_with fail
      refine HC2.out.mono ?_
      rintro e w3 ⟨v2, rfl, ho2, hf3⟩
      obtain ⟨va2, vc2, rfl, _⟩ := ho2.form
      have HF4 := hide (HF3.out.join hf3)
      have HO2 := hide ho2
      have HC3 := hide (HU.out w3 a c xs rfl (Hx.out.keep HF4.out (fun _ _ h => h)) (Hy.out.keep HF4.out (fun _ _ h => h)))
      rw [HUe.out] at HC3
      clear ho2 hf3 HF3 HC2
      go_wp2_with fail
      refine HC3.out.mono ?_
      rintro e w4 ⟨v3, rfl, ho3, hf4⟩
      obtain ⟨va3, vc3, rfl, _⟩ := ho3.form
      have HF5 := hide (HF4.out.join hf4)
      have HO2' := hide (HO2.out.keep hf4 (fun _ _ h => h))
      have HC4 := hide (HD.out w4 va3 vc3 U L2.out ho3.lies (Hy.out.keep HF5.out (fun _ _ h => h)))
      rw [E2.out] at HC4
      clear ho3 hf4 HF4 HC3 HO2
      go_wp2_with fail
      refine HC4.out.mono ?_
      rintro e w5 ⟨v4, rfl, ho4, hf5⟩
      obtain ⟨va4, vc4, rfl, _⟩ := ho4.form
      have HF6 := hide (HF5.out.join hf5)
      have s2 := conv_str vc2 (HO2'.out.keep hf5 (fun _ _ h => h)).lies
      have s4 := conv_str vc4 ho4.lies
      have s0 := conv_str c (Hx.out.keep HF6.out (fun _ _ h => h))
      clear ho4 hf5 HF5 HC4 HO2'
      generalize strOf xs = st at *
      go_wp2
      go_ret
      exact ⟨rfl, HF6.out⟩
  · have hz : (3000 : Int) < (xs.length : Int) ∧ True ∧ True ∨ ¬ ((3000 : Int) < (xs.length : Int)) ∧ ((ys.length : Int) != 0) = true ∧ ((ys.length : Int) != (xs.length : Int)) = true := by
      by_cases h : 3000 < xs.length
      · exact .inl ⟨by omega, trivial, trivial⟩
      · refine .inr ⟨by omega, ?_, ?_⟩
        · rw [bne_iff_ne]; intro e; exact hfew ⟨by omega, .inl (by omega)⟩
        · rw [bne_iff_ne]; intro e; exact hfew ⟨by omega, .inr (by omega)⟩
    clear hfew
    rcases hz with ⟨z1, z2, z3⟩ | ⟨z1, z2, z3⟩
    all_goals
      go_enter Try.func4, Try.ntmps4
      go_wp2_with fail
      refine (awake_c _).mono ?_
      rintro e w1 ⟨rfl, hf1⟩
      have HF1 := hide (HF0.out.join hf1)
      clear hf1 HF0 HB0
      go_wp2
      go_ret
      exact ⟨rfl, HF1.out⟩
end Go.Proofs.Ytkafhjjdeldkbaa
