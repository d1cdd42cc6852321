/-
  filter: FilterNone, walked.
-/
import Derived.Test.YtkafhjjdeldkbaaMl
namespace Go.Proofs.Ytkafhjjdeldkbaa
open Go.RowKit Go.Lib
set_option linter.unusedVariables false

theorem zeros_lies (w : World) (n : Nat) (hn : n ≤ 5000000) : Lies (w.alloc (.cells (cellsOf (List.replicate n 0)).toArray 5)) (some ⟨w.heap.size, 0, none⟩) (List.replicate n 0) := (ownB_made w n hn).lies

set_option maxHeartbeats 3200000 in
theorem none_law (x : Nat) (a a2 : Option Addr) (c c2 : Nat) (xs ys : List Nat) (w : World) (hx8 : x < 256) (hx : Lies w a xs) (hn : a = none → c = 0 ∧ xs = []) (hy : Lies w a2 ys) (hxl : xs.length ≤ 9223372036854775807) (hyl : ys.length ≤ 9223372036854775807) :
    Calls Try.prog 6 #[.slice a xs.length c, .slice a2 ys.length c2, .int .u8 (x : Int)] w fun e w' => e = .returned (.bool true) ∧ Fr (fun _ => False) w w' := by
  have Hx := hide hx
  have Hy := hide hy
  have Hn := hide hn
  clear hx hy hn
  by_cases hfew : xs.length ≤ 2000 ∧ ys.length = xs.length
  · have hx3 : xs.length ≤ 2000 := hfew.1
    have hyx : Hid (ys.length = xs.length) := hfew.2
    obtain ⟨x8, hx8'⟩ : ∃ z : Nat, z = x % 8 := ⟨_, rfl⟩
    obtain ⟨B, hB⟩ : ∃ B : Nat, B = 1 + x8 := ⟨_, rfl⟩
    have hb8 : 1 ≤ B ∧ B ≤ 8 := by omega
    have m2 : (x : Int).tmod 8 = (x8 : Int) := by rw [Int.tmod_eq_emod_of_nonneg (by omega)]; omega
    have x87 : x8 < 8 := by omega
    have m3 : (1 : Int) + (x8 : Int) = (B : Int) := by omega
    have HD := hide (fun (w : World) (k : Nat) (hk : k ≤ 4) (a2 : Option Addr) (c2 : Nat) (zs : List Nat) (hz : zs.length = 0 ∨ zs.length = xs.length) (hx : Lies w a xs) (hy : Lies w a2 zs) => do_yes k B a a2 c c2 xs zs w hk hb8 hx hy hz (by omega))
    have HBst := hide (fun (w : World) (hx : Lies w a xs) (hy : Lies w a2 ys) => best_yes B a a2 c c2 xs ys w hb8 hx hy (.inr hfew.2) (by omega))
    have HCst := hide (fun (w : World) (k : Nat) (hk : k ≤ 4) (hx : Lies w a xs) (hy : Lies w a2 ys) => cost_c k B a a2 c c2 xs ys w hk hb8 hx Hn.out hy (.inr hfew.2) (by omega))
    have E0 : Hid (doV 0 xs ys B = xs) := do_zero ys B Hx.out.1
    have EN : Hid (∀ k, doV k xs [] B = doV k xs (List.replicate xs.length 0) B) := fun k => do_none k xs _ B
    have EL : Hid (∀ k zs, (doV k xs zs B).length = xs.length) := fun k zs => doV_length _ _ _ _
    have EB := hide (bestTo_is xs ys B 4)
    have EV : Hid (bestV xs ys B = (bestTo xs ys B 4).1) := rfl
    have hne : ((ys.length : Int) != (xs.length : Int)) = false := by rw [hfew.2]; simp
    have hmk := makeB xs.length (by omega)
    have HZ := hide (fun w => zeros_lies w xs.length (by omega))
    have HZl : Hid ((List.replicate xs.length 0).length = xs.length) := by show _ = _; simp
    clear hB hfew hx8' hb8
    go_enter Try.func6, Try.ntmps6
    go_wp2_with fail
    refine (awake_c _).mono ?_
    rintro e w1 ⟨rfl, hf1⟩
    have HF1 := hide hf1
    have HC1 := hide (HD.out w1 0 (by decide) a2 c2 ys (.inr hyx.out) (Hx.out.keep hf1 (fun _ _ h => h)) (Hy.out.keep hf1 (fun _ _ h => h)))
    rw [E0.out] at HC1
    clear hf1
    go_wp2_with fail
    refine HC1.out.mono ?_
    rintro e w2 ⟨v0, rfl, ho0, hf2⟩
    obtain ⟨va0, vc0, rfl, _⟩ := ho0.form
    have HF2 := hide (HF1.out.join hf2)
    have HO0 := hide ho0
    clear ho0 hf2 HF1 HC1
    go_wp2
    go_loopw [10] (fun iv wr => ∃ k : Nat, k ≤ 5 ∧ iv = .int .i64 k ∧ Fr (fun _ => False) w2 wr) (fun iv _ => 5 - (intOf iv).toNat)
    case atStart => exact ⟨0, by omega, rfl, Fr.refl _ _⟩
    case round =>
      obtain ⟨k, hk, rfl, hf⟩ := hrel
      have HF := hide hf
      clear hf
      by_cases hlt : k < 5
      · have h0 : (0 : Int) ≤ (k : Int) := by omega
        have h1 : (k : Int) < 5 := by omega
        have HA := hide (HD.out wr k (by omega) none 0 [] (.inl rfl) (Hx.out.keep (HF2.out.join HF.out) (fun _ _ h => h)) (Lies.nil _ _))
        rw [EN.out] at HA
        have HL1 := hide (EL.out k (List.replicate xs.length 0))
        have HDZ := hide (fun w c2 a2 h1 h2 => HD.out w k (by omega) a2 c2 (List.replicate xs.length 0) (.inr HZl.out) h1 h2)
        rw [HZl.out] at HDZ
        clear HD EN
        generalize List.replicate xs.length 0 = Z at *
        generalize doV k xs Z B = D at *
        go_wp2_with fail
        refine HA.out.mono ?_
        rintro e w3 ⟨v1, rfl, ho1, hf3⟩
        obtain ⟨va1, vc1, rfl, _⟩ := ho1.form
        have HO1 := hide ho1
        have HF3 := hide (HF.out.join hf3)
        have HF4 := hide (HF3.out.join (Fr.of_alloc w3 (.cells (cellsOf Z).toArray 5)))
        have HB := hide (HDZ.out (w3.alloc (.cells (cellsOf Z).toArray 5)) xs.length (some ⟨w3.heap.size, 0, none⟩) (Hx.out.keep (HF2.out.join HF4.out) (fun _ _ h => h)) (HZ.out w3))
        clear ho1 hf3 HA HF HF3
        go_wp2_with fail
        refine HB.out.mono ?_
        rintro e w5 ⟨v2, rfl, ho2, hf5⟩
        obtain ⟨va2, vc2, rfl, _⟩ := ho2.form
        have s1 := conv_str vc1 ((HO1.out.keep (Fr.of_alloc w3 (.cells (cellsOf Z).toArray 5)) (fun _ _ h => h)).keep hf5 (fun _ _ h => h)).lies
        have s2 := conv_str vc2 ho2.lies
        have HF5 := hide (HF4.out.join hf5)
        clear ho2 hf5 HB HF4 HO1
        generalize strOf D = st at *
        go_wp2
        go_roundw
        case rel => exact ⟨k + 1, by omega, by go_num, HF5.out⟩
        case measure => simp [intOf]; omega
      · have HF3 := hide (HF2.out.join HF.out)
        have HBc := hide (HBst.out wr (Hx.out.keep HF3.out (fun _ _ h => h)) (Hy.out.keep HF3.out (fun _ _ h => h)))
        have HO1 := hide (HO0.out.keep HF.out (fun _ _ h => h))
        rw [EV.out] at HBc
        obtain ⟨q1, q2, q3⟩ := EB.out
        have Q3 := hide q3
        have hCb : Hid (∀ (w : World), Lies w a xs → Lies w a2 ys → _) := fun w h1 h2 => HCst.out w (bestTo xs ys B 4).1 q1 h1 h2
        rw [← q2] at hCb
        clear HO0 HF HD HBst EN EB EV HZ HZl hmk q2 q3 E0 EL
        generalize bestTo xs ys B 4 = P at *
        obtain ⟨b, l⟩ := P
        simp only [] at q1 Q3 hCb HBc ⊢
        go_wp2_with fail
        refine HBc.out.mono ?_
        rintro e w3 ⟨rfl, hf3⟩
        have HF4 := hide (HF3.out.join hf3)
        have HC2 := hide (hCb.out w3 (Hx.out.keep HF4.out (fun _ _ h => h)) (Hy.out.keep HF4.out (fun _ _ h => h)))
        have HO2 := hide (HO1.out.keep hf3 (fun _ _ h => h))
        clear hf3 HF3 HO1 HBc hCb
        go_wp2_with fail
        refine HC2.out.mono ?_
        rintro e w4 ⟨rfl, hf4⟩
        have HF5 := hide (HF4.out.join hf4)
        have HO3 := hide (HO2.out.keep hf4 (fun _ _ h => h))
        clear hf4 HF4 HO2 HC2 hlt
        go_wp2
        go_loopw [17] (fun iv wq => ∃ j : Nat, j ≤ 5 ∧ iv = .int .i64 j ∧ Fr (fun _ => False) w4 wq) (fun iv _ => 5 - (intOf iv).toNat)
        case atStart => exact ⟨0, by omega, rfl, Fr.refl _ _⟩
        case round =>
          obtain ⟨j, hj, rfl, hf⟩ := hrel
          have HF := hide hf
          clear hf
          by_cases hlt : j < 5
          · have h0 : (0 : Int) ≤ (j : Int) := by omega
            have h1 : (j : Int) < 5 := by omega
            have HCj := hide (HCst.out _ j (by omega) (Hx.out.keep (HF5.out.join HF.out) (fun _ _ h => h)) (Hy.out.keep (HF5.out.join HF.out) (fun _ _ h => h)))
            obtain ⟨r1, r2⟩ := Q3.out j (by omega)
            generalize costV (doV j xs ys B) = cj at *
            go_wp2_with fail
            refine HCj.out.mono ?_
            rintro e w6 ⟨rfl, hf6⟩
            have HF6 := hide (HF.out.join hf6)
            clear hf6 HF HCj
            by_cases hce : cj = l
            · have r3 : b ≤ j := r2 hce
              subst hce
              clear r1 r2
              go_wp2
              go_roundw
              case rel => exact ⟨j + 1, by omega, by go_num, HF6.out⟩
              case measure => simp [intOf]; omega
            · have r4 : ((cj : Int) == (l : Int)) = false := by simp; omega
              clear r2 hce
              go_wp2
              go_roundw
              case rel => exact ⟨j + 1, by omega, by go_num, HF6.out⟩
              case measure => simp [intOf]; omega
          · have HF7 := hide (HF5.out.join HF.out)
            have s1 := conv_str vc0 (HO3.out.keep HF.out (fun _ _ h => h)).lies
            have s2 := conv_str c (Hx.out.keep HF7.out (fun _ _ h => h))
            generalize strOf xs = st at *
            go_wp2
            go_ret
            exact ⟨rfl, HF7.out⟩
  · have hz : (2000 : Int) < (xs.length : Int) ∧ True ∨ ¬ ((2000 : Int) < (xs.length : Int)) ∧ ((ys.length : Int) != (xs.length : Int)) = true := by
      by_cases h : 2000 < xs.length
      · exact .inl ⟨by omega, trivial⟩
      · refine .inr ⟨by omega, ?_⟩
        rw [bne_iff_ne]; intro e; exact hfew ⟨by omega, by omega⟩
    clear hfew
    rcases hz with ⟨z1, z2⟩ | ⟨z1, z2⟩
    all_goals
      go_enter Try.func6, Try.ntmps6
      go_wp2_with fail
      refine (awake_c _).mono ?_
      rintro e w1 ⟨rfl, hf1⟩
      have HF1 := hide hf1
      clear hf1
      go_wp2
      go_ret
      exact ⟨rfl, HF1.out⟩
end Go.Proofs.Ytkafhjjdeldkbaa
