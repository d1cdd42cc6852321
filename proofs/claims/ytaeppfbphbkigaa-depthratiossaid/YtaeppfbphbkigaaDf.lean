/-
  depth: Ratio; DepthRatios.
-/
import Derived.Test.YtaeppfbphbkigaaDe
import Derived.Test.YtaeppfbphbkigaaSd
namespace Go.Proofs.Ytaeppfbphbkigaa
open Go.RowKit

/-- What comes of a division of two floats. -/
def Quo (X Y z : Nat) : Prop := floatBits .quo .f64 X Y = some z ∨ (floatBits .quo .f64 X Y = none ∧ (rd z).isNaN = true ∧ z < 18446744073709551616)

theorem nan_cut (t : Nat) : (rd ((t % 2) * 2 ^ 63 + 0x7ff0000000000000 + 1 + (t / 2) % (2 ^ 52 - 1))).isNaN = true := by
  have h1 : Ieee.double.signWeight = 9223372036854775808 := by decide
  have h2 : Ieee.double.binade = 4503599627370496 := by decide
  have h3 : Ieee.double.infRung = 9218868437227405312 := by decide
  have h4 : (t / 2) % (2 ^ 52 - 1) < 4503599627370495 := Nat.mod_lt _ (by decide)
  obtain ⟨u, hu⟩ : ∃ u, u = (t / 2) % (2 ^ 52 - 1) := ⟨_, rfl⟩
  rw [← hu] at h4 ⊢
  obtain ⟨s, hs⟩ : ∃ s, s = t % 2 := ⟨_, rfl⟩
  have h5 : s < 2 := by rw [hs]; exact Nat.mod_lt _ (by decide)
  rw [← hs]
  unfold rd Ieee.Format.read
  simp only [h1, h2, h3]
  rw [if_neg (by omega), if_neg (by omega), if_neg (by omega)]
  rfl

theorem quo_run (X Y : Nat) (hY : floatBits .quo .f64 X Y = none) (W : World) : ∃ z, (binOp .quo 50 (.float .f64 X) (.float .f64 Y)).run Try.prog W = .ok (.float .f64 z) W.drew ∧ Quo X Y z := by
  have hd : FloatKind.f64.format.div X Y = none := hY
  refine ⟨Question.cut (.nanBits .f64 X Y) (W.tape W.drawn (.nanBits .f64 X Y)), ?_, Or.inr ⟨hY, nan_cut _, ?_⟩⟩
  · simp [binOp, Op.floatArith, hd, Question.forced]
  · simp only [Question.cut]
    have h4 : ∀ t : Nat, (t / 2) % (2 ^ 52 - 1) < 4503599627370495 := fun t => Nat.mod_lt _ (by decide)
    have h5 : ∀ t : Nat, t % 2 < 2 := fun t => Nat.mod_lt _ (by decide)
    have h6 := h4 (W.tape W.drawn (.nanBits .f64 X Y))
    have h7 := h5 (W.tape W.drawn (.nanBits .f64 X Y))
    omega

theorem ratio_c (a b : Int) (w : World) : Calls Try.prog 37 #[.int .i64 a, .int .i64 b] w fun e w' => ∃ z, e = .returned (.float .f64 z) ∧ Quo (floatOfInt .f64 a) (floatOfInt .f64 b) z ∧ Fr (fun _ => False) w w' := by
  obtain ⟨X, hX⟩ : ∃ X, floatOfInt .f64 a = X := ⟨_, rfl⟩
  obtain ⟨Y, hY⟩ : ∃ Y, floatOfInt .f64 b = Y := ⟨_, rfl⟩
  rw [hX, hY]
  cases hq : floatBits .quo .f64 X Y with
  | some r =>
    have h1 : ∀ W, (binOp .quo 50 (.float .f64 X) (.float .f64 Y)).run Try.prog W = .ok (.float .f64 r) W := fun W => run_float_arith W .quo 50 .f64 _ _ _ hq
    have Hq := hide hq
    clear hq
    go_enter Try.func37, Try.ntmps37
    go_wp2_with fail
    go_ret
    exact ⟨r, rfl, Or.inl Hq.out, Fr.refl _ _⟩
  | none =>
    obtain ⟨z, h1, h2⟩ := quo_run X Y hq w
    have H2 := hide h2
    clear hq h2
    go_enter Try.func37, Try.ntmps37
    go_wp2_with fail
    go_ret
    exact ⟨z, rfl, H2.out, Fr.drew1 _ w⟩

/-- Three floats. -/
abbrev flV (f0 f1 f2 : Nat) : Array Value := #[.float .f64 f0, .float .f64 f1, .float .f64 f2]

theorem fl_get {f0 f1 f2 : Nat} {i : Nat} (hi : i < 3) : (flV f0 f1 f2)[i]? = some (.float .f64 ([f0, f1, f2].getD i 0)) := by
  match i, hi with
  | 0, _ => rfl
  | 1, _ => rfl
  | 2, _ => rfl

theorem fl_lt {f0 f1 f2 : Nat} (h : ∀ f ∈ [f0, f1, f2], f < 18446744073709551616) (i : Nat) : [f0, f1, f2].getD i 0 < 18446744073709551616 := by
  rw [List.getD_eq_getElem?_getD]
  cases e : [f0, f1, f2][i]? with
  | none => decide
  | some v => exact h v (List.mem_of_getElem? e)

set_option maxHeartbeats 1000000 in
set_option maxRecDepth 100000 in
theorem ratios_law (f0 f1 f2 : Nat) (a b : Int) (w : World) (hf : ∀ f ∈ [f0, f1, f2], f < 18446744073709551616) : Calls Try.prog 9 #[.agg (flV f0 f1 f2), .int .i64 a, .int .i64 b] w fun e w' => e = .returned (.bool true) ∧ Fr (fun _ => False) w w' := by
  obtain ⟨w0, hw0⟩ : ∃ w0, w0 = w.alloc (.cells (flV f0 f1 f2) 51) := ⟨_, rfl⟩
  have hb : w0.heap[w.heap.size]? = some (.cells (flV f0 f1 f2) 51 (0, 0)) := by rw [hw0]; exact heap_alloc_at rfl
  have hF : Fr (fun _ => False) w w0 := by rw [hw0]; exact Fr.of_alloc _ _
  obtain ⟨Lx, hLx⟩ : ∃ Lx : Nat → Nat, Lx = fun i => [f0, f1, f2].getD i 0 := ⟨_, rfl⟩
  have HL : Hid (∀ i, Lx i < 18446744073709551616) := fun i => by rw [hLx]; exact fl_lt hf i
  have HC : Hid (∀ W, Fr (fun _ => False) w0 W → ∀ i, i < 3 → W.cell? ⟨w.heap.size, i, none⟩ = some (.float .f64 (Lx i))) := fun W f i hi => by
    rw [hLx]
    exact cell_of (cells_at hb f (fun e => e)) (fl_get hi)
  have HA := hide (awake9_c w0)
  have HB : Hid (∀ i j W, Calls Try.prog 35 #[.float .f64 (Lx i), .float .f64 (Lx j)] W fun e w' => e = .returned (.bool (betterB (Lx i) (Lx j))) ∧ w' = W) := fun i j W => better_c _ _ (HL.out i) (HL.out j) W
  have HR : Hid (∀ i j W, Calls Try.prog 36 #[.float .f64 (Lx i), .float .f64 (Lx j)] W fun e w' => e = .returned (.bool (betterB (Lx i) (Lx j))) ∧ w' = W) := fun i j W => rbetter_c _ _ (HL.out i) (HL.out j) W
  have Hw0 := hide hw0
  have HF := hide hF
  have HQ := hide (fun w => ratio_c a b w)
  clear hb hF hw0 hLx hf
  go_enter Try.func9, Try.ntmps9
  go_wp2_with fail
  rw [← Hw0.out]
  refine HA.out.mono ?_
  rintro e w1 ⟨rfl, rfl⟩
  go_wp2_with fail
  go_loopw [7, 8, 9, 10, 11] (fun v7 _ _ _ _ wr => ∃ i : Nat, v7 = .int .i64 (i : Int) ∧ i ≤ 3 ∧ Hid (Fr (fun _ => False) w1 wr)) (fun v7 _ _ _ _ _ => 3 - (intOf v7).toNat)
  case atStart => exact ⟨0, rfl, by omega, Fr.refl _ _⟩
  case round =>
    obtain ⟨i, rfl, hi, HF1⟩ := hrel
    by_cases hlt : i < 3
    · have hii : (i : Int) < 3 := by omega
      go_wp2_with fail
      go_loopw [8, 9, 10, 11] (fun v8 _ _ _ wr => ∃ j : Nat, v8 = .int .i64 (j : Int) ∧ j ≤ 3 ∧ Hid (Fr (fun _ => False) w1 wr)) (fun v8 _ _ _ _ => 3 - (intOf v8).toNat)
      case atStart => exact ⟨0, rfl, by omega, HF1.out⟩
      case round =>
        obtain ⟨j, rfl, hj, HF2⟩ := hrel
        by_cases hlt2 : j < 3
        · have hjj : (j : Int) < 3 := by omega
          by_cases hij : i = j
          · subst hij
            obtain ⟨x, hx⟩ : ∃ x, x = Lx i := ⟨_, rfl⟩
            have ci := HC.out _ HF2.out i hlt
            have hxb : x < 18446744073709551616 := by rw [hx]; exact HL.out i
            have hA := better_irr x hxb
            rw [← hx] at ci
            have HCx : Hid (∀ W, Fr (fun _ => False) w1 W → W.cell? ⟨w.heap.size, i, none⟩ = some (.float .f64 x)) := fun W f => by rw [hx]; exact HC.out W f i hlt
            have Htr : Hid (∀ k, betterB x x = true → betterB x (Lx k) = true → betterB x (Lx k) = true) := fun k h1 h2 => h2
            have HCy := HCx
            clear hx
            go_wp2_with fail
            go_quiet ((go_at_call 35; exact Calls.quiet_of_same (better_c _ _ (by assumption) (by assumption) _)))
            have HFq := hide (HF2.out.join (Fr.of_drewN wr nq))
            generalize wr.drewN nq = w5 at HFq ⊢
            clear ci
            have ci := HCx.out _ HFq.out
            have cj := ci
            go_wp2_with fail
            go_quiet ((go_at_call 36; exact Calls.quiet_of_same (rbetter_c _ _ (by assumption) (by assumption) _)))
            have HFr := hide (HFq.out.join (Fr.of_drewN w5 nq))
            generalize w5.drewN nq = w6 at HFr ⊢
            clear ci cj
            go_wp2_with fail
            go_loopw [11] (fun v11 wr => ∃ k : Nat, v11 = .int .i64 (k : Int) ∧ k ≤ 3 ∧ Hid (Fr (fun _ => False) w1 wr)) (fun v11 _ => 3 - (intOf v11).toNat)
            case atStart => exact ⟨0, rfl, by omega, HFr.out⟩
            case round =>
              obtain ⟨k, rfl, hk, HF3⟩ := hrel
              by_cases hlt3 : k < 3
              · have hkk : (k : Int) < 3 := by omega
                obtain ⟨z, hz⟩ : ∃ z, z = Lx k := ⟨_, rfl⟩
                have hzb : z < 18446744073709551616 := by rw [hz]; exact HL.out k
                have ck := HC.out _ HF3.out k hlt3
                have ci := HCx.out _ HF3.out
                have cj := HCy.out _ HF3.out
                rw [← hz] at ck
                have Htrk := hide (Htr.out k)
                rw [← hz] at Htrk
                clear hz
                go_wp2_with fail
                go_quiet (fail)
                have HFk := hide (HF3.out.join (Fr.of_drewN wr nq))
                generalize wr.drewN nq = w7 at HFk ⊢
                go_wp2_with fail
                go_roundw
                case rel => exact ⟨k + 1, by go_num, by omega, HFk.out⟩
                case measure => simp [intOf]; omega
              · have hkk : ¬ (k : Int) < 3 := by omega
                go_wp2_with fail
                go_roundw
                case rel => exact ⟨i + 1, by go_num, by omega, HF3.out⟩
                case measure => simp [intOf]; omega
          · have hij2 : ((i : Int) == (j : Int)) = false := beq_false_of_ne (fun e => hij (by omega))
            obtain ⟨x, hx⟩ : ∃ x, x = Lx i := ⟨_, rfl⟩
            obtain ⟨y, hy⟩ : ∃ y, y = Lx j := ⟨_, rfl⟩
            have ci := HC.out _ HF2.out i hlt
            have cj := HC.out _ HF2.out j hlt2
            have hxb : x < 18446744073709551616 := by rw [hx]; exact HL.out i
            have hyb : y < 18446744073709551616 := by rw [hy]; exact HL.out j
            have Hasym := hide (better_asym hxb hyb)
            have Htr : Hid (∀ k, betterB x y = true → betterB y (Lx k) = true → betterB x (Lx k) = true) := fun k h1 h2 => better_trans hxb hyb (HL.out k) h1 h2
            rw [← hx] at ci
            rw [← hy] at cj
            have HCx : Hid (∀ W, Fr (fun _ => False) w1 W → W.cell? ⟨w.heap.size, i, none⟩ = some (.float .f64 x)) := fun W f => by rw [hx]; exact HC.out W f i hlt
            have HCy : Hid (∀ W, Fr (fun _ => False) w1 W → W.cell? ⟨w.heap.size, j, none⟩ = some (.float .f64 y)) := fun W f => by rw [hy]; exact HC.out W f j hlt2
            clear hx hy
            go_wp2_with fail
            go_quiet ((go_at_call 35; exact Calls.quiet_of_same (better_c _ _ (by assumption) (by assumption) _)))
            have HFq := hide (HF2.out.join (Fr.of_drewN wr nq))
            generalize wr.drewN nq = w5 at HFq ⊢
            clear ci cj
            have ci := HCx.out _ HFq.out
            have cj := HCy.out _ HFq.out
            cases hA : betterB x y with
            | false =>
              go_wp2_with fail
              go_quiet ((go_at_call 36; exact Calls.quiet_of_same (rbetter_c _ _ (by assumption) (by assumption) _)))
              have HFr := hide (HFq.out.join (Fr.of_drewN w5 nq))
              generalize w5.drewN nq = w6 at HFr ⊢
              clear ci cj
              go_wp2_with fail
              go_loopw [11] (fun v11 wr => ∃ k : Nat, v11 = .int .i64 (k : Int) ∧ k ≤ 3 ∧ Hid (Fr (fun _ => False) w1 wr)) (fun v11 _ => 3 - (intOf v11).toNat)
              case atStart => exact ⟨0, rfl, by omega, HFr.out⟩
              case round =>
                obtain ⟨k, rfl, hk, HF3⟩ := hrel
                by_cases hlt3 : k < 3
                · have hkk : (k : Int) < 3 := by omega
                  obtain ⟨z, hz⟩ : ∃ z, z = Lx k := ⟨_, rfl⟩
                  have hzb : z < 18446744073709551616 := by rw [hz]; exact HL.out k
                  have ck := HC.out _ HF3.out k hlt3
                  have ci := HCx.out _ HF3.out
                  have cj := HCy.out _ HF3.out
                  rw [← hz] at ck
                  have Htrk := hide (Htr.out k)
                  rw [← hz] at Htrk
                  clear hz
                  go_wp2_with fail
                  go_quiet (fail)
                  have HFk := hide (HF3.out.join (Fr.of_drewN wr nq))
                  generalize wr.drewN nq = w7 at HFk ⊢
                  go_wp2_with fail
                  go_roundw
                  case rel => exact ⟨k + 1, by go_num, by omega, HFk.out⟩
                  case measure => simp [intOf]; omega
                · have hkk : ¬ (k : Int) < 3 := by omega
                  go_wp2_with fail
                  go_roundw
                  case rel => exact ⟨j + 1, by go_num, by omega, HF3.out⟩
                  case measure => simp [intOf]; omega
            | true =>
              have hB : betterB y x = false := by have := Hasym.out; rw [hA] at this; simpa using this
              go_wp2_with fail
              go_quiet ((go_at_call 36; exact Calls.quiet_of_same (rbetter_c _ _ (by assumption) (by assumption) _)))
              have HFr := hide (HFq.out.join (Fr.of_drewN w5 nq))
              generalize w5.drewN nq = w6 at HFr ⊢
              clear ci cj
              go_wp2_with fail
              go_loopw [11] (fun v11 wr => ∃ k : Nat, v11 = .int .i64 (k : Int) ∧ k ≤ 3 ∧ Hid (Fr (fun _ => False) w1 wr)) (fun v11 _ => 3 - (intOf v11).toNat)
              case atStart => exact ⟨0, rfl, by omega, HFr.out⟩
              case round =>
                obtain ⟨k, rfl, hk, HF3⟩ := hrel
                by_cases hlt3 : k < 3
                · have hkk : (k : Int) < 3 := by omega
                  obtain ⟨z, hz⟩ : ∃ z, z = Lx k := ⟨_, rfl⟩
                  have hzb : z < 18446744073709551616 := by rw [hz]; exact HL.out k
                  have ck := HC.out _ HF3.out k hlt3
                  have ci := HCx.out _ HF3.out
                  have cj := HCy.out _ HF3.out
                  rw [← hz] at ck
                  have Htrk := hide (Htr.out k)
                  rw [← hz] at Htrk
                  clear hz
                  cases hC : betterB y z with
                  | false =>
                    go_wp2_with fail
                    go_quiet ((go_at_call 35; exact Calls.quiet_of_same (better_c _ _ (by assumption) (by assumption) _)))
                    have HFk := hide (HF3.out.join (Fr.of_drewN wr nq))
                    generalize wr.drewN nq = w7 at HFk ⊢
                    go_wp2_with fail
                    go_roundw
                    case rel => exact ⟨k + 1, by go_num, by omega, HFk.out⟩
                    case measure => simp [intOf]; omega
                  | true =>
                    have hD := Htrk.out hA hC
                    go_wp2_with fail
                    go_quiet ((go_at_call 35; exact Calls.quiet_of_same (better_c _ _ (by assumption) (by assumption) _)))
                    have HFk := hide (HF3.out.join (Fr.of_drewN wr nq))
                    generalize wr.drewN nq = w7 at HFk ⊢
                    go_wp2_with fail
                    go_roundw
                    case rel => exact ⟨k + 1, by go_num, by omega, HFk.out⟩
                    case measure => simp [intOf]; omega
                · have hkk : ¬ (k : Int) < 3 := by omega
                  go_wp2_with fail
                  go_roundw
                  case rel => exact ⟨j + 1, by go_num, by omega, HF3.out⟩
                  case measure => simp [intOf]; omega
        · have hjj : ¬ (j : Int) < 3 := by omega
          go_wp2_with fail
          go_roundw
          case rel => exact ⟨i + 1, by go_num, by omega, HF2.out⟩
          case measure => simp [intOf]; omega
    · have hii : ¬ (i : Int) < 3 := by omega
      go_wp2_with fail
      refine (HQ.out wr).mono ?_
      rintro e w3 ⟨z, rfl, hz, hF3⟩
      have HF3 := hide (HF1.out.join hF3)
      obtain ⟨X, hX⟩ : ∃ X, floatOfInt .f64 a = X := ⟨_, rfl⟩
      obtain ⟨Y, hY⟩ : ∃ Y, floatOfInt .f64 b = Y := ⟨_, rfl⟩
      rw [hX, hY] at hz
      clear hF3
      cases hq : floatBits .quo .f64 X Y with
      | some r =>
        have h1 : ∀ W, (binOp .quo 50 (.float .f64 X) (.float .f64 Y)).run Try.prog W = .ok (.float .f64 r) W := fun W => run_float_arith W .quo 50 .f64 _ _ _ hq
        have hr : r < 18446744073709551616 := Ieee.Format.div_lt _ hq
        have ez : z = r := by
          rcases hz with h | ⟨h, _⟩
          · rw [hq] at h; exact (Option.some.inj h).symm
          · rw [hq] at h; cases h
        subst ez
        have hs := ord_self (rd z)
        rw [← ordD_eq] at hs
        have HS := hide (signbit_c z hr)
        obtain ⟨S, hS⟩ : ∃ S, S = decide (9223372036854775808 ≤ z) := ⟨_, rfl⟩
        rw [← hS] at HS
        have hSS : (S == S) = true := beq_self_eq_true S
        clear hq hS hz
        cases hn : (rd z).isNaN with
        | false =>
          have e1 : (ordD z z == some .eq) = true := by rw [hs, hn]; rfl
          clear hs hn
          go_wp2_with fail
          refine (HS.out _).mono ?_
          rintro e w4 ⟨rfl, rfl⟩
          go_wp2_with fail
          refine (HS.out _).mono ?_
          rintro e w4 ⟨rfl, rfl⟩
          go_wp2_with fail
          go_ret
          exact ⟨by simp, HF.out.join HF3.out⟩
        | true =>
          have e1 : (ordD z z == some .eq) = false := by rw [hs, hn]; rfl
          have e2 : (ordD z z != some .eq) = true := by rw [hs, hn]; rfl
          clear hs hn
          go_wp2_with fail
          go_ret
          exact ⟨by simp, HF.out.join HF3.out⟩
      | none =>
        obtain ⟨z2, h1, h2⟩ := quo_run X Y hq w3
        have n1 : (rd z).isNaN = true := by
          rcases hz with h | ⟨_, h, _⟩
          · rw [hq] at h; cases h
          · exact h
        have n2 : (rd z2).isNaN = true := by
          rcases h2 with h | ⟨_, h, _⟩
          · rw [hq] at h; cases h
          · exact h
        have e0 : (ordD z z2 == some .eq) = false := by
          rw [ordD_eq]
          cases hd : rd z with
          | nan s t => rfl
          | number s m i => rw [hd] at n1; cases n1
          | infinity s => rw [hd] at n1; cases n1
        have e1 : (ordD z z != some .eq) = true := by rw [ordD_eq, ord_self, n1]; rfl
        have e2 : (ordD z2 z2 != some .eq) = true := by rw [ordD_eq, ord_self, n2]; rfl
        clear hq n1 n2 h2 hz
        go_wp2_with fail
        go_ret
        exact ⟨by simp, (HF.out.join HF3.out).join (Fr.drew1 _ w3)⟩
end Go.Proofs.Ytaeppfbphbkigaa
