/-
  filter: what a row comes to; the best filter (the program's).
-/
import Derived.Test.YtkafhjjdeldkbaaMf
import Derived.Test.YtkafhjjdeldkbaaMg
import Derived.Test.YtkafhjjdeldkbaaMh
import Derived.Test.YtkafhjjdeldkbaaMi
namespace Go.Proofs.Ytkafhjjdeldkbaa
open Go.RowKit Go.Lib
set_option linter.unusedVariables false

/-- A byte as a number with a sign. -/
def signV (b : Nat) : Int := if b < 128 then b else (b : Int) - 256
theorem sign_wrap (b : Nat) (h : b < 256) : IntKind.i8.wrap (b : Int) = signV b := by
  have h2 : ∀ b : Fin 256, IntKind.i8.wrap ((b.val : Nat) : Int) = signV b.val := by decide +kernel
  exact h2 ⟨b, h⟩
theorem sign_abs (b : Nat) (h : b < 256) : -128 ≤ signV b ∧ signV b ≤ 127 ∧ dist (signV b) 0 = (absV b : Nat) ∧ ((signV b < 0 ∧ ((absV b : Nat) : Int) = -signV b) ∨ (0 ≤ signV b ∧ ((absV b : Nat) : Int) = signV b)) := by
  unfold dist signV absV
  split <;> (refine ⟨by omega, by omega, ?_, by omega⟩; split <;> omega)
theorem abs_le {b : Nat} (h : b < 256) : absV b ≤ 128 := by unfold absV; split <;> omega
theorem cost_take_le {bs : List Nat} (h : ∀ b ∈ bs, b < 256) (hn : bs.length ≤ 4000) (k : Nat) : costV (bs.take k) ≤ 512000 := by
  have := cost_le (bs.take k) (fun b hb => h b (List.mem_of_mem_take hb))
  rw [List.length_take] at this
  omega

set_option maxHeartbeats 800000 in
theorem sumOf_c (a : Option Addr) (c : Nat) (bs : List Nat) (w : World) (hl : Lies w a bs) (hn : bs.length ≤ 4000) :
    Calls Try.prog 21 #[.slice a bs.length c] w fun e w' => e = .returned (.int .i64 ((costV bs : Nat) : Int)) ∧ w = w' := by
  have Hl := hide hl
  clear hl
  go_enter Try.func21, Try.ntmps21
  go_wp2
  go_loop [3, 8] (fun s i => ∃ (k z : Nat), k ≤ bs.length ∧ i = .int .i64 k ∧ s = .int .i64 (z : Int) ∧ Hid (z = costV (bs.take k))) (fun _ i => bs.length - (intOf i).toNat)
  case atStart => exact ⟨0, 0, by omega, rfl, rfl, rfl⟩
  case round =>
    obtain ⟨k, z, hk, rfl, rfl, Hz⟩ := hrel
    have hz : z ≤ 512000 := by rw [Hz.out]; exact cost_take_le Hl.out.1 hn k
    by_cases hlt : k < bs.length
    · obtain ⟨ad, rfl, hck⟩ := Hl.out.2 k hlt
      have hbk : bs.getD k 0 < 256 := Hl.out.1 _ (getD_mem bs k hlt)
      have HT := hide (cost_snoc bs k hlt)
      generalize bs.getD k 0 = b at hck hbk HT
      have hw8 := sign_wrap b hbk
      obtain ⟨s1, s2, s3, _⟩ := sign_abs b hbk
      have habs := abs_le hbk
      have HA := hide (fun w => apart_c (signV b) 0 w (by omega) (by omega))
      rw [s3] at HA
      clear s3
      generalize signV b = sv at *
      generalize absV b = av at *
      have h0 : (0 : Int) ≤ (k : Int) := by omega
      have h1 : (k : Int) < (bs.length : Int) := by omega
      go_wp2_with fail
      refine (HA.out _).mono ?_
      rintro e w' ⟨rfl, rfl⟩
      go_wp2
      go_round
      case rel => exact ⟨k + 1, z + av, by omega, by go_num, by go_num, by show _ = _; rw [HT.out, Hz.out]⟩
      case measure => simp [intOf]; omega
    · go_wp2
      go_ret
      rw [List.take_of_length_le (by omega)] at Hz
      exact ⟨ret_int (by rw [Hz.out]), rfl⟩

theorem best_no (B : Int) (a a2 : Option Addr) (n c m c2 : Nat) (w : World) (h : mayV 0 B n m = false) :
    Calls Try.prog 12 #[.slice a n c, .slice a2 m c2, .int .i64 B] w fun e w' => e = .returned (.int .i64 0) ∧ w = w' := by
  have HC := hide (do_no 0 B a a2 n c m c2 w h)
  go_enter Try.func12, Try.ntmps12
  go_wp2
  go_loopw [7, 8, 13] (fun bv lv iv wr => iv = .int .i64 0 ∧ w = wr) (fun _ _ _ _ => 0)
  case atStart => exact ⟨rfl, rfl⟩
  case round =>
    obtain ⟨rfl, rfl⟩ := hrel
    go_wp2_with fail
    refine (HC.out).mono ?_
    rintro e w' ⟨rfl, rfl⟩
    go_wp2
    go_ret
    exact ⟨rfl, rfl⟩

set_option maxHeartbeats 1600000 in
theorem best_yes (back : Nat) (a a2 : Option Addr) (c c2 : Nat) (xs ys : List Nat) (w : World) (hb : 1 ≤ back ∧ back ≤ 8) (hx : Lies w a xs) (hy : Lies w a2 ys) (hm : ys.length = 0 ∨ ys.length = xs.length) (hl : xs.length ≤ 4000) :
    Calls Try.prog 12 #[.slice a xs.length c, .slice a2 ys.length c2, .int .i64 (back : Int)] w fun e w' => e = .returned (.int .i64 ((bestV xs ys back : Nat) : Int)) ∧ Fr (fun _ => False) w w' := by
  have Hx := hide hx
  have Hy := hide hy
  have HC := hide (fun (w : World) (k : Nat) (hk : k ≤ 4) (hx : Lies w a xs) (hy : Lies w a2 ys) => do_yes k back a a2 c c2 xs ys w hk hb hx hy hm hl)
  have HB : Hid (∀ k, bestTo xs ys back (k + 1) = if costV (doV (k + 1) xs ys back) < (bestTo xs ys back k).2 then (k + 1, costV (doV (k + 1) xs ys back)) else bestTo xs ys back k) := fun k => rfl
  have HB0 : Hid (bestTo xs ys back 0 = (0, costV (doV 0 xs ys back))) := rfl
  have HV : Hid (bestV xs ys back = (bestTo xs ys back 4).1) := rfl
  have HD : Hid (∀ k, (doV k xs ys back).length = xs.length) := fun k => doV_length k xs ys back
  have HL : Hid (∀ k, (bestTo xs ys back k).1 ≤ k ∧ (bestTo xs ys back k).2 ≤ 512000) := fun k => by
    obtain ⟨h1, h2, _⟩ := bestTo_is xs ys back k
    refine ⟨h1, ?_⟩
    rw [h2]
    have := cost_le _ (doV_lt (bestTo xs ys back k).1 xs ys back)
    rw [doV_length] at this
    omega
  clear hx hy hm hb
  go_enter Try.func12, Try.ntmps12
  go_wp2
  go_loopw [7, 8, 13] (fun bv lv iv wr => ∃ k : Nat, k ≤ 5 ∧ iv = .int .i64 k ∧ Fr (fun _ => False) w wr ∧ ((k = 0 ∧ bv = .int .i64 0 ∧ lv = .int .i64 0) ∨ ∃ j, k = j + 1 ∧ bv = .int .i64 ((bestTo xs ys back j).1 : Nat) ∧ lv = .int .i64 ((bestTo xs ys back j).2 : Nat))) (fun _ _ iv _ => 5 - (intOf iv).toNat)
  case atStart => exact ⟨0, by omega, rfl, Fr.refl _ _, .inl ⟨rfl, rfl, rfl⟩⟩
  case round =>
    obtain ⟨k, hk, rfl, hf, hst⟩ := hrel
    have HF := hide hf
    clear hf
    by_cases hlt : k < 5
    · have h0 : (0 : Int) ≤ (k : Int) := by omega
      have h1 : (k : Int) < 5 := by omega
      have HK := hide (HC.out wr k (by omega) (Hx.out.keep HF.out (fun _ _ h => h)) (Hy.out.keep HF.out (fun _ _ h => h)))
      have HDk := hide (HD.out k)
      have Hlt := hide (doV_lt k xs ys back)
      rcases hst with ⟨rfl, rfl, rfl⟩ | ⟨j, rfl, rfl, rfl⟩
      · generalize doV 0 xs ys back = D at *
        go_wp2_with fail
        refine (HK.out).mono ?_
        rintro e w1 ⟨v, rfl, ho, hf1⟩
        obtain ⟨va, vc, rfl, _⟩ := ho.form
        have HS := hide (sumOf_c va vc D w1 ho.lies (by rw [HDk.out]; exact hl))
        have HF1 := hide (HF.out.join hf1)
        clear ho hf1
        go_wp2_with fail
        refine (HS.out).mono ?_
        rintro e w' ⟨rfl, rfl⟩
        go_wp2
        go_roundw
        case rel => exact ⟨1, by omega, by go_num, HF1.out, .inr ⟨0, rfl, by rw [HB0.out]; rfl, by rw [HB0.out]⟩⟩
        case measure => simp [intOf]
      · have hbj := HL.out j
        have HBj := hide (HB.out j)
        have hk0 : (((j + 1 : Nat) : Int) == 0) = false := by simp; omega
        generalize doV (j + 1) xs ys back = D at *
        generalize hP : bestTo xs ys back j = P at *
        obtain ⟨pb, pl⟩ := P
        simp only [] at hbj HBj ⊢
        obtain ⟨K, hK⟩ : ∃ K : Nat, K = j + 1 := ⟨_, rfl⟩
        rw [← hK] at hk0 h0 h1 hk hlt HK ⊢
        have HKj := hide hK
        clear hK hP
        go_wp2_with fail
        refine (HK.out).mono ?_
        rintro e w1 ⟨v, rfl, ho, hf1⟩
        obtain ⟨va, vc, rfl, _⟩ := ho.form
        have HS := hide (sumOf_c va vc D w1 ho.lies (by rw [HDk.out]; exact hl))
        have HF1 := hide (HF.out.join hf1)
        have hcs : costV D ≤ 512000 := by have := cost_le D Hlt.out; rw [HDk.out] at this; omega
        clear ho hf1
        go_wp2_with fail
        refine (HS.out).mono ?_
        rintro e w' ⟨rfl, rfl⟩
        generalize costV D = cs at *
        by_cases hc : cs < pl
        · have hc' : (cs : Int) < (pl : Int) := by omega
          have HN : Hid (bestTo xs ys back (j + 1) = (j + 1, cs)) := by show _ = _; rw [HBj.out, if_pos hc]
          clear HBj hc
          go_wp2
          go_roundw
          case rel => exact ⟨K + 1, by omega, by go_num, HF1.out, .inr ⟨K, rfl, by rw [HKj.out, HN.out], by rw [HKj.out, HN.out]⟩⟩
          case measure => simp [intOf]; omega
        · have hc' : ¬ ((cs : Int) < (pl : Int)) := by omega
          have HN : Hid (bestTo xs ys back (j + 1) = (pb, pl)) := by show _ = _; rw [HBj.out, if_neg hc]
          clear HBj hc
          go_wp2
          go_roundw
          case rel => exact ⟨K + 1, by omega, by go_num, HF1.out, .inr ⟨K, rfl, by rw [HKj.out, HN.out], by rw [HKj.out, HN.out]⟩⟩
          case measure => simp [intOf]; omega
    · have hke : k = 5 := by omega
      subst hke
      rcases hst with ⟨h, _, _⟩ | ⟨j, hj, rfl, rfl⟩
      · cases h
      · have : j = 4 := by omega
        subst this
        clear hj
        go_wp2
        go_ret
        exact ⟨ret_int (by rw [HV.out]), HF.out⟩
end Go.Proofs.Ytkafhjjdeldkbaa
