/-
  chunk: ChunkCuts.
-/
import Derived.Test.YtflapcaaaipoeaaCw
namespace Go.Proofs.Ytflapcaaaipoeaa
open Go.RowKit Go.Lib
set_option linter.unusedVariables false

theorem run_len : ∀ (f : Nat) (r : List Nat) (l : List Ck) (q : List Nat), runC f r = .ok (l, q) → l.length * 12 + q.length ≤ r.length
  | 0, r, l, q, h => by cases h
  | f + 1, r, l, q, h => by
    unfold runC at h
    by_cases h1 : firstE r = 0
    · rw [if_neg (by simpa using h1)] at h
      have hl := first_long h1
      have hr : (restOf r).length = r.length - (12 + (dataOf r).length) := List.length_drop
      by_cases h2 : kindOf r = sIend
      · rw [if_pos h2] at h
        cases h
        simp only [List.length_cons, List.length_nil]
        omega
      · rw [if_neg h2] at h
        cases h3 : runC f (restOf r) with
        | error e => rw [h3] at h; cases h
        | ok p =>
          obtain ⟨l', q'⟩ := p
          rw [h3] at h
          cases h
          have := run_len f _ _ _ h3
          simp only [List.length_cons]
          omega
    · rw [if_pos h1] at h; cases h
theorem cut_len {bs : List Nat} {l : List Ck} (h : cutV bs = .ok l) : l.length * 12 ≤ bs.length := by
  unfold cutV at h
  by_cases h1 : startE bs = 0
  · rw [if_neg (by simpa using h1)] at h
    cases h3 : runC (bs.length + 1) (bs.drop 8) with
    | error e => rw [h3] at h; cases h
    | ok p =>
      obtain ⟨l', q'⟩ := p
      rw [h3] at h
      simp only [] at h
      have := run_len _ _ _ _ h3
      rw [List.length_drop] at this
      by_cases h4 : 0 < q'.length
      · rw [if_pos h4] at h; cases h
      · rw [if_neg h4] at h; cases h; omega
  · rw [if_pos h1] at h; cases h

theorem cuts_nil {er : Int} (w : World) : LiesC w none [] := fun i hi => absurd hi (Nat.not_lt_zero i)

set_option maxHeartbeats 1600000 in
set_option maxRecDepth 20000 in
theorem cuts_law (a : Option Addr) (c : Nat) (bs : List Nat) (w : World) (hl : Lies w a bs) (hc : bs.length ≤ c) (hcm : c ≤ maxLen) :
    Calls Try.prog 3 #[.slice a bs.length c] w fun e w' => e = .returned (.bool true) ∧ Fr (fun _ => False) w w' := by
  have Hl := hide hl
  have Hc := hide hc
  have Hcm := hide hcm
  have hlm : bs.length ≤ 9223372036854775807 := by unfold maxLen at hcm; omega
  clear hl hc hcm
  by_cases h2 : 20000 < bs.length
  · have d1 : decide ((20000 : Int) < (bs.length : Int)) = true := by simp; omega
    clear h2 Hl
    generalize bs.length = n at *
    go_enter Try.func3, Try.ntmps3
    go_wp2_with fail
    refine (awake_c w).mono ?_
    rintro e w1 ⟨rfl, hf1⟩
    go_wp2
    go_ret
    exact ⟨rfl, hf1⟩
  · have d1 : decide ((20000 : Int) < (bs.length : Int)) = false := by simp; omega
    have Hn : Hid (bs.length ≤ 20000) := by show _ ≤ _; omega
    have Hcut := hide (fun w hl => cut_c a c bs w hl Hc.out Hcm.out)
    have Hrcut := hide (fun w hl => rcut_c a c bs w hl Hc.out Hcm.out)
    clear h2
    go_enter Try.func3, Try.ntmps3
    go_wp2_with fail
    refine (awake_c w).mono ?_
    rintro e w1 ⟨rfl, hf1⟩
    have HF1 := hide hf1
    clear hf1
    go_wp2_with fail
    refine (Hcut.out w1 (Hl.out.keep HF1.out (fun _ _ h => h))).mono ?_
    rintro e w2 ⟨hout, hf2⟩
    have HF2 := hide (HF1.out.join hf2)
    cases hcv : cutV bs with
    | error er =>
      unfold CutOut at hout
      rw [hcv] at hout
      subst hout
      clear hf2
      go_wp2_with fail
      refine (Hrcut.out w2 (Hl.out.keep HF2.out (fun _ _ h => h))).mono ?_
      rintro e w3 ⟨hout, hf3⟩
      have HF3 := hide (HF2.out.join hf3)
      unfold RCutOut at hout
      rw [hcv] at hout
      subst hout
      have hbe : (er == er) = true := by simp
      have hmo := model_c none 0 [] w3 (fun i hi => absurd hi (Nat.not_lt_zero i)) (by decide)
      have HM := hide hmo
      clear hf3 hmo hcv
      go_wp2_with fail
      refine HM.out.mono ?_
      rintro e w4 ⟨v, rfl, ho, hf4⟩
      obtain ⟨⟨xa, xc, hx, _, _, _⟩, _⟩ := ho.form
      subst hx
      have HF4 := hide (HF3.out.join hf4)
      have HSM := hide (same_c xa none xc 0 [] w4 (fun i hi => absurd hi (Nat.not_lt_zero i)) (fun i hi => absurd hi (Nat.not_lt_zero i)) (by decide))
      clear hf4 ho HM
      go_wp2_with fail
      refine HSM.out.mono ?_
      rintro e w5 ⟨rfl, hf5⟩
      go_wp2
      go_ret
      exact ⟨rfl, HF4.out.join hf5⟩
    | ok l =>
      have hll := cut_len hcv
      have hl3 : l.length ≤ 300000 := by have := Hn.out; omega
      unfold CutOut at hout
      rw [hcv] at hout
      obtain ⟨v, rfl, ho⟩ := hout
      obtain ⟨⟨xa, xc, hx, _, _, _⟩, _⟩ := ho.form
      subst hx
      have HLx := hide ho.lies
      clear hf2 ho hll
      go_wp2_with fail
      refine (Hrcut.out w2 (Hl.out.keep HF2.out (fun _ _ h => h))).mono ?_
      rintro e w3 ⟨hout, hf3⟩
      have HF3 := hide (HF2.out.join hf3)
      unfold RCutOut at hout
      rw [hcv] at hout
      obtain ⟨v, rfl, ho⟩ := hout
      obtain ⟨⟨ya, yc, hy, _, _, _⟩, _⟩ := ho.form
      subst hy
      have HLy := hide ho.lies
      have HM := hide (model_c xa xc l w3 (HLx.out.keep hf3 (fun _ _ h => h)) hl3)
      clear hf3 ho hcv
      go_wp2_with fail
      refine HM.out.mono ?_
      rintro e w4 ⟨v, rfl, ho, hf4⟩
      obtain ⟨⟨za, zc, hz, _, _, _⟩, _⟩ := ho.form
      subst hz
      have HF4 := hide (HF3.out.join hf4)
      have HSM := hide (same_c za ya zc yc l w4 ho.lies (HLy.out.keep hf4 (fun _ _ h => h)) (by omega))
      clear hf4 ho HM
      go_wp2_with fail
      refine HSM.out.mono ?_
      rintro e w5 ⟨rfl, hf5⟩
      go_wp2
      go_ret
      exact ⟨rfl, HF4.out.join hf5⟩
end Go.Proofs.Ytflapcaaaipoeaa
