/-
  chunk: kinds.
-/
import Derived.Test.YtflapcaaaipoeaaK
import Derived.Test.YtflapcaaaipoeaaF
namespace Go.Proofs.Ytflapcaaaipoeaa
open Go.RowKit
set_option linter.unusedVariables false

def capL (b : Nat) : Bool := decide (65 ≤ b) && decide (b ≤ 90)
def letL (b : Nat) : Bool := capL b || (decide (97 ≤ b) && decide (b ≤ 122))
/-- Four letters. -/
def kindB (k : ByteArray) : Bool := decide (k.size = 4) && k.data.toList.all fun c => letL c.toNat
/-- A kind that one must know. -/
def critB (k : ByteArray) : Bool := kindB k && capL ((k.data.toList.map UInt8.toNat).getD 0 0)

theorem take_snoc (s : ByteArray) (k : Nat) (h : k < s.size) : s.data.toList.take (k + 1) = s.data.toList.take k ++ [s[k]] := by
  rw [List.take_succ_eq_append_getElem (by simpa using h)]; rfl
theorem all_snoc (s : ByteArray) (k : Nat) (h : k < s.size) (f : UInt8 → Bool) : (s.data.toList.take (k + 1)).all f = ((s.data.toList.take k).all f && f s[k]) := by
  rw [take_snoc s k h]; simp
theorem all_false {s : ByteArray} {k : Nat} {f : UInt8 → Bool} (h : (s.data.toList.take k).all f = false) : s.data.toList.all f = false := by
  rw [Bool.eq_false_iff] at h ⊢
  intro hh
  apply h
  rw [List.all_eq_true] at hh ⊢
  exact fun x hx => hh x (List.mem_of_mem_take hx)

set_option maxHeartbeats 400000 in
theorem isCapital_c (b : Nat) (hb : b < 256) (w : World) :
    Calls Try.prog 35 #[.int .u8 (b : Int)] w fun e w' => e = .returned (.bool (capL b)) ∧ w = w' := by
  have h1 : (decide ((65 : Int) ≤ (b : Int))) = decide (65 ≤ b) := by simp; omega
  go_enter Try.func35, Try.ntmps35
  by_cases h : 65 ≤ b
  · by_cases h2 : b ≤ 90
    · go_wp2
      go_ret
      exact ⟨by simp [capL, h, h2]; omega, rfl⟩
    · go_wp2
      go_ret
      exact ⟨by simp [capL, h, h2]; omega, rfl⟩
  · go_wp2
    go_ret
    exact ⟨by simp [capL, h], rfl⟩

/-- A letter, as the program asks it. -/
theorem letL_not {b : Nat} : (letL b = false) ↔ (capL b = false ∧ (b < 97 ∨ 122 < b)) := by
  unfold letL capL
  rw [Bool.or_eq_false_iff]
  simp only [Bool.and_eq_false_iff, decide_eq_false_iff_not, Nat.not_le]

set_option maxHeartbeats 400000 in
theorem mayBeKind_c (s : ByteArray) (w : World) (hs : s.size ≤ maxLen) :
    Calls Try.prog 34 #[.string s] w fun e w' => e = .returned (.bool (kindB s)) ∧ w = w' := by
  unfold maxLen at hs
  by_cases h4 : s.size = 4
  · go_enter Try.func34, Try.ntmps34
    go_wp2
    go_loop [10] (fun i => ∃ k : Nat, k ≤ 4 ∧ i = .int .i64 k ∧ Hid ((s.data.toList.take k).all (fun c => letL c.toNat) = true)) (fun i => 4 - (intOf i).toNat)
    case atStart => exact ⟨0, by omega, rfl, rfl⟩
    case round =>
      obtain ⟨k, hk, rfl, H⟩ := hrel
      by_cases hlt : k < 4
      · have hsn := hide (all_snoc s k (by omega) (fun c => letL c.toNat))
        have hcf := hide (@all_false s (k + 1) (fun c => letL c.toNat))
        have hb : s[k].toNat < 256 := s[k].toNat_lt
        have HC := hide (isCapital_c s[k].toNat hb)
        have h0 : (0 : Int) ≤ (k : Int) := by omega
        have h1 : (k : Int) < (s.size : Int) := by omega
        by_cases hc : capL s[k].toNat = true
        · have HN : Hid ((s.data.toList.take (k + 1)).all (fun c => letL c.toNat) = true) := by
            show _ = _
            rw [hsn.out, H.out]; simp [letL, hc]
          rw [hc] at HC
          clear hc hsn hcf H
          go_wp2_with (go_at_call 35; refine (HC.out _).mono ?_; rintro e w' ⟨rfl, rfl⟩)
          go_round
          case rel => exact ⟨k + 1, by omega, by go_num, HN⟩
          case measure => simp [intOf]; omega
        · have hcF : capL s[k].toNat = false := by simpa using hc
          rw [hcF] at HC
          clear hc
          by_cases ha : s[k].toNat < 97
          · have HN : Hid (kindB s = false) := by
              show _ = _
              unfold kindB
              rw [hcf.out (by rw [hsn.out, (letL_not.2 ⟨hcF, .inl ha⟩), Bool.and_false]), Bool.and_false]
            have d1 : decide ((s[k].toNat : Int) < 97) = true := by simp; omega
            clear hcF hsn hcf H ha
            go_wp2_with (go_at_call 35; refine (HC.out _).mono ?_; rintro e w' ⟨rfl, rfl⟩)
            go_ret
            exact ⟨by rw [HN.out]; rfl, rfl⟩
          · by_cases hz : 122 < s[k].toNat
            · have HN : Hid (kindB s = false) := by
                show _ = _
                unfold kindB
                rw [hcf.out (by rw [hsn.out, (letL_not.2 ⟨hcF, .inr hz⟩), Bool.and_false]), Bool.and_false]
              have d1 : decide ((s[k].toNat : Int) < 97) = false := by simp; omega
              have d2 : decide ((122 : Int) < (s[k].toNat : Int)) = true := by simp; omega
              clear hcF hsn hcf H ha hz
              go_wp2_with (go_at_call 35; refine (HC.out _).mono ?_; rintro e w' ⟨rfl, rfl⟩)
              go_ret
              exact ⟨by rw [HN.out]; rfl, rfl⟩
            · have HN : Hid ((s.data.toList.take (k + 1)).all (fun c => letL c.toNat) = true) := by
                show _ = _
                rw [hsn.out, H.out]
                have : 97 ≤ s[k].toNat ∧ s[k].toNat ≤ 122 := by omega
                simp [letL, this]
              have d1 : decide ((s[k].toNat : Int) < 97) = false := by simp; omega
              have d2 : decide ((122 : Int) < (s[k].toNat : Int)) = false := by simp; omega
              clear hcF hsn hcf H ha hz
              go_wp2_with (go_at_call 35; refine (HC.out _).mono ?_; rintro e w' ⟨rfl, rfl⟩)
              go_round
              case rel => exact ⟨k + 1, by omega, by go_num, HN⟩
              case measure => simp [intOf]; omega
      · have e4 : k = 4 := by omega
        have HN : Hid (kindB s = true) := by
          show _ = _
          have h := H.out
          rw [e4, List.take_of_length_le (by simpa using Nat.le_of_eq h4)] at h
          unfold kindB
          rw [h]; simp [h4]
        clear H
        go_wp2
        go_ret
        exact ⟨by rw [HN.out]; rfl, rfl⟩
  · go_enter Try.func34, Try.ntmps34
    go_wp2
    go_ret
    exact ⟨by simp [kindB, h4], rfl⟩

set_option maxHeartbeats 400000 in
theorem critical_c (s : ByteArray) (w : World) (hs : s.size ≤ maxLen) :
    Calls Try.prog 18 #[.string s] w fun e w' => e = .returned (.bool (critB s)) ∧ w = w' := by
  have hm := mayBeKind_c s
  cases hk : kindB s
  · rw [hk] at hm
    go_enter Try.func18, Try.ntmps18
    go_wp2_with (go_at_call 34; refine (hm _ hs).mono ?_; rintro e w' ⟨rfl, rfl⟩)
    go_ret
    exact ⟨by simp [critB, hk], rfl⟩
  · rw [hk] at hm
    have h4 : s.size = 4 := by
      unfold kindB at hk
      simp only [Bool.and_eq_true, decide_eq_true_eq] at hk
      exact hk.1
    have h0 : (0 : Int) < (s.size : Int) := by omega
    have h00 : 0 < s.size := by omega
    have hb : s[0].toNat < 256 := s[0].toNat_lt
    have hc := isCapital_c s[0].toNat hb
    have e0 : critB s = capL s[0].toNat := by
      unfold critB
      rw [hk, Bool.true_and]
      congr 1
      rw [List.getD_eq_getElem?_getD, List.getElem?_map, List.getElem?_eq_getElem (by simpa using h00)]
      rfl
    rw [e0]
    clear e0 h4
    go_enter Try.func18, Try.ntmps18
    go_wp2_with (first | (go_at_call 34; refine (hm _ hs).mono ?_; rintro e w' ⟨rfl, rfl⟩) | (go_at_call 35; refine (hc _).mono ?_; rintro e w' ⟨rfl, rfl⟩))
    go_ret
    exact ⟨rfl, rfl⟩

theorem or32 (b : Nat) (hb : b < 256) : ∃ m : Nat, bits .or .u8 (b : Int) 32 = (m : Int) ∧ m < 256 ∧ (letL b = true ↔ 97 ≤ m ∧ m ≤ 122) := by
  refine ⟨b ||| 32, ?_, ?_, ?_⟩
  · have h : ∀ b : Fin 256, bits .or .u8 ((b.val : Nat) : Int) 32 = ((b.val ||| 32 : Nat) : Int) := by decide +kernel
    exact h ⟨b, hb⟩
  · exact Nat.or_lt_two_pow (n := 8) hb (by decide)
  · have h : ∀ b : Fin 256, (letL b.val = true ↔ 97 ≤ b.val ||| 32 ∧ b.val ||| 32 ≤ 122) := by decide +kernel
    exact h ⟨b, hb⟩

set_option maxHeartbeats 400000 in
theorem letters_c (s : ByteArray) (w : World) (hs : s.size ≤ maxLen) :
    Calls Try.prog 24 #[.string s] w fun e w' => e = .returned (.bool (kindB s)) ∧ w = w' := by
  unfold maxLen at hs
  by_cases h4 : s.size = 4
  · go_enter Try.func24, Try.ntmps24
    go_wp2
    go_loop [3] (fun i => ∃ k : Nat, k ≤ 4 ∧ i = .int .i64 k ∧ Hid ((s.data.toList.take k).all (fun c => letL c.toNat) = true)) (fun i => 4 - (intOf i).toNat)
    case atStart => exact ⟨0, by omega, rfl, rfl⟩
    case round =>
      obtain ⟨k, hk, rfl, H⟩ := hrel
      by_cases hlt : k < 4
      · have hsn := hide (all_snoc s k (by omega) (fun c => letL c.toNat))
        have hcf := hide (@all_false s (k + 1) (fun c => letL c.toNat))
        have hb : s[k].toNat < 256 := s[k].toNat_lt
        obtain ⟨m, hm, hm2, hm3⟩ := or32 s[k].toNat hb
        have h0 : (0 : Int) ≤ (k : Int) := by omega
        have h1 : (k : Int) < (s.size : Int) := by omega
        by_cases hl : letL s[k].toNat = true
        · have HN : Hid ((s.data.toList.take (k + 1)).all (fun c => letL c.toNat) = true) := by
            show _ = _
            rw [hsn.out, H.out]; simp [hl]
          have h97 := (hm3.1 hl).1
          have h122 := (hm3.1 hl).2
          have d1 : decide ((m : Int) < 97) = false := by simp; omega
          have d2 : decide ((122 : Int) < (m : Int)) = false := by simp; omega
          clear hsn hcf H hl hm3 h97 h122
          go_wp2
          go_round
          case rel => exact ⟨k + 1, by omega, by go_num, HN⟩
          case measure => simp [intOf]; omega
        · have HN : Hid (kindB s = false) := by
            show _ = _
            unfold kindB
            rw [hcf.out (by rw [hsn.out, show letL s[k].toNat = false by simpa using hl, Bool.and_false]), Bool.and_false]
          by_cases ha : m < 97
          · have d1 : decide ((m : Int) < 97) = true := by simp; omega
            clear hsn hcf H ha hl hm3
            go_wp2
            go_ret
            exact ⟨by rw [HN.out]; rfl, rfl⟩
          · have hz : ¬ m ≤ 122 := fun h => hl (hm3.2 ⟨by omega, h⟩)
            have d1 : decide ((m : Int) < 97) = false := by simp; omega
            have d2 : decide ((122 : Int) < (m : Int)) = true := by simp; omega
            clear hsn hcf H ha hz hl hm3
            go_wp2
            go_ret
            exact ⟨by rw [HN.out]; rfl, rfl⟩
      · have e4 : k = 4 := by omega
        have HN : Hid (kindB s = true) := by
          show _ = _
          have h := H.out
          rw [e4, List.take_of_length_le (by simpa using Nat.le_of_eq h4)] at h
          unfold kindB
          rw [h]; simp [h4]
        clear H
        go_wp2
        go_ret
        exact ⟨by rw [HN.out]; rfl, rfl⟩
  · go_enter Try.func24, Try.ntmps24
    go_wp2
    go_ret
    exact ⟨by simp [kindB, h4], rfl⟩

set_option maxHeartbeats 400000 in
theorem rcritical_c (s : ByteArray) (w : World) (hs : s.size ≤ maxLen) :
    Calls Try.prog 19 #[.string s] w fun e w' => e = .returned (.bool (critB s)) ∧ w = w' := by
  have hm := letters_c s
  cases hk : kindB s
  · rw [hk] at hm
    go_enter Try.func19, Try.ntmps19
    go_wp2_with (go_at_call 24; refine (hm _ hs).mono ?_; rintro e w' ⟨rfl, rfl⟩)
    go_ret
    exact ⟨by simp [critB, hk], rfl⟩
  · rw [hk] at hm
    have h4 : s.size = 4 ∧ letL s.data.toList[0]!.toNat = true := by
      unfold kindB at hk
      simp only [Bool.and_eq_true, decide_eq_true_eq] at hk
      refine ⟨hk.1, List.all_eq_true.1 hk.2 _ ?_⟩
      have h5 : s.data.toList.length = 4 := by simpa using hk.1
      rw [List.getElem!_eq_getElem?_getD, List.getElem?_eq_getElem (by omega)]
      exact List.getElem_mem _
    have h0 : (0 : Int) < (s.size : Int) := by omega
    have h00 : 0 < s.size := by omega
    have hb : s[0].toNat < 256 := s[0].toNat_lt
    have e1 : s.data.toList[0]! = s[0] := by
      rw [List.getElem!_eq_getElem?_getD, List.getElem?_eq_getElem (by simpa using h00)]
      rfl
    have e2 : capL s[0].toNat = decide ((s[0].toNat : Int) < 97) := by
      have h := h4.2
      rw [e1] at h
      unfold letL at h
      unfold capL at h ⊢
      rw [Bool.eq_iff_iff]
      simp only [Bool.or_eq_true, Bool.and_eq_true, decide_eq_true_eq] at h ⊢
      omega
    have e0 : critB s = capL s[0].toNat := by
      unfold critB
      rw [hk, Bool.true_and]
      congr 1
      rw [List.getD_eq_getElem?_getD, List.getElem?_map, List.getElem?_eq_getElem (by simpa using h00)]
      rfl
    rw [e0, e2]
    clear e0 h4 e1 e2
    go_enter Try.func19, Try.ntmps19
    go_wp2_with (go_at_call 24; refine (hm _ hs).mono ?_; rintro e w' ⟨rfl, rfl⟩)
    go_ret
    exact ⟨rfl, rfl⟩
end Go.Proofs.Ytflapcaaaipoeaa
