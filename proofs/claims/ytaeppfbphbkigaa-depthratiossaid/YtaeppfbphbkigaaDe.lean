/-
  depth: DepthExact.
-/
import Derived.Test.YtaeppfbphbkigaaDd
namespace Go.Proofs.Ytaeppfbphbkigaa
open Go.RowKit

theorem and_i64 (a b : Nat) (ha : a < 65536) (hb : b < 65536) : bits .and .i64 (a : Int) (b : Int) = ((a &&& b : Nat) : Int) := by
  have e1 : (BitVec.ofInt 64 (a : Int)).toNat = a := by rw [BitVec.toNat_ofInt]; omega
  have e2 : (BitVec.ofInt 64 (b : Int)).toNat = b := by rw [BitVec.toNat_ofInt]; omega
  have e3 : (BitVec.ofInt 64 (a : Int) &&& BitVec.ofInt 64 (b : Int)).toNat = a &&& b := by
    rw [BitVec.toNat_and, e1, e2]
  have e4 : bits .and .i64 (a : Int) (b : Int) = IntKind.i64.wrap ((a &&& b : Nat) : Int) := by
    exact congrArg (fun n : Nat => IntKind.i64.wrap (n : Int)) e3
  have h : a &&& b ≤ a := Nat.and_le_left
  rw [e4, wrap_i64_id] <;> omega

/-- A mask's parts. -/
theorem mask_parts (m : Nat) (h1 : 1 ≤ m) (h8 : m ≤ 8) : ∃ Q T : Nat, (2 : Int) ^ m = (Q : Int) ∧ Q = T + 1 ∧ topM (m : Int) = (T : Int) ∧ 1 ≤ T ∧ T ≤ 255 ∧ T % 2 = 1 := by
  have h : m = 1 ∨ m = 2 ∨ m = 3 ∨ m = 4 ∨ m = 5 ∨ m = 6 ∨ m = 7 ∨ m = 8 := by omega
  rcases h with rfl | rfl | rfl | rfl | rfl | rfl | rfl | rfl
  · exact ⟨2, 1, rfl, rfl, rfl, by omega, by omega, rfl⟩
  · exact ⟨4, 3, rfl, rfl, rfl, by omega, by omega, rfl⟩
  · exact ⟨8, 7, rfl, rfl, rfl, by omega, by omega, rfl⟩
  · exact ⟨16, 15, rfl, rfl, rfl, by omega, by omega, rfl⟩
  · exact ⟨32, 31, rfl, rfl, rfl, by omega, by omega, rfl⟩
  · exact ⟨64, 63, rfl, rfl, rfl, by omega, by omega, rfl⟩
  · exact ⟨128, 127, rfl, rfl, rfl, by omega, by omega, rfl⟩
  · exact ⟨256, 255, rfl, rfl, rfl, by omega, by omega, rfl⟩

theorem near_same (q T : Nat) (h1 : 1 ≤ T) (hodd : T % 2 = 1) (hq : q ≤ T) : (q * 255 + T / 2) / T ≤ 255 ∧ (q * 255 * 2 + T) / (2 * T) = (q * 255 + T / 2) / T := by
  have hb : (q * 255 + T / 2) / T ≤ 255 := by
    have : q * 255 + T / 2 < T * 256 := by
      have : q * 255 ≤ T * 255 := Nat.mul_le_mul_right _ hq
      omega
    have := (Nat.div_lt_iff_lt_mul (by omega)).2 (by omega : q * 255 + T / 2 < 256 * T)
    omega
  refine ⟨hb, ?_⟩
  rw [← Nat.div_div_eq_div_mul]
  congr 1
  omega

theorem eight_mul (e : Nat) : eightV (257 * e) = (e : Int) ∧ eightOk (257 * e) = true := by
  have h : 257 * e % 257 = 0 := Nat.mul_mod_right _ _
  have h2 : 257 * e / 257 = e := Nat.mul_div_cancel_left e (by decide)
  exact ⟨by unfold eightV; rw [if_pos h, h2], by unfold eightOk; exact decide_eq_true h⟩

set_option maxHeartbeats 1000000 in
set_option maxRecDepth 100000 in
theorem exact_0 (v b : Nat) (hv : v < 256) (hb : b < 256) (hr : b % 4 = 0) (w : World) : Calls Try.prog 10 #[.int .u8 (v : Int), .int .u8 (b : Int)] w fun e w' => e = .returned (.bool true) ∧ Fr (fun _ => False) w w' := by
  obtain ⟨k, hk⟩ : ∃ k, k = v &&& 1 := ⟨_, rfl⟩
  have hkT : k ≤ 1 := by rw [hk]; exact Nat.and_le_right
  have hkand : bits .and .i64 (v : Int) 1 = (k : Int) := by rw [hk]; exact and_i64 v 1 (by omega) (by decide)
  obtain ⟨b4, hb4⟩ : ∃ b4, b4 = b / 4 := ⟨_, rfl⟩
  obtain ⟨m0, hm0⟩ : ∃ m0, m0 = b4 % 8 := ⟨_, rfl⟩
  obtain ⟨m, hm⟩ : ∃ m, m = 1 + m0 := ⟨_, rfl⟩
  obtain ⟨Q, T2, hQ, hQT, htop, ht1, ht2, hodd⟩ := mask_parts m (by omega) (by omega)
  obtain ⟨q, hq⟩ : ∃ q, q = v &&& T2 := ⟨_, rfl⟩
  have hqT : q ≤ T2 := by rw [hq]; exact Nat.and_le_right
  have hqand : bits .and .i64 (v : Int) (T2 : Int) = (q : Int) := by rw [hq]; exact and_i64 v T2 (by omega) (by omega)
  obtain ⟨hnb, hns⟩ := near_same q T2 ht1 hodd hqT
  obtain ⟨bk, hbk⟩ : ∃ bk, bk = (q * 255 + T2 / 2) / T2 := ⟨_, rfl⟩
  rw [← hbk] at hnb hns
  have hw := awake9_c
  have u1 := up_c (k : Int) 1
  have e1 : upV (k : Int) 1 = ((257 * (k * 255) : Nat) : Int) := by unfold upV; rw [show topU 1 = 1 from by decide, if_pos (by omega)]; show (k : Int) * 65535 = _; omega
  have e2 : upOk (k : Int) 1 = true := by unfold upOk; rw [show topU 1 = 1 from by decide]; exact decide_eq_true (by omega)
  rw [e1, e2] at u1
  have u2 := up_c 1 1
  rw [show upV 1 1 = 65535 from by decide, show upOk 1 1 = true from by decide] at u2
  have u3 := up_c 0 1
  rw [show upV 0 1 = 0 from by decide, show upOk 0 1 = true from by decide] at u3
  have u4 := mask_c (q : Int) (m : Int)
  have e3 : maskV (q : Int) (m : Int) = ((257 * bk : Nat) : Int) := by
    unfold maskV
    rw [htop, if_pos (by omega)]
    have : ((q : Int) * 255 + (T2 : Int) / 2) / (T2 : Int) = (bk : Int) := by rw [hbk]; simp
    rw [this]
    omega
  have e4 : maskOk (q : Int) (m : Int) = true := by unfold maskOk; rw [htop]; exact decide_eq_true (by omega)
  rw [e3, e4] at u4
  obtain ⟨e5, e6⟩ := eight_mul bk
  have u5 := fun w => eight_c (257 * bk) w (by omega)
  rw [e5, e6] at u5
  obtain ⟨e7, e8⟩ := eight_mul (k * 255)
  have u6 := fun w => eight_c (257 * (k * 255)) w (by omega)
  rw [e7, e8] at u6
  obtain ⟨A, hA⟩ : ∃ A, A = 257 * (k * 255) := ⟨_, rfl⟩
  obtain ⟨ee, hee⟩ : ∃ ee, ee = k * 255 := ⟨_, rfl⟩
  obtain ⟨B, hB⟩ : ∃ B, B = 257 * bk := ⟨_, rfl⟩
  rw [← hB] at u4 u5
  rw [← hA] at u1 u6
  rw [← hee] at u6
  have a1 : (A : Int) * 1 = (k : Int) * 65535 := by omega
  have a2 : (ee : Int) * 1 = (k : Int) * 255 := by omega
  have a3 : A ≤ 65535 := by omega
  have a4 : ee ≤ 255 := by omega
  have a5 : B ≤ 65535 := by omega
  obtain ⟨z1, hz1⟩ : ∃ z1 : Nat, (q : Int) * 255 = (z1 : Int) := ⟨q * 255, by omega⟩
  obtain ⟨z2, hz2⟩ : ∃ z2 : Nat, (z1 : Int) * 2 = (z2 : Int) := ⟨z1 * 2, by omega⟩
  obtain ⟨z3, hz3⟩ : ∃ z3 : Nat, (z2 : Int) + (Q : Int) = (z3 : Int) := ⟨z2 + Q, by omega⟩
  obtain ⟨z4, hz4⟩ : ∃ z4 : Nat, (z3 : Int) - 1 = (z4 : Int) := ⟨z3 - 1, by omega⟩
  obtain ⟨z5, hz5⟩ : ∃ z5 : Nat, 2 * (T2 : Int) = (z5 : Int) := ⟨2 * T2, by omega⟩
  have hz6 : z4 / z5 = bk := by
    have i4 : z4 = q * 255 * 2 + T2 := by omega
    have i5 : z5 = 2 * T2 := by omega
    rw [i4, i5]; exact hns
  have hz7 : (z4 : Int).tdiv (z5 : Int) = (bk : Int) := by rw [Int.tdiv_eq_ediv_of_nonneg (by omega)]; omega
  have hz8 : (z4 : Int) / (z5 : Int) = (bk : Int) := by omega
  have hz9 : ((z5 : Int) == 0) = false := beq_false_of_ne (by omega)
  have hq1 : (Q : Int) - 1 = (T2 : Int) := by omega
  have c1 : (b : Int) % 4 = 0 := by omega
  have c2 : (b : Int).tmod 4 = 0 := by rw [Int.tmod_eq_emod_of_nonneg (by omega)]; omega
  have c3 : (b : Int) / 4 = (b4 : Int) := by omega
  have c4 : (b4 : Int) % 8 = (m0 : Int) := by omega
  have c5 : (b4 : Int).tmod 8 = (m0 : Int) := by rw [Int.tmod_eq_emod_of_nonneg (by omega)]; omega
  have c6 : 1 + (m0 : Int) = (m : Int) := by omega
  have c7 : b4 < 64 := by omega
  have c8 : m0 < 8 := by omega
  have c9 : m ≤ 8 := by omega
  have d1 : Q ≤ 256 := by omega
  have d2 : z3 ≤ 200000 := by omega
  have d3 : z5 ≤ 510 := by omega
  have d4 : bk ≤ 255 := hnb
  have d5 : z1 ≤ 65025 := by omega
  have d6 : z2 ≤ 130050 := by omega
  have d7 : z4 ≤ 200000 := by omega
  have d8 : q ≤ 255 := by omega
  have d9 : k ≤ 255 := by omega
  have Hw := hide hw
  have U1 := hide u1
  have U2 := hide u2
  have U3 := hide u3
  have U4 := hide u4
  have U5 := hide u5
  have U6 := hide u6
  have HA1 := hide a1
  have HA2 := hide a2
  have HA3 := hide (And.intro hz7 (And.intro hz8 hz9))
  clear hw u1 u2 u3 u4 u5 u6 e1 e2 e3 e4 e5 e6 e7 e8 hA hee hB hk hq hm hm0 hb4 hr hQT htop hodd hns hbk hnb hz6 a1 a2 hqT hkT hz7 hz8 hz9
  go_enter Try.func10, Try.ntmps10
  go_wp2_with fail
  refine (Hw.out _).mono ?_
  rintro e w2 ⟨rfl, rfl⟩
  go_wp2_with fail
  refine (U1.out _).mono ?_
  rintro e w2 ⟨rfl, rfl⟩
  go_wp2_with fail
  refine (U2.out _).mono ?_
  rintro e w2 ⟨rfl, rfl⟩
  go_wp2_with fail
  refine (U3.out _).mono ?_
  rintro e w2 ⟨rfl, rfl⟩
  go_wp2_with fail
  refine (U4.out _).mono ?_
  rintro e w2 ⟨rfl, rfl⟩
  go_wp2_with fail
  refine (U5.out _).mono ?_
  rintro e w2 ⟨rfl, rfl⟩
  obtain ⟨hz7, hz8, hz9⟩ := HA3.out
  go_wp2_with fail
  refine (U6.out _).mono ?_
  rintro e w2 ⟨rfl, rfl⟩
  have a1 := HA1.out
  have a2 := HA2.out
  go_wp2_with fail
  go_ret
  exact ⟨by simp, Fr.of_alloc _ _⟩

set_option maxHeartbeats 1000000 in
set_option maxRecDepth 100000 in
theorem exact_1 (v b : Nat) (hv : v < 256) (hb : b < 256) (hr : b % 4 = 1) (w : World) : Calls Try.prog 10 #[.int .u8 (v : Int), .int .u8 (b : Int)] w fun e w' => e = .returned (.bool true) ∧ Fr (fun _ => False) w w' := by
  obtain ⟨k, hk⟩ : ∃ k, k = v &&& 3 := ⟨_, rfl⟩
  have hkT : k ≤ 3 := by rw [hk]; exact Nat.and_le_right
  have hkand : bits .and .i64 (v : Int) 3 = (k : Int) := by rw [hk]; exact and_i64 v 3 (by omega) (by decide)
  obtain ⟨b4, hb4⟩ : ∃ b4, b4 = b / 4 := ⟨_, rfl⟩
  obtain ⟨m0, hm0⟩ : ∃ m0, m0 = b4 % 8 := ⟨_, rfl⟩
  obtain ⟨m, hm⟩ : ∃ m, m = 1 + m0 := ⟨_, rfl⟩
  obtain ⟨Q, T2, hQ, hQT, htop, ht1, ht2, hodd⟩ := mask_parts m (by omega) (by omega)
  obtain ⟨q, hq⟩ : ∃ q, q = v &&& T2 := ⟨_, rfl⟩
  have hqT : q ≤ T2 := by rw [hq]; exact Nat.and_le_right
  have hqand : bits .and .i64 (v : Int) (T2 : Int) = (q : Int) := by rw [hq]; exact and_i64 v T2 (by omega) (by omega)
  obtain ⟨hnb, hns⟩ := near_same q T2 ht1 hodd hqT
  obtain ⟨bk, hbk⟩ : ∃ bk, bk = (q * 255 + T2 / 2) / T2 := ⟨_, rfl⟩
  rw [← hbk] at hnb hns
  have hw := awake9_c
  have u1 := up_c (k : Int) 2
  have e1 : upV (k : Int) 2 = ((257 * (k * 85) : Nat) : Int) := by unfold upV; rw [show topU 2 = 3 from by decide, if_pos (by omega)]; show (k : Int) * 21845 = _; omega
  have e2 : upOk (k : Int) 2 = true := by unfold upOk; rw [show topU 2 = 3 from by decide]; exact decide_eq_true (by omega)
  rw [e1, e2] at u1
  have u2 := up_c 3 2
  rw [show upV 3 2 = 65535 from by decide, show upOk 3 2 = true from by decide] at u2
  have u3 := up_c 0 2
  rw [show upV 0 2 = 0 from by decide, show upOk 0 2 = true from by decide] at u3
  have u4 := mask_c (q : Int) (m : Int)
  have e3 : maskV (q : Int) (m : Int) = ((257 * bk : Nat) : Int) := by
    unfold maskV
    rw [htop, if_pos (by omega)]
    have : ((q : Int) * 255 + (T2 : Int) / 2) / (T2 : Int) = (bk : Int) := by rw [hbk]; simp
    rw [this]
    omega
  have e4 : maskOk (q : Int) (m : Int) = true := by unfold maskOk; rw [htop]; exact decide_eq_true (by omega)
  rw [e3, e4] at u4
  obtain ⟨e5, e6⟩ := eight_mul bk
  have u5 := fun w => eight_c (257 * bk) w (by omega)
  rw [e5, e6] at u5
  obtain ⟨e7, e8⟩ := eight_mul (k * 85)
  have u6 := fun w => eight_c (257 * (k * 85)) w (by omega)
  rw [e7, e8] at u6
  obtain ⟨A, hA⟩ : ∃ A, A = 257 * (k * 85) := ⟨_, rfl⟩
  obtain ⟨ee, hee⟩ : ∃ ee, ee = k * 85 := ⟨_, rfl⟩
  obtain ⟨B, hB⟩ : ∃ B, B = 257 * bk := ⟨_, rfl⟩
  rw [← hB] at u4 u5
  rw [← hA] at u1 u6
  rw [← hee] at u6
  have a1 : (A : Int) * 3 = (k : Int) * 65535 := by omega
  have a2 : (ee : Int) * 3 = (k : Int) * 255 := by omega
  have a3 : A ≤ 65535 := by omega
  have a4 : ee ≤ 255 := by omega
  have a5 : B ≤ 65535 := by omega
  obtain ⟨z1, hz1⟩ : ∃ z1 : Nat, (q : Int) * 255 = (z1 : Int) := ⟨q * 255, by omega⟩
  obtain ⟨z2, hz2⟩ : ∃ z2 : Nat, (z1 : Int) * 2 = (z2 : Int) := ⟨z1 * 2, by omega⟩
  obtain ⟨z3, hz3⟩ : ∃ z3 : Nat, (z2 : Int) + (Q : Int) = (z3 : Int) := ⟨z2 + Q, by omega⟩
  obtain ⟨z4, hz4⟩ : ∃ z4 : Nat, (z3 : Int) - 1 = (z4 : Int) := ⟨z3 - 1, by omega⟩
  obtain ⟨z5, hz5⟩ : ∃ z5 : Nat, 2 * (T2 : Int) = (z5 : Int) := ⟨2 * T2, by omega⟩
  have hz6 : z4 / z5 = bk := by
    have i4 : z4 = q * 255 * 2 + T2 := by omega
    have i5 : z5 = 2 * T2 := by omega
    rw [i4, i5]; exact hns
  have hz7 : (z4 : Int).tdiv (z5 : Int) = (bk : Int) := by rw [Int.tdiv_eq_ediv_of_nonneg (by omega)]; omega
  have hz8 : (z4 : Int) / (z5 : Int) = (bk : Int) := by omega
  have hz9 : ((z5 : Int) == 0) = false := beq_false_of_ne (by omega)
  have hq1 : (Q : Int) - 1 = (T2 : Int) := by omega
  have c1 : (b : Int) % 4 = 1 := by omega
  have c2 : (b : Int).tmod 4 = 1 := by rw [Int.tmod_eq_emod_of_nonneg (by omega)]; omega
  have c3 : (b : Int) / 4 = (b4 : Int) := by omega
  have c4 : (b4 : Int) % 8 = (m0 : Int) := by omega
  have c5 : (b4 : Int).tmod 8 = (m0 : Int) := by rw [Int.tmod_eq_emod_of_nonneg (by omega)]; omega
  have c6 : 1 + (m0 : Int) = (m : Int) := by omega
  have c7 : b4 < 64 := by omega
  have c8 : m0 < 8 := by omega
  have c9 : m ≤ 8 := by omega
  have d1 : Q ≤ 256 := by omega
  have d2 : z3 ≤ 200000 := by omega
  have d3 : z5 ≤ 510 := by omega
  have d4 : bk ≤ 255 := hnb
  have d5 : z1 ≤ 65025 := by omega
  have d6 : z2 ≤ 130050 := by omega
  have d7 : z4 ≤ 200000 := by omega
  have d8 : q ≤ 255 := by omega
  have d9 : k ≤ 255 := by omega
  have Hw := hide hw
  have U1 := hide u1
  have U2 := hide u2
  have U3 := hide u3
  have U4 := hide u4
  have U5 := hide u5
  have U6 := hide u6
  have HA1 := hide a1
  have HA2 := hide a2
  have HA3 := hide (And.intro hz7 (And.intro hz8 hz9))
  clear hw u1 u2 u3 u4 u5 u6 e1 e2 e3 e4 e5 e6 e7 e8 hA hee hB hk hq hm hm0 hb4 hr hQT htop hodd hns hbk hnb hz6 a1 a2 hqT hkT hz7 hz8 hz9
  go_enter Try.func10, Try.ntmps10
  go_wp2_with fail
  refine (Hw.out _).mono ?_
  rintro e w2 ⟨rfl, rfl⟩
  go_wp2_with fail
  refine (U1.out _).mono ?_
  rintro e w2 ⟨rfl, rfl⟩
  go_wp2_with fail
  refine (U2.out _).mono ?_
  rintro e w2 ⟨rfl, rfl⟩
  go_wp2_with fail
  refine (U3.out _).mono ?_
  rintro e w2 ⟨rfl, rfl⟩
  go_wp2_with fail
  refine (U4.out _).mono ?_
  rintro e w2 ⟨rfl, rfl⟩
  go_wp2_with fail
  refine (U5.out _).mono ?_
  rintro e w2 ⟨rfl, rfl⟩
  obtain ⟨hz7, hz8, hz9⟩ := HA3.out
  go_wp2_with fail
  refine (U6.out _).mono ?_
  rintro e w2 ⟨rfl, rfl⟩
  have a1 := HA1.out
  have a2 := HA2.out
  go_wp2_with fail
  go_ret
  exact ⟨by simp, Fr.of_alloc _ _⟩

set_option maxHeartbeats 1000000 in
set_option maxRecDepth 100000 in
theorem exact_2 (v b : Nat) (hv : v < 256) (hb : b < 256) (hr : b % 4 = 2) (w : World) : Calls Try.prog 10 #[.int .u8 (v : Int), .int .u8 (b : Int)] w fun e w' => e = .returned (.bool true) ∧ Fr (fun _ => False) w w' := by
  obtain ⟨k, hk⟩ : ∃ k, k = v &&& 15 := ⟨_, rfl⟩
  have hkT : k ≤ 15 := by rw [hk]; exact Nat.and_le_right
  have hkand : bits .and .i64 (v : Int) 15 = (k : Int) := by rw [hk]; exact and_i64 v 15 (by omega) (by decide)
  obtain ⟨b4, hb4⟩ : ∃ b4, b4 = b / 4 := ⟨_, rfl⟩
  obtain ⟨m0, hm0⟩ : ∃ m0, m0 = b4 % 8 := ⟨_, rfl⟩
  obtain ⟨m, hm⟩ : ∃ m, m = 1 + m0 := ⟨_, rfl⟩
  obtain ⟨Q, T2, hQ, hQT, htop, ht1, ht2, hodd⟩ := mask_parts m (by omega) (by omega)
  obtain ⟨q, hq⟩ : ∃ q, q = v &&& T2 := ⟨_, rfl⟩
  have hqT : q ≤ T2 := by rw [hq]; exact Nat.and_le_right
  have hqand : bits .and .i64 (v : Int) (T2 : Int) = (q : Int) := by rw [hq]; exact and_i64 v T2 (by omega) (by omega)
  obtain ⟨hnb, hns⟩ := near_same q T2 ht1 hodd hqT
  obtain ⟨bk, hbk⟩ : ∃ bk, bk = (q * 255 + T2 / 2) / T2 := ⟨_, rfl⟩
  rw [← hbk] at hnb hns
  have hw := awake9_c
  have u1 := up_c (k : Int) 4
  have e1 : upV (k : Int) 4 = ((257 * (k * 17) : Nat) : Int) := by unfold upV; rw [show topU 4 = 15 from by decide, if_pos (by omega)]; show (k : Int) * 4369 = _; omega
  have e2 : upOk (k : Int) 4 = true := by unfold upOk; rw [show topU 4 = 15 from by decide]; exact decide_eq_true (by omega)
  rw [e1, e2] at u1
  have u2 := up_c 15 4
  rw [show upV 15 4 = 65535 from by decide, show upOk 15 4 = true from by decide] at u2
  have u3 := up_c 0 4
  rw [show upV 0 4 = 0 from by decide, show upOk 0 4 = true from by decide] at u3
  have u4 := mask_c (q : Int) (m : Int)
  have e3 : maskV (q : Int) (m : Int) = ((257 * bk : Nat) : Int) := by
    unfold maskV
    rw [htop, if_pos (by omega)]
    have : ((q : Int) * 255 + (T2 : Int) / 2) / (T2 : Int) = (bk : Int) := by rw [hbk]; simp
    rw [this]
    omega
  have e4 : maskOk (q : Int) (m : Int) = true := by unfold maskOk; rw [htop]; exact decide_eq_true (by omega)
  rw [e3, e4] at u4
  obtain ⟨e5, e6⟩ := eight_mul bk
  have u5 := fun w => eight_c (257 * bk) w (by omega)
  rw [e5, e6] at u5
  obtain ⟨e7, e8⟩ := eight_mul (k * 17)
  have u6 := fun w => eight_c (257 * (k * 17)) w (by omega)
  rw [e7, e8] at u6
  obtain ⟨A, hA⟩ : ∃ A, A = 257 * (k * 17) := ⟨_, rfl⟩
  obtain ⟨ee, hee⟩ : ∃ ee, ee = k * 17 := ⟨_, rfl⟩
  obtain ⟨B, hB⟩ : ∃ B, B = 257 * bk := ⟨_, rfl⟩
  rw [← hB] at u4 u5
  rw [← hA] at u1 u6
  rw [← hee] at u6
  have a1 : (A : Int) * 15 = (k : Int) * 65535 := by omega
  have a2 : (ee : Int) * 15 = (k : Int) * 255 := by omega
  have a3 : A ≤ 65535 := by omega
  have a4 : ee ≤ 255 := by omega
  have a5 : B ≤ 65535 := by omega
  obtain ⟨z1, hz1⟩ : ∃ z1 : Nat, (q : Int) * 255 = (z1 : Int) := ⟨q * 255, by omega⟩
  obtain ⟨z2, hz2⟩ : ∃ z2 : Nat, (z1 : Int) * 2 = (z2 : Int) := ⟨z1 * 2, by omega⟩
  obtain ⟨z3, hz3⟩ : ∃ z3 : Nat, (z2 : Int) + (Q : Int) = (z3 : Int) := ⟨z2 + Q, by omega⟩
  obtain ⟨z4, hz4⟩ : ∃ z4 : Nat, (z3 : Int) - 1 = (z4 : Int) := ⟨z3 - 1, by omega⟩
  obtain ⟨z5, hz5⟩ : ∃ z5 : Nat, 2 * (T2 : Int) = (z5 : Int) := ⟨2 * T2, by omega⟩
  have hz6 : z4 / z5 = bk := by
    have i4 : z4 = q * 255 * 2 + T2 := by omega
    have i5 : z5 = 2 * T2 := by omega
    rw [i4, i5]; exact hns
  have hz7 : (z4 : Int).tdiv (z5 : Int) = (bk : Int) := by rw [Int.tdiv_eq_ediv_of_nonneg (by omega)]; omega
  have hz8 : (z4 : Int) / (z5 : Int) = (bk : Int) := by omega
  have hz9 : ((z5 : Int) == 0) = false := beq_false_of_ne (by omega)
  have hq1 : (Q : Int) - 1 = (T2 : Int) := by omega
  have c1 : (b : Int) % 4 = 2 := by omega
  have c2 : (b : Int).tmod 4 = 2 := by rw [Int.tmod_eq_emod_of_nonneg (by omega)]; omega
  have c3 : (b : Int) / 4 = (b4 : Int) := by omega
  have c4 : (b4 : Int) % 8 = (m0 : Int) := by omega
  have c5 : (b4 : Int).tmod 8 = (m0 : Int) := by rw [Int.tmod_eq_emod_of_nonneg (by omega)]; omega
  have c6 : 1 + (m0 : Int) = (m : Int) := by omega
  have c7 : b4 < 64 := by omega
  have c8 : m0 < 8 := by omega
  have c9 : m ≤ 8 := by omega
  have d1 : Q ≤ 256 := by omega
  have d2 : z3 ≤ 200000 := by omega
  have d3 : z5 ≤ 510 := by omega
  have d4 : bk ≤ 255 := hnb
  have d5 : z1 ≤ 65025 := by omega
  have d6 : z2 ≤ 130050 := by omega
  have d7 : z4 ≤ 200000 := by omega
  have d8 : q ≤ 255 := by omega
  have d9 : k ≤ 255 := by omega
  have Hw := hide hw
  have U1 := hide u1
  have U2 := hide u2
  have U3 := hide u3
  have U4 := hide u4
  have U5 := hide u5
  have U6 := hide u6
  have HA1 := hide a1
  have HA2 := hide a2
  have HA3 := hide (And.intro hz7 (And.intro hz8 hz9))
  clear hw u1 u2 u3 u4 u5 u6 e1 e2 e3 e4 e5 e6 e7 e8 hA hee hB hk hq hm hm0 hb4 hr hQT htop hodd hns hbk hnb hz6 a1 a2 hqT hkT hz7 hz8 hz9
  go_enter Try.func10, Try.ntmps10
  go_wp2_with fail
  refine (Hw.out _).mono ?_
  rintro e w2 ⟨rfl, rfl⟩
  go_wp2_with fail
  refine (U1.out _).mono ?_
  rintro e w2 ⟨rfl, rfl⟩
  go_wp2_with fail
  refine (U2.out _).mono ?_
  rintro e w2 ⟨rfl, rfl⟩
  go_wp2_with fail
  refine (U3.out _).mono ?_
  rintro e w2 ⟨rfl, rfl⟩
  go_wp2_with fail
  refine (U4.out _).mono ?_
  rintro e w2 ⟨rfl, rfl⟩
  go_wp2_with fail
  refine (U5.out _).mono ?_
  rintro e w2 ⟨rfl, rfl⟩
  obtain ⟨hz7, hz8, hz9⟩ := HA3.out
  go_wp2_with fail
  refine (U6.out _).mono ?_
  rintro e w2 ⟨rfl, rfl⟩
  have a1 := HA1.out
  have a2 := HA2.out
  go_wp2_with fail
  go_ret
  exact ⟨by simp, Fr.of_alloc _ _⟩

set_option maxHeartbeats 1000000 in
set_option maxRecDepth 100000 in
theorem exact_3 (v b : Nat) (hv : v < 256) (hb : b < 256) (hr : b % 4 = 3) (w : World) : Calls Try.prog 10 #[.int .u8 (v : Int), .int .u8 (b : Int)] w fun e w' => e = .returned (.bool true) ∧ Fr (fun _ => False) w w' := by
  obtain ⟨k, hk⟩ : ∃ k, k = v &&& 255 := ⟨_, rfl⟩
  have hkT : k ≤ 255 := by rw [hk]; exact Nat.and_le_right
  have hkand : bits .and .i64 (v : Int) 255 = (k : Int) := by rw [hk]; exact and_i64 v 255 (by omega) (by decide)
  obtain ⟨b4, hb4⟩ : ∃ b4, b4 = b / 4 := ⟨_, rfl⟩
  obtain ⟨m0, hm0⟩ : ∃ m0, m0 = b4 % 8 := ⟨_, rfl⟩
  obtain ⟨m, hm⟩ : ∃ m, m = 1 + m0 := ⟨_, rfl⟩
  obtain ⟨Q, T2, hQ, hQT, htop, ht1, ht2, hodd⟩ := mask_parts m (by omega) (by omega)
  obtain ⟨q, hq⟩ : ∃ q, q = v &&& T2 := ⟨_, rfl⟩
  have hqT : q ≤ T2 := by rw [hq]; exact Nat.and_le_right
  have hqand : bits .and .i64 (v : Int) (T2 : Int) = (q : Int) := by rw [hq]; exact and_i64 v T2 (by omega) (by omega)
  obtain ⟨hnb, hns⟩ := near_same q T2 ht1 hodd hqT
  obtain ⟨bk, hbk⟩ : ∃ bk, bk = (q * 255 + T2 / 2) / T2 := ⟨_, rfl⟩
  rw [← hbk] at hnb hns
  have hw := awake9_c
  have u1 := up_c (k : Int) 8
  have e1 : upV (k : Int) 8 = ((257 * (k * 1) : Nat) : Int) := by unfold upV; rw [show topU 8 = 255 from by decide, if_pos (by omega)]; show (k : Int) * 257 = _; omega
  have e2 : upOk (k : Int) 8 = true := by unfold upOk; rw [show topU 8 = 255 from by decide]; exact decide_eq_true (by omega)
  rw [e1, e2] at u1
  have u2 := up_c 255 8
  rw [show upV 255 8 = 65535 from by decide, show upOk 255 8 = true from by decide] at u2
  have u3 := up_c 0 8
  rw [show upV 0 8 = 0 from by decide, show upOk 0 8 = true from by decide] at u3
  have u4 := mask_c (q : Int) (m : Int)
  have e3 : maskV (q : Int) (m : Int) = ((257 * bk : Nat) : Int) := by
    unfold maskV
    rw [htop, if_pos (by omega)]
    have : ((q : Int) * 255 + (T2 : Int) / 2) / (T2 : Int) = (bk : Int) := by rw [hbk]; simp
    rw [this]
    omega
  have e4 : maskOk (q : Int) (m : Int) = true := by unfold maskOk; rw [htop]; exact decide_eq_true (by omega)
  rw [e3, e4] at u4
  obtain ⟨e5, e6⟩ := eight_mul bk
  have u5 := fun w => eight_c (257 * bk) w (by omega)
  rw [e5, e6] at u5
  obtain ⟨e7, e8⟩ := eight_mul (k * 1)
  have u6 := fun w => eight_c (257 * (k * 1)) w (by omega)
  rw [e7, e8] at u6
  obtain ⟨A, hA⟩ : ∃ A, A = 257 * (k * 1) := ⟨_, rfl⟩
  obtain ⟨ee, hee⟩ : ∃ ee, ee = k * 1 := ⟨_, rfl⟩
  obtain ⟨B, hB⟩ : ∃ B, B = 257 * bk := ⟨_, rfl⟩
  rw [← hB] at u4 u5
  rw [← hA] at u1 u6
  rw [← hee] at u6
  have a1 : (A : Int) * 255 = (k : Int) * 65535 := by omega
  have a2 : (ee : Int) * 255 = (k : Int) * 255 := by omega
  have a3 : A ≤ 65535 := by omega
  have a4 : ee ≤ 255 := by omega
  have a5 : B ≤ 65535 := by omega
  obtain ⟨z1, hz1⟩ : ∃ z1 : Nat, (q : Int) * 255 = (z1 : Int) := ⟨q * 255, by omega⟩
  obtain ⟨z2, hz2⟩ : ∃ z2 : Nat, (z1 : Int) * 2 = (z2 : Int) := ⟨z1 * 2, by omega⟩
  obtain ⟨z3, hz3⟩ : ∃ z3 : Nat, (z2 : Int) + (Q : Int) = (z3 : Int) := ⟨z2 + Q, by omega⟩
  obtain ⟨z4, hz4⟩ : ∃ z4 : Nat, (z3 : Int) - 1 = (z4 : Int) := ⟨z3 - 1, by omega⟩
  obtain ⟨z5, hz5⟩ : ∃ z5 : Nat, 2 * (T2 : Int) = (z5 : Int) := ⟨2 * T2, by omega⟩
  have hz6 : z4 / z5 = bk := by
    have i4 : z4 = q * 255 * 2 + T2 := by omega
    have i5 : z5 = 2 * T2 := by omega
    rw [i4, i5]; exact hns
  have hz7 : (z4 : Int).tdiv (z5 : Int) = (bk : Int) := by rw [Int.tdiv_eq_ediv_of_nonneg (by omega)]; omega
  have hz8 : (z4 : Int) / (z5 : Int) = (bk : Int) := by omega
  have hz9 : ((z5 : Int) == 0) = false := beq_false_of_ne (by omega)
  have hq1 : (Q : Int) - 1 = (T2 : Int) := by omega
  have c1 : (b : Int) % 4 = 3 := by omega
  have c2 : (b : Int).tmod 4 = 3 := by rw [Int.tmod_eq_emod_of_nonneg (by omega)]; omega
  have c3 : (b : Int) / 4 = (b4 : Int) := by omega
  have c4 : (b4 : Int) % 8 = (m0 : Int) := by omega
  have c5 : (b4 : Int).tmod 8 = (m0 : Int) := by rw [Int.tmod_eq_emod_of_nonneg (by omega)]; omega
  have c6 : 1 + (m0 : Int) = (m : Int) := by omega
  have c7 : b4 < 64 := by omega
  have c8 : m0 < 8 := by omega
  have c9 : m ≤ 8 := by omega
  have d1 : Q ≤ 256 := by omega
  have d2 : z3 ≤ 200000 := by omega
  have d3 : z5 ≤ 510 := by omega
  have d4 : bk ≤ 255 := hnb
  have d5 : z1 ≤ 65025 := by omega
  have d6 : z2 ≤ 130050 := by omega
  have d7 : z4 ≤ 200000 := by omega
  have d8 : q ≤ 255 := by omega
  have d9 : k ≤ 255 := by omega
  have Hw := hide hw
  have U1 := hide u1
  have U2 := hide u2
  have U3 := hide u3
  have U4 := hide u4
  have U5 := hide u5
  have U6 := hide u6
  have HA1 := hide a1
  have HA2 := hide a2
  have HA3 := hide (And.intro hz7 (And.intro hz8 hz9))
  clear hw u1 u2 u3 u4 u5 u6 e1 e2 e3 e4 e5 e6 e7 e8 hA hee hB hk hq hm hm0 hb4 hr hQT htop hodd hns hbk hnb hz6 a1 a2 hqT hkT hz7 hz8 hz9
  go_enter Try.func10, Try.ntmps10
  go_wp2_with fail
  refine (Hw.out _).mono ?_
  rintro e w2 ⟨rfl, rfl⟩
  go_wp2_with fail
  refine (U1.out _).mono ?_
  rintro e w2 ⟨rfl, rfl⟩
  go_wp2_with fail
  refine (U2.out _).mono ?_
  rintro e w2 ⟨rfl, rfl⟩
  go_wp2_with fail
  refine (U3.out _).mono ?_
  rintro e w2 ⟨rfl, rfl⟩
  go_wp2_with fail
  refine (U4.out _).mono ?_
  rintro e w2 ⟨rfl, rfl⟩
  go_wp2_with fail
  refine (U5.out _).mono ?_
  rintro e w2 ⟨rfl, rfl⟩
  obtain ⟨hz7, hz8, hz9⟩ := HA3.out
  go_wp2_with fail
  refine (U6.out _).mono ?_
  rintro e w2 ⟨rfl, rfl⟩
  have a1 := HA1.out
  have a2 := HA2.out
  go_wp2_with fail
  go_ret
  exact ⟨by simp, Fr.of_alloc _ _⟩

theorem exact_law (v b : Nat) (hv : v < 256) (hb : b < 256) (w : World) : Calls Try.prog 10 #[.int .u8 (v : Int), .int .u8 (b : Int)] w fun e w' => e = .returned (.bool true) ∧ Fr (fun _ => False) w w' := by
  have h : b % 4 = 0 ∨ b % 4 = 1 ∨ b % 4 = 2 ∨ b % 4 = 3 := by omega
  rcases h with h | h | h | h
  · exact exact_0 v b hv hb h w
  · exact exact_1 v b hv hb h w
  · exact exact_2 v b hv hb h w
  · exact exact_3 v b hv hb h w
end Go.Proofs.Ytaeppfbphbkigaa
