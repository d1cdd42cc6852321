/-
  depth: Better of both; what each law of layer 9 wakes with.
-/
import Derived.Test.YthdilabmajaehaaDb
namespace Go.Proofs.Ythdilabmajaehaa
open Go.RowKit

theorem bits_run (x : Nat) (W : World) : (callFunc 77 #[.float .f64 x]).run Try.prog W = .ok (.value (.int .u64 (x : Int))) W := by
  rw [run_callFunc_extern (P := Try.prog) (f := 77) (e := Extern.MathFloatBits.float64bits) Try.func77 (by kernel_rfl) (by kernel_rfl) (by kernel_rfl) (by kernel_rfl)]
  rfl
theorem frombits_run (W : World) : (callFunc 56 #[.int .u64 9221120237041090561]).run Try.prog W = .ok (.value (.float .f64 9221120237041090561)) W := by
  rw [run_callFunc_extern (P := Try.prog) (f := 56) (e := Extern.MathFloatBits.float64frombits) Try.func56 (by kernel_rfl) (by kernel_rfl) (by kernel_rfl) (by kernel_rfl)]
  rfl

theorem isnan_c (x : Nat) (w : World) : Calls Try.prog 69 #[.float .f64 x] w fun e w' => e = .returned (.bool (ordD x x != some .eq)) ∧ w' = w := by
  go_enter Try.func69, Try.ntmps69
  go_wp2_with fail
  go_ret
  exact ⟨rfl, rfl⟩

theorem signbit_c (x : Nat) (hx : x < 18446744073709551616) (w : World) : Calls Try.prog 70 #[.float .f64 x] w fun e w' => e = .returned (.bool (decide (9223372036854775808 ≤ x))) ∧ w' = w := by
  have hb := bits_run x
  obtain ⟨z, hz⟩ : ∃ z, z = IntKind.i64.wrap (x : Int) := ⟨_, rfl⟩
  have hz2 : IntKind.i64.wrap (x : Int) = z := hz.symm
  have hz3 : decide (z < 0) = decide (9223372036854775808 ≤ x) := by
    rw [hz, decide_eq_decide]
    simp [IntKind.wrap, IntKind.bits, IntKind.signed]
    omega
  rw [← hz3]
  clear hz hz3
  go_enter Try.func70, Try.ntmps70
  go_wp2_with fail
  go_ret
  exact ⟨by simp, rfl⟩

theorem nan_c (w : World) : Calls Try.prog 45 #[] w fun e w' => e = .returned (.float .f64 9221120237041090561) ∧ w' = w := by
  have hb := frombits_run
  go_enter Try.func45, Try.ntmps45
  go_wp2_with fail
  go_ret
  exact ⟨rfl, rfl⟩

theorem counts_c (x : Nat) (hx : x < 18446744073709551616) (w : World) : Calls Try.prog 55 #[.float .f64 x] w fun e w' => e = .returned (.bool (countsB x)) ∧ w' = w := by
  have h1 := isnan_c x w
  have h2 := signbit_c x hx w
  have hs := ord_self (rd x)
  cases hn : (rd x).isNaN with
  | true =>
    have e1 : (ordD x x != some .eq) = true := by rw [ordD_eq, hs, hn]; rfl
    have e2 : countsB x = false := by simp [countsB, hn]
    rw [e1] at h1
    rw [e2]
    have H1 := hide h1
    clear h1 h2 hs hn e1 e2
    go_enter Try.func55, Try.ntmps55
    go_wp2_with fail
    refine H1.out.mono ?_
    rintro e w2 ⟨rfl, rfl⟩
    go_wp2_with fail
    go_ret
    exact ⟨rfl, rfl⟩
  | false =>
    have e1 : (ordD x x != some .eq) = false := by rw [ordD_eq, hs, hn]; rfl
    have e2 : countsB x = !decide (9223372036854775808 ≤ x) := by
      simp only [countsB, hn, Bool.not_false, Bool.true_and]
      rw [Bool.eq_iff_iff]
      simp
    rw [e1] at h1
    rw [e2]
    obtain ⟨S, hS⟩ : ∃ S, S = decide (9223372036854775808 ≤ x) := ⟨_, rfl⟩
    rw [← hS] at h2 ⊢
    have H1 := hide h1
    have H2 := hide h2
    clear h1 h2 hs hn e1 e2 hS
    go_enter Try.func55, Try.ntmps55
    go_wp2_with fail
    refine H1.out.mono ?_
    rintro e w2 ⟨rfl, rfl⟩
    go_wp2_with fail
    refine H2.out.mono ?_
    rintro e w2 ⟨rfl, rfl⟩
    go_wp2_with fail
    go_ret
    exact ⟨rfl, rfl⟩

theorem better_c (x y : Nat) (hx : x < 18446744073709551616) (hy : y < 18446744073709551616) (w : World) : Calls Try.prog 44 #[.float .f64 x, .float .f64 y] w fun e w' => e = .returned (.bool (betterB x y)) ∧ w' = w := by
  have h1 := counts_c x hx w
  have h2 := counts_c y hy w
  unfold betterB
  obtain ⟨L, hL⟩ : ∃ L, (FloatKind.f64.format.order x y == some Ordering.lt) = L := ⟨_, rfl⟩
  have hL' : (ordD x y == some .lt) = L := hL
  rw [hL']
  clear hL'
  cases cx : countsB x with
  | false =>
    rw [cx] at h1
    have H1 := hide h1
    clear h1 h2
    go_enter Try.func44, Try.ntmps44
    go_wp2_with fail
    refine H1.out.mono ?_
    rintro e w2 ⟨rfl, rfl⟩
    go_wp2_with fail
    go_ret
    exact ⟨rfl, rfl⟩
  | true =>
    cases cy : countsB y with
    | false =>
      rw [cx] at h1
      rw [cy] at h2
      have H1 := hide h1
      have H2 := hide h2
      clear h1 h2
      go_enter Try.func44, Try.ntmps44
      go_wp2_with fail
      refine H1.out.mono ?_
      rintro e w2 ⟨rfl, rfl⟩
      go_wp2_with fail
      refine H2.out.mono ?_
      rintro e w2 ⟨rfl, rfl⟩
      go_wp2_with fail
      go_ret
      exact ⟨rfl, rfl⟩
    | true =>
      rw [cx] at h1
      rw [cy] at h2
      have H1 := hide h1
      have H2 := hide h2
      clear h1 h2
      go_enter Try.func44, Try.ntmps44
      go_wp2_with fail
      refine H1.out.mono ?_
      rintro e w2 ⟨rfl, rfl⟩
      go_wp2_with fail
      refine H2.out.mono ?_
      rintro e w2 ⟨rfl, rfl⟩
      go_wp2_with fail
      go_ret
      exact ⟨by simp, rfl⟩

set_option maxRecDepth 100000 in
/-- What each law of layer 9 wakes with. -/
theorem awake9_c (w : World) : Calls Try.prog 20 #[] w fun e w' => e = .returned (.bool true) ∧ w' = w := by
  have h1 := up_c 1 1 w
  have h2 := mask_c 16 5 w
  have h3 := eight_c 257 w (by decide)
  have h4 := nan_c w
  have h5 := better_c 4607182418800017408 9221120237041090561 (by decide) (by decide) w
  have e1 : upV 1 1 = 65535 := by decide
  have e2 : upOk 1 1 = true := by decide
  have e3 : maskV 16 5 = 33924 := by decide
  have e4 : maskOk 16 5 = true := by decide
  have e5 : eightV 257 = 1 := by decide
  have e6 : eightOk 257 = true := by decide
  have e7 : betterB 4607182418800017408 9221120237041090561 = true := by decide +kernel
  rw [e1, e2] at h1
  rw [e3, e4] at h2
  rw [e5, e6] at h3
  rw [e7] at h5
  have H1 := hide h1
  have H2 := hide h2
  have H3 := hide h3
  have H4 := hide h4
  have H5 := hide h5
  clear h1 h2 h3 h4 h5 e1 e2 e3 e4 e5 e6 e7
  go_enter Try.func20, Try.ntmps20
  go_wp2_with fail
  refine H1.out.mono ?_
  rintro e w2 ⟨rfl, rfl⟩
  go_wp2_with fail
  refine H2.out.mono ?_
  rintro e w2 ⟨rfl, rfl⟩
  go_wp2_with fail
  refine H3.out.mono ?_
  rintro e w2 ⟨rfl, rfl⟩
  go_wp2_with fail
  refine H4.out.mono ?_
  rintro e w2 ⟨rfl, rfl⟩
  go_wp2_with fail
  refine H5.out.mono ?_
  rintro e w2 ⟨rfl, rfl⟩
  go_wp2_with fail
  go_ret
  exact ⟨rfl, rfl⟩
end Go.Proofs.Ythdilabmajaehaa
