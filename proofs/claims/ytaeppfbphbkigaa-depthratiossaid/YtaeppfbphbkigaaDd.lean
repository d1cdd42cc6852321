/-
  depth: DepthScales.
-/
import Derived.Test.YtaeppfbphbkigaaDc
namespace Go.Proofs.Ytaeppfbphbkigaa
open Go.RowKit

set_option maxHeartbeats 400000 in
set_option maxRecDepth 100000 in
theorem scales_law (v b : Int) (s : Nat) (hs : s < 65536) (w : World) : Calls Try.prog 7 #[.int .i64 v, .int .i64 b, .int .u16 (s : Int)] w fun e w' => e = .returned (.bool true) ∧ w' = w := by
  have h0 := awake9_c w
  have h1 := up_c v b w
  have h2 := rup_c v b w
  have h3 := mask_c v b w
  have h4 := rmask_c v b w
  have h5 := eight_c s w hs
  have h6 := reight_c s w hs
  have hE : eightOk s = true → ∃ q : Nat, eightV s = (q : Int) ∧ q < 256 ∧ (q : Int) * 257 = (s : Int) := fun h => by
    have h' : s % 257 = 0 := by simpa [eightOk] using h
    exact ⟨s / 257, by unfold eightV; rw [if_pos h'], by omega, by omega⟩
  obtain ⟨A, hA⟩ : ∃ A, A = upV v b := ⟨_, rfl⟩
  obtain ⟨A2, hA2⟩ : ∃ A, A = upOk v b := ⟨_, rfl⟩
  obtain ⟨M, hM⟩ : ∃ A, A = maskV v b := ⟨_, rfl⟩
  obtain ⟨M2, hM2⟩ : ∃ A, A = maskOk v b := ⟨_, rfl⟩
  obtain ⟨E, hEE⟩ : ∃ A, A = eightV s := ⟨_, rfl⟩
  obtain ⟨E2, hE2⟩ : ∃ A, A = eightOk s := ⟨_, rfl⟩
  rw [← hA, ← hA2] at h1 h2
  rw [← hM, ← hM2] at h3 h4
  rw [← hEE, ← hE2] at h5 h6
  rw [← hEE, ← hE2] at hE
  clear hA hA2 hM hM2 hEE hE2
  have H0 := hide h0
  have H1 := hide h1
  have H2 := hide h2
  have H3 := hide h3
  have H4 := hide h4
  have H5 := hide h5
  have H6 := hide h6
  have HE := hide hE
  have q1 : (A == A) = true := beq_self_eq_true _
  have q2 : (A2 == A2) = true := beq_self_eq_true _
  have q3 : (M == M) = true := beq_self_eq_true _
  have q4 : (M2 == M2) = true := beq_self_eq_true _
  have q5 : (E == E) = true := beq_self_eq_true _
  have q6 : (E2 == E2) = true := beq_self_eq_true _
  clear h0 h1 h2 h3 h4 h5 h6 hE
  go_enter Try.func7, Try.ntmps7
  go_wp2_with fail
  refine H0.out.mono ?_
  rintro e w2 ⟨rfl, rfl⟩
  go_wp2_with fail
  refine H1.out.mono ?_
  rintro e w2 ⟨rfl, rfl⟩
  go_wp2_with fail
  refine H2.out.mono ?_
  rintro e w2 ⟨rfl, rfl⟩
  go_wp2_with fail
  refine H3.out.mono ?_
  rintro e w2 ⟨rfl, rfl⟩
  go_wp2_with fail
  refine H4.out.mono ?_
  rintro e w2 ⟨rfl, rfl⟩
  go_wp2_with fail
  refine H5.out.mono ?_
  rintro e w2 ⟨rfl, rfl⟩
  go_wp2_with fail
  refine H6.out.mono ?_
  rintro e w2 ⟨rfl, rfl⟩
  cases E2 with
  | false =>
    go_wp2_with fail
    go_ret
    exact ⟨rfl, rfl⟩
  | true =>
    obtain ⟨q, rfl, hq, hq2⟩ := HE.out rfl
    have hq3 : IntKind.u16.wrap (q : Int) = (q : Int) := by simp [IntKind.wrap, IntKind.bits, IntKind.signed]; omega
    have hq4 : IntKind.u16.wrap ((q : Int) * 257) = (s : Int) := by rw [hq2]; simp [IntKind.wrap, IntKind.bits, IntKind.signed]; omega
    have hs1 : ((s : Int) == (s : Int)) = true := beq_self_eq_true _
    have hs2 : IntKind.u16.wrap (s : Int) = (s : Int) := by simp [IntKind.wrap, IntKind.bits, IntKind.signed]; omega
    go_wp2_with fail
    go_ret
    exact ⟨by simp, rfl⟩
end Go.Proofs.Ytaeppfbphbkigaa
