/-
  adam: the law's awake.
-/
import Derived.Test.YtdnhndiaiejkoaaDoorRj
import Derived.Test.YtdnhndiaiejkoaaDoorRh
namespace Go.Proofs.YtdnhndiaiejkoaaDoor
open Go.RowKit
set_option linter.unusedVariables false

theorem pas_one : pasV 1 1 = [⟨0, 0, 8, 8, 1, 1⟩] := by rfl
theorem whl_one : whlV 3 2 = [⟨0, 0, 1, 1, 3, 2⟩] := by rfl
theorem row_one : rowV 9 1 = 2 := by rfl
theorem bytes_one : bytesV [⟨0, 0, 8, 8, 1, 1⟩] 8 = 2 := by
  rw [bytesV_yes (by decide) (by rfl) (fun k hk => by
    have : k = 0 := by simp at hk; omega
    subst this
    rfl)]
  rfl

set_option maxHeartbeats 1600000 in
theorem awake_c (w : World) (hg : Gw w) : Calls Tryd.prog 7 #[] w fun e w' => e = .returned (.bool true) ∧ Fr (fun _ => False) w w' := by
  have h1 := passes_any 1 1 w hg
  rw [pas_one] at h1
  have H1 := hide h1
  clear h1 hg
  go_enter Tryd.func7, Tryd.ntmps7
  go_wp2_with fail
  refine H1.out.mono ?_
  rintro e w1 ⟨v, rfl, ho, hf⟩
  obtain ⟨a, c, rfl, _, _, hl⟩ := ho.form
  obtain ⟨g, o, rfl, hA⟩ := hl 0 (by decide)
  have hA2 : At6 w1 g o ⟨0, 0, 8, 8, 1, 1⟩ := by simpa using hA
  obtain ⟨d0, d1, d2, d3, d4, d5⟩ := hA2
  simp only [] at d0 d1 d2 d3 d4 d5
  have hE := eq_six2 ⟨0, 0, 8, 8, 1, 1⟩ (by constructor <;> exact ⟨by decide, by decide⟩)
  simp only [Pz.arr] at hE
  have HL := hide hl
  have HF := hide hf
  clear hl ho hf hA H1
  simp only [List.length_cons, List.length_nil, Nat.zero_add]
  go_wp2_with fail
  refine (calls_args (row_c 9 1 w1) (by rfl)).mono ?_
  rintro e w2 ⟨rfl, h1⟩
  replace h1 := h1.symm
  subst h1
  rw [row_one]
  go_wp2_with fail
  refine (calls_args (bytes_c _ c [⟨0, 0, 8, 8, 1, 1⟩] 8 w1 HL.out (by decide)) (by rfl)).mono ?_
  rintro e w2 ⟨rfl, hf2⟩
  rw [bytes_one]
  have HF2 := hide (HF.out.join hf2)
  clear hf2 HF
  go_wp2_with fail
  refine (calls_args (whole_any 3 2 w2) (by rfl)).mono ?_
  rintro e w3 ⟨v, rfl, ho, hf3⟩
  rw [whl_one] at ho
  obtain ⟨a3, c3, rfl, _, _, _⟩ := ho.form
  have HF3 := hide (HF2.out.join hf3)
  clear hf3 HF2 ho
  simp only [List.length_cons, List.length_nil, Nat.zero_add]
  go_wp2
  go_ret
  exact ⟨rfl, HF3.out⟩
end Go.Proofs.YtdnhndiaiejkoaaDoor
