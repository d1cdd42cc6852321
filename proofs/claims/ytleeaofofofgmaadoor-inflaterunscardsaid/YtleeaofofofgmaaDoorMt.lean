/-
  The fixed codes: that they are codes; the contract of making them.
-/
import Derived.Test.YtleeaofofofgmaaDoorMs
namespace Go.Proofs.YtleeaofofofgmaaDoor
open Go.RowKit

theorem rank_skip (ls : List Int) (n a : Nat) : ∀ d, (∀ i, a ≤ i → i < a + d → at0 ls i ≠ (n : Int)) → rank ls n (a + d) = rank ls n a := by
  intro d
  induction d with
  | zero => intro _; rfl
  | succ d ih =>
    intro h
    have e : rank ls n (a + (d + 1)) = rank ls n (a + d) + if at0 ls (a + d) = (n : Int) then 1 else 0 := rfl
    rw [e, ih (fun i h1 h2 => h i h1 (by omega)), if_neg (h (a + d) (by omega) (by omega))]
    rfl

theorem rank_all (ls : List Int) (n a : Nat) : ∀ d, (∀ i, a ≤ i → i < a + d → at0 ls i = (n : Int)) → rank ls n (a + d) = rank ls n a + d := by
  intro d
  induction d with
  | zero => intro _; rfl
  | succ d ih =>
    intro h
    have e : rank ls n (a + (d + 1)) = rank ls n (a + d) + if at0 ls (a + d) = (n : Int) then 1 else 0 := rfl
    rw [e, ih (fun i h1 h2 => h i h1 (by omega)), if_pos (h (a + d) (by omega) (by omega))]
    omega

theorem fixL_at (i : Nat) : at0 fixL i = if i < 144 then 8 else if i < 256 then 9 else if i < 280 then 7 else if i < 288 then 8 else 0 := by
  unfold at0 fixL
  rw [List.getD_eq_getElem?_getD]
  by_cases h1 : i < 144
  · rw [if_pos h1, List.getElem?_append_left (by simpa using h1), List.getElem?_replicate, if_pos h1]; rfl
  rw [if_neg h1, List.getElem?_append_right (by simp; omega), List.length_replicate]
  by_cases h2 : i < 256
  · rw [if_pos h2, List.getElem?_append_left (by simp; omega), List.getElem?_replicate, if_pos (by omega)]; rfl
  rw [if_neg h2, List.getElem?_append_right (by simp; omega), List.length_replicate]
  by_cases h3 : i < 280
  · rw [if_pos h3, List.getElem?_append_left (by simp; omega), List.getElem?_replicate, if_pos (by omega)]; rfl
  rw [if_neg h3, List.getElem?_append_right (by simp; omega), List.length_replicate]
  by_cases h4 : i < 288
  · rw [if_pos h4, List.getElem?_replicate, if_pos (by omega)]; rfl
  · rw [if_neg h4, List.getElem?_eq_none (by simp; omega)]; rfl

theorem fixD_at (i : Nat) : at0 fixD i = if i < 32 then 5 else 0 := by
  unfold at0 fixD
  rw [List.getD_eq_getElem?_getD, List.getElem?_replicate]
  split <;> rfl

theorem fixL_len : fixL.length = 288 := by
  unfold fixL
  rw [List.length_append, List.length_append, List.length_append, List.length_replicate, List.length_replicate, List.length_replicate, List.length_replicate]
theorem fixD_len : fixD.length = 32 := by
  unfold fixD
  rw [List.length_replicate]

/-- How many of the first k symbols have n bits. -/
theorem fixL_rank (n k : Nat) (hk : k ≤ 288) : rank fixL n k = (if n = 8 then min k 144 + (k - 280) else if n = 9 then min k 256 - min k 144 else if n = 7 then min k 280 - min k 256 else 0) + (if n = 0 then 0 else 0) := by
  induction k with
  | zero => simp [rank]
  | succ k ih =>
    have e : rank fixL n (k + 1) = rank fixL n k + if at0 fixL k = (n : Int) then 1 else 0 := rfl
    rw [e, ih (by omega), fixL_at]
    simp only [Nat.min_def]
    repeat' split
    all_goals omega

theorem fixL_cnt (n : Nat) : cnt fixL n = if n = 8 then 152 else if n = 9 then 112 else if n = 7 then 24 else 0 := by
  unfold cnt
  rw [fixL_len, fixL_rank n 288 (by omega)]
  simp only [Nat.min_def]
  repeat' split
  all_goals omega

theorem fixD_rank (n k : Nat) (hk : k ≤ 32) : rank fixD n k = if n = 5 then k else 0 := by
  induction k with
  | zero => simp [rank]
  | succ k ih =>
    have e : rank fixD n (k + 1) = rank fixD n k + if at0 fixD k = (n : Int) then 1 else 0 := rfl
    rw [e, ih (by omega), fixD_at]
    repeat' split
    all_goals omega

theorem fixD_cnt (n : Nat) : cnt fixD n = if n = 5 then 32 else 0 := by
  unfold cnt
  rw [fixD_len, fixD_rank n 32 (by omega)]

theorem fixL_fr (n c : Nat) (h : cnt fixL (n + 1) = c) : frk fixL (n + 1) = 2 * frk fixL n - (c : Int) := by rw [frk_succ, h]

theorem fixL_ok : codeOk fixL := by
  refine Or.inl ?_
  have e0 : frk fixL 0 = 1 := rfl
  have e1 := fixL_fr 0 0 (by rw [fixL_cnt]; rfl)
  have e2 := fixL_fr 1 0 (by rw [fixL_cnt]; rfl)
  have e3 := fixL_fr 2 0 (by rw [fixL_cnt]; rfl)
  have e4 := fixL_fr 3 0 (by rw [fixL_cnt]; rfl)
  have e5 := fixL_fr 4 0 (by rw [fixL_cnt]; rfl)
  have e6 := fixL_fr 5 0 (by rw [fixL_cnt]; rfl)
  have e7 := fixL_fr 6 24 (by rw [fixL_cnt]; rfl)
  have e8 := fixL_fr 7 152 (by rw [fixL_cnt]; rfl)
  have e9 := fixL_fr 8 112 (by rw [fixL_cnt]; rfl)
  have e10 := fixL_fr 9 0 (by rw [fixL_cnt]; rfl)
  have e11 := fixL_fr 10 0 (by rw [fixL_cnt]; rfl)
  have e12 := fixL_fr 11 0 (by rw [fixL_cnt]; rfl)
  have e13 := fixL_fr 12 0 (by rw [fixL_cnt]; rfl)
  have e14 := fixL_fr 13 0 (by rw [fixL_cnt]; rfl)
  have e15 := fixL_fr 14 0 (by rw [fixL_cnt]; rfl)
  simp only [Nat.reduceAdd] at *
  omega

theorem fixD_fr (n c : Nat) (h : cnt fixD (n + 1) = c) : frk fixD (n + 1) = 2 * frk fixD n - (c : Int) := by rw [frk_succ, h]

theorem fixD_ok : codeOk fixD := by
  refine Or.inl ?_
  have e0 : frk fixD 0 = 1 := rfl
  have e1 := fixD_fr 0 0 (by rw [fixD_cnt]; rfl)
  have e2 := fixD_fr 1 0 (by rw [fixD_cnt]; rfl)
  have e3 := fixD_fr 2 0 (by rw [fixD_cnt]; rfl)
  have e4 := fixD_fr 3 0 (by rw [fixD_cnt]; rfl)
  have e5 := fixD_fr 4 32 (by rw [fixD_cnt]; rfl)
  have e6 := fixD_fr 5 0 (by rw [fixD_cnt]; rfl)
  have e7 := fixD_fr 6 0 (by rw [fixD_cnt]; rfl)
  have e8 := fixD_fr 7 0 (by rw [fixD_cnt]; rfl)
  have e9 := fixD_fr 8 0 (by rw [fixD_cnt]; rfl)
  have e10 := fixD_fr 9 0 (by rw [fixD_cnt]; rfl)
  have e11 := fixD_fr 10 0 (by rw [fixD_cnt]; rfl)
  have e12 := fixD_fr 11 0 (by rw [fixD_cnt]; rfl)
  have e13 := fixD_fr 12 0 (by rw [fixD_cnt]; rfl)
  have e14 := fixD_fr 13 0 (by rw [fixD_cnt]; rfl)
  have e15 := fixD_fr 14 0 (by rw [fixD_cnt]; rfl)
  simp only [Nat.reduceAdd] at *
  omega

theorem fixL_good : good fixL := ⟨by rw [fixL_len]; omega, fun i _ => by rw [fixL_at]; repeat' split
                                                                         all_goals omega⟩
theorem fixD_good : good fixD := ⟨by rw [fixD_len]; omega, fun i _ => by rw [fixD_at]; split <;> omega⟩
end Go.Proofs.YtleeaofofofgmaaDoor
