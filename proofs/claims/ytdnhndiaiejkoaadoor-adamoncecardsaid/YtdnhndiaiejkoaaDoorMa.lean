/-
  adam: sums over passes.
-/
import Derived.Test.YtdnhndiaiejkoaaDoorLb
namespace Go.Proofs.YtdnhndiaiejkoaaDoor
open Go.RowKit
set_option linter.unusedVariables false

def sumF (f : Pz → Int) (l : List Pz) : Int := (l.map f).sum
theorem sumF_app (f : Pz → Int) (a b : List Pz) : sumF f (a ++ b) = sumF f a + sumF f b := by simp [sumF, List.sum_append]
theorem sumF_one (f : Pz → Int) (q : Pz) : sumF f [q] = f q := by simp [sumF]
theorem sumF_cons (f : Pz → Int) (q : Pz) (l : List Pz) : sumF f (q :: l) = f q + sumF f l := by simp [sumF]
theorem sumF_snoc (f : Pz → Int) (l : List Pz) (k : Nat) (h : k < l.length) : sumF f (l.take (k + 1)) = sumF f (l.take k) + f (l.getD k default) := by
  rw [take_snocP l k h, sumF_app, sumF_one]
theorem sumF_le {f : Pz → Int} {B : Int} : ∀ {l : List Pz}, (∀ q ∈ l, 0 ≤ f q ∧ f q ≤ B) → 0 ≤ sumF f l ∧ sumF f l ≤ l.length * B
  | [], _ => by simp [sumF]
  | q :: l, h => by
    obtain ⟨h1, h2⟩ := sumF_le (l := l) fun q hq => h q (List.mem_cons_of_mem _ hq)
    obtain ⟨h3, h4⟩ := h q List.mem_cons_self
    rw [sumF_cons, List.length_cons]
    push_cast
    rw [Int.add_mul, Int.one_mul]
    omega
theorem sumF_take_le {f : Pz → Int} {B : Int} {l : List Pz} (hB : 0 ≤ B) (h7 : l.length ≤ 7) (h : ∀ q ∈ l, 0 ≤ f q ∧ f q ≤ B) (k : Nat) : 0 ≤ sumF f (l.take k) ∧ sumF f (l.take k) ≤ 7 * B := by
  obtain ⟨h1, h2⟩ := sumF_le (f := f) (B := B) (l := l.take k) fun q hq => h q (List.mem_of_mem_take hq)
  refine ⟨h1, Int.le_trans h2 (Int.mul_le_mul_of_nonneg_right ?_ hB)⟩
  rw [List.length_take]
  omega
theorem sumP_eq (b : Int) (l : List Pz) : sumP b l = sumF (rowsP b) l := rfl
def area (q : Pz) : Int := q.w * q.h

/-- What a pass of a picture is like. -/
structure PassOk (W H : Int) (q : Pz) : Prop where
  w0 : 0 < q.w
  w1 : q.w ≤ W
  h0 : 0 < q.h
  h1 : q.h ≤ H
theorem pas_ok {W H : Int} (h : sizeE W H = 0) {q : Pz} {n : Nat} (hq : q ∈ pas W H n) : PassOk W H q := by
  obtain ⟨i, _, rfl, h1, h2⟩ := pas_mem n hq
  have := psn_facts h i
  exact ⟨h1, by omega, h2, by omega⟩

/-- A sum over all passes is one over all grids, if what is left out counts nothing. -/
def upto (f : Pz → Int) (W H : Int) : Nat → Int
  | 0 => 0
  | n + 1 => upto f W H n + f (psn W H n)
theorem sumF_pas {f : Pz → Int} {W H : Int} (hf : ∀ i, ¬ (0 < (psn W H i).w ∧ 0 < (psn W H i).h) → f (psn W H i) = 0) : ∀ n, sumF f (pas W H n) = upto f W H n
  | 0 => rfl
  | n + 1 => by
    unfold pas upto
    split
    · rw [sumF_app, sumF_one, sumF_pas hf n]
    · next h => rw [hf n h, sumF_pas hf n, Int.add_zero]
theorem area_all {W H : Int} (h : sizeE W H = 0) : sumF area (pas W H 7) = W * H := by
  have hz : ∀ i, ¬ (0 < (psn W H i).w ∧ 0 < (psn W H i).h) → area (psn W H i) = 0 := fun i hi => by
    have := psn_facts h i
    unfold area
    by_cases h1 : 0 < (psn W H i).w
    · rw [show (psn W H i).h = 0 by omega, Int.mul_zero]
    · rw [show (psn W H i).w = 0 by omega, Int.zero_mul]
  rw [sumF_pas hz]
  obtain ⟨s1, s2, s3, s4, _⟩ := size_ok h
  show 0 + cnt W 0 8 * cnt H 0 8 + cnt W 4 8 * cnt H 0 8 + cnt W 0 4 * cnt H 4 8 + cnt W 2 4 * cnt H 0 4 + cnt W 0 2 * cnt H 2 4 + cnt W 1 2 * cnt H 0 2 + cnt W 0 1 * cnt H 1 2 = W * H
  have a1 : cnt W 0 4 = cnt W 0 8 + cnt W 4 8 := by unfold cnt; omega
  have a2 : cnt W 0 2 = cnt W 0 8 + cnt W 4 8 + cnt W 2 4 := by unfold cnt; omega
  have a3 : cnt W 0 1 = cnt W 0 8 + cnt W 4 8 + cnt W 2 4 + cnt W 1 2 := by unfold cnt; omega
  have a4 : W = cnt W 0 8 + cnt W 4 8 + cnt W 2 4 + cnt W 1 2 := by unfold cnt; omega
  have b1 : cnt H 0 4 = cnt H 0 8 + cnt H 4 8 := by unfold cnt; omega
  have b2 : cnt H 0 2 = cnt H 0 8 + cnt H 4 8 + cnt H 2 4 := by unfold cnt; omega
  have b4 : H = cnt H 0 8 + cnt H 4 8 + cnt H 2 4 + cnt H 1 2 := by unfold cnt; omega
  rw [a1, a2, a3, b1, b2]
  generalize cnt W 0 8 = p1 at *
  generalize cnt W 4 8 = p2 at *
  generalize cnt W 2 4 = p3 at *
  generalize cnt W 1 2 = p4 at *
  generalize cnt H 0 8 = q1 at *
  generalize cnt H 4 8 = q2 at *
  generalize cnt H 2 4 = q3 at *
  generalize cnt H 1 2 = q4 at *
  rw [a4, b4]
  simp only [Int.add_mul, Int.mul_add]
  omega
theorem rows_all {W H : Int} (h : sizeE W H = 0) : H ≤ sumF (fun q => q.h) (pas W H 7) := by
  obtain ⟨s1, s2, s3, s4, _⟩ := size_ok h
  have step : ∀ n, sumF (fun q => q.h) (pas W H n) ≤ sumF (fun q => q.h) (pas W H (n + 1)) ∧ (0 < (psn W H n).w → sumF (fun q => q.h) (pas W H (n + 1)) = sumF (fun q => q.h) (pas W H n) + (psn W H n).h) := fun n => by
    have := psn_facts h n
    conv => enter [1, 2]; unfold pas
    conv => enter [2, 2, 1]; unfold pas
    split
    · rw [sumF_app, sumF_one]
      exact ⟨by omega, fun _ => rfl⟩
    · next hh => exact ⟨by omega, fun hw => by omega⟩
  have e0 := (step 0).2 (show 0 < cnt W 0 8 by unfold cnt; omega)
  have e1 := (step 1).1
  have e2 := (step 2).2 (show 0 < cnt W 0 4 by unfold cnt; omega)
  have e3 := (step 3).1
  have e4 := (step 4).2 (show 0 < cnt W 0 2 by unfold cnt; omega)
  have e5 := (step 5).1
  have e6 := (step 6).2 (show 0 < cnt W 0 1 by unfold cnt; omega)
  have z : sumF (fun q => q.h) (pas W H 0) = 0 := rfl
  rw [show (psn W H 0).h = cnt H 0 8 from rfl] at e0
  rw [show (psn W H 2).h = cnt H 4 8 from rfl] at e2
  rw [show (psn W H 4).h = cnt H 2 4 from rfl] at e4
  rw [show (psn W H 6).h = cnt H 1 2 from rfl] at e6
  have b4 : H = cnt H 0 8 + cnt H 4 8 + cnt H 2 4 + cnt H 1 2 := by unfold cnt; omega
  simp only [Nat.reduceAdd] at e0 e1 e2 e3 e4 e5 e6
  omega
theorem rowV_ge {x n : Int} (hx : 0 ≤ x ∧ x ≤ 256) (hn : 0 ≤ n ∧ n ≤ 64) : x * n ≤ 8 * rowV x n := by
  have h := rowV_facts x n
  unfold rowV at h ⊢
  rw [if_pos ⟨(sideB_iff x).2 hx, (depB_iff n).2 hn⟩]
  omega
theorem bytes_ge {n : Int} (hn : 0 ≤ n ∧ n ≤ 64) : ∀ {l : List Pz}, (∀ q ∈ l, 0 < q.w ∧ q.w ≤ 256 ∧ 0 ≤ q.h ∧ q.h ≤ 256) → sumF area l * n ≤ 8 * (sumF (rowsP n) l - sumF (fun q => q.h) l)
  | [], _ => by simp [sumF]
  | q :: l, h => by
    have ih := bytes_ge hn (l := l) fun q hq => h q (List.mem_cons_of_mem _ hq)
    obtain ⟨h1, h2, h3, h4⟩ := h q List.mem_cons_self
    simp only [sumF_cons]
    have hr : rowsP n q = q.h * (1 + rowV q.w n) := if_pos h1
    have hg := rowV_ge (x := q.w) (n := n) ⟨by omega, h2⟩ hn
    have hm : q.h * (q.w * n) ≤ q.h * (8 * rowV q.w n) := Int.mul_le_mul_of_nonneg_left hg h3
    have ha : area q * n = q.h * (q.w * n) := by unfold area; rw [Int.mul_comm q.w q.h, Int.mul_assoc]
    have e1 : q.h * (8 * rowV q.w n) = 8 * (q.h * rowV q.w n) := by rw [← Int.mul_assoc, Int.mul_comm q.h 8, Int.mul_assoc]
    rw [hr, Int.add_mul, ha, Int.mul_add, Int.mul_one]
    omega
/-- All that AdamSums asks of the sums. -/
theorem sums_all {A B N : Int} (ha : 1 ≤ A ∧ A ≤ 64) (hb : 1 ≤ B ∧ B ≤ 64) (hn : 1 ≤ N ∧ N ≤ 64) : sizeE A B = 0 ∧ pasV A B = pas A B 7 ∧ whlV A B = whl A B ∧ sumF area (pas A B 7) = A * B ∧ B ≤ sumF (fun q => q.h) (pas A B 7) ∧
    (∀ q ∈ pas A B 7, PassOk A B q) ∧ bytesV (pas A B 7) N = sumF (rowsP N) (pas A B 7) ∧ bytesV (whl A B) N = B * (1 + (A * N + 7) / 8) ∧ A * B * N ≤ 8 * (sumF (rowsP N) (pas A B 7) - sumF (fun q => q.h) (pas A B 7)) := by
  have hs : sizeE A B = 0 := by
    unfold sizeE
    rw [if_neg (by omega), if_neg]
    have hq : (16384 : Int).tdiv B = 16384 / B := Int.tdiv_eq_ediv_of_nonneg (by omega)
    rw [hq]
    have h2 : A ≤ 16384 / B := by
      rw [Int.le_ediv_iff_mul_le (by omega)]
      have h3 : A * B ≤ 64 * B := Int.mul_le_mul_of_nonneg_right ha.2 (by omega)
      omega
    omega
  have hok : ∀ q ∈ pas A B 7, PassOk A B q := fun q hq => pas_ok hs hq
  refine ⟨hs, if_pos hs, if_pos hs, area_all hs, rows_all hs, hok, ?_, ?_, ?_⟩
  · rw [bytesV_yes (pas_le _ _ _) ((depB_iff N).2 (by omega)) (fun k hk => by
      have h1 := hok _ (getD_memP hk)
      obtain ⟨a1, a2, a3, a4⟩ := h1
      simp only [okP, Bool.and_eq_true]
      exact ⟨(sideB_iff _).2 (by omega), (sideB_iff _).2 (by omega)⟩)]
    rfl
  · rw [bytesV_yes (l := whl A B) (show (1 : Nat) ≤ 7 by omega) ((depB_iff N).2 (by omega)) (fun k hk => by
      have : k = 0 := by simp [whl] at hk; omega
      subst this
      show (sideB A && sideB B) = true
      rw [(sideB_iff A).2 (by omega), (sideB_iff B).2 (by omega)]
      rfl)]
    show sumF (rowsP N) [_] = _
    rw [sumF_one]
    have h1 : rowsP N ⟨0, 0, 1, 1, A, B⟩ = B * (1 + rowV A N) := if_pos (by show 0 < A; omega)
    rw [h1, rowV, if_pos ⟨(sideB_iff A).2 (by omega), (depB_iff N).2 (by omega)⟩]
  · have := bytes_ge (n := N) (by omega) (l := pas A B 7) fun q hq => by
      obtain ⟨a1, a2, a3, a4⟩ := hok q hq
      omega
    rw [area_all hs] at this
    exact this
end Go.Proofs.YtdnhndiaiejkoaaDoor
