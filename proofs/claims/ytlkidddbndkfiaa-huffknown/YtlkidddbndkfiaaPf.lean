/-
  The contract of huff.Lengths.
-/
import Derived.Test.YtlkidddbndkfiaaPe
import Derived.Test.YtlkidddbndkfiaaPd
namespace Go.Proofs.Ytlkidddbndkfiaa
open Go.RowKit
open Go.Sort (swp PermIn SortedIn SWO swp_get swp_size swp_permIn permIn_refl permIn_trans permIn_mono permIn_all Ins)

/-- What make gives: n noughts. -/
theorem makeInts (n : Nat) (hn : n ≤ 1000000) : ∃ zs : Array Value, (∀ W : World, (Instr.makeSlice 22 (.int .i64 (n : Int)) (.int .i64 (n : Int))).run Try.prog W = .ok (.slice (some ⟨W.heap.size, 0, none⟩) n n) (W.alloc (.cells zs 3))) ∧ zs.size = n ∧ ∀ i, i < n → zs[i]? = some (.int .i64 0) := by
  obtain ⟨i0, hi, hz0, hz1, hz2⟩ := info_parts Try.info3
  refine ⟨madeCells (Value.int .i64 0).cells (n * 1), fun W => ?_, by simp [size_madeCells], fun i hi => ?_⟩
  · have := run_make (P := Try.prog) W 22 3 i0 (.int .i64 0) Try.underlying22 hi hz0 .i64 .i64 n n (by omega) (Int.le_refl _) (by rw [hz2]; omega) (by omega)
    rw [hz1] at this
    simpa using this
  · simp [madeCells, hi, Value.cells, Nat.mod_one]

/-- What Lengths owes where it answers lengths. -/
structure LenOk (fq : List Int) (L : Nat) (o : List Int) : Prop where
  len : o.length = fq.length
  zero : ∀ k, k < fq.length → ¬ 0 < at0 fq k → at0 o k = 0
  pos : ∀ k, k < fq.length → 0 < at0 fq k → 1 ≤ at0 o k ∧ at0 o k ≤ (L : Int)
  mono : ∀ i k, i < fq.length → k < fq.length → 0 < at0 fq k → at0 fq k < at0 fq i → at0 o i ≤ at0 o k
  code : codeOk o
  one : (posL fq fq.length).length = 1 → ∀ k, k < fq.length → at0 o k ≤ 1

def zeros (n : Nat) : List Int := List.replicate n 0
theorem at0_zeros (n k : Nat) : at0 (zeros n) k = 0 := by
  unfold at0 zeros
  simp only [List.getD_eq_getElem?_getD, List.getElem?_replicate]
  split <;> rfl
theorem nxk_zeros (n k : Nat) : nxk (zeros n) k 15 = 0 := by
  induction k with
  | zero => exact nxk_zero _ _
  | succ k ih => rw [nxk_fz, ih, at0_zeros]; rfl
theorem tot_zeros (n k : Nat) : totk (zeros n) k 15 = 0 := by
  induction k with
  | zero => exact totk_zero _ _
  | succ k ih => rw [totk_succ, ih, at0_zeros]; rfl

theorem lenOk_none (fq : List Int) (L : Nat) (h : posL fq fq.length = []) : LenOk fq L (zeros fq.length) := by
  have hn : ∀ k, k < fq.length → ¬ 0 < at0 fq k := fun k hk h2 => by
    have := (posL_mem fq fq.length k).2 ⟨hk, h2⟩
    rw [h] at this
    simp at this
  refine ⟨by simp [zeros], fun k _ _ => at0_zeros _ _, fun k hk h2 => absurd h2 (hn k hk), fun i k _ hk h2 _ => absurd h2 (hn k hk), Or.inr (Or.inl ?_), fun h2 => by rw [h] at h2; simp at h2⟩
  have : (zeros fq.length).length = fq.length := by simp [zeros]
  unfold tot
  rw [this]
  exact tot_zeros _ _

theorem rank_one (n u k : Nat) (hu : u < n) : rank ((zeros n).set u 1) 1 k = if u < k then 1 else 0 := by
  induction k with
  | zero => simp [rank]
  | succ k ih =>
    simp only [rank, ih]
    rw [at0_set _ _ _ (by simp [zeros]; exact hu), at0_zeros]
    by_cases e : k = u
    · subst e; simp
    · rw [if_neg e]
      have e2 : (u < k + 1) = (u < k) := by simp only [eq_iff_iff]; omega
      simp only [e2]
      simp
theorem tot_one (n u k : Nat) (hu : u < n) : totk ((zeros n).set u 1) k 15 = if u < k then 1 else 0 := by
  induction k with
  | zero => simp [totk_zero]
  | succ k ih =>
    rw [totk_succ, ih, at0_set _ _ _ (by simp [zeros]; exact hu), at0_zeros]
    by_cases e : k = u
    · subst e; simp
    · rw [if_neg e]
      have e2 : (u < k + 1) = (u < k) := by simp only [eq_iff_iff]; omega
      simp only [e2]
      simp

theorem lenOk_one (fq : List Int) (L u : Nat) (hL : 1 ≤ L) (h : posL fq fq.length = [u]) : LenOk fq L ((zeros fq.length).set u 1) := by
  have hu := (posL_mem fq fq.length u).1 (by rw [h]; simp)
  have hz : u < (zeros fq.length).length := by simp [zeros]; exact hu.1
  have hn : ∀ k, k < fq.length → 0 < at0 fq k → k = u := fun k hk h2 => by
    have := (posL_mem fq fq.length k).2 ⟨hk, h2⟩
    rw [h] at this
    simpa using this
  refine ⟨by simp [zeros], fun k hk h2 => ?_, fun k hk h2 => ?_, fun i k hi hk h2 h3 => ?_, Or.inr (Or.inr ⟨?_, ?_⟩), fun _ k hk => ?_⟩
  · have e2 : k ≠ u := by
      intro e
      rw [e] at h2
      exact h2 hu.2
    rw [at0_set _ _ _ hz, if_neg e2, at0_zeros]
  · rw [hn k hk h2, at0_set _ _ _ hz, if_pos rfl]; omega
  · have e1 := hn k hk h2
    have e2 := hn i hi (by omega)
    rw [e1, e2] at h3
    omega
  · unfold tot
    rw [tot_one _ _ _ hu.1, if_pos (by simp [zeros]; exact hu.1)]
  · unfold cnt
    rw [rank_one _ _ _ hu.1, if_pos (by simp [zeros]; exact hu.1)]
  · rw [at0_set _ _ _ hz]
    split
    · omega
    · rw [at0_zeros]; omega

/-- The items of the symbols. -/
def items (fq : List Int) (us : List Nat) : List Item := us.map fun u => ((at0 fq u).toNat, false)

theorem items_syms {fq : List Int} {d : Array Nat} {L : Nat} (hs : SortedIn (ltF fq) 0 d.size d) (h2 : 2 ≤ d.size) (hL : d.size ≤ 2 ^ L) (h1 : 1 ≤ L) : Syms (items fq d.toList) L := by
  refine ⟨fun x hx => ?_, ?_, by simpa [items] using h2, by simpa [items] using hL, h1⟩
  · simp only [items, List.mem_map] at hx
    obtain ⟨u, _, rfl⟩ := hx
    rfl
  · unfold Asc items
    rw [List.pairwise_map, List.pairwise_iff_getElem]
    intro i j hi hj hij
    have hi' : i < d.size := by simpa using hi
    have hj' : j < d.size := by simpa using hj
    have h3 := hs i j (Nat.zero_le _) hij hj'
    have e1 : d[i]! = d.toList[i] := by simp [hi']
    have e2 : d[j]! = d.toList[j] := by simp [hj']
    rw [e1, e2] at h3
    have h4 : ¬ at0 fq d.toList[j] < at0 fq d.toList[i] := by simpa [ltF] using h3
    unfold key
    simp only [Bool.false_eq_true, if_false]
    omega

theorem lenOk_many {fq : List Int} {d : Array Nat} {L : Nat} {o : List Int} (hp : d.toList.Perm (posL fq fq.length)) (hs : SortedIn (ltF fq) 0 d.size d) (h2 : 2 ≤ d.size) (hL : d.size ≤ 2 ^ L) (h1 : 1 ≤ L) (hl : o.length = fq.length)
    (h : LenSt (items fq d.toList) L (fun i => d[i]!) o L 0) : LenOk fq L o := by
  have hS := items_syms hs h2 hL h1
  have hil : (items fq d.toList).length = d.size := by simp [items]
  have hmem : ∀ k, k < fq.length → 0 < at0 fq k → ∃ i, i < d.size ∧ d[i]! = k := fun k hk h3 => by
    have hm : k ∈ d.toList := hp.mem_iff.2 ((posL_mem fq fq.length k).2 ⟨hk, h3⟩)
    obtain ⟨i, hi, e⟩ := List.mem_iff_getElem.1 hm
    have hi' : i < d.size := by simpa using hi
    exact ⟨i, hi', by simp [hi'] at e ⊢; exact e⟩
  have hat : ∀ i, i < d.size → at0 o d[i]! = (ln (items fq d.toList) L L i : Nat) := fun i hi => by
    have := h.sym i (by rw [hil]; exact hi)
    simpa using this
  obtain ⟨t, ht⟩ : ∃ t, L = t + 1 := ⟨L - 1, by omega⟩
  refine ⟨hl, fun k hk h3 => ?_, fun k hk h3 => ?_, fun i k hi hk h3 h4 => ?_, Or.inl ?_, fun h3 => ?_⟩
  · refine h.other k (by rw [hl]; exact hk) (fun i hi e => h3 ?_)
    rw [hil] at hi
    have hm : k ∈ d.toList := by
      rw [← e]
      have : d[i]! = d.toList[i]'(by simpa using hi) := by simp [hi]
      show d[i]! ∈ d.toList
      rw [this]
      exact List.getElem_mem _
    exact ((posL_mem fq fq.length k).1 (hp.mem_iff.1 hm)).2
  · obtain ⟨i, hi, rfl⟩ := hmem k hk h3
    rw [hat i hi]
    have a1 := ln_le (items fq d.toList) L L i
    have a2 := ln_pos hS (t := t) (i := i) (by rw [hil]; exact hi)
    rw [← ht] at a2
    omega
  · obtain ⟨x, hx, rfl⟩ := hmem k hk h3
    obtain ⟨y, hy, rfl⟩ := hmem i hi (by omega)
    rw [hat x hx, hat y hy]
    have hxy : x ≤ y := by
      rcases Nat.lt_or_ge y x with h5 | h5
      · have := hs y x (Nat.zero_le _) h5 hx
        simp [ltF] at this
        omega
      · exact h5
    have := ln_anti (items fq d.toList) L L hxy
    omega
  · have hk := h.kr h1
    rw [cT_end hS] at hk
    have hf := fr_nx o 15
    have hn : nx o 15 = 32768 := by unfold nx; omega
    rw [hn] at hf
    have : (2:Int) ^ 15 = 32768 := by decide
    omega
  · have := hp.length_eq
    simp at this
    omega
end Go.Proofs.Ytlkidddbndkfiaa
