/-
  Plain mathematics of canonical codes: no program is named here.
-/
import Derived.Test.YtleeaofofofgmaaDoorBm
namespace Go.Proofs.YtleeaofofofgmaaDoor
open Go.RowKit

/-- Length i of a list. -/
def at0 (ls : List Int) (i : Nat) : Int := ls.getD i 0

/-- How many of the first k lengths are n. -/
def rank (ls : List Int) (n : Nat) : Nat → Nat
  | 0 => 0
  | k + 1 => rank ls n k + if at0 ls k = (n : Int) then 1 else 0

/-- Which of the first k symbols have length n, in order. -/
def syms (ls : List Int) (n : Nat) : Nat → List Nat
  | 0 => []
  | k + 1 => if at0 ls k = (n : Int) then syms ls n k ++ [k] else syms ls n k

/-- The number behind the last word of n bits, of the first k symbols. -/
def nxk (ls : List Int) (k : Nat) : Nat → Nat
  | 0 => 0
  | n + 1 => 2 * nxk ls k n + rank ls (n + 1) k

/-- How many of the first k symbols have words of at most n bits. -/
def totk (ls : List Int) (k : Nat) : Nat → Nat
  | 0 => 0
  | n + 1 => totk ls k n + rank ls (n + 1) k

/-- What is free behind the words of n bits. -/
def frk (ls : List Int) : Nat → Int
  | 0 => 1
  | n + 1 => 2 * frk ls n - (rank ls (n + 1) ls.length : Nat)

/-- The symbols of words of at most n bits, in order. -/
def rkd (ls : List Int) : Nat → List Nat
  | 0 => []
  | n + 1 => rkd ls n ++ syms ls (n + 1) ls.length

def cnt (ls : List Int) (n : Nat) : Nat := rank ls n ls.length

def nx (ls : List Int) (n : Nat) : Nat := nxk ls ls.length n

def tot (ls : List Int) (n : Nat) : Nat := totk ls ls.length n

theorem nx_zero (ls : List Int) : nx ls 0 = 0 := rfl

theorem nx_succ (ls : List Int) (n : Nat) : nx ls (n + 1) = 2 * nx ls n + cnt ls (n + 1) := rfl

theorem tot_zero (ls : List Int) : tot ls 0 = 0 := rfl

theorem tot_succ (ls : List Int) (n : Nat) : tot ls (n + 1) = tot ls n + cnt ls (n + 1) := rfl

theorem frk_succ (ls : List Int) (n : Nat) : frk ls (n + 1) = 2 * frk ls n - cnt ls (n + 1) := rfl

theorem rank_le (ls : List Int) (n k : Nat) : rank ls n k ≤ k := by
  induction k with
  | zero => exact Nat.le_refl _
  | succ k ih => simp only [rank]; split <;> omega

theorem rank_mono (ls : List Int) (n : Nat) {j k : Nat} (h : j ≤ k) : rank ls n j ≤ rank ls n k := by
  induction h with
  | refl => exact Nat.le_refl _
  | step _ ih => simp only [rank]; split <;> omega

theorem rank_lt (ls : List Int) (n : Nat) {i k : Nat} (h : i < k) (hz : at0 ls i = (n : Int)) : rank ls n i < rank ls n k := by
  have h1 := rank_mono ls n (show i + 1 ≤ k from h)
  simp only [rank, if_pos hz] at h1
  omega

theorem syms_length (ls : List Int) (n k : Nat) : (syms ls n k).length = rank ls n k := by
  induction k with
  | zero => rfl
  | succ k ih => simp only [syms, rank]; split <;> simp [ih]

theorem syms_idx (ls : List Int) (n m k i : Nat) : (syms ls n m)[k]? = some i ↔ i < m ∧ at0 ls i = (n : Int) ∧ k = rank ls n i := by
  induction m generalizing k with
  | zero => simp [syms]
  | succ m ih =>
    simp only [syms]
    split
    · next hz =>
      rw [List.getElem?_append]
      split
      · next hlt =>
        rw [ih]
        rw [syms_length] at hlt
        constructor
        · rintro ⟨a, b, c⟩; exact ⟨by omega, b, c⟩
        · rintro ⟨a, b, c⟩
          refine ⟨?_, b, c⟩
          rcases Nat.lt_or_ge i m with h | h
          · exact h
          · have : i = m := by omega
            subst this; omega
      · next hge =>
        rw [syms_length] at hge ⊢
        constructor
        · intro h
          have hk : k - rank ls n m = 0 := by
            rcases Nat.eq_zero_or_pos (k - rank ls n m) with h' | h'
            · exact h'
            · rw [List.getElem?_eq_none (by simp; omega)] at h; cases h
          rw [hk] at h
          simp at h
          subst h
          exact ⟨by omega, hz, by omega⟩
        · rintro ⟨a, b, c⟩
          rcases Nat.lt_or_ge i m with h | h
          · have := rank_lt ls n h b; omega
          · have : i = m := by omega
            subst this
            rw [c, Nat.sub_self]; rfl
    · next hz =>
      rw [ih]
      constructor
      · rintro ⟨a, b, c⟩; exact ⟨by omega, b, c⟩
      · rintro ⟨a, b, c⟩
        refine ⟨?_, b, c⟩
        rcases Nat.lt_or_ge i m with h | h
        · exact h
        · have : i = m := by omega
          subst this; exact absurd b hz

theorem rkd_length (ls : List Int) (n : Nat) : (rkd ls n).length = tot ls n := by
  induction n with
  | zero => rfl
  | succ n ih => simp only [rkd, List.length_append, ih, syms_length]; rfl

theorem tot_mono (ls : List Int) {n m : Nat} (h : n ≤ m) : tot ls n ≤ tot ls m := by
  induction h with
  | refl => exact Nat.le_refl _
  | step _ ih => rw [tot_succ]; omega

theorem rkd_prefix (ls : List Int) {n m : Nat} (h : n ≤ m) {k : Nat} (hk : k < tot ls n) : (rkd ls m)[k]? = (rkd ls n)[k]? := by
  induction h with
  | refl => rfl
  | @step m h ih =>
    have := tot_mono ls h
    simp only [rkd]
    rw [List.getElem?_append_left (by rw [rkd_length]; omega), ih]

/-- The symbol of word k among those of n + 1 bits. -/
theorem rkd_at (ls : List Int) {n m : Nat} (h : n + 1 ≤ m) {k : Nat} (hk : k < cnt ls (n + 1)) : (rkd ls m)[tot ls n + k]? = (syms ls (n + 1) ls.length)[k]? := by
  rw [rkd_prefix ls h (by rw [tot_succ]; omega)]
  simp only [rkd]
  rw [List.getElem?_append_right (by rw [rkd_length]; omega), rkd_length]
  congr 1
  omega

theorem fr_nx (ls : List Int) (n : Nat) : frk ls n + (nx ls n : Nat) = 2 ^ n := by
  induction n with
  | zero => rfl
  | succ n ih =>
    rw [frk_succ, nx_succ, Int.pow_succ, ← ih]
    simp only [Int.natCast_add, Int.natCast_mul]
    omega

theorem cnt_le (ls : List Int) (n : Nat) : cnt ls n ≤ ls.length := rank_le _ _ _

theorem nx_le (ls : List Int) (n : Nat) : nx ls n + ls.length ≤ ls.length * 2 ^ n := by
  induction n with
  | zero => simp [nx_zero]
  | succ n ih =>
    have := cnt_le ls (n + 1)
    rw [nx_succ, Nat.pow_succ]
    have : ls.length * (2 ^ n * 2) = ls.length * 2 ^ n * 2 := by rw [Nat.mul_assoc]
    omega

theorem nx_bound (ls : List Int) (hl : ls.length ≤ 320) {n : Nat} (hn : n ≤ 15) : nx ls n ≤ 10485760 := by
  have h := nx_le ls n
  have h2 : (2:Nat) ^ n ≤ 2 ^ 15 := Nat.pow_le_pow_right (by decide) hn
  have h3 : ls.length * 2 ^ n ≤ 320 * 2 ^ 15 := Nat.mul_le_mul hl h2
  have h4 : 320 * 2 ^ 15 = 10485760 := by decide
  omega

theorem nx_grow (ls : List Int) (n d : Nat) : nx ls n * 2 ^ d ≤ nx ls (n + d) := by
  induction d with
  | zero => simp
  | succ d ih =>
    rw [show n + (d + 1) = (n + d) + 1 by omega, nx_succ, Nat.pow_succ, ← Nat.mul_assoc]
    omega

theorem fr_bound (ls : List Int) (hl : ls.length ≤ 320) {n : Nat} (hn : n ≤ 15) : -10485760 ≤ frk ls n ∧ frk ls n ≤ 32768 := by
  have h := fr_nx ls n
  have h1 := nx_bound ls hl hn
  have h2 : (2:Nat) ^ n ≤ 2 ^ 15 := Nat.pow_le_pow_right (by decide) hn
  have h3 : (2:Nat) ^ 15 = 32768 := by decide
  have e : (2:Int) ^ n = ((2 ^ n : Nat) : Int) := by simp
  have h4 := pow_pos2 n
  rw [e] at h
  omega

theorem totk_succ (ls : List Int) (n k : Nat) : totk ls (k + 1) n = totk ls k n + if 1 ≤ at0 ls k ∧ at0 ls k ≤ n then 1 else 0 := by
  induction n with
  | zero => simp only [totk]; rw [if_neg (by omega)]
  | succ n ih =>
    simp only [totk, rank, ih]
    by_cases h : at0 ls k = ((n + 1 : Nat) : Int)
    · rw [if_pos h, if_neg (by omega), if_pos (by omega)]; omega
    · rw [if_neg h]
      by_cases h2 : 1 ≤ at0 ls k ∧ at0 ls k ≤ n
      · rw [if_pos h2, if_pos (by omega)]; omega
      · rw [if_neg h2, if_neg (by omega)]; omega

theorem totk_zero (ls : List Int) (n : Nat) : totk ls 0 n = 0 := by
  induction n with
  | zero => rfl
  | succ n ih => simp only [totk, rank, ih]

theorem tot_le (ls : List Int) (n : Nat) : tot ls n ≤ ls.length := by
  have : ∀ k, totk ls k n ≤ k := by
    intro k
    induction k with
    | zero => rw [totk_zero]; exact Nat.le_refl _
    | succ k ih => rw [totk_succ]; split <;> omega
  exact this _

theorem nxk_zero (ls : List Int) (n : Nat) : nxk ls 0 n = 0 := by
  induction n with
  | zero => rfl
  | succ n ih => simp only [nxk, rank, ih]

theorem nxk_succ (ls : List Int) (n k : Nat) : nxk ls (k + 1) n = nxk ls k n + if 1 ≤ at0 ls k ∧ at0 ls k ≤ n then 2 ^ (n - (at0 ls k).toNat) else 0 := by
  induction n with
  | zero => simp only [nxk]; rw [if_neg (by omega)]
  | succ n ih =>
    simp only [nxk, rank, ih]
    by_cases h : at0 ls k = ((n + 1 : Nat) : Int)
    · rw [if_pos h, if_neg (by omega), if_pos (by omega), h]; simp; omega
    · rw [if_neg h]
      by_cases h2 : 1 ≤ at0 ls k ∧ at0 ls k ≤ n
      · rw [if_pos h2, if_pos (by omega), show n + 1 - (at0 ls k).toNat = n - (at0 ls k).toNat + 1 by omega, Nat.pow_succ]; omega
      · rw [if_neg h2, if_neg (by omega)]; omega

/-- Whether lengths are a code. -/
def codeOk (ls : List Int) : Prop := frk ls 15 = 0 ∨ tot ls 15 = 0 ∨ (tot ls 15 = 1 ∧ cnt ls 1 = 1)

/-- Whether each length may be one. -/
def good (ls : List Int) : Prop := ls.length ≤ 320 ∧ ∀ i, i < ls.length → 0 ≤ at0 ls i ∧ at0 ls i ≤ 15

theorem fr_neg (ls : List Int) {n m : Nat} (h : n ≤ m) (hn : frk ls n < 0) : frk ls m < 0 := by
  induction h with
  | refl => exact hn
  | step _ ih => rw [frk_succ]; omega

theorem cnt_of_tot (ls : List Int) {n m : Nat} (h : n + 1 ≤ m) : tot ls n + cnt ls (n + 1) ≤ tot ls m := by
  have := tot_mono ls h
  rw [tot_succ] at this
  exact this

theorem nx_zero_of_tot (ls : List Int) (h : tot ls 15 = 0) : ∀ n, n ≤ 15 → nx ls n = 0 := by
  intro n hn
  induction n with
  | zero => rfl
  | succ n ih =>
    have := cnt_of_tot ls (show n + 1 ≤ 15 from hn)
    rw [nx_succ, ih (by omega)]; omega

theorem nx_one (ls : List Int) (h : tot ls 15 = 1) (h1 : cnt ls 1 = 1) : ∀ n, n + 1 ≤ 15 → nx ls (n + 1) = 2 ^ n := by
  intro n hn
  have ht1 : tot ls 1 = 1 := by rw [tot_succ, tot_zero]; simpa using h1
  induction n with
  | zero => rw [nx_succ, nx_zero]; simp [h1]
  | succ n ih =>
    have := cnt_of_tot ls (show n + 1 + 1 ≤ 15 from hn)
    have := tot_mono ls (show 1 ≤ n + 1 by omega)
    rw [nx_succ, ih (by omega), Nat.pow_succ]; omega

/-- Of a code there are never too many words. -/
theorem fr_nonneg (ls : List Int) (h : codeOk ls) {n : Nat} (hn : n ≤ 15) : 0 ≤ frk ls n := by
  have h0 : 0 ≤ frk ls 15 := by
    rcases h with h | h | ⟨h, h1⟩
    · omega
    · have := fr_nx ls 15
      rw [nx_zero_of_tot ls h 15 (by omega)] at this
      omega
    · have := fr_nx ls 15
      rw [nx_one ls h h1 14 (by omega)] at this
      omega
  rcases Int.lt_or_le (frk ls n) 0 with h' | h'
  · have := fr_neg ls hn h'; omega
  · exact h'

/-- The word of symbol i. -/
def wd (ls : List Int) (i : Nat) : Nat := 2 * nx ls ((at0 ls i).toNat - 1) + rank ls (at0 ls i).toNat i

theorem wd_lt (ls : List Int) {i : Nat} (hi : i < ls.length) (hz : 1 ≤ at0 ls i) : wd ls i < nx ls (at0 ls i).toNat := by
  have h := rank_lt ls (at0 ls i).toNat hi (by omega)
  obtain ⟨n, hn⟩ : ∃ n, (at0 ls i).toNat = n + 1 := ⟨(at0 ls i).toNat - 1, by omega⟩
  unfold wd
  rw [hn] at h ⊢
  rw [nx_succ]
  show 2 * nx ls (n + 1 - 1) + _ < _
  rw [show n + 1 - 1 = n by omega]
  unfold cnt
  omega

theorem wd_ge (ls : List Int) {i k : Nat} (hz : (k : Int) < at0 ls i) : nx ls k * 2 ^ ((at0 ls i).toNat - k) ≤ wd ls i := by
  obtain ⟨n, hn⟩ : ∃ n, (at0 ls i).toNat = n + 1 := ⟨(at0 ls i).toNat - 1, by omega⟩
  unfold wd
  rw [hn, show n + 1 - 1 = n by omega]
  have h := nx_grow ls k (n - k)
  rw [show k + (n - k) = n by omega] at h
  rw [show n + 1 - k = n - k + 1 by omega, Nat.pow_succ, ← Nat.mul_assoc]
  omega

/-- k bits from bit p on, the first one the highest. -/
def rd (V p : Nat) : Nat → Nat
  | 0 => 0
  | k + 1 => 2 * rd V p k + lowBits V (p + k) 1

theorem bit_lt (V p : Nat) : lowBits V p 1 < 2 := by have := lowBits_lt V p 1; omega

theorem rd_lt (V p k : Nat) : rd V p k < 2 ^ k := by
  induction k with
  | zero => simp [rd]
  | succ k ih =>
    have := bit_lt V (p + k)
    simp only [rd, Nat.pow_succ]; omega

theorem rd_div (V p k d : Nat) : rd V p (k + d) / 2 ^ d = rd V p k := by
  induction d with
  | zero => simp
  | succ d ih =>
    have h := bit_lt V (p + (k + d))
    rw [show k + (d + 1) = k + d + 1 by omega]
    simp only [rd]
    rw [Nat.pow_succ, Nat.mul_comm (2 ^ d), ← Nat.div_div_eq_div_mul, show (2 * rd V p (k + d) + lowBits V (p + (k + d)) 1) / 2 = rd V p (k + d) by omega, ih]

/-- The word that comes next at bit p of L bits has n bits. -/
structure Hit (ls : List Int) (V L p n : Nat) : Prop where
  one : 1 ≤ n
  most : n ≤ 15
  fits : p + n ≤ L
  lt : rd V p n < nx ls n
  ge : ∀ k, k < n → nx ls k ≤ rd V p k

/-- Its place among the words. -/
def hitAt (ls : List Int) (V p n : Nat) : Nat := tot ls (n - 1) + (rd V p n - 2 * nx ls (n - 1))

theorem Hit.idx {ls : List Int} {V L p n : Nat} (h : Hit ls V L p n) : 2 * nx ls (n - 1) ≤ rd V p n ∧ rd V p n - 2 * nx ls (n - 1) < cnt ls n ∧ hitAt ls V p n < tot ls 15 := by
  obtain ⟨m, rfl⟩ : ∃ m, n = m + 1 := ⟨n - 1, by have := h.one; omega⟩
  have h1 := h.ge m (by omega)
  have h2 := h.lt
  rw [nx_succ] at h2
  unfold hitAt
  rw [show m + 1 - 1 = m by omega]
  have h3 : 2 * nx ls m ≤ rd V p (m + 1) := by simp only [rd]; omega
  have h4 := cnt_of_tot ls h.most
  exact ⟨h3, by omega, by omega⟩

theorem Hit.unique {ls : List Int} {V L p n m : Nat} (h : Hit ls V L p n) (g : Hit ls V L p m) : n = m := by
  rcases Nat.lt_trichotomy n m with h' | h' | h'
  · have := g.ge n h'; have := h.lt; omega
  · exact h'
  · have := h.ge m h'; have := g.lt; omega

/-- A word that was put is hit. -/
theorem hit_word {ls : List Int} (hg : good ls) {V L p i : Nat} (hi : i < ls.length) (hz : 1 ≤ at0 ls i) (hf : p + (at0 ls i).toNat ≤ L) (hr : rd V p (at0 ls i).toNat = wd ls i) :
    Hit ls V L p (at0 ls i).toNat ∧ (rkd ls 15)[hitAt ls V p (at0 ls i).toNat]? = some i := by
  have hb := (hg.2 i hi).2
  refine ⟨⟨by omega, by omega, hf, by rw [hr]; exact wd_lt ls hi hz, fun k hk => ?_⟩, ?_⟩
  · have h1 := wd_ge ls (i := i) (k := k) (by omega)
    have h2 := rd_div V p k ((at0 ls i).toNat - k)
    rw [show k + ((at0 ls i).toNat - k) = (at0 ls i).toNat by omega, hr] at h2
    rw [← h2]
    exact (Nat.le_div_iff_mul_le (pow_pos2 _)).2 h1
  · unfold hitAt
    rw [hr]
    have hw := wd_lt ls hi hz
    obtain ⟨n, hn⟩ : ∃ n, (at0 ls i).toNat = n + 1 := ⟨(at0 ls i).toNat - 1, by omega⟩
    have hk := rank_lt ls (at0 ls i).toNat hi (by omega)
    have e : wd ls i - 2 * nx ls ((at0 ls i).toNat - 1) = rank ls (at0 ls i).toNat i := by unfold wd; omega
    rw [e]
    rw [hn] at hk ⊢
    rw [show n + 1 - 1 = n by omega, rkd_at ls (by omega) hk, syms_idx]
    exact ⟨hi, by omega, rfl⟩

/-- Where a code is whole, some word comes, unless bits end. -/
theorem full_hit {ls : List Int} (hf : frk ls 15 = 0) {V L p : Nat} (n : Nat) (hn : n ≤ 15) (hno : ∀ k, ¬ Hit ls V L p k) (hfit : p + n ≤ L) : n < 15 ∧ ∀ k, k ≤ n → nx ls k ≤ rd V p k := by
  induction n with
  | zero => exact ⟨by omega, fun k hk => by have : k = 0 := by omega
                                            subst this; rw [nx_zero]; omega⟩
  | succ n ih =>
    have h1 := (ih (by omega) (by omega)).2
    have h2 : nx ls (n + 1) ≤ rd V p (n + 1) := by
      rcases Nat.lt_or_ge (rd V p (n + 1)) (nx ls (n + 1)) with h | h
      · exact absurd ⟨by omega, hn, hfit, h, fun k hk => h1 k (by omega)⟩ (hno (n + 1))
      · exact h
    refine ⟨?_, fun k hk => ?_⟩
    · rcases Nat.lt_or_ge (n + 1) 15 with h | h
      · exact h
      · have e : n + 1 = 15 := by omega
        rw [e] at h2
        have h3 := rd_lt V p 15
        have h4 := fr_nx ls 15
        rw [hf] at h4
        have : (nx ls 15 : Int) = 32768 := by rw [← Int.zero_add (nx ls 15 : Int), h4]; rfl
        have h5 : (2:Nat) ^ 15 = 32768 := by decide
        omega
    · rcases Nat.lt_or_ge k (n + 1) with h | h
      · exact h1 k (by omega)
      · have : k = n + 1 := by omega
        subst this; exact h2
end Go.Proofs.YtleeaofofofgmaaDoor
