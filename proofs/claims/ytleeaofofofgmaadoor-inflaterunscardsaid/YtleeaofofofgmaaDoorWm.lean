/-
  Bits that are put, and what a reader makes of them: plain mathematics, no program is named here.
-/
import Derived.Test.YtleeaofofofgmaaDoorIm
namespace Go.Proofs.YtleeaofofofgmaaDoor
open Go.RowKit

/-- The number of the bits of a word of n bits that is put from its highest bit on. -/
def rev : Nat → Nat → Nat
  | 0, _ => 0
  | n + 1, x => x / 2 ^ n % 2 + 2 * rev n x

theorem rev_lt (n x : Nat) : rev n x < 2 ^ n := by
  induction n with
  | zero => simp [rev]
  | succ n ih => simp only [rev, Nat.pow_succ]; omega

theorem rev_snoc (j y : Nat) : rev (j + 1) y = rev j (y / 2) + y % 2 * 2 ^ j := by
  induction j with
  | zero => simp [rev]
  | succ j ih =>
    have e : rev (j + 1 + 1) y = y / 2 ^ (j + 1) % 2 + 2 * rev (j + 1) y := rfl
    have e2 : rev (j + 1) (y / 2) = y / 2 / 2 ^ j % 2 + 2 * rev j (y / 2) := rfl
    rw [e, ih, e2, Nat.div_div_eq_div_mul, Nat.pow_succ, Nat.mul_comm 2 (2 ^ j)]
    have : y % 2 * (2 ^ j * 2) = 2 * (y % 2 * 2 ^ j) := by rw [← Nat.mul_assoc, Nat.mul_comm]
    omega

theorem rev_bit (n x k : Nat) (h : k < n) : rev n x / 2 ^ k % 2 = x / 2 ^ (n - 1 - k) % 2 := by
  induction n generalizing k with
  | zero => omega
  | succ n ih =>
    simp only [rev]
    cases k with
    | zero => simp only [Nat.pow_zero, Nat.div_one, Nat.add_sub_cancel, Nat.sub_zero]; omega
    | succ k =>
      have := ih k (by omega)
      rw [Nat.pow_succ, Nat.mul_comm (2 ^ k) 2, ← Nat.div_div_eq_div_mul, show (x / 2 ^ n % 2 + 2 * rev n x) / 2 = rev n x by omega, this, show n + 1 - 1 - (k + 1) = n - 1 - k by omega]

theorem low_one (W p n k : Nat) (h : k < n) : lowBits W (p + k) 1 = lowBits W p n / 2 ^ k % 2 := by
  have e := lowBits_add W p k (n - k)
  rw [show k + (n - k) = n by omega] at e
  have e2 := lowBits_add W (p + k) 1 (n - k - 1)
  rw [show 1 + (n - k - 1) = n - k by omega] at e2
  have h1 := lowBits_lt W p k
  have h2 := lowBits_lt W (p + k) 1
  rw [e, Nat.add_mul_div_left _ _ (pow_pos2 k), Nat.div_eq_of_lt h1, Nat.zero_add, e2]
  simp only [Nat.pow_one] at h2 ⊢
  omega

theorem rd_rev_part (W p n x : Nat) (h : lowBits W p n = rev n x) (k : Nat) (hk : k ≤ n) : rd W p k = x / 2 ^ (n - k) % 2 ^ k := by
  induction k with
  | zero => simp [rd, Nat.mod_one]
  | succ k ih =>
    rw [rd, ih (by omega), low_one W p n k (by omega), h, rev_bit n x k (by omega), show n - k = (n - (k + 1)) + 1 by omega, show n - 1 - k = n - (k + 1) by omega, Nat.pow_succ (n := 2) (m := n - (k+1)), ← Nat.div_div_eq_div_mul]
    generalize x / 2 ^ (n - (k + 1)) = y
    rw [Nat.pow_succ, Nat.mul_comm (2 ^ k) 2, Nat.mod_mul]
    omega

/-- A word that was put from its highest bit on is read so. -/
theorem rd_rev {W p n x : Nat} (h : lowBits W p n = rev n x) (hx : x < 2 ^ n) : rd W p n = x := by
  have := rd_rev_part W p n x h n (Nat.le_refl n)
  rw [this, Nat.sub_self, Nat.pow_zero, Nat.div_one, Nat.mod_eq_of_lt hx]

/-- What is read so was put so. -/
theorem rev_rd (W p n : Nat) : rev n (rd W p n) = lowBits W p n := by
  induction n with
  | zero => simp [rev, lowBits_zero]
  | succ n ih =>
    have hb := lowBits_lt W (p + n) 1
    simp only [Nat.pow_one] at hb
    rw [rev_snoc, rd, show (2 * rd W p n + lowBits W (p + n) 1) / 2 = rd W p n by omega, show (2 * rd W p n + lowBits W (p + n) 1) % 2 = lowBits W (p + n) 1 by omega, ih, lowBits_add W p n 1, Nat.mul_comm]

theorem low_read {W V p x n : Nat} (hV : V < 2 ^ p) (h : W % 2 ^ (p + n) = V + x * 2 ^ p) : lowBits W p n = x := by
  unfold lowBits
  rw [← Nat.mod_mul_right_div_self, ← Nat.pow_add, h, Nat.add_mul_div_right _ _ (pow_pos2 p), Nat.div_eq_of_lt hV, Nat.zero_add]

theorem low_mod {W V p n : Nat} (h : W % 2 ^ (p + n) = V % 2 ^ (p + n)) : lowBits W p n = lowBits V p n := by
  unfold lowBits
  rw [← Nat.mod_mul_right_div_self, ← Nat.mod_mul_right_div_self (m := V), ← Nat.pow_add, h]

theorem mod_mod_pow {W V p q : Nat} (h : W % 2 ^ q = V) (hpq : p ≤ q) : W % 2 ^ p = V % 2 ^ p := by
  rw [← h, Nat.mod_mod_of_dvd _ (Nat.pow_dvd_pow 2 hpq)]

/-- Bits that were put: V of p of them. -/
structure Bt where
  v : Nat
  p : Nat

/-- n bits more, as a number x. -/
def Bt.put (s : Bt) (x n : Nat) : Bt := ⟨s.v + x * 2 ^ s.p, s.p + n⟩
/-- A word of n bits more, from its highest bit on. -/
def Bt.word (s : Bt) (x n : Nat) : Bt := s.put (rev n x) n
def Bt.ok (s : Bt) : Prop := s.v < 2 ^ s.p
/-- t goes on from s. -/
def Bt.le (s t : Bt) : Prop := s.p ≤ t.p ∧ t.v % 2 ^ s.p = s.v
/-- A stream begins with the bits of s. -/
def Bt.of (s : Bt) (W L : Nat) : Prop := W % 2 ^ s.p = s.v ∧ s.p ≤ L

theorem Bt.put_ok {s : Bt} {x n : Nat} (h : s.ok) (hx : x < 2 ^ n) : (s.put x n).ok := by
  show s.v + x * 2 ^ s.p < 2 ^ (s.p + n)
  have h : s.v < 2 ^ s.p := h
  have := Nat.mul_le_mul_right (2 ^ s.p) (show x + 1 ≤ 2 ^ n from hx)
  rw [Nat.add_mul] at this
  rw [Nat.pow_add, Nat.mul_comm (2 ^ s.p)]
  omega
theorem Bt.word_ok {s : Bt} {x n : Nat} (h : s.ok) : (s.word x n).ok := s.put_ok h (rev_lt n x)
theorem Bt.put_le {s : Bt} {x n : Nat} (h : s.ok) : s.le (s.put x n) := by
  refine ⟨by show s.p ≤ s.p + n; omega, ?_⟩
  show (s.v + x * 2 ^ s.p) % 2 ^ s.p = s.v
  rw [Nat.add_mul_mod_self_right, Nat.mod_eq_of_lt h]
theorem Bt.le_refl {s : Bt} (h : s.ok) : s.le s := ⟨Nat.le_refl _, Nat.mod_eq_of_lt h⟩
theorem Bt.le.trans {s t u : Bt} (h : s.le t) (k : t.le u) : s.le u := by
  refine ⟨Nat.le_trans h.1 k.1, ?_⟩
  rw [mod_mod_pow k.2 h.1, h.2]
theorem Bt.le.of {s t : Bt} {W L : Nat} (h : s.le t) (k : t.of W L) : s.of W L := by
  refine ⟨?_, Nat.le_trans h.1 k.2⟩
  rw [mod_mod_pow k.1 h.1, h.2]
theorem Bt.of_self {s : Bt} (h : s.ok) {L : Nat} (hL : s.p ≤ L) : s.of s.v L := ⟨Nat.mod_eq_of_lt h, hL⟩

/-- What was put as a number is read as it. -/
theorem Bt.tkn {s : Bt} {x n W L : Nat} (h : s.ok) (k : (s.put x n).of W L) : tkn n W L s.p = .ok (x, s.p + n) := by
  rw [tkn_ok k.2, low_read h k.1]
theorem Bt.low {s : Bt} {x n W L : Nat} (h : s.ok) (k : (s.put x n).of W L) : lowBits W s.p n = x := low_read h k.1
/-- A word that was put is read as it. -/
theorem Bt.rd {s : Bt} {x n W L : Nat} (h : s.ok) (hx : x < 2 ^ n) (k : (s.word x n).of W L) : rd W s.p n = x ∧ s.p + n ≤ L :=
  ⟨rd_rev (Bt.low h k) hx, k.2⟩

/-- In a stream that begins with the bits of t one comes from state s to state s'. -/
def Leads (t : Bt) (s s' : St) : Prop := ∀ W L most r, t.of W L → s'.out.length ≤ most → Runs W L most s' r → Runs W L most s r

theorem Leads.more {t u : Bt} {s s' : St} (h : Leads t s s') (k : t.le u) : Leads u s s' := fun W L most r hu hm hr => h W L most r (k.of hu) hm hr
theorem Leads.trans {t : Bt} {s s' s'' : St} (h : Leads t s s') (g : Leads t s' s'') (ho : s'.out.length ≤ s''.out.length) : Leads t s s'' := fun W L most r hu hm hr =>
  h W L most r hu (Nat.le_trans ho hm) (g W L most r hu hm hr)
theorem Leads.refl (t : Bt) (s : St) : Leads t s s := fun _ _ _ _ _ _ h => h
theorem Leads.go {t : Bt} {s s' : St} (h : ∀ W L, t.of W L → adv W L s = .go s') : Leads t s s' := fun W L _ _ hu _ hr => .go (h W L hu) hr
theorem Leads.put {t : Bt} {s s' : St} (h : ∀ W L, t.of W L → adv W L s = .put s') : Leads t s s' := fun W L most r hu hm hr => by
  have h1 := h W L hu
  have h2 := adv_put_out h1
  exact .put h1 (by omega) hr

/-- A row, copied byte by byte. -/
def grow (d : Nat) : Nat → List Nat → List Nat
  | 0, out => out
  | n + 1, out => grow d n (out ++ [out.getD (out.length - d) 0])

theorem grow_len (d n : Nat) (out : List Nat) : (grow d n out).length = out.length + n := by
  induction n generalizing out with
  | zero => rfl
  | succ n ih => simp only [grow, ih, List.length_append, List.length_singleton]; omega
theorem grow_succ (d n : Nat) (out : List Nat) : grow d (n + 1) out = grow d n out ++ [(grow d n out).getD ((grow d n out).length - d) 0] := by
  induction n generalizing out with
  | zero => rfl
  | succ n ih => rw [grow, ih, ← grow]

theorem row_leads (t : Bt) (p d : Nat) (last : Bool) (ll dl : List Int) : ∀ (n : Nat) (out : List Nat), Leads t ⟨p, last, out, .row (n + 1) d ll dl⟩ ⟨p, last, grow d (n + 1) out, .coded ll dl⟩ := by
  intro n
  induction n with
  | zero => intro out; exact Leads.put (fun W L _ => by simp [adv, grow])
  | succ n ih =>
    intro out
    refine Leads.trans (s' := ⟨p, last, out ++ [out.getD (out.length - d) 0], .row (n + 1) d ll dl⟩) (Leads.put (fun W L _ => by simp [adv])) ?_ ?_
    · exact ih _
    · show (out ++ [_]).length ≤ (grow d (n + 1 + 1) out).length
      rw [grow_len, List.length_append]
      simp
end Go.Proofs.YtleeaofofofgmaaDoor
