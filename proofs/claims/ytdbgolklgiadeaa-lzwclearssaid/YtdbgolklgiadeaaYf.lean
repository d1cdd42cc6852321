/-
  lzw: what the writer writes is what the reader reads. Plain mathematics.
-/
import Derived.Test.YtdbgolklgiadeaaYe
namespace Go.Proofs.Ytdbgolklgiadeaa
open Go.RowKit

theorem rread_c (sv : Value) (bs : List Nat) (size most : Int) (w : World) (h : Lies w sv bs) (hlt : ∀ b ∈ bs, b < 256) (hlen : bs.length ≤ 2147483648) (hm : most ≤ 999990) :
    Calls Try.prog 13 #[sv, .int .i64 size, .int .i64 most] w fun e w' => ∃ r a c, ReadOk bs size most r ∧ e = .returned (.tuple #[.slice a (outZ r).length c, .int .i64 ((errZ r : Nat) : Int)]) ∧
      OwnB w' w.heap.size (.slice a (outZ r).length c) (outZ r) ∧ Fr (fun _ => False) w w' := by
  by_cases hneg : size < 2 ∨ 8 < size ∨ most < 0
  · have hs : ∃ a n c, sv = .slice a n c := by
      rcases h with ⟨rfl, _⟩ | ⟨ad, c, rfl, _⟩
      · exact ⟨none, 0, 0, rfl⟩
      · exact ⟨some ad, _, c, rfl⟩
    refine (rread_no sv size most w hs hneg).mono ?_
    rintro e w' ⟨rfl, rfl⟩
    exact ⟨.error 1, none, 0, Or.inl ⟨hneg, rfl⟩, rfl, World.ownsRow_nil _ _ _ _, Fr.refl _ _⟩
  · obtain ⟨m, rfl⟩ : ∃ m : Nat, most = (m : Int) := ⟨most.toNat, by omega⟩
    obtain ⟨k, rfl⟩ : ∃ k : Nat, size = (k : Int) := ⟨size.toNat, by omega⟩
    refine (rread_ok sv bs k m w h hlt hlen (by omega) (by omega)).mono ?_
    rintro e w' ⟨r, a, c, h1, h2, h3, h4⟩
    refine ⟨r, a, c, Or.inr ⟨by omega, by omega, by omega, ?_⟩, h2, h3, h4⟩
    have e1 : (k : Int).toNat = k := by omega
    have e2 : (m : Int).toNat = m := by omega
    rw [e1, e2]
    exact h1

/-- Bits v, p of them: whoever reads a stream that begins so comes to s. -/
structure Led (k most v p : Nat) (s : Zs) : Prop where
  at_ : s.p = p
  lt : v < 2 ^ p
  run : ∀ V L r, V % 2 ^ p = v → p ≤ L → ZRuns V L k most s r → ZRuns V L k most zinit r

theorem Led.init (k most : Nat) : Led k most 0 0 zinit := ⟨rfl, by simp, fun _ _ _ _ _ h => h⟩

theorem led_bits {V v c p m : Nat} (h : V % 2 ^ (p + m) = v + c * 2 ^ p) (hv : v < 2 ^ p) : V % 2 ^ p = v ∧ V / 2 ^ p % 2 ^ m = c := by
  have hp : 0 < 2 ^ p := Nat.two_pow_pos p
  constructor
  · have h1 : V % 2 ^ (p + m) % 2 ^ p = V % 2 ^ p := Nat.mod_mod_of_dvd V (Nat.pow_dvd_pow 2 (by omega))
    rw [h] at h1
    rw [← h1, Nat.add_mul_mod_self_right, Nat.mod_eq_of_lt hv]
  · have h1 : V % (2 ^ p * 2 ^ m) / 2 ^ p = V / 2 ^ p % 2 ^ m := Nat.mod_mul_right_div_self V (2 ^ p) (2 ^ m)
    rw [← Nat.pow_add, h] at h1
    rw [← h1, Nat.add_mul_div_right _ _ hp, Nat.div_eq_of_lt hv, Nat.zero_add]

theorem led_lt {v c p m : Nat} (hv : v < 2 ^ p) (hc : c < 2 ^ m) : v + c * 2 ^ p < 2 ^ (p + m) := by
  have := mul_lt_pow (a := p) hc
  omega

theorem Led.row {k most v p : Nat} {s : Zs} (h : Led k most v p s) {c : Nat} {x : List Nat} (hc : c < 2 ^ wid k s.rows.length) (h1 : c ≠ 2 ^ k) (h2 : c ≠ 2 ^ k + 1) (hx : rowOf k c s = some x) (hm : s.out.length + x.length ≤ most) :
    Led k most (v + c * 2 ^ p) (p + wid k s.rows.length) (onward k s x) := by
  refine ⟨by show s.p + _ = _; rw [h.at_], led_lt h.lt hc, fun V L r hV hL hr => ?_⟩
  obtain ⟨e1, e2⟩ := led_bits hV h.lt
  have e : codeAt V k s = c := by unfold codeAt; rw [h.at_]; exact e2
  exact h.run V L r e1 (by omega) (.row (by rw [h.at_]; exact hL) (by rw [e]; exact h1) (by rw [e]; exact h2) (by rw [e]; exact hx) hm hr)

theorem Led.clear {k most v p : Nat} {s : Zs} (h : Led k most v p s) (hc : 2 ^ k < 2 ^ wid k s.rows.length) :
    Led k most (v + 2 ^ k * 2 ^ p) (p + wid k s.rows.length) ⟨p + wid k s.rows.length, [], [], s.out⟩ := by
  refine ⟨rfl, led_lt h.lt hc, fun V L r hV hL hr => ?_⟩
  obtain ⟨e1, e2⟩ := led_bits hV h.lt
  have e : codeAt V k s = 2 ^ k := by unfold codeAt; rw [h.at_]; exact e2
  exact h.run V L r e1 (by omega) (.clear (by rw [h.at_]; exact hL) e (by rw [h.at_]; exact hr))

theorem Led.fin {k most v p : Nat} {s : Zs} (h : Led k most v p s) {V L : Nat} (hV : V % 2 ^ (p + wid k s.rows.length) = v + (2 ^ k + 1) * 2 ^ p) (hL : p + wid k s.rows.length ≤ L) : ZRuns V L k most zinit (.ok s.out) := by
  obtain ⟨e1, e2⟩ := led_bits hV h.lt
  have e : codeAt V k s = 2 ^ k + 1 := by unfold codeAt; rw [h.at_]; exact e2
  exact h.run V L _ e1 (by omega) (.fin (by rw [h.at_]; exact hL) e)

/-- The row that a number means to the writer; v0 is the first value behind what was written. -/
def den (k : Nat) (s : Zs) (v0 c : Nat) : Option (List Nat) :=
  if c < 2 ^ k then some [c]
  else if c < 2 ^ k + 2 then none
  else if c = nextN k s.rows.length then some (s.last ++ [v0])
  else s.rows[c - 2 ^ k - 2]?

theorem den_le {k : Nat} {s : Zs} {v0 c : Nat} {x : List Nat} (h : den k s v0 c = some x) : c ≤ nextN k s.rows.length ∧ c ≠ 2 ^ k ∧ c ≠ 2 ^ k + 1 := by
  unfold den at h
  unfold nextN at *
  split at h
  · omega
  split at h
  · cases h
  split at h
  · omega
  · have := (List.getElem?_eq_some_iff.1 h).1
    omega

/-- The writer at work: the row r is gathered, its values are cur. -/
structure Enc (k n : Nat) (first : Bool) (cur : List Nat) (r : Nat) (F : Nat → Nat → Option Nat) (s : Zs) : Prop where
  len : s.rows.length = n
  full : nextN k n < 4096
  fst : first = true ↔ s.last = []
  ne : cur ≠ []
  den_ : den k s (cur.headD 0) r = some cur
  fresh : s.last = [] → r < 2 ^ k ∧ n = 0 ∧ ∀ a b, F a b = none
  map : ∀ a b c, F a b = some c → 2 ^ k + 2 ≤ c ∧ c ≤ nextN k n ∧ ∃ x, den k s (cur.headD 0) a = some x ∧ den k s (cur.headD 0) c = some (x ++ [b])
  pot : ∃ q, s.p ≤ 12 + 12 * q + 12 * s.out.length ∧ 3000 * q + n ≤ s.out.length

theorem Enc.wide {k n : Nat} {first : Bool} {cur : List Nat} {r : Nat} {F : Nat → Nat → Option Nat} {s : Zs} (h : Enc k n first cur r F s) (hk : 2 ≤ k ∧ k ≤ 8) : r < 2 ^ wid k n ∧ r ≠ 2 ^ k ∧ r ≠ 2 ^ k + 1 ∧ r < 4096 := by
  have h1 := den_le h.den_
  rw [h.len] at h1
  have h2 := next_lt k hk n (by have := h.full; omega)
  have h3 := h.full
  omega

/-- The reader takes the gathered row for what it is. -/
theorem Enc.rowOf_ {k n : Nat} {first : Bool} {cur : List Nat} {r : Nat} {F : Nat → Nat → Option Nat} {s : Zs} (h : Enc k n first cur r F s) : rowOf k r s = some cur := by
  have h1 := h.den_
  have h2 := den_le h1
  unfold rowOf
  unfold den at h1
  by_cases hr : r < 2 ^ k
  · rw [if_pos hr] at h1 ⊢
    exact h1
  rw [if_neg hr] at h1 ⊢
  rw [if_neg (by omega)] at h1
  have hl : s.last ≠ [] := fun e => hr (h.fresh e).1
  rw [if_neg hl, if_neg (by omega)]
  by_cases hn : r = nextN k s.rows.length
  · rw [if_pos hn] at h1 ⊢
    injection h1 with h1
    obtain ⟨a, t, hat⟩ := List.exists_cons_of_ne_nil hl
    have e : cur.headD 0 = s.last.headD 0 := by rw [← h1, hat]; rfl
    rw [← e, h1]
  · rw [if_neg hn] at h1 ⊢
    exact h1

/-- A longer row is found. -/
theorem Enc.longer {k n : Nat} {first : Bool} {cur : List Nat} {r : Nat} {F : Nat → Nat → Option Nat} {s : Zs} (h : Enc k n first cur r F s) {v c : Nat} (hF : F r v = some c) : Enc k n first (cur ++ [v]) c F s := by
  obtain ⟨h1, h2, x, h3, h4⟩ := h.map r v c hF
  rw [h.den_] at h3
  injection h3 with h3
  subst h3
  have hh : (cur ++ [v]).headD 0 = cur.headD 0 := by
    obtain ⟨a, t, hat⟩ := List.exists_cons_of_ne_nil h.ne
    rw [hat]; rfl
  refine ⟨h.len, h.full, h.fst, by simp, by rw [hh]; exact h4, fun e => ?_, by rw [hh]; exact h.map, h.pot⟩
  have := (h.fresh e).2.2 r v
  rw [hF] at this
  cases this

/-- How many rows there are when the gathered one is written. -/
theorem Enc.rows_ {k n : Nat} {first : Bool} {cur : List Nat} {r : Nat} {F : Nat → Nat → Option Nat} {s : Zs} (h : Enc k n first cur r F s) : (onward k s cur).rows.length = if first then n else n + 1 := by
  show (made k s cur).length = _
  unfold made
  rw [h.len]
  cases hf : first with
  | true =>
    rw [if_neg (fun e => e.1 (h.fst.1 hf))]
    simp [h.len]
  | false =>
    rw [if_pos ⟨(fun e => by have := h.fst.2 e; rw [hf] at this; cases this), h.full⟩]
    simp [h.len]

theorem Enc.keep {k n : Nat} {first : Bool} {cur : List Nat} {r : Nat} {F : Nat → Nat → Option Nat} {s : Zs} (h : Enc k n first cur r F s) (v : Nat) {a : Nat} {x : List Nat} (ha : s.last = [] → a < 2 ^ k) (hd : den k s (cur.headD 0) a = some x) : den k (onward k s cur) v a = some x := by
  unfold den at hd ⊢
  by_cases h1 : a < 2 ^ k
  · rw [if_pos h1] at hd ⊢
    exact hd
  rw [if_neg h1] at hd ⊢
  by_cases h2 : a < 2 ^ k + 2
  · rw [if_pos h2] at hd
    cases hd
  rw [if_neg h2] at hd ⊢
  have hl : s.last ≠ [] := fun e => h1 (ha e)
  have hrow : (onward k s cur).rows = s.rows ++ [s.last ++ [cur.headD 0]] := by
    show made k s cur = _
    unfold made
    rw [if_pos ⟨hl, by rw [h.len]; exact h.full⟩]
  rw [hrow]
  by_cases h3 : a = nextN k s.rows.length
  · rw [if_pos h3] at hd
    unfold nextN at *
    rw [if_neg (by simp; omega), List.getElem?_append_right (by omega), show a - 2 ^ k - 2 - s.rows.length = 0 by omega]
    exact hd
  · rw [if_neg h3] at hd
    have hi := (List.getElem?_eq_some_iff.1 hd).1
    unfold nextN at *
    rw [if_neg (by simp; omega), List.getElem?_append_left hi]
    exact hd

def upd (F : Nat → Nat → Option Nat) (r v c : Nat) : Nat → Nat → Option Nat := fun a b => if a = r ∧ b = v then some c else F a b

/-- The gathered row is written, and the table is not full. -/
theorem Enc.on {k n : Nat} {first : Bool} {cur : List Nat} {r : Nat} {F : Nat → Nat → Option Nat} {s : Zs} (hk : 2 ≤ k ∧ k ≤ 8) (h : Enc k n first cur r F s) (v n' : Nat) (hv : v < 2 ^ k) (hn : n' = if first then n else n + 1) (hf : nextN k n' < 4096) :
    Enc k n' false [v] v (upd F r v (nextN k n')) (onward k s cur) := by
  have hlen : (onward k s cur).rows.length = n' := by rw [h.rows_, hn]
  have hne : (onward k s cur).last ≠ [] := h.ne
  have hnn : n ≤ n' := by rw [hn]; split <;> omega
  refine ⟨hlen, hf, ⟨fun e => (by cases e), fun e => absurd e hne⟩, by simp, ?_, fun e => absurd e hne, fun a b c hc => ?_, ?_⟩
  · unfold den
    simp [hv]
  · unfold upd at hc
    split at hc
    · next e =>
      injection hc with hc
      obtain ⟨rfl, rfl⟩ := e
      subst hc
      refine ⟨by unfold nextN; omega, Nat.le_refl _, cur, ?_, ?_⟩
      · exact h.keep _ (fun e => (h.fresh e).1) h.den_
      · unfold den
        rw [hlen, if_neg (by unfold nextN; omega), if_neg (by unfold nextN; omega), if_pos rfl]
        rfl
    · obtain ⟨h1, h2, x, h3, h4⟩ := h.map a b c hc
      have hl : s.last ≠ [] := fun e => by
        have := (h.fresh e).2.2 a b
        rw [hc] at this
        cases this
      refine ⟨h1, by unfold nextN at *; omega, x, h.keep _ (fun e => absurd e hl) h3, h.keep _ (fun e => absurd e hl) h4⟩
  · obtain ⟨q, h1, h2⟩ := h.pot
    have hw := wid_le k hk s.rows.length
    have hcl : 1 ≤ cur.length := List.length_pos_iff.2 h.ne
    refine ⟨q, ?_, ?_⟩
    · show s.p + _ ≤ 12 + 12 * q + 12 * (s.out ++ cur).length
      simp
      omega
    · show 3000 * q + n' ≤ (s.out ++ cur).length
      simp
      split at hn <;> omega

/-- The gathered row is written, the table is full, and is cleared. -/
theorem Enc.again {k n : Nat} {first : Bool} {cur : List Nat} {r : Nat} {F : Nat → Nat → Option Nat} {s : Zs} (hk : 2 ≤ k ∧ k ≤ 8) (h : Enc k n first cur r F s) (v n' p' : Nat) (hv : v < 2 ^ k) (hn : n' = if first then n else n + 1) (hf : nextN k n' = 4096) (hp : p' = s.p + wid k s.rows.length + wid k n') :
    Enc k 0 true [v] v (fun _ _ => none) ⟨p', [], [], s.out ++ cur⟩ := by
  have hP := pow_le k hk.2
  refine ⟨rfl, by unfold nextN; omega, ⟨fun _ => rfl, fun _ => rfl⟩, by simp, by unfold den; simp [hv], fun _ => ⟨hv, rfl, fun _ _ => rfl⟩, (fun a b c hc => by cases hc), ?_⟩
  obtain ⟨q, h1, h2⟩ := h.pot
  have hw := wid_le k hk s.rows.length
  have hw2 := wid_le k hk n'
  have hcl : 1 ≤ cur.length := List.length_pos_iff.2 h.ne
  have hn1 : n' ≤ n + 1 := by rw [hn]; split <;> omega
  unfold nextN at hf
  refine ⟨q + 1, ?_, ?_⟩
  · show p' ≤ 12 + 12 * (q + 1) + 12 * (s.out ++ cur).length
    simp
    omega
  · show 3000 * (q + 1) + 0 ≤ (s.out ++ cur).length
    simp
    omega

/-- At the beginning, behind the first Clear: the first value. -/
theorem Enc.start {k : Nat} (hk : 2 ≤ k ∧ k ≤ 8) (v : Nat) (hv : v < 2 ^ k) (F : Nat → Nat → Option Nat) (hF : ∀ a b, F a b = none) : Enc k 0 true [v] v F ⟨k + 1, [], [], []⟩ := by
  have hP := pow_le k hk.2
  refine ⟨rfl, by unfold nextN; omega, ⟨fun _ => rfl, fun _ => rfl⟩, by simp, by unfold den; simp [hv], fun _ => ⟨hv, rfl, hF⟩, fun a b c hc => (by rw [hF] at hc; cases hc), 0, ?_, ?_⟩
  · show k + 1 ≤ _
    omega
  · simp
end Go.Proofs.Ytdbgolklgiadeaa
