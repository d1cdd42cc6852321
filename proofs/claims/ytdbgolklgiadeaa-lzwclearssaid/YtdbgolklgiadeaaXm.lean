/-
  GIF's code as mathematics: what codes say. No program is named here.
-/
import Derived.Test.YtdbgolklgiadeaaBm
namespace Go.Proofs.Ytdbgolklgiadeaa

/-- The number that is made next, when n rows were made. -/
def nextN (k n : Nat) : Nat := 2 ^ k + 2 + n

/-- The width of a code, when n rows were made. -/
def wid (k : Nat) : Nat → Nat
  | 0 => k + 1
  | n + 1 => if nextN k (n + 1) = 2 ^ wid k n ∧ wid k n < 12 then wid k n + 1 else wid k n

/-- Where the reading of codes stands: bits taken, rows made, the last row (none at the beginning and behind a Clear), what was put out. -/
structure Zs where
  p : Nat
  rows : List (List Nat)
  last : List Nat
  out : List Nat

/-- The row that a code means. -/
def rowOf (k c : Nat) (s : Zs) : Option (List Nat) :=
  if c < 2 ^ k then some [c]
  else if s.last = [] then none
  else if nextN k s.rows.length < c then none
  else if c = nextN k s.rows.length then some (s.last ++ [s.last.headD 0])
  else s.rows[c - 2 ^ k - 2]?

/-- The rows behind a code of the row x. -/
def made (k : Nat) (s : Zs) (x : List Nat) : List (List Nat) :=
  if s.last ≠ [] ∧ nextN k s.rows.length < 4096 then s.rows ++ [s.last ++ [x.headD 0]] else s.rows

/-- The code that stands next. -/
def codeAt (V k : Nat) (s : Zs) : Nat := V / 2 ^ s.p % 2 ^ wid k s.rows.length

/-- The state behind a code of the row x. -/
def onward (k : Nat) (s : Zs) (x : List Nat) : Zs := ⟨s.p + wid k s.rows.length, made k s x, x, s.out ++ x⟩

/-- What codes come to. -/
inductive ZRuns (V L k most : Nat) : Zs → Except Nat (List Nat) → Prop where
  | short {s : Zs} (h : L < s.p + wid k s.rows.length) : ZRuns V L k most s (.error 2)
  | clear {s : Zs} {r : Except Nat (List Nat)} (h : s.p + wid k s.rows.length ≤ L) (hc : codeAt V k s = 2 ^ k) (hr : ZRuns V L k most ⟨s.p + wid k s.rows.length, [], [], s.out⟩ r) : ZRuns V L k most s r
  | fin {s : Zs} (h : s.p + wid k s.rows.length ≤ L) (hc : codeAt V k s = 2 ^ k + 1) : ZRuns V L k most s (.ok s.out)
  | form {s : Zs} (h : s.p + wid k s.rows.length ≤ L) (h1 : codeAt V k s ≠ 2 ^ k) (h2 : codeAt V k s ≠ 2 ^ k + 1) (hr : rowOf k (codeAt V k s) s = none) : ZRuns V L k most s (.error 4)
  | full {s : Zs} {x : List Nat} (h : s.p + wid k s.rows.length ≤ L) (h1 : codeAt V k s ≠ 2 ^ k) (h2 : codeAt V k s ≠ 2 ^ k + 1) (hx : rowOf k (codeAt V k s) s = some x) (hm : most < s.out.length + x.length) : ZRuns V L k most s (.error 6)
  | row {s : Zs} {x : List Nat} {r : Except Nat (List Nat)} (h : s.p + wid k s.rows.length ≤ L) (h1 : codeAt V k s ≠ 2 ^ k) (h2 : codeAt V k s ≠ 2 ^ k + 1) (hx : rowOf k (codeAt V k s) s = some x) (hm : s.out.length + x.length ≤ most) (hr : ZRuns V L k most (onward k s x) r) : ZRuns V L k most s r

theorem ZRuns.det {V L k most : Nat} {s : Zs} {r q : Except Nat (List Nat)} (h : ZRuns V L k most s r) (g : ZRuns V L k most s q) : r = q := by
  induction h with
  | short h => cases g <;> first | rfl | omega
  | clear h hc hr ih =>
    cases g with
    | short g => omega
    | clear g gc gr => exact ih gr
    | fin g gc => omega
    | form g g1 g2 gx => exact absurd hc g1
    | full g g1 g2 gx gm => exact absurd hc g1
    | row g g1 g2 gx gm gr => exact absurd hc g1
  | fin h hc =>
    cases g with
    | short g => omega
    | clear g gc gr => omega
    | fin g gc => rfl
    | form g g1 g2 gx => exact absurd hc g2
    | full g g1 g2 gx gm => exact absurd hc g2
    | row g g1 g2 gx gm gr => exact absurd hc g2
  | form h h1 h2 hr =>
    cases g with
    | short g => omega
    | clear g gc gr => exact absurd gc h1
    | fin g gc => exact absurd gc h2
    | form g g1 g2 gx => rfl
    | full g g1 g2 gx gm => rw [hr] at gx; cases gx
    | row g g1 g2 gx gm gr => rw [hr] at gx; cases gx
  | full h h1 h2 hx hm =>
    cases g with
    | short g => omega
    | clear g gc gr => exact absurd gc h1
    | fin g gc => exact absurd gc h2
    | form g g1 g2 gx => rw [hx] at gx; cases gx
    | full g g1 g2 gx gm => rfl
    | row g g1 g2 gx gm gr => rw [hx] at gx; cases gx; omega
  | row h h1 h2 hx hm hr ih =>
    cases g with
    | short g => omega
    | clear g gc gr => exact absurd gc h1
    | fin g gc => exact absurd gc h2
    | form g g1 g2 gx => rw [hx] at gx; cases gx
    | full g g1 g2 gx gm => rw [hx] at gx; cases gx; omega
    | row g g1 g2 gx gm gr => rw [hx] at gx; cases gx; exact ih gr

/-- At the beginning. -/
def zinit : Zs := ⟨0, [], [], []⟩

/-- What Read answers: bytes or an error. -/
def ReadOk (bs : List Nat) (size most : Int) (r : Except Nat (List Nat)) : Prop :=
  ((size < 2 ∨ 8 < size ∨ most < 0) ∧ r = .error 1) ∨ (2 ≤ size ∧ size ≤ 8 ∧ 0 ≤ most ∧ ZRuns (leNum bs) (8 * bs.length) size.toNat most.toNat zinit r)

theorem ReadOk.det {bs : List Nat} {size most : Int} {r q : Except Nat (List Nat)} (h : ReadOk bs size most r) (g : ReadOk bs size most q) : r = q := by
  rcases h with ⟨h1, rfl⟩ | ⟨h1, h2, h3, h4⟩ <;> rcases g with ⟨g1, rfl⟩ | ⟨g1, g2, g3, g4⟩
  · rfl
  · omega
  · omega
  · exact h4.det g4

/-- A state that can be: rows are of two values or more, there are no more than a table holds, and none without a last row. -/
structure Zok (k : Nat) (s : Zs) : Prop where
  rows : ∀ x ∈ s.rows, x ≠ []
  many : nextN k s.rows.length ≤ 4096
  none : s.last = [] → s.rows = []

theorem wid_le (k : Nat) (hk : 2 ≤ k ∧ k ≤ 8) (n : Nat) : k + 1 ≤ wid k n ∧ wid k n ≤ 12 := by
  induction n with
  | zero => simp only [wid]; omega
  | succ n ih =>
    simp only [wid]
    split <;> omega

/-- The number that is made next fits its width, or the table is full. -/
theorem next_lt (k : Nat) (hk : 2 ≤ k ∧ k ≤ 8) (n : Nat) (hn : nextN k n ≤ 4096) : nextN k n < 2 ^ wid k n ∨ (wid k n = 12 ∧ nextN k n = 4096) := by
  induction n with
  | zero =>
    left
    simp only [nextN, wid]
    have : 4 ≤ 2 ^ k := by
      have := Nat.pow_le_pow_right (n := 2) (by omega) hk.1
      omega
    rw [Nat.pow_succ]
    omega
  | succ n ih =>
    have hn' : nextN k n ≤ 4096 := by unfold nextN at *; omega
    have h12 := wid_le k hk n
    rcases ih hn' with h | ⟨h, e⟩
    · simp only [wid]
      split
      · next hc =>
        left
        rw [Nat.pow_succ]
        have : nextN k (n + 1) = nextN k n + 1 := by unfold nextN; omega
        omega
      · next hc =>
        have e1 : nextN k (n + 1) = nextN k n + 1 := by unfold nextN; omega
        by_cases e2 : nextN k (n + 1) = 2 ^ wid k n
        · right
          have : wid k n = 12 := by omega
          refine ⟨this, ?_⟩
          rw [e2, this]
        · left; omega
    · unfold nextN at *; omega

end Go.Proofs.Ytdbgolklgiadeaa
