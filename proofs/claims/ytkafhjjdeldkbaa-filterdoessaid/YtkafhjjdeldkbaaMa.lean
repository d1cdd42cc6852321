/-
  filter: plain mathematics of the five filters. No program is named here.
-/
import Derived.Test.YtkafhjjdeldkbaaBa
namespace Go.Proofs.Ytkafhjjdeldkbaa
open Go.RowKit Go.Lib
set_option linter.unusedVariables false

/-- How far two numbers are apart. -/
def dist (p x : Int) : Int := if x - p > p - x then x - p else p - x
def paethV (a b c : Nat) : Nat :=
  if dist ((a : Int) + b - c) a ≤ dist ((a : Int) + b - c) b ∧ dist ((a : Int) + b - c) a ≤ dist ((a : Int) + b - c) c then a
  else if dist ((a : Int) + b - c) b ≤ dist ((a : Int) + b - c) c then b else c
theorem paeth_lt {a b c : Nat} (ha : a < 256) (hb : b < 256) (hc : c < 256) : paethV a b c < 256 := by
  unfold paethV; split
  · exact ha
  · split
    · exact hb
    · exact hc

/-- The byte to the left; the one above left goes the same way. -/
def leftV (xs : List Nat) (back i : Nat) : Nat := if back ≤ i then xs.getD (i - back) 0 else 0
def tellV (kind l u ul : Nat) : Nat := match kind with
  | 1 => l
  | 2 => u
  | 3 => (l + u) / 2
  | 4 => paethV l u ul
  | _ => 0
def foreV (kind : Nat) (row above : List Nat) (back i : Nat) : Nat := tellV kind (leftV row back i) (above.getD i 0) (leftV above back i)

theorem getD_lt {xs : List Nat} (h : ∀ b ∈ xs, b < 256) (i : Nat) : xs.getD i 0 < 256 := by
  rw [List.getD_eq_getElem?_getD]
  cases e : xs[i]? with
  | none => simp
  | some x => exact h x (List.mem_of_getElem? e)
theorem left_lt {xs : List Nat} (h : ∀ b ∈ xs, b < 256) (back i : Nat) : leftV xs back i < 256 := by
  unfold leftV; split
  · exact getD_lt h _
  · omega
theorem tell_lt (kind : Nat) {l u ul : Nat} (hl : l < 256) (hu : u < 256) (hul : ul < 256) : tellV kind l u ul < 256 := by
  unfold tellV
  split
  · exact hl
  · exact hu
  · omega
  · exact paeth_lt hl hu hul
  · omega
theorem fore_lt (kind : Nat) {row above : List Nat} (hr : ∀ b ∈ row, b < 256) (ha : ∀ b ∈ above, b < 256) (back i : Nat) : foreV kind row above back i < 256 :=
  tell_lt kind (left_lt hr back i) (getD_lt ha i) (left_lt ha back i)
theorem fore_congr (kind : Nat) (xs ys above : List Nat) (back i : Nat) (hb : 1 ≤ back) (h : ∀ j, j < i → xs.getD j 0 = ys.getD j 0) : foreV kind xs above back i = foreV kind ys above back i := by
  have e : leftV xs back i = leftV ys back i := by
    unfold leftV
    split
    · exact h _ (by omega)
    · rfl
  unfold foreV
  rw [e]
/-- No row above is one of noughts. -/
theorem fore_none (kind : Nat) (xs : List Nat) (n back i : Nat) : foreV kind xs [] back i = foreV kind xs (List.replicate n 0) back i := by
  have e : ∀ j, (List.replicate n 0).getD j 0 = 0 := by
    intro j
    rw [List.getD_eq_getElem?_getD, List.getElem?_replicate]
    split <;> rfl
  have e2 : leftV [] back i = leftV (List.replicate n 0) back i := by
    unfold leftV
    rw [e]
    split <;> simp
  unfold foreV
  rw [e, ← e2]
  simp

/-- Whether they may be. -/
def mayV (kind back : Int) (n m : Nat) : Bool := decide ((0 ≤ kind ∧ kind ≤ 4) ∧ (1 ≤ back ∧ back ≤ 8) ∧ (m = 0 ∨ m = n))

def doV (kind : Nat) (row above : List Nat) (back : Nat) : List Nat := (List.range row.length).map fun i => (row.getD i 0 + 256 - foreV kind row above back i) % 256
def undoTo (kind : Nat) (row above : List Nat) (back : Nat) : Nat → List Nat
  | 0 => []
  | k + 1 => undoTo kind row above back k ++ [(row.getD k 0 + foreV kind (undoTo kind row above back k) above back k) % 256]
def undoV (kind : Nat) (row above : List Nat) (back : Nat) : List Nat := undoTo kind row above back row.length

theorem doV_length (kind : Nat) (row above : List Nat) (back : Nat) : (doV kind row above back).length = row.length := by simp [doV]
theorem doV_get (kind : Nat) (row above : List Nat) (back k : Nat) (hk : k < row.length) : (doV kind row above back).getD k 0 = (row.getD k 0 + 256 - foreV kind row above back k) % 256 := by
  simp [doV, List.getD_eq_getElem?_getD, hk]
theorem doV_lt (kind : Nat) (row above : List Nat) (back : Nat) : ∀ b ∈ doV kind row above back, b < 256 := by
  intro b hb
  simp only [doV, List.mem_map] at hb
  obtain ⟨i, _, rfl⟩ := hb
  exact Nat.mod_lt _ (by decide)
theorem undoTo_length (kind : Nat) (row above : List Nat) (back k : Nat) : (undoTo kind row above back k).length = k := by
  induction k with
  | zero => rfl
  | succ k ih => simp [undoTo, ih]
theorem undoV_length (kind : Nat) (row above : List Nat) (back : Nat) : (undoV kind row above back).length = row.length := undoTo_length _ _ _ _ _
theorem undoTo_lt (kind : Nat) (row above : List Nat) (back k : Nat) : ∀ b ∈ undoTo kind row above back k, b < 256 := by
  induction k with
  | zero => intro b hb; cases hb
  | succ k ih =>
    intro b hb
    simp only [undoTo, List.mem_append, List.mem_singleton] at hb
    rcases hb with h | h
    · exact ih b h
    · rw [h]; exact Nat.mod_lt _ (by decide)
theorem undoV_lt (kind : Nat) (row above : List Nat) (back : Nat) : ∀ b ∈ undoV kind row above back, b < 256 := undoTo_lt _ _ _ _ _
theorem undoTo_get (kind : Nat) (row above : List Nat) (back m j : Nat) (hj : j < m) : (undoTo kind row above back m).getD j 0 = (undoTo kind row above back (j + 1)).getD j 0 := by
  induction m with
  | zero => omega
  | succ m ih =>
    by_cases e : j = m
    · subst e; rfl
    · have hl := undoTo_length kind row above back m
      rw [← ih (by omega)]
      rw [List.getD_eq_getElem?_getD, List.getD_eq_getElem?_getD]
      congr 1
      exact List.getElem?_append_left (by omega)
theorem undoV_get (kind : Nat) (row above : List Nat) (back k : Nat) (hb : 1 ≤ back) (hk : k < row.length) : (undoV kind row above back).getD k 0 = (row.getD k 0 + foreV kind (undoV kind row above back) above back k) % 256 := by
  unfold undoV
  rw [undoTo_get _ _ _ _ _ _ hk]
  rw [fore_congr kind (undoTo kind row above back row.length) (undoTo kind row above back k) above back k hb (fun j hj => by rw [undoTo_get _ _ _ _ _ _ (show j < row.length by omega), undoTo_get _ _ _ _ _ _ hj])]
  have hl := undoTo_length kind row above back k
  rw [List.getD_eq_getElem?_getD]
  simp only [undoTo]
  rw [List.getElem?_append_right (by omega), hl, Nat.sub_self]
  rfl

theorem ext_getD {a b : List Nat} (hl : a.length = b.length) (h : ∀ k, k < a.length → a.getD k 0 = b.getD k 0) : a = b := by
  apply List.ext_getElem hl
  intro i h1 h2
  have := h i h1
  rw [List.getD_eq_getElem?_getD, List.getD_eq_getElem?_getD, List.getElem?_eq_getElem h1, List.getElem?_eq_getElem h2] at this
  exact this

/-- What Do left gives the row again. -/
theorem undo_do (kind : Nat) {row above : List Nat} (back : Nat) (hb : 1 ≤ back) (hr : ∀ b ∈ row, b < 256) (ha : ∀ b ∈ above, b < 256) : undoV kind (doV kind row above back) above back = row := by
  have hl : (undoV kind (doV kind row above back) above back).length = row.length := by rw [undoV_length, doV_length]
  have key : ∀ k, k < row.length → (undoV kind (doV kind row above back) above back).getD k 0 = row.getD k 0 := by
    intro k
    induction k using Nat.strongRecOn with
    | _ k ih =>
      intro hk
      rw [undoV_get kind _ above back k hb (by rw [doV_length]; exact hk), doV_get kind row above back k hk, fore_congr kind _ row above back k hb (fun j hj => ih j hj (by omega))]
      have h1 := getD_lt hr k
      have h2 := fore_lt kind hr ha back k
      omega
  exact ext_getD hl (fun k hk => key k (by rw [← hl]; exact hk))
theorem do_undo (kind : Nat) {row above : List Nat} (back : Nat) (hb : 1 ≤ back) (hr : ∀ b ∈ row, b < 256) (ha : ∀ b ∈ above, b < 256) : doV kind (undoV kind row above back) above back = row := by
  have hl : (doV kind (undoV kind row above back) above back).length = row.length := by rw [doV_length, undoV_length]
  refine ext_getD hl (fun k hk => ?_)
  rw [doV_length] at hk
  rw [doV_get _ _ _ _ _ hk, undoV_get kind row above back k hb (by rwa [undoV_length] at hk)]
  have h1 := getD_lt hr k
  have h2 := fore_lt kind (undoV_lt kind row above back) ha back k
  omega

theorem do_zero {row : List Nat} (above : List Nat) (back : Nat) (hr : ∀ b ∈ row, b < 256) : doV 0 row above back = row := by
  refine ext_getD (doV_length _ _ _ _) (fun k hk => ?_)
  rw [doV_length] at hk
  rw [doV_get _ _ _ _ _ hk]
  have h1 := getD_lt hr k
  show (row.getD k 0 + 256 - 0) % 256 = _
  omega
theorem do_none (kind : Nat) (row : List Nat) (n back : Nat) : doV kind row [] back = doV kind row (List.replicate n 0) back := by
  unfold doV
  simp only [fore_none kind row n back]

/-- A row that is being turned: its first k places are done. -/
def mix (D R : List Nat) (k : Nat) : List Nat := D.take k ++ R.drop k
theorem mix_length {D R : List Nat} (h : D.length = R.length) {k : Nat} (hk : k ≤ R.length) : (mix D R k).length = R.length := by
  simp [mix]; omega
theorem mix_zero (D R : List Nat) : mix D R 0 = R := by simp [mix]
theorem mix_all {D R : List Nat} (h : D.length = R.length) : mix D R R.length = D := by
  simp [mix, ← h]
theorem mix_get_lt (D R : List Nat) {k j : Nat} (hj : j < k) (hk : k ≤ D.length) : (mix D R k).getD j 0 = D.getD j 0 := by
  unfold mix
  rw [List.getD_eq_getElem?_getD, List.getElem?_append_left (by rw [List.length_take]; omega), List.getElem?_take, if_pos hj, ← List.getD_eq_getElem?_getD]
theorem mix_get {D R : List Nat} (h : D.length = R.length) {k : Nat} (hk : k < R.length) : (mix D R k).getD k 0 = R.getD k 0 := by
  unfold mix
  have e : (D.take k).length = k := by rw [List.length_take]; omega
  rw [List.getD_eq_getElem?_getD, List.getElem?_append_right (by omega), e, Nat.sub_self, List.getElem?_drop, Nat.add_zero, ← List.getD_eq_getElem?_getD]
theorem mix_step {D R : List Nat} (h : D.length = R.length) {k : Nat} (hk : k < R.length) : (mix D R k).set k (D.getD k 0) = mix D R (k + 1) := by
  have e : (D.take k).length = k := by rw [List.length_take]; omega
  unfold mix
  rw [List.set_append_right _ _ (by omega), e, Nat.sub_self, getD_take_succ D k (by omega), List.append_assoc]
  congr 1
  rw [List.drop_eq_getElem_cons hk]
  rfl
theorem mix_lt {D R : List Nat} (hd : ∀ b ∈ D, b < 256) (hr : ∀ b ∈ R, b < 256) (k : Nat) : ∀ b ∈ mix D R k, b < 256 := by
  intro b hb
  unfold mix at hb
  rcases List.mem_append.1 hb with h | h
  · exact hd b (List.mem_of_mem_take h)
  · exact hr b (List.mem_of_mem_drop h)

/-- A byte as a number from -128 to 127, without its sign. -/
def absV (b : Nat) : Nat := if b < 128 then b else 256 - b
def costV (xs : List Nat) : Nat := (xs.map absV).sum
theorem cost_snoc (xs : List Nat) (k : Nat) (hk : k < xs.length) : costV (xs.take (k + 1)) = costV (xs.take k) + absV (xs.getD k 0) := by
  rw [getD_take_succ xs k hk]
  simp [costV]
theorem cost_le (xs : List Nat) (h : ∀ b ∈ xs, b < 256) : costV xs ≤ 128 * xs.length := by
  induction xs with
  | nil => simp [costV]
  | cons x xs ih =>
    have h1 := ih (fun b hb => h b (List.mem_cons_of_mem _ hb))
    have h2 := h x List.mem_cons_self
    have h3 : absV x ≤ 128 := by unfold absV; split <;> omega
    simp only [costV, List.map_cons, List.sum_cons, List.length_cons] at h1 ⊢
    omega

/-- The best of the first k + 1 kinds, and what it leaves. -/
def bestTo (row above : List Nat) (back : Nat) : Nat → Nat × Nat
  | 0 => (0, costV (doV 0 row above back))
  | k + 1 => if costV (doV (k + 1) row above back) < (bestTo row above back k).2 then (k + 1, costV (doV (k + 1) row above back)) else bestTo row above back k
def bestV (row above : List Nat) (back : Nat) : Nat := (bestTo row above back 4).1

theorem bestTo_is (row above : List Nat) (back k : Nat) : (bestTo row above back k).1 ≤ k ∧ (bestTo row above back k).2 = costV (doV (bestTo row above back k).1 row above back) ∧ ∀ j, j ≤ k → (bestTo row above back k).2 ≤ costV (doV j row above back) ∧ (costV (doV j row above back) = (bestTo row above back k).2 → (bestTo row above back k).1 ≤ j) := by
  induction k with
  | zero =>
    refine ⟨Nat.le_refl _, rfl, fun j hj => ?_⟩
    have : j = 0 := by omega
    subst this
    exact ⟨Nat.le_refl _, fun _ => Nat.le_refl _⟩
  | succ k ih =>
    obtain ⟨h1, h2, h3⟩ := ih
    simp only [bestTo]
    split
    · next h =>
      refine ⟨Nat.le_refl _, rfl, fun j hj => ?_⟩
      by_cases e : j = k + 1
      · subst e; exact ⟨Nat.le_refl _, fun _ => Nat.le_refl _⟩
      · obtain ⟨h4, h5⟩ := h3 j (by omega)
        simp only []
        exact ⟨by omega, fun h6 => by omega⟩
    · next h =>
      refine ⟨by omega, h2, fun j hj => ?_⟩
      by_cases e : j = k + 1
      · subst e; exact ⟨by omega, fun h6 => by omega⟩
      · exact h3 j (by omega)
end Go.Proofs.Ytkafhjjdeldkbaa
