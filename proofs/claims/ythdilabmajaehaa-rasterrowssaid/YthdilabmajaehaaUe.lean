/-
  raster: a picture set pixel by pixel, in turn.
-/
import Derived.Test.YthdilabmajaehaaUd
namespace Go.Proofs.Ythdilabmajaehaa

/-- The pixel k is the one that RasterRows sets there. -/
def PxIs (px : List Nat) (k : Nat) : Prop := px.getD (4 * k) 0 = k ∧ px.getD (4 * k + 1) 0 = 1 ∧ px.getD (4 * k + 2) 0 = k / 256 ∧ px.getD (4 * k + 3) 0 = 9

theorem setP_get {px : List Nat} {k : Nat} {q : List Nat} (hk : k + q.length ≤ px.length) (j : Nat) : (setP px k q).getD j 0 = if k ≤ j ∧ j < k + q.length then q.getD (j - k) 0 else px.getD j 0 := by
  have hl : (px.take k).length = k := by simp; omega
  simp only [setP, List.getD_eq_getElem?_getD]
  by_cases h1 : j < k
  · rw [List.getElem?_append_left (by omega), List.getElem?_take_of_lt h1, if_neg (by omega)]
  · rw [List.getElem?_append_right (by omega), hl]
    by_cases h2 : j < k + q.length
    · rw [List.getElem?_append_left (by omega), if_pos (by omega)]
    · rw [List.getElem?_append_right (by omega), List.getElem?_drop, if_neg (by omega)]
      rw [show k + q.length + (j - k - q.length) = j by omega]

theorem pxIs_set {px : List Nat} {N k : Nat} (hl : px.length = 4 * N) (hk : k < N) :
    PxIs (setP px (4 * k) [k, 1, k / 256, 9]) k ∧ ∀ i, i ≠ k → PxIs px i → PxIs (setP px (4 * k) [k, 1, k / 256, 9]) i := by
  have h := setP_get (px := px) (k := 4 * k) (q := [k, 1, k / 256, 9]) (by simp; omega)
  have hlen : ([k, 1, k / 256, 9] : List Nat).length = 4 := rfl
  constructor
  · refine ⟨?_, ?_, ?_, ?_⟩
    · rw [h, if_pos (by rw [hlen]; omega)]; simp
    · rw [h, if_pos (by rw [hlen]; omega), show 4 * k + 1 - 4 * k = 1 by omega]; simp
    · rw [h, if_pos (by rw [hlen]; omega), show 4 * k + 2 - 4 * k = 2 by omega]; simp
    · rw [h, if_pos (by rw [hlen]; omega), show 4 * k + 3 - 4 * k = 3 by omega]; simp
  · rintro i hi ⟨h0, h1, h2, h3⟩
    refine ⟨?_, ?_, ?_, ?_⟩
    · rw [h, if_neg (by rw [hlen]; omega)]; exact h0
    · rw [h, if_neg (by rw [hlen]; omega)]; exact h1
    · rw [h, if_neg (by rw [hlen]; omega)]; exact h2
    · rw [h, if_neg (by rw [hlen]; omega)]; exact h3

theorem turn_onto {N k : Nat} (t : Nat) (hk : k < N) : ∃ j, j < N ∧ (j + t) % N = k := by
  have hN : 0 < N := by omega
  refine ⟨(k + (N - t % N)) % N, Nat.mod_lt _ hN, ?_⟩
  rw [Nat.mod_add_mod]
  have h1 := Nat.mod_lt t hN
  have h2 := Nat.div_add_mod t N
  have e : k + (N - t % N) + t = k + N * (t / N + 1) := by rw [Nat.mul_add, Nat.mul_one]; omega
  rw [e, Nat.add_mul_mod_self_left, Nat.mod_eq_of_lt hk]

/-- Behind i rounds. -/
def Turned (N t i : Nat) (px : List Nat) : Prop := ∀ j, j < i → PxIs px ((j + t) % N)

theorem Turned.zero (N t : Nat) (px : List Nat) : Turned N t 0 px := fun j h => absurd h (Nat.not_lt_zero j)

theorem Turned.step {N t i k : Nat} {px : List Nat} (h : Turned N t i px) (hl : px.length = 4 * N) (hN : 0 < N) (hk : k = (i + t) % N) : Turned N t (i + 1) (setP px (4 * k) [k, 1, k / 256, 9]) := by
  have hkN : k < N := by rw [hk]; exact Nat.mod_lt _ hN
  obtain ⟨h1, h2⟩ := pxIs_set hl hkN
  intro j hj
  by_cases e : (j + t) % N = k
  · rw [e]; exact h1
  · have hne : j ≠ i := fun e2 => e (by rw [e2, hk])
    exact h2 _ e (h j (by omega))

theorem Turned.all {N t : Nat} {px : List Nat} (h : Turned N t N px) (k : Nat) (hk : k < N) : PxIs px k := by
  obtain ⟨j, h1, h2⟩ := turn_onto t hk
  rw [← h2]
  exact h j h1

/-- So many unlike pixels. -/
theorem rows_count {px : List Nat} {N : Nat} {D : List Int} (hp : ∀ b ∈ px, b < 65536) (h : ∀ k, k < N → PxIs px k) (hD : D.Nodup) (hm : ∀ x, x ∈ D ↔ x ∈ keyF N px (4 * N)) : D.length = N := by
  have e := keyF_eq hp N
  rw [e] at hm
  have hn : ((List.range N).map fun q => ((val px (4 * q) 4 : Nat) : Int)).Nodup := by
    refine List.Pairwise.map _ (R := fun a b => a < b ∧ b < N) ?_ ?_
    · rintro a b ⟨hab, hb⟩ e2
      have e3 := (val_inj hp (4 * a) (4 * b) (by omega)).1
      rw [(h a (by omega)).1, (h b hb).1] at e3
      omega
    · refine List.Pairwise.imp_of_mem (R := fun a b => a < b) ?_ List.pairwise_lt_range
      intro i j _ hj hij
      exact ⟨hij, List.mem_range.1 hj⟩
  have := len_of_same D _ hD hn hm
  simpa using this
end Go.Proofs.Ythdilabmajaehaa
