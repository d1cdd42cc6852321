/-
  chunk: ChunkBack's mathematics.
-/
import Derived.Test.YtflapcaaaipoeaaCz
namespace Go.Proofs.Ytflapcaaaipoeaa
open Go.RowKit Go.Lib
set_option linter.unusedVariables false

/-- No end among them. -/
def noEnd (l : List Ck) : List Ck := l.filter fun c => !decide (c.1 = sIend)
/-- What the law joins. -/
def inL (l : List Ck) : List Ck := noEnd l ++ [(sIend, [])]

theorem noEnd_snoc (l : List Ck) (k : Nat) (h : k < l.length) : noEnd (l.take (k + 1)) = if (l.getD k default).1 = sIend then noEnd (l.take k) else noEnd (l.take k) ++ [l.getD k default] := by
  unfold noEnd
  rw [take_snocC l k h, List.filter_append]
  generalize l.getD k default = q
  by_cases e : q.1 = sIend
  · rw [if_pos e]; simp [e]
  · rw [if_neg e]; simp [e]
theorem noEnd_mem {l : List Ck} {c : Ck} (h : c ∈ noEnd l) : c ∈ l ∧ c.1 ≠ sIend := by
  unfold noEnd at h
  rw [List.mem_filter] at h
  refine ⟨h.1, fun e => ?_⟩
  have := h.2
  rw [e] at this
  simp at this
theorem noEnd_len (l : List Ck) : (noEnd l).length ≤ l.length := List.length_filter_le _ _
theorem ends_in (l : List Ck) : Ends (inL l) := by
  unfold inL
  refine ⟨by simp, fun i hi => ?_, ?_⟩
  · rw [List.length_append] at hi
    simp only [List.length_cons, List.length_nil] at hi
    rw [getD_snoc_lt (by omega)]
    have hil : i < (noEnd l).length := by omega
    rw [List.getD_eq_getElem?_getD, List.getElem?_eq_getElem hil]
    exact (noEnd_mem (List.getElem_mem hil)).2
  · rw [List.length_append]
    simp only [List.length_cons, List.length_nil, Nat.zero_add, Nat.add_sub_cancel]
    rw [getD_snoc_eq]

theorem size_in (l : List Ck) (h1 : l.length ≤ 100) (h2 : fewN l ≤ 9000) : sizeL (inL l) ≤ 20000 := by
  unfold sizeL inL
  rw [List.map_append, List.sum_append]
  have e : ∀ m : List Ck, ((noEnd m).map fun c => 12 + c.2.length).sum ≤ 12 * m.length + fewN m := by
    intro m
    induction m with
    | nil => simp [noEnd, fewN]
    | cons c m ih =>
      have hc : fewN (c :: m) = (c.2.length + c.1.size) + fewN m := by simp [fewN]
      have hn : noEnd (c :: m) = (if c.1 = sIend then noEnd m else c :: noEnd m) := by
        unfold noEnd
        by_cases e : c.1 = sIend
        · rw [if_pos e]; simp [e]
        · rw [if_neg e]; simp [e]
      rw [hn, hc, List.length_cons]
      split
      · omega
      · rw [List.map_cons, List.sum_cons]; omega
  have := e l
  simp
  omega

theorem mem_getD {l : List Ck} {c : Ck} (h : c ∈ l) : ∃ i, i < l.length ∧ l.getD i default = c := by
  obtain ⟨i, hi, rfl⟩ := List.mem_iff_getElem.1 h
  exact ⟨i, hi, by rw [List.getD_eq_getElem?_getD, List.getElem?_eq_getElem hi]; rfl⟩

theorem good_in {l : List Ck} (hk : kindsB (inL l) = true) (hs : ∀ i, i < l.length → (∀ b ∈ (l.getD i default).2, b < 256) ∧ (l.getD i default).2.length ≤ 9000) : ∀ c ∈ inL l, GoodC c := by
  intro c hc
  have hkc : kindB c.1 = true := by
    unfold kindsB at hk
    exact List.all_eq_true.1 hk c hc
  unfold inL at hc
  rcases List.mem_append.1 hc with h | h
  · obtain ⟨i, hi, rfl⟩ := mem_getD (noEnd_mem h).1
    have := hs i hi
    exact ⟨hkc, by omega, this.1⟩
  · rw [List.mem_singleton] at h
    subst h
    exact ⟨hkc, Nat.zero_le _, by intro b hb; cases hb⟩

theorem pl_in (l : List Ck) : pl (inL l) (inL l).length = sigL ++ (((noEnd l).map encL).flatten ++ (wd4 0 ++ strBytes sIend ++ [] ++ wd4 (sumOf sIend []))) := by
  rw [pl_all]
  unfold inL
  rw [List.map_append, List.flatten_append]
  simp [encL]

theorem w32_of4 (a b c d : Nat) : w32 [a, b, c, d] = a * 16777216 + b * 65536 + c * 256 + d := rfl
theorem wd4_set {z i v : Nat} (hi : i < 4) (hv : v < 256) (hne : v ≠ (wd4 z).getD i 0) : ((wd4 z).set i v).length = 4 ∧ w32 ((wd4 z).set i v) ≠ w32 (wd4 z) := by
  refine ⟨by simp [wd4], ?_⟩
  have h0 : z / 16777216 % 256 < 256 := Nat.mod_lt _ (by decide)
  have h1 : z / 65536 % 256 < 256 := Nat.mod_lt _ (by decide)
  have h2 : z / 256 % 256 < 256 := Nat.mod_lt _ (by decide)
  have h3 : z % 256 < 256 := Nat.mod_lt _ (by decide)
  unfold wd4 at hne ⊢
  generalize z / 16777216 % 256 = a at *
  generalize z / 65536 % 256 = b at *
  generalize z / 256 % 256 = c at *
  generalize z % 256 = d at *
  match i, hi with
  | 0, _ => simp only [List.set_cons_zero, w32_of4]; simp at hne; omega
  | 1, _ => simp only [List.set_cons_zero, List.set_cons_succ, w32_of4]; simp at hne; omega
  | 2, _ => simp only [List.set_cons_zero, List.set_cons_succ, w32_of4]; simp at hne; omega
  | 3, _ => simp only [List.set_cons_zero, List.set_cons_succ, w32_of4]; simp at hne; omega

/-- A bit of the last sum turned: another sum. -/
theorem cut_turned {l : List Ck} (hg : ∀ c ∈ inL l, GoodC c) (hn : (pl (inL l) (inL l).length).length ≤ 262144) {j v : Nat} (hj : j < 4) (hv : v < 256) (hne : v ≠ (pl (inL l) (inL l).length).getD ((pl (inL l) (inL l).length).length - 1 - j) 0) :
    cutV ((pl (inL l) (inL l).length).set ((pl (inL l) (inL l).length).length - 1 - j) v) = .error 5 := by
  rw [pl_in] at hn hne ⊢
  obtain ⟨A, hA⟩ : ∃ A, A = sigL ++ (((noEnd l).map encL).flatten ++ (wd4 0 ++ strBytes sIend ++ [])) := ⟨_, rfl⟩
  have e : sigL ++ (((noEnd l).map encL).flatten ++ (wd4 0 ++ strBytes sIend ++ [] ++ wd4 (sumOf sIend []))) = A ++ wd4 (sumOf sIend []) := by rw [hA]; simp only [List.append_assoc]
  rw [e] at hn hne ⊢
  have hl : (A ++ wd4 (sumOf sIend [])).length = A.length + 4 := by rw [List.length_append]; rfl
  have hi : (A ++ wd4 (sumOf sIend [])).length - 1 - j = A.length + (3 - j) := by omega
  rw [hi] at hne ⊢
  have hget : (A ++ wd4 (sumOf sIend [])).getD (A.length + (3 - j)) 0 = (wd4 (sumOf sIend [])).getD (3 - j) 0 := by
    rw [List.getD_eq_getElem?_getD, List.getElem?_append_right (by omega), ← List.getD_eq_getElem?_getD, show A.length + (3 - j) - A.length = 3 - j by omega]
  rw [hget] at hne
  have hset : (A ++ wd4 (sumOf sIend [])).set (A.length + (3 - j)) v = A ++ (wd4 (sumOf sIend [])).set (3 - j) v := by
    rw [List.set_append_right _ _ (by omega), show A.length + (3 - j) - A.length = 3 - j by omega]
  obtain ⟨h4, hw⟩ := wd4_set (z := sumOf sIend []) (i := 3 - j) (by omega) hv hne
  rw [wd4_sum] at hw
  have hlast : GoodC (sIend, []) := hg _ (by unfold inL; simp)
  have := cut_bad (l := noEnd l) (c := (sIend, [])) hlast ((wd4 (sumOf sIend [])).set (3 - j) v) h4 hw (fun x hx => hg x (by unfold inL; exact List.mem_append_left _ hx)) (fun x hx => (noEnd_mem hx).2) (by
    have hl2 : (sigL ++ (((noEnd l).map encL).flatten ++ (wd4 ((sIend, []) : Ck).2.length ++ strBytes ((sIend, []) : Ck).1 ++ ((sIend, []) : Ck).2 ++ (wd4 (sumOf sIend [])).set (3 - j) v))).length = (A ++ wd4 (sumOf sIend [])).length := by
      rw [hA]
      simp only [List.length_append, List.length_set, List.length_nil]
      omega
    rw [hl2]; exact hn)
  rw [hset, hA]
  refine Eq.trans ?_ this
  congr 1
  simp only [List.append_assoc]
  rfl
end Go.Proofs.Ytflapcaaaipoeaa
