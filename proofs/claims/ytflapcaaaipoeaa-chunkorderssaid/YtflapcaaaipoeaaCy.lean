/-
  chunk: chunks that came in.
-/
import Derived.Test.YtflapcaaaipoeaaCw
import Derived.ChangeSame
import Derived.Lib.SmallJoins
import Derived.HandedShaped
namespace Go.Proofs.Ytflapcaaaipoeaa
open Go.ChangeShapes Go.WideShapes Go.ChangeAt Go.RowKit
set_option linter.unusedVariables false

theorem wall_mem {H : Type} {P : Program} {e : TypeId} {d : DataW H} : ∀ {l : List (DataW H)}, d ∈ l → ∀ x ∈ DataW.weights P e d, x ∈ DataW.weightsAll P e l := by
  intro l
  induction l with
  | nil => intro h; cases h
  | cons y l ih =>
    intro h x hx
    simp only [DataW.weightsAll]
    rcases List.mem_cons.1 h with rfl | h
    · exact List.mem_append_left _ hx
    · exact List.mem_append_right _ (ih h x hx)

theorem open_ck {H : Type} {enc : TypeId × Value → H} {W : World} {held : Bool} {n : Nat} {cs : List Value} {x : DataW H × List MemPlace}
    (h : DataW.trod enc Try.prog W 0 (fun _ => true) held n 44 cs = some x) (hw : ∀ y ∈ DataW.weights Try.prog 44 x.1, y ≤ reachBytes) :
    ∃ (q : Ck) (d : Option Addr) (cap : Nat), cs = [.string q.1, .slice d q.2.length cap] ∧ Lies W d q.2 ∧ (d = none → cap = 0 ∧ q.2 = []) ∧ q.1.size ≤ 140737488355328 ∧ q.2.length ≤ 140737488355328 ∧ q.2.length ≤ cap := by
  obtain ⟨y0, y1, m, rfl, hl, h0, h1⟩ := trod_struct2 Try.underlying44 h
  have hl2 : cs.length = 2 := hl.trans (by kernel_rfl)
  match cs, hl2 with
  | [v0, v1], _ =>
    have c9 : Try.prog.cellsOf 9 = 1 := by kernel_rfl
    have c22 : Try.prog.cellsOf 22 = 1 := by kernel_rfl
    simp only [c9, c22, List.drop_zero, List.drop_succ_cons, List.take_succ_cons, List.take_zero] at h0 h1
    obtain ⟨s, e0, rfl, _⟩ := DataW.trod_string Try.underlying9 h0
    have hreach : reachBytes ≤ 140737488355328 := by decide
    have hw2 : ∀ y ∈ DataW.weightsEach Try.prog [9, 22] [(.lit (.string s.data.toList) : DataW H), y1.1], y ≤ reachBytes := by
      intro y hy
      refine hw y ?_
      simp only [DataW.weights, Try.underlying44]
      exact hy
    simp only [DataW.weightsEach, DataW.weights, List.append_nil] at hw2
    have hs : s.size ≤ reachBytes := by
      have := hw2 s.data.toList.length (List.mem_append_left _ (by simp))
      simpa using this
    have ev0 : v0 = .string s := by simpa using e0
    subst ev0
    rcases open_ints Try.underlying22 Try.underlying5 (by kernel_rfl) h1 with ⟨hcs, rfl⟩ | ⟨a, len, cap, zs, hcs, _, hle, hm, hz, rfl, hcell, hwz⟩
    · have := List.cons.inj hcs
      exact ⟨(s, []), none, 0, by rw [this.1]; rfl, Lies.nil _ _, fun _ => ⟨rfl, rfl⟩, by show s.size ≤ _; omega, Nat.zero_le _, Nat.le_refl _⟩
    · have hv := (List.cons.inj hcs).1
      have hz' : zs.length = cap := by simpa using hz
      have hrow : IsRow .u8 W (some a) len cap zs := .inr ⟨a, rfl, hle, hm, hz', hcell, hwz⟩
      obtain ⟨b1, b2⟩ := hrow.bytes
      have hcap : cap ≤ reachBytes := by
        have hin : ((lits (H := H) .u8 (zs.take len)).length + (lits (H := H) .u8 (zs.drop len)).length) * Try.prog.bytesOf 5 ≤ reachBytes := by
          refine hw2 _ (List.mem_append_right _ ?_)
          simp only []
          exact List.mem_cons_self
        have e1 : Try.prog.bytesOf 5 = 1 := by kernel_rfl
        rw [e1] at hin
        simp [lits] at hin
        omega
      exact ⟨(s, bytesOf len zs), some a, cap, by rw [hv]; show [Value.string s, Value.slice (some a) len cap] = [Value.string s, Value.slice (some a) (bytesOf len zs).length cap]; rw [b1], b2, fun h => (by cases h), by show s.size ≤ _; omega, by show (bytesOf len zs).length ≤ _; rw [b1]; omega, by show (bytesOf len zs).length ≤ _; rw [b1]; exact hle⟩

/-- One for each place makes a list. -/
theorem cks_of {n : Nat} {P : Nat → Ck → Prop} (h : ∀ i, i < n → ∃ q, P i q) : ∃ u : List Ck, u.length = n ∧ ∀ i, i < n → P i (u.getD i default) := by
  induction n with
  | zero => exact ⟨[], rfl, fun i hi => absurd hi (Nat.not_lt_zero i)⟩
  | succ n ih =>
    obtain ⟨u, hu, hp⟩ := ih fun i hi => h i (by omega)
    obtain ⟨q, hq⟩ := h n (by omega)
    refine ⟨u ++ [q], by simp [hu], fun i hi => ?_⟩
    by_cases hin : i < n
    · rw [getD_snoc_lt (by omega)]; exact hp i hin
    · obtain rfl : i = u.length := by omega
      rw [getD_snoc_eq, hu]; exact hq

theorem open_chunks {H : Type} {enc : TypeId × Value → H} {W : World} {held : Bool} {a : Option Addr} {len cap : Nat} {d : DataW H} {ps : List MemPlace}
    (h : DataW.Trod enc Try.prog W 0 (fun _ => true) held 28 (.slice a len cap) d ps) (hw : (DataW.weights Try.prog 28 d).all (· ≤ reachBytes) = true) : ∃ l : List Ck, l.length = len ∧ LiesC W a l ∧ len ≤ cap ∧ len ≤ 281474976710656 := by
  have hw' : ∀ y ∈ DataW.weights Try.prog 28 d, y ≤ reachBytes := fun y hy => by simpa using List.all_eq_true.1 hw y hy
  have hreach : reachBytes ≤ 140737488355328 := by decide
  obtain ⟨fuel, hf⟩ := h
  rcases DataW.trod_slice Try.underlying28 hf with ⟨hcs, _⟩ | ⟨ad, l, c, elems, rest, n, _, hcs, hd, hb, hl, hm, hlen, hel, _, _⟩
  · simp [Value.cells] at hcs
    obtain ⟨rfl, rfl, rfl⟩ := hcs
    exact ⟨[], rfl, fun i hi => absurd hi (Nat.not_lt_zero i), Nat.le_refl _, by decide⟩
  · simp [Value.cells] at hcs
    obtain ⟨rfl, rfl, rfl⟩ := hcs
    have hdv : d = .slice (elems.map (·.1)) (rest.map (·.1)) := congrArg Prod.fst hd
    subst hdv
    have c44 : Try.prog.cellsOf 44 = 2 := by kernel_rfl
    have b44 : Try.prog.bytesOf 44 = 40 := by kernel_rfl
    rw [c44] at hel
    simp only [DataW.weights, Try.underlying28] at hw'
    have hsz : len ≤ 281474976710656 := by
      have := hw' _ List.mem_cons_self
      rw [b44] at this
      simp only [List.length_map] at this
      omega
    have each : ∀ i, i < len → ∃ q : Ck, ∃ d cap', W.cell? (ad.add (i * 2)) = some (.string q.1) ∧ W.cell? (ad.add (i * 2 + 1)) = some (.slice d q.2.length cap') ∧ Lies W d q.2 ∧ (d = none → cap' = 0 ∧ q.2 = []) ∧ q.1.size ≤ 140737488355328 ∧ q.2.length ≤ 140737488355328 ∧ q.2.length ≤ cap' := fun i hi => by
      have h1 := hel i hi
      rw [List.getElem?_eq_getElem (by omega)] at h1
      obtain ⟨cs, hc1, hc2⟩ := Option.bind_eq_some_iff.1 h1
      obtain ⟨hb2, hn2, hcell⟩ := World.cells?_some hc1
      have hwi : ∀ y ∈ DataW.weights Try.prog 44 (elems[i]'(by omega)).1, y ≤ reachBytes := fun y hy => by
        refine hw' y (List.mem_cons_of_mem _ (List.mem_append_left _ (wall_mem (List.mem_map.2 ⟨elems[i]'(by omega), List.getElem_mem _, rfl⟩) y hy)))
      obtain ⟨q, d, cap', rfl, hli, hnil, s1, s2, s3⟩ := open_ck hc2 hwi
      have h0 := hcell 0 (by decide)
      have h1 := hcell 1 (by decide)
      rw [Addr.add_add] at h0 h1
      exact ⟨q, d, cap', by rw [Nat.add_zero] at h0; exact h0, h1, hli, hnil, s1, s2, s3⟩
    obtain ⟨u, hul, hug⟩ := cks_of each
    refine ⟨u, hul, fun i hi => ?_, hl, hsz⟩
    obtain ⟨d, cap', h0, h1, hli, hnil, s1, s2, s3⟩ := hug i (by omega)
    obtain ⟨b, o, s⟩ := ad
    cases s with
    | some s =>
      exfalso
      obtain ⟨d', cap'', h0', _⟩ := hug 0 (by omega)
      rw [Nat.zero_mul, show (⟨b, o, some s⟩ : Addr).add 0 = ⟨b, o, some s⟩ by unfold Addr.add; rw [if_pos rfl]] at h0'
      simp only [World.cell?] at h0'
      split at h0' <;> simp at h0'
    | none =>
      rw [add_none] at h0 h1
      exact ⟨b, o, d, cap', rfl, ⟨h0, by rw [Nat.add_assoc]; exact h1, hli, hnil, by omega, by omega, s3⟩⟩
end Go.Proofs.Ytflapcaaaipoeaa
