/-
  A machine as an object; a byte that is put out.
-/
import Derived.Test.YtleeaofofofgmaaDoorMb
namespace Go.Proofs.YtleeaofofofgmaaDoor
open Go.RowKit

/-- The cells of a machine that is not done. -/
abbrev mcells (B : Nat) (n : Nat) (mst plc : Int) (lst : Bool) (lf bk : Int) (b1 b2 f1 f2 ov : Value) : Array Value :=
  #[.pointer (some ⟨B, 0, none⟩), .int .i64 (n : Int), .int .i64 mst, .int .i64 plc, .bool lst, .int .i64 lf, .int .i64 bk, b1, b2, f1, f2, ov, .int .i64 0, .int .i64 0, .bool false]

/-- A machine at block M: its reader at B, where it stands, what it has put out. -/
structure Mo (w : World) (lo R M B : Nat) (bs : List Nat) (p : Nat) (mst plc : Int) (lst : Bool) (lf bk : Int) (b1 b2 f1 f2 ov : Value) (out : List Nat) : Prop where
  rd : Rm w lo R B bs p
  hM : R ≤ M
  obj : w.heap[M]? = some (.cells (mcells B bs.length mst plc lst lf bk b1 b2 f1 f2 ov) 68 (0, 0))
  own : w.ownsRow R 5 1 ov out.length (cellsOf out)
  oM : ∀ g, ov.ownBlock = some g → g ≠ M

section
variable {w w' : World} {lo R M B : Nat} {bs : List Nat} {p : Nat} {mst plc : Int} {lst : Bool} {lf bk : Int} {b1 b2 f1 f2 ov : Value} {out : List Nat}

theorem Mo.mi (h : Mo w lo R M B bs p mst plc lst lf bk b1 b2 f1 f2 ov out) : Mi w lo R M B bs p := ⟨h.rd, h.hM, cell_of h.obj rfl⟩

theorem Mo.ltM (h : Mo w lo R M B bs p mst plc lst lf bk b1 b2 f1 f2 ov out) : M < w.heap.size := lt_of h.obj

/-- A reading moves the reader alone. -/
theorem Mo.next (h : Mo w lo R M B bs p mst plc lst lf bk b1 b2 f1 f2 ov out) {q : Nat} (hr : Rm w' lo R B bs q) (hF : Fr (fun k => k = B) w w') : Mo w' lo R M B bs q mst plc lst lf bk b1 b2 f1 f2 ov out := by
  have hne := h.mi.ne
  have hB := h.rd.ehi
  refine ⟨hr, h.hM, by rw [hF.block M h.ltM hne]; exact h.obj, ownsRow_fr h.own fun k hk => hF.block k (h.own.lt k hk).2 (fun e => ?_), h.oM⟩
  have := (h.own.lt k hk).1
  omega

/-- What turns other blocks leaves it. -/
theorem Mo.keep (h : Mo w lo R M B bs p mst plc lst lf bk b1 b2 f1 f2 ov out) {S : Nat → Prop} (hF : Fr S w w') (hS : ∀ k, k < R ∨ k = M ∨ ov.ownBlock = some k → ¬ S k) : Mo w' lo R M B bs p mst plc lst lf bk b1 b2 f1 f2 ov out :=
  ⟨h.rd.keep hF (fun k _ h2 => hS k (Or.inl h2)), h.hM, by rw [hF.block M h.ltM (hS M (Or.inr (Or.inl rfl)))]; exact h.obj,
    ownsRow_fr h.own fun k hk => hF.block k (h.own.lt k hk).2 (hS k (Or.inr (Or.inr hk))), h.oM⟩

theorem Mo.drewN (h : Mo w lo R M B bs p mst plc lst lf bk b1 b2 f1 f2 ov out) (k : Nat) : Mo (w.drewN k) lo R M B bs p mst plc lst lf bk b1 b2 f1 f2 ov out :=
  h.keep (Fr.of_drewN w k) (fun _ _ h => h)

/-- A machine whose own cells are turned. -/
theorem Mo.turn (h : Mo w lo R M B bs p mst plc lst lf bk b1 b2 f1 f2 ov out) {plc' : Int} {lst' : Bool} {lf' bk' : Int} {b1' b2' f1' f2' : Value} (hF : Fr (fun k => k = M) w w')
    (ho : w'.heap[M]? = some (.cells (mcells B bs.length mst plc' lst' lf' bk' b1' b2' f1' f2' ov) 68 (0, 0))) : Mo w' lo R M B bs p mst plc' lst' lf' bk' b1' b2' f1' f2' ov out := by
  have hM := h.hM
  refine ⟨h.rd.keep hF (fun k _ h2 e => by omega), h.hM, ho, ownsRow_fr h.own fun k hk => hF.block k (h.own.lt k hk).2 (h.oM k hk), h.oM⟩
end

theorem heap_set {w : World} {b o : Nat} {cs : Array Value} {T : TypeId} {fz : Nat × Nat} (v : Value) (h : w.heap[b]? = some (.cells cs T fz)) : (w.setCell ⟨b, o, none⟩ v).heap[b]? = some (.cells (cs.setIfInBounds o v) T fz) :=
  heap_setCell_own v h

theorem cell_one_new (w : World) (v : Value) (t : TypeId) : ∀ (j : Nat) (u : Value), [v][j]? = some u → (w.alloc (.cells #[v] t)).cell? ((⟨w.heap.size, 0, none⟩ : Addr).add j) = some u := by
  intro j u hu
  rcases j with _ | j
  · rw [add_none]
    simpa using hu
  · simp at hu

set_option maxHeartbeats 1000000 in
set_option maxRecDepth 100000 in
theorem put_c (w : World) (lo R M B : Nat) (bs : List Nat) (p : Nat) (mst plc : Int) (lst : Bool) (lf bk : Int) (b1 b2 f1 f2 ov : Value) (out : List Nat) (h : Mo w lo R M B bs p mst plc lst lf bk b1 b2 f1 f2 ov out) (b : Nat) (hol : out.length ≤ 2147483648)
    (Q : Ending → World → Prop) (hfull : mst ≤ out.length → ∀ w', Fr (fun _ => False) w w' → Q (errPanic 6) w')
    (hput : (out.length : Int) < mst → ∀ ov' w', Mo w' lo R M B bs p mst plc lst lf bk b1 b2 f1 f2 ov' (out ++ [b]) → Fr (fun k => k = M ∨ ov.ownBlock = some k) w w' → (∀ g, ov'.ownBlock = some g → ov.ownBlock = some g ∨ w.heap.size ≤ g) → Q (.returned (.tuple #[])) w') :
    Calls Tryd.prog 45 #[.pointer (some ⟨M, 0, none⟩), .int .u8 b] w Q := by
  obtain ⟨i0, hi, hz0, hz1, hz2⟩ := info_parts Tryd.info5
  obtain ⟨oa, oc, rfl⟩ := ownsRow_shape h.own
  obtain ⟨o, ho⟩ : ∃ o, o = out.length := ⟨_, rfl⟩
  have H := hide h
  have Hfull := hide hfull
  have Hput := hide hput
  have q11 : w.cell? ⟨M, 11, none⟩ = some (.slice oa out.length oc) := cell_of h.obj rfl
  have q2 : w.cell? ⟨M, 2, none⟩ = some (.int .i64 mst) := cell_of h.obj rfl
  rw [← ho] at q11
  have hol' : o ≤ 2147483648 := by omega
  have Ho : Hid (o = out.length) := ho
  clear h hfull hput hol ho
  go_enter Tryd.func45, Tryd.ntmps45
  go_wp2_with fail
  by_cases hm : mst ≤ o
  · have hmd : decide (mst ≤ (o : Int)) = true := by simpa using hm
    go_quiet (fail)
    go_wp2
    exact ⟨rfl, Hfull.out (by rw [← Ho.out]; exact hm) _ (Fr.of_drewN _ _)⟩
  · have hmd : decide (mst ≤ (o : Int)) = false := by simpa using hm
    go_quiet (fail)
    have H0 := hide (H.out.drewN nq)
    have HF0 : Hid (Fr (fun _ => False) w (w.drewN nq)) := Fr.of_drewN w nq
    have hsz0 : Hid ((w.drewN nq).heap.size = w.heap.size) := rfl
    have q11' : (w.drewN nq).cell? ⟨M, 11, none⟩ = some (.slice oa o oc) := q11
    clear q11 q2
    generalize w.drewN nq = w0 at *
    have hown := H0.out.own
    rw [← Ho.out] at hown
    have hR0 : R ≤ w0.heap.size := by have := H0.out.ltM; have := H0.out.hM; omega
    have Hown := hide hown
    clear hown
    go_wp2_with (at_builtin; go_must (refine wpList_append_lies _ rfl _ _ 22 rfl R 5 i0 (.int .u8 0) 1 1 Tryd.underlying22 hi hz0 hz1 hz2 rfl (by decide) (.slice oa o oc) o (cellsOf out) rfl (Hown.out.alloc _) ⟨w0.heap.size, 0, none⟩ 1 1 [.int .u8 (b : Int)] rfl rfl (cell_one_new _ _ _) (fun x hx => by simp at hx; subst hx; rfl) (by decide) (by unfold maxLen; omega) (by omega) (by simp; omega) (w0.heap.size + 1) (by simp) ?_); intro g cap w1 hown1 hgrow hat hlt
                 have hb1 := (hgrow.block M (by have := H0.out.ltM; simp; omega) (fun e => H0.out.oM M (by rw [← Ho.out]; exact e.symm) rfl)).trans ((Below.heap_alloc _ _ _ H0.out.ltM).trans H0.out.obj)
                 have z11 := frozen_of (o := 11) hb1
                 have c11 := cell_of (o := 11) hb1 rfl
                 have Hb1 := hide hb1
                 have Hown1 := hide hown1
                 have Hgrow := hide hgrow
                 have Hat := hide hat
                 have Hlt := hide hlt
                 clear hown1 hgrow hat hlt hb1)
    go_end0
    have f1' : Fr (fun k => (Value.slice oa o oc).ownBlock = some k) (w0.alloc (.cells #[.int .u8 (b : Int)] 5)) w1 := ⟨Hgrow.out.os, Hgrow.out.tape, Hgrow.out.output, Hgrow.out.size, fun k hk hn => Hgrow.out.block k hk (fun e => hn e.symm)⟩
    have f2' : Fr (fun k => (Value.slice oa o oc).ownBlock = some k) w0 w1 := ((Fr.of_alloc w0 _).trans f1').mono fun k _ h => h.elim (fun x => x.elim) id
    have hgM : g ≠ M := by
      rcases Hat.out with h | h
      · exact H0.out.oM g (by rw [← Ho.out]; exact h)
      · have := H0.out.ltM; omega
    have hB := H0.out.rd.ehi
    have hMR := H0.out.hM
    have fall := f2'.trans (Fr.of_setCell w1 ⟨M, 11, none⟩ (.slice (some ⟨g, 0, none⟩) (o + 1) cap))
    refine Hput.out (by rw [← Ho.out]; omega) _ _ ⟨H0.out.rd.keep fall (fun k _ h2 e => ?_), hMR, heap_set _ Hb1.out, ?_, ?_⟩ (HF0.out.trans fall |>.mono fun k _ h => ?_) ?_
    · rcases e with e | e
      · have := (H0.out.own.lt k (by rw [← Ho.out]; exact e)).1; omega
      · simp at e; omega
    · have e : (out ++ [b]).length = o + 1 := by simp [Ho.out]
      rw [e]
      refine ownsRow_fr (by simpa [cellsOf] using Hown1.out) fun k hk => Below.heap_setCell _ _ _ _ ?_
      simp [Value.ownBlock] at hk
      show k ≠ M
      omega
    · intro g' hg'
      simp [Value.ownBlock] at hg'
      omega
    · rcases h with h | h | h
      · exact h.elim
      · exact Or.inr (by rw [← Ho.out]; exact h)
      · exact Or.inl h
    · intro g' hg'
      simp [Value.ownBlock] at hg'
      subst hg'
      rcases Hat.out with h | h
      · exact Or.inl (by rw [← Ho.out]; exact h)
      · have := hsz0.out; exact Or.inr (by omega)
end Go.Proofs.YtleeaofofofgmaaDoor
