import Derived.Test.YtkmgpapopgeldaaS
namespace Go.Proofs.Ytkmgpapopgeldaa
open Go.RowKit

/-- A guarded call that panics: false, and nothing old has turned. -/
theorem guard_no (f : FuncId) (cap : Array Value) (w : World) (hcf : ∀ W, (callFunc f cap).run Try.prog W = .ok (.enter f cap) W)
    (h : Calls Try.prog f cap (w.alloc (.cells #[.bool false] 4)) fun e w' => (∃ u pv, e = .panicked [{ v := .iface u pv, recovered := false }]) ∧ ∃ k, (w.alloc (.cells #[.bool false] 4)).drewN k = w') :
    Calls Try.prog 11 #[.func (.func f) #[] cap] w fun e w' => e = .returned (.bool false) ∧ Fr (fun _ => False) w w' := by
  refine (guard_c f cap w (fun b w' => b = false ∧ ∃ k, (w.alloc (.cells #[.bool false] 4)).drewN k = w') hcf ?_ ?_).mono ?_
  · exact h.mono fun e w' ⟨he, hk⟩ => Or.inr ⟨he, rfl, hk⟩
  · rintro b w' ⟨_, k, rfl⟩
    exact heap_alloc_new _ _
  · rintro e w' ⟨b, w1, rfl, ⟨rfl, k, rfl⟩, rfl⟩
    exact ⟨rfl, guard_set (Fr.of_drewN _ k)⟩

theorem cf33 (W : World) (a : Value) : (callFunc 33 #[a]).run Try.prog W = .ok (.enter 33 #[a]) W := by kernel_rfl
theorem cf34 (W : World) (a : Value) : (callFunc 34 #[a]).run Try.prog W = .ok (.enter 34 #[a]) W := by kernel_rfl
theorem cf35 (W : World) (a b : Value) : (callFunc 35 #[a, b]).run Try.prog W = .ok (.enter 35 #[a, b]) W := by kernel_rfl
theorem cf36 (W : World) (a b : Value) : (callFunc 36 #[a, b]).run Try.prog W = .ok (.enter 36 #[a, b]) W := by kernel_rfl
theorem cf37 (W : World) (a : Value) : (callFunc 37 #[a]).run Try.prog W = .ok (.enter 37 #[a]) W := by kernel_rfl
theorem cf38 (W : World) : (callFunc 38 #[]).run Try.prog W = .ok (.enter 38 #[]) W := by kernel_rfl

section
variable (L p lo hi : Nat) (bs : List Nat) (pos : Nat) (ov : Value) (wn : Int) (w : World)
set_option maxHeartbeats 400000 in
theorem known1 (h : Rd 56 w lo hi L bs pos ov wn) (hc : w.cell? ⟨p, 0, none⟩ = some (.pointer (some ⟨L, 0, none⟩))) :
    Calls Try.prog 33 #[.pointer (some ⟨p, 0, none⟩)] w fun e w' => (∃ u pv, e = .panicked [{ v := .iface u pv, recovered := false }]) ∧ ∃ k, w.drewN k = w' := by
  go_enter Try.func33, Try.ntmps33
  go_wp2_with (go_at_call 13; refine (low_take_no w lo hi L bs pos 25 ov wn h (Or.inl (by decide))).mono ?_; rintro e w' ⟨⟨er, rfl⟩, k, rfl⟩)
  exact ⟨rfl, ⟨_, _, rfl⟩, k, rfl⟩
set_option maxHeartbeats 400000 in
theorem known2 (h : Rd 56 w lo hi L bs pos ov wn) (hc : w.cell? ⟨p, 0, none⟩ = some (.pointer (some ⟨L, 0, none⟩))) :
    Calls Try.prog 34 #[.pointer (some ⟨p, 0, none⟩)] w fun e w' => (∃ u pv, e = .panicked [{ v := .iface u pv, recovered := false }]) ∧ ∃ k, w.drewN k = w' := by
  go_enter Try.func34, Try.ntmps34
  go_wp2_with (go_at_call 13; refine (low_take_no w lo hi L bs pos (-1) ov wn h (Or.inl (by decide))).mono ?_; rintro e w' ⟨⟨er, rfl⟩, k, rfl⟩)
  exact ⟨rfl, ⟨_, _, rfl⟩, k, rfl⟩
set_option maxHeartbeats 400000 in
theorem known5 (h : Rd 56 w lo hi L [] 0 ov wn) :
    Calls Try.prog 37 #[.pointer (some ⟨L, 0, none⟩)] w fun e w' => (∃ u pv, e = .panicked [{ v := .iface u pv, recovered := false }]) ∧ ∃ k, w.drewN k = w' := by
  go_enter Try.func37, Try.ntmps37
  go_wp2_with (go_at_call 13; refine (low_take_no w lo hi L [] 0 1 ov wn h (Or.inr (by decide))).mono ?_; rintro e w' ⟨⟨er, rfl⟩, k, rfl⟩)
  exact ⟨rfl, ⟨_, _, rfl⟩, k, rfl⟩
set_option maxHeartbeats 400000 in
theorem known6 :
    Calls Try.prog 38 #[] w fun e w' => (∃ u pv, e = .panicked [{ v := .iface u pv, recovered := false }]) ∧ ∃ k, w.drewN k = w' := by
  go_enter Try.func38, Try.ntmps38
  go_wp2
  exact ⟨rfl, ⟨_, _, rfl⟩, 0, rfl⟩
end

section
variable (L p q lo hi : Nat) (bs : List Nat) (pos : Nat) (ov : Value) (wn : Int) (z : Int) (w : World)
set_option maxHeartbeats 400000 in
theorem known3 (h : Rd 56 w lo hi L bs pos ov wn) (hc : w.cell? ⟨p, 0, none⟩ = some (.pointer (some ⟨L, 0, none⟩))) (hq : w.heap[q]? = some (.cells #[.int .i64 z] 3)) (hqL : q ≠ L) (hle : pos + 24 ≤ 8 * bs.length) :
    Calls Try.prog 35 #[.pointer (some ⟨p, 0, none⟩), .pointer (some ⟨q, 0, none⟩)] w fun e w' => e = .returned (.tuple #[]) ∧ ∃ w1, Rd 56 w1 lo hi L bs (pos + 24) ov wn ∧ Fr (fun k => k = L) w w1 ∧ w' = w1.setCell ⟨q, 0, none⟩ (.int .i64 (lowBits (leNum bs) pos 24 : Nat)) := by
  have Hq := hide hq
  clear hq
  go_enter Try.func35, Try.ntmps35
  go_wp2_with (go_at_call 13; refine (low_take w lo hi L bs pos 24 ov wn h (by decide) hle).mono ?_; rintro e w1 ⟨rfl, hr, hf⟩
               have hq1 := (hf.block q (lt_of Hq.out) hqL).trans Hq.out
               have c1 := cell_of (o := 0) hq1 rfl
               have c2 := frozen_of (o := 0) hq1
               have Hr := hide hr
               have Hf := hide hf
               clear hr hf hq1)
  go_end0
  exact ⟨rfl, w1, Hr.out, Hf.out, rfl⟩
set_option maxHeartbeats 400000 in
theorem known4 (h : Rd 56 w lo hi L bs pos ov wn) (hc : w.cell? ⟨p, 0, none⟩ = some (.pointer (some ⟨L, 0, none⟩))) (hq : w.heap[q]? = some (.cells #[.int .i64 z] 3)) (hqL : q ≠ L) :
    Calls Try.prog 36 #[.pointer (some ⟨p, 0, none⟩), .pointer (some ⟨q, 0, none⟩)] w fun e w' => e = .returned (.tuple #[]) ∧ ∃ w1, Rd 56 w1 lo hi L bs (pos + 0) ov wn ∧ Fr (fun k => k = L) w w1 ∧ w' = w1.setCell ⟨q, 0, none⟩ (.int .i64 (lowBits (leNum bs) pos 0 : Nat)) := by
  have Hq := hide hq
  have hle := h.epos
  clear hq
  go_enter Try.func36, Try.ntmps36
  go_wp2_with (go_at_call 13; refine (low_take w lo hi L bs pos 0 ov wn h (by decide) hle).mono ?_; rintro e w1 ⟨rfl, hr, hf⟩
               have hq1 := (hf.block q (lt_of Hq.out) hqL).trans Hq.out
               have c1 := cell_of (o := 0) hq1 rfl
               have c2 := frozen_of (o := 0) hq1
               have Hr := hide hr
               have Hf := hide hf
               clear hr hf hq1)
  go_end0
  exact ⟨rfl, w1, Hr.out, Hf.out, rfl⟩
end

/-- The state of BitsKnown: l's reader, its variable, two numbers. -/
structure KSt (L p q1 q2 lo hi : Nat) (bs : List Nat) (pos : Nat) (a b : Int) (w : World) : Prop where
  rd : Rd 56 w lo hi L bs pos (.slice none 0 0) 0
  cp : w.heap[p]? = some (.cells #[.pointer (some ⟨L, 0, none⟩)] 25)
  c1 : w.heap[q1]? = some (.cells #[.int .i64 a] 3)
  c2 : w.heap[q2]? = some (.cells #[.int .i64 b] 3)
  ord : (hi ≤ p ∧ p < q1) ∧ q1 < q2

theorem KSt.far {L p q1 q2 lo hi : Nat} {bs : List Nat} {pos : Nat} {a b : Int} {w w' : World} (h : KSt L p q1 q2 lo hi bs pos a b w) {S : Nat → Prop} (f : Fr S w w') (hS : ∀ k, k ≤ q2 → ¬ S k) : KSt L p q1 q2 lo hi bs pos a b w' := by
  have a2 := h.rd.ehi
  have a3 := h.ord
  refine ⟨h.rd.keep f (fun k _ _ => hS k (by omega)), ?_, ?_, ?_, h.ord⟩
  · rw [f.block _ (lt_of h.cp) (hS _ (by omega))]; exact h.cp
  · rw [f.block _ (lt_of h.c1) (hS _ (by omega))]; exact h.c1
  · rw [f.block _ (lt_of h.c2) (hS _ (by omega))]; exact h.c2

theorem known_x (L p q1 q2 lo hi : Nat) (bs : List Nat) (pos : Nat) (a b : Int) (w : World) (h : KSt L p q1 q2 lo hi bs pos a b w) (hle : pos + 24 ≤ 8 * bs.length) :
    Calls Try.prog 11 #[.func (.func 35) #[] #[.pointer (some ⟨p, 0, none⟩), .pointer (some ⟨q1, 0, none⟩)]] w fun e w' => e = .returned (.bool true) ∧ KSt L p q1 q2 lo hi bs (pos + 24) (lowBits (leNum bs) pos 24 : Nat) b w' ∧ Fr (fun k => k = L ∨ k = q1) w w' := by
  have a2 := h.rd.ehi
  have a3 := h.ord
  have s1 := lt_of h.c2
  refine (guard_c 35 _ w (fun bb w' => bb = true ∧ KSt L p q1 q2 lo hi bs (pos + 24) (lowBits (leNum bs) pos 24 : Nat) b w' ∧ Fr (fun k => k = L ∨ k = q1) (w.alloc (.cells #[.bool false] 4)) w') (fun W => cf35 W _ _) ?_ ?_).mono ?_
  · have h' := h.far (Fr.of_alloc w (.cells #[.bool false] 4)) (fun _ _ h => h)
    refine (known3 L p q1 lo hi bs pos _ _ a _ h'.rd (cell_of (o := 0) h'.cp rfl) h'.c1 (by omega) hle).mono ?_
    rintro e w' ⟨rfl, w1, hr, hf, rfl⟩
    refine Or.inl ⟨rfl, rfl, ⟨hr.keep (Fr.of_setCell _ _ _) (fun k _ _ => by simp; omega), ?_, ?_, ?_, h.ord⟩, hf.trans (Fr.of_setCell w1 ⟨q1, 0, none⟩ _)⟩
    · rw [Below.heap_setCell _ _ _ _ (by simp; omega), hf.block _ (lt_of h'.cp) (by omega)]; exact h'.cp
    · refine heap_setCell_one (u := .int .i64 a) _ ?_
      rw [hf.block _ (lt_of h'.c1) (by omega)]; exact h'.c1
    · rw [Below.heap_setCell _ _ _ _ (by simp; omega), hf.block _ (lt_of h'.c2) (by omega)]; exact h'.c2
  · rintro bb w' ⟨_, _, f⟩
    rw [f.block _ (by simp) (by omega)]
    exact heap_alloc_new _ _
  · rintro e w' ⟨bb, w1, rfl, ⟨rfl, h1, f⟩, rfl⟩
    exact ⟨rfl, h1.far (Fr.of_setCell _ _ _) (fun k hk => by simp; omega), guard_set f⟩

theorem known_y (L p q1 q2 lo hi : Nat) (bs : List Nat) (pos : Nat) (a b : Int) (w : World) (h : KSt L p q1 q2 lo hi bs pos a b w) :
    Calls Try.prog 11 #[.func (.func 36) #[] #[.pointer (some ⟨p, 0, none⟩), .pointer (some ⟨q2, 0, none⟩)]] w fun e w' => e = .returned (.bool true) ∧ KSt L p q1 q2 lo hi bs (pos + 0) a (lowBits (leNum bs) pos 0 : Nat) w' ∧ Fr (fun k => k = L ∨ k = q2) w w' := by
  have a2 := h.rd.ehi
  have a3 := h.ord
  have s1 := lt_of h.c2
  refine (guard_c 36 _ w (fun bb w' => bb = true ∧ KSt L p q1 q2 lo hi bs (pos + 0) a (lowBits (leNum bs) pos 0 : Nat) w' ∧ Fr (fun k => k = L ∨ k = q2) (w.alloc (.cells #[.bool false] 4)) w') (fun W => cf36 W _ _) ?_ ?_).mono ?_
  · have h' := h.far (Fr.of_alloc w (.cells #[.bool false] 4)) (fun _ _ h => h)
    refine (known4 L p q2 lo hi bs pos _ _ b _ h'.rd (cell_of (o := 0) h'.cp rfl) h'.c2 (by omega)).mono ?_
    rintro e w' ⟨rfl, w1, hr, hf, rfl⟩
    refine Or.inl ⟨rfl, rfl, ⟨hr.keep (Fr.of_setCell _ _ _) (fun k _ _ => by simp; omega), ?_, ?_, ?_, h.ord⟩, hf.trans (Fr.of_setCell w1 ⟨q2, 0, none⟩ _)⟩
    · rw [Below.heap_setCell _ _ _ _ (by simp; omega), hf.block _ (lt_of h'.cp) (by omega)]; exact h'.cp
    · rw [Below.heap_setCell _ _ _ _ (by simp; omega), hf.block _ (lt_of h'.c1) (by omega)]; exact h'.c1
    · refine heap_setCell_one (u := .int .i64 b) _ ?_
      rw [hf.block _ (lt_of h'.c2) (by omega)]; exact h'.c2
  · rintro bb w' ⟨_, _, f⟩
    rw [f.block _ (by simp) (by omega)]
    exact heap_alloc_new _ _
  · rintro e w' ⟨bb, w1, rfl, ⟨rfl, h1, f⟩, rfl⟩
    exact ⟨rfl, h1.far (Fr.of_setCell _ _ _) (fun k hk => by simp; omega), guard_set f⟩

end Go.Proofs.Ytkmgpapopgeldaa
