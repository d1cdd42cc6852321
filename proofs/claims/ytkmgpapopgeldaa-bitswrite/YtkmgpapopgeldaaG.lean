import Derived.Test.YtkmgpapopgeldaaF
namespace Go.Proofs.Ytkmgpapopgeldaa
open Go.RowKit

set_option maxHeartbeats 400000 in
theorem awake2_c (L p0 lo hi : Nat) (ov : Value) (wr : Int) (w : World) (h : Rd 56 w lo hi L [53] 8 ov wr) (hc : w.cell? ⟨p0, 0, none⟩ = some (.pointer (some ⟨L, 0, none⟩))) :
    Calls Try.prog 40 #[.pointer (some ⟨p0, 0, none⟩)] w fun e w' => (∃ er, e = errPanic er) ∧ ∃ k, w.drewN k = w' := by
  go_enter Try.func40, Try.ntmps40
  go_wp2_with (go_at_call 13; refine (low_take_no w lo hi L [53] 8 1 ov wr h (Or.inr (by decide))).mono ?_; rintro e w' ⟨⟨er, rfl⟩, k, rfl⟩)
  exact ⟨rfl, ⟨er, rfl⟩, k, rfl⟩

theorem lies_lit (w : World) (bs : List Nat) (c : Nat) : Lies (w.alloc (.cells (cellsOf bs).toArray 5)) (.slice (some ⟨w.heap.size, 0, none⟩) bs.length c) bs := by
  refine Or.inr ⟨_, c, rfl, fun j u hu => ?_⟩
  rw [add_none]
  simpa using hu

theorem guard_set {w w1 : World} {S : Nat → Prop} {b : Bool} (f : Fr S (w.alloc (.cells #[.bool false] 4)) w1) : Fr S w (w1.setCell ⟨w.heap.size, 0, none⟩ (.bool b)) :=
  (((Fr.of_alloc w _).trans f).trans (Fr.of_setCell w1 ⟨w.heap.size, 0, none⟩ (.bool b))).mono fun k hk h => by
    rcases h with (h | h) | h
    · exact h.elim
    · exact h
    · simp at h; omega

theorem cf39 (W : World) (a b c d e f : Value) : (callFunc 39 #[a, b, c, d, e, f]).run Try.prog W = .ok (.enter 39 #[a, b, c, d, e, f]) W := by kernel_rfl
theorem cf40 (W : World) (a : Value) : (callFunc 40 #[a]).run Try.prog W = .ok (.enter 40 #[a]) W := by kernel_rfl

theorem guard_awake1 (L H p0 p1 p2 p3 p4 p5 lo1 hi1 lo2 hi2 : Nat) (w : World) (h : AwSt L H p0 p1 p2 p3 p4 p5 lo1 hi1 lo2 hi2 0 0 0 0 0 0 w) :
    Calls Try.prog 11 #[.func (.func 39) #[] #[.pointer (some ⟨p0, 0, none⟩), .pointer (some ⟨p1, 0, none⟩), .pointer (some ⟨p2, 0, none⟩), .pointer (some ⟨p3, 0, none⟩), .pointer (some ⟨p4, 0, none⟩), .pointer (some ⟨p5, 0, none⟩)]] w
      fun e w' => e = .returned (.bool true) ∧ AwSt L H p0 p1 p2 p3 p4 p5 lo1 hi1 lo2 hi2 8 8 5 6 1 21 w' ∧ Fr (fun k => lo1 ≤ k ∧ k ≤ p5) w w' := by
  have hp5 := lt_of h.c5
  refine (guard_c 39 _ w (fun b w' => b = true ∧ AwSt L H p0 p1 p2 p3 p4 p5 lo1 hi1 lo2 hi2 8 8 5 6 1 21 w' ∧ Fr (fun k => lo1 ≤ k ∧ k ≤ p5) (w.alloc (.cells #[.bool false] 4)) w') (fun W => cf39 W _ _ _ _ _ _) ?_ ?_).mono ?_
  · exact (awake1_c L H p0 p1 p2 p3 p4 p5 lo1 hi1 lo2 hi2 _ (h.far (Fr.of_alloc w _) (fun _ _ h => h))).mono fun e w' ⟨he, h1, h2⟩ => Or.inl ⟨he, rfl, h1, h2⟩
  · rintro b w' ⟨_, _, f⟩
    rw [f.block _ (by simp) (by omega)]
    exact heap_alloc_new _ _
  · rintro e w' ⟨b, w1, rfl, ⟨rfl, h1, f⟩, rfl⟩
    exact ⟨rfl, h1.far (Fr.of_setCell _ _ _) (fun k hk => by simp; omega), guard_set f⟩

theorem guard_awake2 (L p0 lo hi : Nat) (ov : Value) (wr : Int) (w : World) (h : Rd 56 w lo hi L [53] 8 ov wr) (hc : w.cell? ⟨p0, 0, none⟩ = some (.pointer (some ⟨L, 0, none⟩))) :
    Calls Try.prog 11 #[.func (.func 40) #[] #[.pointer (some ⟨p0, 0, none⟩)]] w fun e w' => e = .returned (.bool false) ∧ Fr (fun _ => False) w w' := by
  refine (guard_c 40 _ w (fun b w' => b = false ∧ Fr (fun _ => False) (w.alloc (.cells #[.bool false] 4)) w') (fun W => cf40 W _) ?_ ?_).mono ?_
  · refine (awake2_c L p0 lo hi ov wr _ (h.keep (Fr.of_alloc w _) (fun _ _ _ h => h)) ?_).mono ?_
    · rw [World.cell?_alloc_lt _ _ _ (World.block_lt_of_cell? _ _ hc)]; exact hc
    · rintro e w' ⟨⟨er, rfl⟩, k, rfl⟩
      exact Or.inr ⟨⟨_, _, rfl⟩, rfl, Fr.of_drewN _ _⟩
  · rintro b w' ⟨_, f⟩
    rw [f.block _ (by simp) (fun h => h)]
    exact heap_alloc_new _ _
  · rintro e w' ⟨b, w1, rfl, ⟨rfl, f⟩, rfl⟩
    exact ⟨rfl, guard_set f⟩

theorem size_alloc (w : World) (o : Obj) : (w.alloc o).heap.size = w.heap.size + 1 := by simp
theorem heap_alloc_at {w : World} {o : Obj} {n : Nat} (h : n = w.heap.size) : (w.alloc o).heap[n]? = some o := by rw [h]; exact heap_alloc_new _ _

theorem awst_make (w2 : World) (L H lo1 hi1 lo2 hi2 : Nat) (hL : Rd 56 w2 lo1 hi1 L [53] 0 (.slice none 0 0) 0) (hH : Rd 63 w2 lo2 hi2 H [53] 0 (.slice none 0 0) 0) (h12 : hi1 ≤ lo2) (N : Nat) (hN : w2.heap.size = N) :
    AwSt L H N (N + 1) (N + 1 + 1) (N + 1 + 1 + 1) (N + 1 + 1 + 1 + 1) (N + 1 + 1 + 1 + 1 + 1) lo1 hi1 lo2 hi2 0 0 0 0 0 0
      ((((((w2.alloc (.cells #[.pointer (some ⟨L, 0, none⟩)] 25)).alloc (.cells #[.pointer (some ⟨H, 0, none⟩)] 40)).alloc (.cells #[.int .i64 0] 3)).alloc (.cells #[.int .i64 0] 3)).alloc (.cells #[.int .i64 0] 3)).alloc (.cells #[.int .i64 0] 3)) := by
  subst hN
  have f := (((((Fr.of_alloc w2 (.cells #[.pointer (some ⟨L, 0, none⟩)] 25)).join (Fr.of_alloc _ (.cells #[.pointer (some ⟨H, 0, none⟩)] 40))).join (Fr.of_alloc _ (.cells #[.int .i64 0] 3))).join (Fr.of_alloc _ (.cells #[.int .i64 0] 3))).join (Fr.of_alloc _ (.cells #[.int .i64 0] 3))).join (Fr.of_alloc _ (.cells #[.int .i64 0] 3))
  have hs := hH.esz
  refine ⟨hL.keep f (fun _ _ _ h => h), hH.keep f (fun _ _ _ h => h), ?_, ?_, ?_, ?_, ?_, ?_, by omega⟩
  · rw [Below.heap_alloc _ _ _ (by simp only [size_alloc]; omega), Below.heap_alloc _ _ _ (by simp only [size_alloc]; omega), Below.heap_alloc _ _ _ (by simp only [size_alloc]; omega), Below.heap_alloc _ _ _ (by simp only [size_alloc]; omega), Below.heap_alloc _ _ _ (by simp only [size_alloc]; omega)]; exact heap_alloc_at rfl
  · rw [Below.heap_alloc _ _ _ (by simp only [size_alloc]; omega), Below.heap_alloc _ _ _ (by simp only [size_alloc]; omega), Below.heap_alloc _ _ _ (by simp only [size_alloc]; omega), Below.heap_alloc _ _ _ (by simp only [size_alloc]; omega)]; exact heap_alloc_at (by simp only [size_alloc])
  · rw [Below.heap_alloc _ _ _ (by simp only [size_alloc]; omega), Below.heap_alloc _ _ _ (by simp only [size_alloc]; omega), Below.heap_alloc _ _ _ (by simp only [size_alloc]; omega)]; exact heap_alloc_at (by simp only [size_alloc])
  · rw [Below.heap_alloc _ _ _ (by simp only [size_alloc]; omega), Below.heap_alloc _ _ _ (by simp only [size_alloc]; omega)]; exact heap_alloc_at (by simp only [size_alloc])
  · rw [Below.heap_alloc _ _ _ (by simp only [size_alloc]; omega)]; exact heap_alloc_at (by simp only [size_alloc])
  · exact heap_alloc_at (by simp only [size_alloc])

set_option maxHeartbeats 1600000 in
theorem awake_c (w : World) : Calls Try.prog 9 #[] w fun e w' => e = .returned (.bool true) ∧ Fr (fun _ => False) w w' := by
  have hmf : ∀ (fn : Fn) (first cap : Array Value) (w : World), (Instr.makeFunc fn first cap).run Try.prog w = .ok (.func fn first cap) w := fun _ _ _ _ => rfl
  go_enter Try.func9, Try.ntmps9
  go_wp2_with fail
  refine (newLow_c _ [53] _ (lies_lit w [53] 1) (by decide) (by decide)).mono ?_
  rintro e w1 ⟨L, rfl, hL, hf1⟩
  have HL := hide hL
  clear hL
  go_wp2_with fail
  refine (newHigh_c _ [53] _ (lies_lit w1 [53] 1) (by decide) (by decide)).mono ?_
  rintro e w2 ⟨H, rfl, hH, hf2⟩
  have HH := hide hH
  clear hH
  go_wp2_with fail
  have hA := awst_make w2 L H _ _ _ _ ((HL.out.keep (Fr.of_alloc w1 _) (fun _ _ _ h => h)).keep hf2 (fun _ _ _ h => h)) HH.out (by simp) _ rfl
  refine (guard_awake1 L H _ _ _ _ _ _ _ _ _ _ _ hA).mono ?_
  rintro e w3 ⟨rfl, h3, hf3⟩
  have k0 := cell_of (o := 0) h3.c0 rfl
  have k2 := cell_of (o := 0) h3.c2 rfl
  have k3 := cell_of (o := 0) h3.c3 rfl
  have k4 := cell_of (o := 0) h3.c4 rfl
  have k5 := cell_of (o := 0) h3.c5 rfl
  have H3 := hide h3
  clear h3 hA
  go_wp2_with fail
  refine (low_left w3 _ _ L [53] 8 _ _ H3.out.r1).mono ?_
  rintro e w4 ⟨rfl, k, rfl⟩
  go_wp2_with fail
  refine (guard_awake2 L _ _ _ _ _ _ (H3.out.r1.drewN k) (by rw [World.cell?_drewN]; exact k0)).mono ?_
  rintro e w5 ⟨rfl, hf5⟩
  go_wp2
  go_ret
  refine ⟨rfl, ?_⟩
  have g1 := (Fr.of_alloc w (Obj.cells (cellsOf [53]).toArray 5)).join hf1
  have g2 := (g1.join (Fr.of_alloc w1 (Obj.cells (cellsOf [53]).toArray 5))).join hf2
  have g3 := (((((g2.join (Fr.of_alloc w2 (.cells #[.pointer (some ⟨L, 0, none⟩)] 25))).join (Fr.of_alloc _ (.cells #[.pointer (some ⟨H, 0, none⟩)] 40))).join (Fr.of_alloc _ (.cells #[.int .i64 0] 3))).join (Fr.of_alloc _ (.cells #[.int .i64 0] 3))).join (Fr.of_alloc _ (.cells #[.int .i64 0] 3))).join (Fr.of_alloc _ (.cells #[.int .i64 0] 3))
  exact (((g3.trans hf3).trans (Fr.of_drewN w3 k)).trans hf5).mono fun i hi h => by
    simp at h
    omega
end Go.Proofs.Ytkmgpapopgeldaa
