import Derived.Test.YtkmgpapopgeldaaT
namespace Go.Proofs.Ytkmgpapopgeldaa
open Go.RowKit

theorem nilGuard (w : World) : (binOp .eql 1 .nilFunc .nilFunc).run Try.prog w = .ok (.bool true) w := by kernel_rfl

set_option maxHeartbeats 400000 in
theorem guard_nil (w : World) : Calls Try.prog 11 #[.nilFunc] w fun e w' => e = .returned (.bool true) ∧ Fr (fun _ => False) w w' := by
  have hn := nilGuard
  go_enter_defers Try.func11, Try.ntmps11
  go_wp2
  simp [bodyPostD, Leaves, results, Try.results11, go_sem]
  exact Fr.of_alloc w _

theorem kst_make (w4 : World) (L p lo hi : Nat) (bs : List Nat) (hR : Rd 56 w4 lo hi L bs 0 (.slice none 0 0) 0) (hcp : w4.heap[p]? = some (.cells #[.pointer (some ⟨L, 0, none⟩)] 25)) (hp : hi ≤ p) :
    KSt L p w4.heap.size (w4.heap.size + 1) lo hi bs 0 0 0 ((w4.alloc (.cells #[.int .i64 0] 3)).alloc (.cells #[.int .i64 0] 3)) := by
  have f := (Fr.of_alloc w4 (.cells #[.int .i64 0] 3)).join (Fr.of_alloc _ (.cells #[.int .i64 0] 3))
  have := lt_of hcp
  refine ⟨hR.keep f (fun _ _ _ h => h), (f.block _ this (fun h => h)).trans hcp, ?_, ?_, by omega⟩
  · rw [Below.heap_alloc _ _ _ (by simp only [size_alloc]; omega)]; exact heap_alloc_at rfl
  · exact heap_alloc_at (by simp only [size_alloc])

theorem rd_zero (w : World) (Z : Nat) (h : w.heap[Z]? = some (.cells #[.slice none 0 0, .int .i64 0, .slice none 0 0, .int .i64 0] 56)) : Rd 56 w Z (Z + 1) Z [] 0 (.slice none 0 0) 0 :=
  ⟨Nat.le_refl _, by omega, lt_of h, by simp, by simp, by simp, _, h, World.ownsRow_nil _ _ _ _, fun k hk => by cases hk⟩

theorem wr_zero (T : TypeId) (w : World) (Z : Nat) (v : Value) (pos : Int) (h : w.heap[Z]? = some (.cells #[v, .int .i64 pos, .slice none 0 0, .int .i64 0] T)) : Wr T w 0 Z none [] 0 :=
  ⟨⟨v, pos, _, h, World.ownsRow_nil _ _ _ _, rfl⟩, fun k hk => (by cases hk), Nat.zero_le _⟩

theorem lowSt_zero : LowSt [] 0 := ⟨rfl, by simp, by decide⟩
theorem highSt_zero : HighSt [] 0 := ⟨rfl, by simp, by decide⟩

/-- z.Put(5, 3) of a new Low. -/
theorem known_put (Z : Nat) (w : World) (h : w.heap[Z]? = some (.cells #[.slice none 0 0, .int .i64 0, .slice none 0 0, .int .i64 0] 56)) :
    Calls Try.prog 27 #[.pointer (some ⟨Z, 0, none⟩), .int .i64 5, .int .i64 3] w fun e w' => e = .returned (.tuple #[]) ∧ (∃ g, Wr 56 w' 0 Z g [5] 3) ∧ Fr (fun i => i = Z) w w' := by
  refine (low_put_ok 0 Z none [] 0 3 5 w (wr_zero 56 w Z _ _ h) lowSt_zero (by decide) (by decide)).mono ?_
  rintro e w' ⟨rfl, g', os', hw, hs, hn, hf, _⟩
  have e1 : os' = [5] := by
    have h1 := hs.len
    have h2 : leNum os' = 5 := by rw [hn]; decide
    match os', h1 with
    | [b], _ => simp [leNum] at h2; rw [h2]
  subst e1
  exact ⟨rfl, ⟨g', hw⟩, hf.mono fun i _ h => by simpa using h⟩

theorem known_left (L lo hi : Nat) (ov : Value) (wn : Int) (w : World) (h : Rd 56 w lo hi L [1, 2, 3, 4] 24 ov wn) :
    Calls Try.prog 19 #[.pointer (some ⟨L, 0, none⟩)] w fun e w' => e = .returned (.int .i64 8) ∧ ∃ k, w' = w.drewN k :=
  (low_left w lo hi L _ _ _ _ h).mono fun _ _ ⟨he, hk⟩ => ⟨he, hk⟩

set_option maxHeartbeats 1600000 in
theorem known_c (w : World) : Calls Try.prog 8 #[] w fun e w' => e = .returned (.bool true) ∧ Fr (fun _ => False) w w' := by
  have hmf : ∀ (fn : Fn) (first cap : Array Value) (w : World), (Instr.makeFunc fn first cap).run Try.prog w = .ok (.func fn first cap) w := fun _ _ _ _ => rfl
  go_enter Try.func8, Try.ntmps8
  go_wp2_with fail
  refine (awake_c _).mono ?_
  rintro e w1 ⟨rfl, hf1⟩
  go_wp2_with fail
  refine (newLow_c _ [1, 2, 3, 4] _ (lies_lit w1 [1, 2, 3, 4] 4) (by decide) (by decide)).mono ?_
  rintro e w2 ⟨L, rfl, hL, hf2⟩
  have hcp : (w2.alloc (.cells #[.pointer (some ⟨L, 0, none⟩)] 25)).heap[w2.heap.size]? = some (.cells #[.pointer (some ⟨L, 0, none⟩)] 25) := heap_alloc_new _ _
  have hR := hL.keep (Fr.of_alloc w2 (.cells #[.pointer (some ⟨L, 0, none⟩)] 25)) (fun _ _ _ h => h)
  have Hcp := hide hcp
  have HR := hide hR
  have s1 := hf1.size
  have Hf12 := hide (((hf1.join (Fr.of_alloc w1 (.cells (cellsOf [1, 2, 3, 4]).toArray 5))).join hf2).join (Fr.of_alloc w2 (.cells #[.pointer (some ⟨L, 0, none⟩)] 25)))
  clear hL hcp hR hf1 hf2
  go_wp2_with fail
  refine (guard_no 33 _ _ (fun W => cf33 W _) (known1 L _ _ _ _ _ _ _ _ (HR.out.keep (Fr.of_alloc _ _) (fun _ _ _ h => h)) (cell_of (o := 0) ((Below.heap_alloc _ _ _ (by simp)).trans Hcp.out) rfl))).mono ?_
  rintro e w3 ⟨rfl, hf3⟩
  have HR3 := hide (HR.out.keep hf3 (fun _ _ _ h => h))
  have Hcp3 := hide ((hf3.block _ (lt_of Hcp.out) (fun h => h)).trans Hcp.out)
  have Hf3 := hide (Hf12.out.join hf3)
  clear hf3 Hf12 Hcp HR
  go_wp2_with fail
  refine (guard_no 34 _ _ (fun W => cf34 W _) (known2 L _ _ _ _ _ _ _ _ (HR3.out.keep (Fr.of_alloc _ _) (fun _ _ _ h => h)) (cell_of (o := 0) ((Below.heap_alloc _ _ _ (lt_of Hcp3.out)).trans Hcp3.out) rfl))).mono ?_
  rintro e w4 ⟨rfl, hf4⟩
  have HR4 := hide (HR3.out.keep hf4 (fun _ _ _ h => h))
  have Hcp4 := hide ((hf4.block _ (lt_of Hcp3.out) (fun h => h)).trans Hcp3.out)
  have Hf4 := hide (Hf3.out.join hf4)
  clear hf4 Hf3 HR3 Hcp3
  go_wp2_with fail
  have hK := kst_make w4 L w2.heap.size _ _ [1, 2, 3, 4] HR4.out Hcp4.out (Nat.le_refl _)
  have Hf5 := hide ((Hf4.out.join (Fr.of_alloc w4 (.cells #[.int .i64 0] 3))).join (Fr.of_alloc _ (.cells #[.int .i64 0] 3)))
  refine (known_x L _ _ _ _ _ _ _ _ _ _ hK (by decide)).mono ?_
  rintro e w5 ⟨rfl, hK5, hf5⟩
  have HK5 := hide hK5
  have HF5 := hide hf5
  clear hK5 hf5 hK
  go_wp2_with fail
  refine (known_y L _ _ _ _ _ _ _ _ _ _ HK5.out).mono ?_
  rintro e w6 ⟨rfl, hK6, hf6⟩
  have HK6 := hide hK6
  have HF6 := hide hf6
  clear hK6 hf6
  go_wp2_with fail
  have hz6 : (w6.alloc (.cells #[.slice none 0 0, .int .i64 0, .slice none 0 0, .int .i64 0] 56)).heap[w6.heap.size]? = some (.cells #[.slice none 0 0, .int .i64 0, .slice none 0 0, .int .i64 0] 56) := heap_alloc_new _ _
  refine (guard_no 37 _ _ (fun W => cf37 W _) (known5 w6.heap.size _ _ _ _ _ (rd_zero _ _ ((Below.heap_alloc _ _ _ (by simp)).trans hz6)))).mono ?_
  rintro e w7 ⟨rfl, hf7⟩
  have Hz7 := hide ((hf7.block _ (lt_of hz6) (fun h => h)).trans hz6)
  have hq6 := lt_of HK6.out.c2
  have HK7 := hide ((HK6.out.far (Fr.of_alloc w6 _) (fun _ _ h => h)).far hf7 (fun _ _ h => h))
  have HF7 := hide ((Fr.of_alloc w6 (.cells #[.slice none 0 0, .int .i64 0, .slice none 0 0, .int .i64 0] 56)).join hf7)
  clear hf7 hz6
  go_wp2_with fail
  refine (known_put w6.heap.size w7 Hz7.out).mono ?_
  rintro e w8 ⟨rfl, ⟨g8, hW8⟩, hf8⟩
  have HK8 := hide (HK7.out.far hf8 (fun k hk => by omega))
  have HW8 := hide hW8
  have HF8 := hide hf8
  have k1 := cell_of (o := 0) HK8.out.c1 rfl
  have k2 := cell_of (o := 0) HK8.out.c2 rfl
  have k3 := cell_of (o := 0) HK8.out.cp rfl
  have e1 : (lowBits (leNum [1, 2, 3, 4]) 0 24 : Nat) = 197121 := by decide
  have e2 : (lowBits (leNum [1, 2, 3, 4]) (0 + 24) 0 : Nat) = 0 := by decide
  rw [e1] at k1
  rw [e2] at k2
  clear e1 e2 hf8 hW8
  go_wp2_with fail
  refine (known_left L _ _ _ _ w8 HK8.out.rd).mono ?_
  rintro e w9 ⟨rfl, k9, hw9⟩
  have f9 : Fr (fun _ => False) w8 w9 := by rw [hw9]; exact Fr.of_drewN _ _
  have HW9 := hide (HW8.out.keep f9 (fun h => h) (fun _ _ h => h))
  have HF9 := hide f9
  clear hw9 f9
  go_wp2_with fail
  refine (low_out 56 w9 0 _ g8 [5] 3 HW9.out (by decide)).mono ?_
  rintro e w10 ⟨a10, c10, rfl, hl10, hf10, _⟩
  have hstr : (convert 22 9 (.slice a10 1 c10)).run Try.prog w10 = .ok (.string ⟨#[5]⟩) w10 := str_lies hl10 (by decide)
  have HF10 := hide hf10
  clear hl10 hf10
  go_wp2_with fail
  refine (guard_nil w10).mono ?_
  rintro e w11 ⟨rfl, hf11⟩
  go_wp2_with fail
  refine (guard_no 38 _ _ cf38 (known6 _)).mono ?_
  rintro e w12 ⟨rfl, hf12⟩
  go_wp2
  go_ret
  refine ⟨rfl, ?_⟩
  have o2 := HK6.out.rd.elo
  have s4 := Hf4.out.size
  have s6 := lt_of Hcp4.out
  simp only [size_alloc] at o2
  exact ((((((((Hf5.out.trans HF5.out).trans HF6.out).trans HF7.out).trans HF8.out).trans HF9.out).trans HF10.out).trans hf11).trans hf12).mono fun i hi h => by
    simp only [or_false, false_or] at h
    omega
end Go.Proofs.Ytkmgpapopgeldaa
