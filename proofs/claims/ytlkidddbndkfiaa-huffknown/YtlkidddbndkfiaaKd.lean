/-
  HuffKnown: the walk.
-/
import Derived.Test.YtlkidddbndkfiaaKc
namespace Go.Proofs.Ytlkidddbndkfiaa
open Go.RowKit

set_option maxHeartbeats 400000 in
set_option maxRecDepth 100000 in
theorem known_c (w : World) : Calls Try.prog 8 #[] w fun e w' => e = .returned (.bool true) ∧ Fr (fun _ => False) w w' := by
  have hmf : ∀ (fn : Fn) (first cap : Array Value) (w : World), (Instr.makeFunc fn first cap).run Try.prog w = .ok (.func fn first cap) w := fun _ _ _ _ => rfl
  obtain ⟨zs, hmk0, hzs, hz0⟩ := makeInts 321 (by decide)
  have hmk : ∀ W : World, (Instr.makeSlice 22 (.int .i64 321) (.int .i64 321)).run Try.prog W = .ok (.slice (some ⟨W.heap.size, 0, none⟩) 321 321) (W.alloc (.cells zs 3)) := hmk0
  have Hzs := hide hzs
  have Hz0 := hide hz0
  clear hmk0 hzs hz0
  go_enter Try.func8, Try.ntmps8
  go_wp2_with fail
  refine (awake_c w).mono ?_
  rintro e w1 ⟨rfl, hF⟩
  have HF1 := hide hF
  clear hF
  go_wp2_with fail
  refine (new_ok _ 3 [0, 0, 1] _ (lies_litI w1 [0, 0, 1]) good001 (Or.inr (Or.inr ⟨by decide, by decide⟩))).mono ?_
  rintro e w2 ⟨C1, rfl, hC, hF⟩
  have K1 := hide (Kn.new hC (Nat.le_refl _))
  have HF2 := hide ((HF1.out.join (Fr.of_alloc _ _)).join hF)
  generalize hlo1 : (w1.alloc _).heap.size = lo1 at K1
  clear hC hF hlo1
  go_wp2_with fail
  refine (new_ok none 0 [] _ (fun j hj => absurd hj (by simp)) good0 (Or.inr (Or.inl (by decide)))).mono ?_
  rintro e w3 ⟨C3, rfl, hC, hF⟩
  have K3 := hide (Kn.new hC (Nat.le_refl _))
  have J1 := hide ((K1.out.keep hF).keep (Fr.of_alloc w3 (.cells #[.pointer (some ⟨C3, 0, none⟩)] 24)))
  have HF3 := hide ((HF2.out.join (Fr.of_alloc _ _)).join hF)
  generalize hlo3 : (w2.alloc _).heap.size = lo3 at K3
  clear hC hF hlo3 K1
  go_wp2_with fail
  refine (new_two w3 (.cells #[.pointer (some ⟨C3, 0, none⟩)] 24) _ (by first | rfl | simp)).mono ?_
  rintro e w4 ⟨rfl, hF⟩
  have G1 := hide (J1.out.keep hF)
  have G3 := hide (K3.out.keep hF)
  have HF4 := hide ((HF3.out.join (Fr.of_alloc _ _)).join hF)
  clear hF J1 K3
  go_wp2_with fail
  refine (new_arg _ 1 [16] _ (lies_litI w4 [16]) (by decide) bad16).mono ?_
  rintro e w5 ⟨rfl, hF⟩
  have hF5 : Fr (fun _ => False) w4 w5 := by rw [← hF]; exact Fr.of_alloc _ _
  have G15 := hide (G1.out.keep hF5)
  have G35 := hide (G3.out.keep hF5)
  have HF5 := hide (HF4.out.join hF5)
  clear hF hF5 G1 G3
  go_wp2_with fail
  refine (new_321 w5 zs Hzs.out Hz0.out).mono ?_
  rintro e w6 ⟨rfl, hF⟩
  have hF6 : Fr (fun _ => False) w5 w6 := hF
  have G16 := hide (G15.out.keep hF6)
  have G36 := hide (G35.out.keep hF6)
  have HF6 := hide (HF5.out.join hF6)
  clear hF hF6 G15 G35
  go_wp2_with fail
  refine (new_form _ 2 [1, 2] _ (lies_litI w6 [1, 2]) good12 (by unfold codeOk; decide)).mono ?_
  rintro e w7 ⟨rfl, hF⟩
  have G17 := hide ((G16.out.keep (Fr.of_alloc _ _)).keep hF)
  have G37 := hide ((G36.out.keep (Fr.of_alloc _ _)).keep hF)
  have HF7 := hide ((HF6.out.join (Fr.of_alloc _ _)).join hF)
  have k1 := cell_of (o := 0) G17.out.h rfl
  have k3 := cell_of (o := 0) G37.out.h rfl
  clear hF G16 G36
  go_wp2_with fail
  have A1 := hide (G17.out.keep (Fr.of_alloc w7 (.cells #[.int .i64 (-1)] 3)))
  have A3 := hide (G37.out.keep (Fr.of_alloc w7 (.cells #[.int .i64 (-1)] 3)))
  refine (guard25 _ w7.heap.size _ _ C1 (-1) _ A1.out.h (heap_alloc_new _ _) A1.out.c A1.out.sz).mono ?_
  rintro e w8 ⟨rfl, h13, hF⟩
  have G18 := hide (A1.out.keep13 hF (lt_of G17.out.h) G17.out.sz)
  have G38 := hide (A3.out.keep13 hF (lt_of G37.out.h) G37.out.sz)
  have HF8 := hide ((HF7.out.join (Fr.of_alloc w7 (.cells #[.int .i64 (-1)] 3))).join_new (hF.mono fun k _ h => by subst h; exact HF7.out.size))
  have H13 := hide h13
  clear hF h13 G17 G37 A1 A3 k1 k3
  go_wp2_with fail
  refine (guard26 _ _ _ C1 w8 G18.out.h G18.out.c G18.out.sz).mono ?_
  rintro e w9 ⟨rfl, hF⟩
  have G39 := hide (G38.out.keep hF)
  have HF9 := hide (HF8.out.join hF)
  have H139 : Hid (w9.heap[w7.heap.size]? = some (.cells #[.int .i64 2] 3 (0, 0))) := by rw [hF.block _ (lt_of H13.out) (fun h => h)]; exact H13.out
  clear hF G38 G18 H13
  go_wp2_with fail
  refine (guard27 _ _ _ C3 w9 G39.out.h G39.out.c G39.out.sz).mono ?_
  rintro e w10 ⟨rfl, hF⟩
  have HF10 := hide (HF9.out.join hF)
  have H1310 : Hid (w10.heap[w7.heap.size]? = some (.cells #[.int .i64 2] 3 (0, 0))) := by rw [hF.block _ (lt_of H139.out) (fun h => h)]; exact H139.out
  clear hF G39 H139
  go_wp2_with fail
  refine (lengths_yes _ 3 [0, 5, 0] 7 _ (lies_litI w10 [0, 5, 0]) (by decide) goodL1).mono ?_
  rintro e w11 ⟨g1, o1, rfl, hO1, hL1, hF⟩
  have hL1' : LenOk [0, 5, 0] 7 o1 := hL1
  have HO1 := hide hO1
  have Hl1 := hide hL1'.len
  have He1 := hide (one_len hL1')
  have hF' := (Fr.of_alloc w10 (.cells (cellsZ [0, 5, 0]).toArray 3)).join hF
  have HF11 := hide (HF10.out.join hF')
  have H1311 : Hid (w11.heap[w7.heap.size]? = some (.cells #[.int .i64 2] 3 (0, 0))) := by rw [hF'.block _ (lt_of H1310.out) (fun h => h)]; exact H1310.out
  clear hF hF' hL1 hL1' hO1 H1310
  go_wp2_with fail
  refine (lengths_yes _ 8 [1, 1, 2, 3, 5, 8, 13, 21] 4 _ (lies_litI w11 [1, 1, 2, 3, 5, 8, 13, 21]) (by decide) goodL2).mono ?_
  rintro e w12 ⟨g2, o2, rfl, hO2, hL2, hF⟩
  have hL2' : LenOk [1, 1, 2, 3, 5, 8, 13, 21] 4 o2 := hL2
  have HO2 := hide hO2
  have Hl2 := hide hL2'.len
  have He2 := hide (fib_len hL2')
  have hF' := (Fr.of_alloc w11 (.cells (cellsZ [1, 1, 2, 3, 5, 8, 13, 21]).toArray 3)).join hF
  have HF12 := hide (HF11.out.join hF')
  have HO12 := hide (HO1.out.keep hF' (fun h => h))
  have H1312 : Hid (w12.heap[w7.heap.size]? = some (.cells #[.int .i64 2] 3 (0, 0))) := by rw [hF'.block _ (lt_of H1311.out) (fun h => h)]; exact H1311.out
  clear hF hF' hL2 hL2' hO2 H1311 HO1
  go_wp2_with fail
  refine (lengths_no _ 3 [1, 1, 1] 1 _ (lies_litI w12 [1, 1, 1]) (by decide) badL3).mono ?_
  rintro e w13 ⟨rfl, hF⟩
  have hF' := (Fr.of_alloc w12 (.cells (cellsZ [1, 1, 1]).toArray 3)).join hF
  have HF13 := hide (HF12.out.join hF')
  have kl := ((HO12.out.keep hF' (fun h => h)).cell (k := 1) (by rw [Hl1.out]; decide)).1
  rw [He1.out] at kl
  have km := ((HO2.out.keep hF' (fun h => h)).cell (k := 0) (by rw [Hl2.out]; decide)).1
  obtain ⟨z3, z4⟩ := He2.out
  generalize at0 o2 0 = z at km z3 z4
  have h13 : w13.heap[w7.heap.size]? = some (.cells #[.int .i64 2] 3 (0, 0)) := by rw [hF'.block _ (lt_of H1312.out) (fun h => h)]; exact H1312.out
  have k13 := cell_of (o := 0) h13 rfl
  clear hF hF' h13 H1312 HO12 HO2
  go_wp2
  go_ret
  exact ⟨rfl, HF13.out⟩
end Go.Proofs.Ytlkidddbndkfiaa
