/-
  filter: FilterDoes, walked.
-/
import Derived.Test.YtkafhjjdeldkbaaOa
namespace Go.Proofs.Ytkafhjjdeldkbaa
open Go.RowKit Go.Lib
set_option linter.unusedVariables false

/-- What Do, Undo and Best answer, whatever they are asked. -/
def doA (K B : Int) (xs ys : List Nat) : List Nat := if mayV K B xs.length ys.length then doV K.toNat xs ys B.toNat else []
def undoA (K B : Int) (xs ys : List Nat) : List Nat := if mayV K B xs.length ys.length then undoV K.toNat xs ys B.toNat else []
def bestA (B : Int) (xs ys : List Nat) : Nat := if mayV 0 B xs.length ys.length then bestV xs ys B.toNat else 0

theorem may_true {K B : Int} {n m : Nat} (h : mayV K B n m = true) : ∃ k b : Nat, K = (k : Int) ∧ B = (b : Int) ∧ k ≤ 4 ∧ (1 ≤ b ∧ b ≤ 8) ∧ (m = 0 ∨ m = n) := by
  have := of_decide_eq_true h
  exact ⟨K.toNat, B.toNat, by omega, by omega, by omega, by omega, this.2.2⟩

section
variable (K B : Int) (a a2 : Option Addr) (c c2 : Nat) (xs ys : List Nat) (w : World)
theorem do_any (hx : Lies w a xs) (hy : Lies w a2 ys) (hl : xs.length ≤ 4000) :
    Calls Try.prog 8 #[.int .i64 K, .slice a xs.length c, .slice a2 ys.length c2, .int .i64 B] w fun e w' => ∃ v, e = .returned (.tuple #[v, .bool (mayV K B xs.length ys.length)]) ∧ OwnB w' w.heap.size v (doA K B xs ys) ∧ Fr (fun _ => False) w w' := by
  unfold doA
  cases h : mayV K B xs.length ys.length
  · exact (do_no K B a a2 _ c _ c2 w h).mono fun e w' ⟨h1, h2⟩ => ⟨_, h1, OwnB.nil _ _, h2 ▸ Fr.refl _ _⟩
  · obtain ⟨k, b, rfl, rfl, hk, hb, hm⟩ := may_true h
    exact do_yes k b a a2 c c2 xs ys w hk hb hx hy hm hl
theorem undo_any (hx : Lies w a xs) (hy : Lies w a2 ys) (hl : xs.length ≤ 4000) :
    Calls Try.prog 10 #[.int .i64 K, .slice a xs.length c, .slice a2 ys.length c2, .int .i64 B] w fun e w' => ∃ v, e = .returned (.tuple #[v, .bool (mayV K B xs.length ys.length)]) ∧ OwnB w' w.heap.size v (undoA K B xs ys) ∧ Fr (fun _ => False) w w' := by
  unfold undoA
  cases h : mayV K B xs.length ys.length
  · exact (undo_no K B a a2 _ c _ c2 w h).mono fun e w' ⟨h1, h2⟩ => ⟨_, h1, OwnB.nil _ _, h2 ▸ Fr.refl _ _⟩
  · obtain ⟨k, b, rfl, rfl, hk, hb, hm⟩ := may_true h
    exact undo_yes k b a a2 c c2 xs ys w hk hb hx hy hm hl
theorem rdo_any (hx : Lies w a xs) (hn : a = none → c = 0 ∧ xs = []) (hy : Lies w a2 ys) (hl : xs.length ≤ 4000) :
    Calls Try.prog 9 #[.int .i64 K, .slice a xs.length c, .slice a2 ys.length c2, .int .i64 B] w fun e w' => ∃ v, e = .returned (.tuple #[v, .bool (mayV K B xs.length ys.length)]) ∧ OwnB w' w.heap.size v (doA K B xs ys) ∧ Fr (fun _ => False) w w' := by
  unfold doA
  cases h : mayV K B xs.length ys.length
  · exact (rdo_no K B a a2 _ c _ c2 w h).mono fun e w' ⟨h1, h2⟩ => ⟨_, h1, OwnB.nil _ _, h2 ▸ Fr.refl _ _⟩
  · obtain ⟨k, b, rfl, rfl, hk, hb, hm⟩ := may_true h
    exact rdo_yes k b a a2 c c2 xs ys w hk hb hx hn hy hm hl
theorem rundo_any (hx : Lies w a xs) (hn : a = none → c = 0 ∧ xs = []) (hy : Lies w a2 ys) (hl : xs.length ≤ 4000) :
    Calls Try.prog 11 #[.int .i64 K, .slice a xs.length c, .slice a2 ys.length c2, .int .i64 B] w fun e w' => ∃ v, e = .returned (.tuple #[v, .bool (mayV K B xs.length ys.length)]) ∧ OwnB w' w.heap.size v (undoA K B xs ys) ∧ Fr (fun _ => False) w w' := by
  unfold undoA
  cases h : mayV K B xs.length ys.length
  · exact (rundo_no K B a a2 _ c _ c2 w h).mono fun e w' ⟨h1, h2⟩ => ⟨_, h1, OwnB.nil _ _, h2 ▸ Fr.refl _ _⟩
  · obtain ⟨k, b, rfl, rfl, hk, hb, hm⟩ := may_true h
    exact rundo_yes k b a a2 c c2 xs ys w hk hb hx hn hy hm hl
theorem best_any (hx : Lies w a xs) (hy : Lies w a2 ys) (hl : xs.length ≤ 4000) :
    Calls Try.prog 12 #[.slice a xs.length c, .slice a2 ys.length c2, .int .i64 B] w fun e w' => e = .returned (.int .i64 ((bestA B xs ys : Nat) : Int)) ∧ Fr (fun _ => False) w w' := by
  unfold bestA
  cases h : mayV 0 B xs.length ys.length
  · exact (best_no B a a2 _ c _ c2 w h).mono fun e w' ⟨h1, h2⟩ => ⟨h1, h2 ▸ Fr.refl _ _⟩
  · obtain ⟨k, b, h0, rfl, hk, hb, hm⟩ := may_true h
    exact best_yes b a a2 c c2 xs ys w hb hx hy hm hl
theorem rbest_any (hx : Lies w a xs) (hn : a = none → c = 0 ∧ xs = []) (hy : Lies w a2 ys) (hl : xs.length ≤ 4000) :
    Calls Try.prog 13 #[.slice a xs.length c, .slice a2 ys.length c2, .int .i64 B] w fun e w' => e = .returned (.int .i64 ((bestA B xs ys : Nat) : Int)) ∧ Fr (fun _ => False) w w' := by
  unfold bestA
  cases h : mayV 0 B xs.length ys.length
  · exact (rbest_no B a a2 _ c _ c2 w h).mono fun e w' ⟨h1, h2⟩ => ⟨h1, h2 ▸ Fr.refl _ _⟩
  · obtain ⟨k, b, h0, rfl, hk, hb, hm⟩ := may_true h
    exact rbest_yes b a a2 c c2 xs ys w hb hx hn hy hm hl
end

set_option maxHeartbeats 3200000 in
theorem does_law (K B : Int) (a a2 : Option Addr) (c c2 : Nat) (xs ys : List Nat) (w : World) (hx : Lies w a xs) (hn : a = none → c = 0 ∧ xs = []) (hy : Lies w a2 ys) (hxl : xs.length ≤ 9223372036854775807) (hyl : ys.length ≤ 9223372036854775807) :
    Calls Try.prog 3 #[.slice a xs.length c, .slice a2 ys.length c2, .agg #[.int .i64 K, .int .i64 B]] w fun e w' => e = .returned (.bool true) ∧ Fr (fun _ => False) w w' := by
  have hb0 := pair_cell w 23 (.int .i64 K) (.int .i64 B)
  have HB0 := hide hb0
  have HF0 := hide (Fr.of_alloc w (Obj.cells #[.int .i64 K, .int .i64 B] 23))
  have Hx := hide hx
  have Hy := hide hy
  have Hn := hide hn
  clear hx hy hb0 hn
  by_cases hfew : xs.length ≤ 3000 ∧ ys.length ≤ 3000
  · have hx3 : xs.length ≤ 3000 := hfew.1
    have hy3 : ys.length ≤ 3000 := hfew.2
    have HD := hide (fun (w : World) (hx : Lies w a xs) (hy : Lies w a2 ys) => do_any K B a a2 c c2 xs ys w hx hy (by omega))
    have HR := hide (fun (w : World) (hx : Lies w a xs) (hy : Lies w a2 ys) => rdo_any K B a a2 c c2 xs ys w hx Hn.out hy (by omega))
    have HU := hide (fun (w : World) (hx : Lies w a xs) (hy : Lies w a2 ys) => undo_any K B a a2 c c2 xs ys w hx hy (by omega))
    have HV := hide (fun (w : World) (hx : Lies w a xs) (hy : Lies w a2 ys) => rundo_any K B a a2 c c2 xs ys w hx Hn.out hy (by omega))
    have HB := hide (fun (w : World) (hx : Lies w a xs) (hy : Lies w a2 ys) => best_any B a a2 c c2 xs ys w hx hy (by omega))
    have HQ := hide (fun (w : World) (hx : Lies w a xs) (hy : Lies w a2 ys) => rbest_any B a a2 c c2 xs ys w hx Hn.out hy (by omega))
    clear hfew
    generalize mayV K B xs.length ys.length = t at *
    generalize doA K B xs ys = D at *
    generalize undoA K B xs ys = U at *
    generalize bestA B xs ys = q at *
    go_enter Try.func3, Try.ntmps3
    go_wp2_with fail
    refine (awake_c _).mono ?_
    rintro e w1 ⟨rfl, hf1⟩
    have HF1 := hide (HF0.out.join hf1)
    have hB1 := (hf1.block _ (lt_of HB0.out) (fun h => h)).trans HB0.out
    have HB1 := hide hB1
    have e0 : w1.cell? ⟨w.heap.size, 0, none⟩ = some (.int .i64 K) := cell_of (o := 0) hB1 rfl
    have e1 : w1.cell? ⟨w.heap.size, 1, none⟩ = some (.int .i64 B) := cell_of (o := 1) hB1 rfl
    have HC1 := hide (HD.out w1 (Hx.out.keep HF1.out (fun _ _ h => h)) (Hy.out.keep HF1.out (fun _ _ h => h)))
    clear hf1 HF0 HB0 hB1
    go_wp2_with fail
    refine HC1.out.mono ?_
    rintro e w2 ⟨v1, rfl, ho1, hf2⟩
    obtain ⟨va1, vc1, rfl, _⟩ := ho1.form
    have HF2 := hide (HF1.out.join hf2)
    have HG2 := hide hf2
    have HO1 := hide ho1
    have e2 := cell_fr hf2 e0 (fun h => h)
    have e3 := cell_fr hf2 e1 (fun h => h)
    have HC2 := hide (HR.out w2 (Hx.out.keep HF2.out (fun _ _ h => h)) (Hy.out.keep HF2.out (fun _ _ h => h)))
    clear ho1 hf2 HF1 HC1 e0 e1
    go_wp2_with fail
    refine HC2.out.mono ?_
    rintro e w3 ⟨v2, rfl, ho2, hf3⟩
    obtain ⟨va2, vc2, rfl, _⟩ := ho2.form
    have HF3 := hide (HF2.out.join hf3)
    have HG3 := hide (HG2.out.join hf3)
    have HO2 := hide ho2
    have HO1' := hide (HO1.out.keep hf3 (fun _ _ h => h))
    have e4 := cell_fr hf3 e2 (fun h => h)
    have e5 := cell_fr hf3 e3 (fun h => h)
    have HC3 := hide (HU.out w3 (Hx.out.keep HF3.out (fun _ _ h => h)) (Hy.out.keep HF3.out (fun _ _ h => h)))
    clear ho2 hf3 HF2 HC2 e2 e3 HG2 HO1
    go_wp2_with fail
    refine HC3.out.mono ?_
    rintro e w4 ⟨v3, rfl, ho3, hf4⟩
    obtain ⟨va3, vc3, rfl, _⟩ := ho3.form
    have HF4 := hide (HF3.out.join hf4)
    have HO3 := hide ho3
    have HO1 := hide (HO1'.out.keep hf4 (fun _ _ h => h))
    have HO2' := hide (HO2.out.keep hf4 (fun _ _ h => h))
    have e6 := cell_fr hf4 e4 (fun h => h)
    have e7 := cell_fr hf4 e5 (fun h => h)
    have HC4 := hide (HV.out w4 (Hx.out.keep HF4.out (fun _ _ h => h)) (Hy.out.keep HF4.out (fun _ _ h => h)))
    clear ho3 hf4 HF3 HC3 e4 e5 HG3 HO1' HO2
    go_wp2_with fail
    refine HC4.out.mono ?_
    rintro e w5 ⟨v4, rfl, ho4, hf5⟩
    obtain ⟨va4, vc4, rfl, _⟩ := ho4.form
    have HF5 := hide (HF4.out.join hf5)
    have HO4 := hide ho4
    have HP1 := hide (HO1.out.keep hf5 (fun _ _ h => h)).lies
    have HP2 := hide (HO2'.out.keep hf5 (fun _ _ h => h)).lies
    have HP3 := hide (HO3.out.keep hf5 (fun _ _ h => h)).lies
    have HP4 := hide ho4.lies
    have e8 := cell_fr hf5 e7 (fun h => h)
    have He := hide e8
    have HY1 := hide (fun (W : World) (h : Fr (fun _ => False) w5 W) => HB.out W (Hx.out.keep (HF5.out.join h) (fun _ _ h => h)) (Hy.out.keep (HF5.out.join h) (fun _ _ h => h)))
    have HY2 := hide (fun (W : World) (h : Fr (fun _ => False) w5 W) => HQ.out W (Hx.out.keep (HF5.out.join h) (fun _ _ h => h)) (Hy.out.keep (HF5.out.join h) (fun _ _ h => h)))
    clear ho4 hf5 HF4 HC4 e6 e7 e8 HO1 HO2' HO3 HO4 HD HR HU HV HB HQ HB1
    go_wp2
    refine wp_region_held_drew (S := fun W' => Fr (fun _ => False) w5 W') (by kernel_rfl) (by exact Fr.of_drewN _ 1) (fun hHeld => ?_)
    refine wpAnyH_take (i := 0) (v := ?v0a) rfl (by kernel_rfl) (by kernel_rfl) (by kernel_rfl) (fun _ _ _ h => h) (Or.inl ⟨by rfl, ?hy0a⟩) hHeld ?rest0a
    case hy0a => (intro W hSw; (try dsimp only at hSw); have k1 := cell_fr hSw He.out (fun h => h); have s1 := conv_str vc1 (HP1.out.keep hSw (fun _ _ h => h)); have s2 := conv_str vc2 (HP2.out.keep hSw (fun _ _ h => h)); have s3 := conv_str vc3 (HP3.out.keep hSw (fun _ _ h => h)); have s4 := conv_str vc4 (HP4.out.keep hSw (fun _ _ h => h)); go_simp; all_goals (with_reducible rfl))
    change wpAnyH _ _ _ _ _ _ _ (Act.put _ (some 65) _) _
    simp only [Act.put, List.setIfInBounds_toArray, List.set_cons_zero, List.set_cons_succ]
    refine wpAnyH_take (i := 2) (v := ?v2a) rfl (by kernel_rfl) (by kernel_rfl) (by kernel_rfl) (fun _ _ _ h => h) (Or.inl ⟨by rfl, ?hy2a⟩) hHeld ?rest2a
    case hy2a => (intro W hSw; (try dsimp only at hSw); have k1 := cell_fr hSw He.out (fun h => h); have s1 := conv_str vc1 (HP1.out.keep hSw (fun _ _ h => h)); have s2 := conv_str vc2 (HP2.out.keep hSw (fun _ _ h => h)); have s3 := conv_str vc3 (HP3.out.keep hSw (fun _ _ h => h)); have s4 := conv_str vc4 (HP4.out.keep hSw (fun _ _ h => h)); go_simp; all_goals (with_reducible rfl))
    change wpAnyH _ _ _ _ _ _ _ (Act.put _ (some 67) _) _
    simp only [Act.put, List.setIfInBounds_toArray, List.set_cons_zero, List.set_cons_succ]
    refine wpAnyH_take (i := 1) (v := ?v1a) rfl (by kernel_rfl) (by kernel_rfl) (by kernel_rfl) (fun _ _ _ h => h) (Or.inl ⟨by rfl, ?hy1a⟩) hHeld ?rest1a
    case hy1a => (intro W hSw; (try dsimp only at hSw); have k1 := cell_fr hSw He.out (fun h => h); have s1 := conv_str vc1 (HP1.out.keep hSw (fun _ _ h => h)); have s2 := conv_str vc2 (HP2.out.keep hSw (fun _ _ h => h)); have s3 := conv_str vc3 (HP3.out.keep hSw (fun _ _ h => h)); have s4 := conv_str vc4 (HP4.out.keep hSw (fun _ _ h => h)); go_simp; all_goals (with_reducible rfl))
    change wpAnyH _ _ _ _ _ _ _ (Act.put _ (some 66) _) _
    simp only [Act.put, List.setIfInBounds_toArray, List.set_cons_zero, List.set_cons_succ]
    refine wpAnyH_take (i := 3) (v := ?v3a) rfl (by kernel_rfl) (by kernel_rfl) (by kernel_rfl) (fun _ _ _ h => h) (Or.inl ⟨by rfl, ?hy3a⟩) hHeld ?rest3a
    case hy3a => (intro W hSw; (try dsimp only at hSw); have k1 := cell_fr hSw He.out (fun h => h); have s1 := conv_str vc1 (HP1.out.keep hSw (fun _ _ h => h)); have s2 := conv_str vc2 (HP2.out.keep hSw (fun _ _ h => h)); have s3 := conv_str vc3 (HP3.out.keep hSw (fun _ _ h => h)); have s4 := conv_str vc4 (HP4.out.keep hSw (fun _ _ h => h)); go_simp; all_goals (with_reducible rfl))
    change wpAnyH _ _ _ _ _ _ _ (Act.put _ (some 68) _) _
    simp only [Act.put, List.setIfInBounds_toArray, List.set_cons_zero, List.set_cons_succ]
    refine wpAnyH_take (i := 4) (v := ?v4a) rfl (by kernel_rfl) (by kernel_rfl) (by kernel_rfl) (fun _ _ _ h => h) (Or.inl ⟨by rfl, ?hy4a⟩) hHeld ?rest4a
    case hy4a => (intro W hSw; (try dsimp only at hSw); have k1 := cell_fr hSw He.out (fun h => h); have s1 := conv_str vc1 (HP1.out.keep hSw (fun _ _ h => h)); have s2 := conv_str vc2 (HP2.out.keep hSw (fun _ _ h => h)); have s3 := conv_str vc3 (HP3.out.keep hSw (fun _ _ h => h)); have s4 := conv_str vc4 (HP4.out.keep hSw (fun _ _ h => h)); go_simp; all_goals (with_reducible rfl))
    change wpAnyH _ _ _ _ _ _ _ (Act.put _ (some 69) _) _
    simp only [Act.put, List.setIfInBounds_toArray, List.set_cons_zero, List.set_cons_succ]
    refine wpAnyH_take (i := 5) (v := ?v5a) rfl (by kernel_rfl) (by kernel_rfl) (by kernel_rfl) (fun _ _ _ h => h) (Or.inl ⟨by rfl, ?hy5a⟩) hHeld ?rest5a
    case hy5a => (intro W hSw; (try dsimp only at hSw); have k1 := cell_fr hSw He.out (fun h => h); have s1 := conv_str vc1 (HP1.out.keep hSw (fun _ _ h => h)); have s2 := conv_str vc2 (HP2.out.keep hSw (fun _ _ h => h)); have s3 := conv_str vc3 (HP3.out.keep hSw (fun _ _ h => h)); have s4 := conv_str vc4 (HP4.out.keep hSw (fun _ _ h => h)); go_simp; all_goals (with_reducible rfl))
    change wpAnyH _ _ _ _ _ _ _ (Act.put _ (some 70) _) _
    simp only [Act.put, List.setIfInBounds_toArray, List.set_cons_zero, List.set_cons_succ]
    refine wpAnyH_take (i := 6) (v := ?v6a) rfl (by kernel_rfl) (by kernel_rfl) (by kernel_rfl) (fun _ _ _ h => h) (Or.inl ⟨by rfl, ?hy6a⟩) hHeld ?rest6a
    case hy6a => (intro W hSw; (try dsimp only at hSw); have k1 := cell_fr hSw He.out (fun h => h); have s1 := conv_str vc1 (HP1.out.keep hSw (fun _ _ h => h)); have s2 := conv_str vc2 (HP2.out.keep hSw (fun _ _ h => h)); have s3 := conv_str vc3 (HP3.out.keep hSw (fun _ _ h => h)); have s4 := conv_str vc4 (HP4.out.keep hSw (fun _ _ h => h)); go_simp; all_goals (with_reducible rfl))
    change wpAnyH _ _ _ _ _ _ _ (Act.put _ (some 71) _) _
    simp only [Act.put, List.setIfInBounds_toArray, List.set_cons_zero, List.set_cons_succ]
    refine wpAnyH_take (i := 7) (v := ?v7a) rfl (by kernel_rfl) (by kernel_rfl) (by kernel_rfl) (fun _ _ _ h => h) (Or.inl ⟨by rfl, ?hy7a⟩) hHeld ?rest7a
    case hy7a => (intro W hSw; (try dsimp only at hSw); have k1 := cell_fr hSw He.out (fun h => h); have s1 := conv_str vc1 (HP1.out.keep hSw (fun _ _ h => h)); have s2 := conv_str vc2 (HP2.out.keep hSw (fun _ _ h => h)); have s3 := conv_str vc3 (HP3.out.keep hSw (fun _ _ h => h)); have s4 := conv_str vc4 (HP4.out.keep hSw (fun _ _ h => h)); go_simp; all_goals (with_reducible rfl))
    change wpAnyH _ _ _ _ _ _ _ (Act.put _ (some 72) _) _
    simp only [Act.put, List.setIfInBounds_toArray, List.set_cons_zero, List.set_cons_succ]
    refine wpAnyH_take (i := 8) (v := ?v8a) rfl (by kernel_rfl) (by kernel_rfl) (by kernel_rfl) (fun _ _ _ h => h) (Or.inl ⟨by rfl, ?hy8a⟩) hHeld ?rest8a
    case hy8a => (intro W hSw; (try dsimp only at hSw); have k1 := cell_fr hSw He.out (fun h => h); have s1 := conv_str vc1 (HP1.out.keep hSw (fun _ _ h => h)); have s2 := conv_str vc2 (HP2.out.keep hSw (fun _ _ h => h)); have s3 := conv_str vc3 (HP3.out.keep hSw (fun _ _ h => h)); have s4 := conv_str vc4 (HP4.out.keep hSw (fun _ _ h => h)); go_simp; all_goals (with_reducible rfl))
    change wpAnyH _ _ _ _ _ _ _ (Act.put _ (some 73) _) _
    simp only [Act.put, List.setIfInBounds_toArray, List.set_cons_zero, List.set_cons_succ]
    refine wpAnyH_take (i := 9) (v := ?v9a) rfl (by kernel_rfl) (by kernel_rfl) (by kernel_rfl) (fun _ _ _ h => h) (Or.inl ⟨by rfl, ?hy9a⟩) hHeld ?rest9a
    case hy9a => (intro W hSw; (try dsimp only at hSw); have k1 := cell_fr hSw He.out (fun h => h); have s1 := conv_str vc1 (HP1.out.keep hSw (fun _ _ h => h)); have s2 := conv_str vc2 (HP2.out.keep hSw (fun _ _ h => h)); have s3 := conv_str vc3 (HP3.out.keep hSw (fun _ _ h => h)); have s4 := conv_str vc4 (HP4.out.keep hSw (fun _ _ h => h)); go_simp; all_goals (with_reducible rfl))
    change wpAnyH _ _ _ _ _ _ _ (Act.put _ (some 74) _) _
    simp only [Act.put, List.setIfInBounds_toArray, List.set_cons_zero, List.set_cons_succ]
    refine wpAnyH_take (i := 10) (v := ?v10a) rfl (by kernel_rfl) (by kernel_rfl) (by kernel_rfl) (fun _ _ _ h => h) (Or.inl ⟨by rfl, ?hy10a⟩) hHeld ?rest10a
    case hy10a => (intro W hSw; (try dsimp only at hSw); have k1 := cell_fr hSw He.out (fun h => h); have s1 := conv_str vc1 (HP1.out.keep hSw (fun _ _ h => h)); have s2 := conv_str vc2 (HP2.out.keep hSw (fun _ _ h => h)); have s3 := conv_str vc3 (HP3.out.keep hSw (fun _ _ h => h)); have s4 := conv_str vc4 (HP4.out.keep hSw (fun _ _ h => h)); go_simp; all_goals (with_reducible rfl))
    change wpAnyH _ _ _ _ _ _ _ (Act.put _ (some 75) _) _
    simp only [Act.put, List.setIfInBounds_toArray, List.set_cons_zero, List.set_cons_succ]
    refine wpAnyH_take (i := 11) (v := ?v11a) rfl (by kernel_rfl) (by kernel_rfl) (by kernel_rfl) (fun _ _ _ h => h) (Or.inl ⟨by rfl, ?hy11a⟩) hHeld ?rest11a
    case hy11a => (intro W hSw; (try dsimp only at hSw); have k1 := cell_fr hSw He.out (fun h => h); have s1 := conv_str vc1 (HP1.out.keep hSw (fun _ _ h => h)); have s2 := conv_str vc2 (HP2.out.keep hSw (fun _ _ h => h)); have s3 := conv_str vc3 (HP3.out.keep hSw (fun _ _ h => h)); have s4 := conv_str vc4 (HP4.out.keep hSw (fun _ _ h => h)); go_simp; all_goals (with_reducible rfl))
    change wpAnyH _ _ _ _ _ _ _ (Act.put _ (some 76) _) _
    simp only [Act.put, List.setIfInBounds_toArray, List.set_cons_zero, List.set_cons_succ]
    refine wpAnyH_take (i := 13) (v := ?v13a) rfl (by kernel_rfl) (by kernel_rfl) (by kernel_rfl) (fun _ _ _ h => h) (Or.inl ⟨by rfl, ?hy13a⟩) hHeld ?rest13a
    case hy13a => (intro W hSw; (try dsimp only at hSw); have k1 := cell_fr hSw He.out (fun h => h); have s1 := conv_str vc1 (HP1.out.keep hSw (fun _ _ h => h)); have s2 := conv_str vc2 (HP2.out.keep hSw (fun _ _ h => h)); have s3 := conv_str vc3 (HP3.out.keep hSw (fun _ _ h => h)); have s4 := conv_str vc4 (HP4.out.keep hSw (fun _ _ h => h)); go_simp; all_goals (with_reducible rfl))
    change wpAnyH _ _ _ _ _ _ _ (Act.put _ (some 78) _) _
    simp only [Act.put, List.setIfInBounds_toArray, List.set_cons_zero, List.set_cons_succ]
    refine wpAnyH_take (i := 12) (v := ?v12a) rfl (by kernel_rfl) (by kernel_rfl) (by kernel_rfl) (fun _ _ _ h => h) (Or.inl ⟨by rfl, ?hy12a⟩) hHeld ?rest12a
    case hy12a => (intro W hSw; (try dsimp only at hSw); have k1 := cell_fr hSw He.out (fun h => h); have s1 := conv_str vc1 (HP1.out.keep hSw (fun _ _ h => h)); have s2 := conv_str vc2 (HP2.out.keep hSw (fun _ _ h => h)); have s3 := conv_str vc3 (HP3.out.keep hSw (fun _ _ h => h)); have s4 := conv_str vc4 (HP4.out.keep hSw (fun _ _ h => h)); go_simp; all_goals (with_reducible rfl))
    change wpAnyH _ _ _ _ _ _ _ (Act.put _ (some 77) _) _
    simp only [Act.put, List.setIfInBounds_toArray, List.set_cons_zero, List.set_cons_succ]
    refine wpAnyH_take (i := 14) (v := ?v14a) rfl (by kernel_rfl) (by kernel_rfl) (by kernel_rfl) (fun _ _ _ h => h) (Or.inl ⟨by rfl, ?hy14a⟩) hHeld ?rest14a
    case hy14a => (intro W hSw; (try dsimp only at hSw); have k1 := cell_fr hSw He.out (fun h => h); have s1 := conv_str vc1 (HP1.out.keep hSw (fun _ _ h => h)); have s2 := conv_str vc2 (HP2.out.keep hSw (fun _ _ h => h)); have s3 := conv_str vc3 (HP3.out.keep hSw (fun _ _ h => h)); have s4 := conv_str vc4 (HP4.out.keep hSw (fun _ _ h => h)); go_simp; all_goals (with_reducible rfl))
    change wpAnyH _ _ _ _ _ _ _ (Act.put _ (some 79) _) _
    simp only [Act.put, List.setIfInBounds_toArray, List.set_cons_zero, List.set_cons_succ]
    refine wpAnyH_take (i := 15) (v := ?v15a) rfl (by kernel_rfl) (by kernel_rfl) (by kernel_rfl) (fun _ _ _ h => h) (Or.inl ⟨by rfl, ?hy15a⟩) hHeld ?rest15a
    case hy15a => (intro W hSw; (try dsimp only at hSw); have k1 := cell_fr hSw He.out (fun h => h); have s1 := conv_str vc1 (HP1.out.keep hSw (fun _ _ h => h)); have s2 := conv_str vc2 (HP2.out.keep hSw (fun _ _ h => h)); have s3 := conv_str vc3 (HP3.out.keep hSw (fun _ _ h => h)); have s4 := conv_str vc4 (HP4.out.keep hSw (fun _ _ h => h)); go_simp; all_goals (with_reducible rfl))
    change wpAnyH _ _ _ _ _ _ _ (Act.put _ (some 80) _) _
    simp only [Act.put, List.setIfInBounds_toArray, List.set_cons_zero, List.set_cons_succ]
    refine wpAnyH_take (i := 16) (v := ?v16a) rfl (by kernel_rfl) (by kernel_rfl) (by kernel_rfl) (fun _ _ _ h => h) (Or.inl ⟨by rfl, ?hy16a⟩) hHeld ?rest16a
    case hy16a => (intro W hSw; (try dsimp only at hSw); have k1 := cell_fr hSw He.out (fun h => h); have s1 := conv_str vc1 (HP1.out.keep hSw (fun _ _ h => h)); have s2 := conv_str vc2 (HP2.out.keep hSw (fun _ _ h => h)); have s3 := conv_str vc3 (HP3.out.keep hSw (fun _ _ h => h)); have s4 := conv_str vc4 (HP4.out.keep hSw (fun _ _ h => h)); go_simp; all_goals (with_reducible rfl))
    change wpAnyH _ _ _ _ _ _ _ (Act.put _ (some 81) _) _
    simp only [Act.put, List.setIfInBounds_toArray, List.set_cons_zero, List.set_cons_succ]
    refine wpAnyH_take (i := 17) (v := ?v17a) rfl (by kernel_rfl) (by kernel_rfl) (by kernel_rfl) (fun _ _ _ h => h) (Or.inl ⟨by rfl, ?hy17a⟩) hHeld ?rest17a
    case hy17a => (intro W hSw; (try dsimp only at hSw); have k1 := cell_fr hSw He.out (fun h => h); have s1 := conv_str vc1 (HP1.out.keep hSw (fun _ _ h => h)); have s2 := conv_str vc2 (HP2.out.keep hSw (fun _ _ h => h)); have s3 := conv_str vc3 (HP3.out.keep hSw (fun _ _ h => h)); have s4 := conv_str vc4 (HP4.out.keep hSw (fun _ _ h => h)); go_simp; all_goals (with_reducible rfl))
    change wpAnyH _ _ _ _ _ _ _ (Act.put _ (some 82) _) _
    simp only [Act.put, List.setIfInBounds_toArray, List.set_cons_zero, List.set_cons_succ]
    refine wpAnyH_take (i := 18) (v := ?v18a) rfl (by kernel_rfl) (by kernel_rfl) (by kernel_rfl) (fun _ _ _ h => h) (Or.inl ⟨by rfl, ?hy18a⟩) hHeld ?rest18a
    case hy18a => (intro W hSw; (try dsimp only at hSw); have k1 := cell_fr hSw He.out (fun h => h); have s1 := conv_str vc1 (HP1.out.keep hSw (fun _ _ h => h)); have s2 := conv_str vc2 (HP2.out.keep hSw (fun _ _ h => h)); have s3 := conv_str vc3 (HP3.out.keep hSw (fun _ _ h => h)); have s4 := conv_str vc4 (HP4.out.keep hSw (fun _ _ h => h)); go_simp; all_goals (with_reducible rfl))
    change wpAnyH _ _ _ _ _ _ _ (Act.put _ (some 83) _) _
    simp only [Act.put, List.setIfInBounds_toArray, List.set_cons_zero, List.set_cons_succ]
    refine wpAnyH_take (i := 19) (v := ?v19a) rfl (by kernel_rfl) (by kernel_rfl) (by kernel_rfl) (fun _ _ _ h => h) (Or.inl ⟨by rfl, ?hy19a⟩) hHeld ?rest19a
    case hy19a => (intro W hSw; (try dsimp only at hSw); have k1 := cell_fr hSw He.out (fun h => h); have s1 := conv_str vc1 (HP1.out.keep hSw (fun _ _ h => h)); have s2 := conv_str vc2 (HP2.out.keep hSw (fun _ _ h => h)); have s3 := conv_str vc3 (HP3.out.keep hSw (fun _ _ h => h)); have s4 := conv_str vc4 (HP4.out.keep hSw (fun _ _ h => h)); go_simp; all_goals (with_reducible rfl))
    change wpAnyH _ _ _ _ _ _ _ (Act.put _ (some 84) _) _
    simp only [Act.put, List.setIfInBounds_toArray, List.set_cons_zero, List.set_cons_succ]
    refine wpAnyH_take (i := 20) (v := ?v20a) rfl (by kernel_rfl) (by kernel_rfl) (by kernel_rfl) (fun _ _ _ h => h) (Or.inl ⟨by rfl, ?hy20a⟩) hHeld ?rest20a
    case hy20a => (intro W hSw; (try dsimp only at hSw); have k1 := cell_fr hSw He.out (fun h => h); have s1 := conv_str vc1 (HP1.out.keep hSw (fun _ _ h => h)); have s2 := conv_str vc2 (HP2.out.keep hSw (fun _ _ h => h)); have s3 := conv_str vc3 (HP3.out.keep hSw (fun _ _ h => h)); have s4 := conv_str vc4 (HP4.out.keep hSw (fun _ _ h => h)); go_simp; all_goals (with_reducible rfl))
    change wpAnyH _ _ _ _ _ _ _ (Act.put _ (some 85) _) _
    simp only [Act.put, List.setIfInBounds_toArray, List.set_cons_zero, List.set_cons_succ]
    refine wpAnyH_take (i := 21) (v := ?v21a) rfl (by kernel_rfl) (by kernel_rfl) (by kernel_rfl) (fun _ _ _ h => h) (Or.inl ⟨by rfl, ?hy21a⟩) hHeld ?rest21a
    case hy21a => (intro W hSw; (try dsimp only at hSw); have k1 := cell_fr hSw He.out (fun h => h); have s1 := conv_str vc1 (HP1.out.keep hSw (fun _ _ h => h)); have s2 := conv_str vc2 (HP2.out.keep hSw (fun _ _ h => h)); have s3 := conv_str vc3 (HP3.out.keep hSw (fun _ _ h => h)); have s4 := conv_str vc4 (HP4.out.keep hSw (fun _ _ h => h)); go_simp; all_goals (with_reducible rfl))
    change wpAnyH _ _ _ _ _ _ _ (Act.put _ (some 86) _) _
    simp only [Act.put, List.setIfInBounds_toArray, List.set_cons_zero, List.set_cons_succ]
    refine wpAnyH_take (i := 22) (v := ?v22a) rfl (by kernel_rfl) (by kernel_rfl) (by kernel_rfl) (fun _ _ _ h => h) (Or.inl ⟨by rfl, ?hy22a⟩) hHeld ?rest22a
    case hy22a => (intro W hSw; (try dsimp only at hSw); have k1 := cell_fr hSw He.out (fun h => h); have s1 := conv_str vc1 (HP1.out.keep hSw (fun _ _ h => h)); have s2 := conv_str vc2 (HP2.out.keep hSw (fun _ _ h => h)); have s3 := conv_str vc3 (HP3.out.keep hSw (fun _ _ h => h)); have s4 := conv_str vc4 (HP4.out.keep hSw (fun _ _ h => h)); go_simp; all_goals (with_reducible rfl))
    change wpAnyH _ _ _ _ _ _ _ (Act.put _ (some 87) _) _
    simp only [Act.put, List.setIfInBounds_toArray, List.set_cons_zero, List.set_cons_succ]
    refine wpAnyH_take (i := 23) (v := ?v23a) rfl (by kernel_rfl) (by kernel_rfl) (by kernel_rfl) (fun _ _ _ h => h) (Or.inl ⟨by rfl, ?hy23a⟩) hHeld ?rest23a
    case hy23a => (intro W hSw; (try dsimp only at hSw); have k1 := cell_fr hSw He.out (fun h => h); have s1 := conv_str vc1 (HP1.out.keep hSw (fun _ _ h => h)); have s2 := conv_str vc2 (HP2.out.keep hSw (fun _ _ h => h)); have s3 := conv_str vc3 (HP3.out.keep hSw (fun _ _ h => h)); have s4 := conv_str vc4 (HP4.out.keep hSw (fun _ _ h => h)); go_simp; all_goals (with_reducible rfl))
    change wpAnyH _ _ _ _ _ _ _ (Act.put _ (some 88) _) _
    simp only [Act.put, List.setIfInBounds_toArray, List.set_cons_zero, List.set_cons_succ]
    refine wpAnyH_take (i := 24) (v := ?v24a) rfl (by kernel_rfl) (by kernel_rfl) (by kernel_rfl) (fun _ _ _ h => h) (Or.inl ⟨by rfl, ?hy24a⟩) hHeld ?rest24a
    case hy24a => (intro W hSw; (try dsimp only at hSw); have k1 := cell_fr hSw He.out (fun h => h); have s1 := conv_str vc1 (HP1.out.keep hSw (fun _ _ h => h)); have s2 := conv_str vc2 (HP2.out.keep hSw (fun _ _ h => h)); have s3 := conv_str vc3 (HP3.out.keep hSw (fun _ _ h => h)); have s4 := conv_str vc4 (HP4.out.keep hSw (fun _ _ h => h)); go_simp; all_goals (with_reducible rfl))
    change wpAnyH _ _ _ _ _ _ _ (Act.put _ (some 89) _) _
    simp only [Act.put, List.setIfInBounds_toArray, List.set_cons_zero, List.set_cons_succ]
    refine wpAnyH_take (i := 25) (v := ?v25a) rfl (by kernel_rfl) (by kernel_rfl) (by kernel_rfl) (fun _ _ _ h => h) (Or.inl ⟨by rfl, ?hy25a⟩) hHeld ?rest25a
    case hy25a => (intro W hSw; (try dsimp only at hSw); have k1 := cell_fr hSw He.out (fun h => h); have s1 := conv_str vc1 (HP1.out.keep hSw (fun _ _ h => h)); have s2 := conv_str vc2 (HP2.out.keep hSw (fun _ _ h => h)); have s3 := conv_str vc3 (HP3.out.keep hSw (fun _ _ h => h)); have s4 := conv_str vc4 (HP4.out.keep hSw (fun _ _ h => h)); go_simp; all_goals (with_reducible rfl))
    change wpAnyH _ _ _ _ _ _ _ (Act.put _ (some 90) _) _
    simp only [Act.put, List.setIfInBounds_toArray, List.set_cons_zero, List.set_cons_succ]
    refine wpAnyH_take (i := 28) (v := ?v28a) rfl (by kernel_rfl) (by kernel_rfl) (by kernel_rfl) (fun _ _ _ h => h) (Or.inl ⟨by rfl, ?hy28a⟩) hHeld ?rest28a
    case hy28a => (intro W hSw; (try dsimp only at hSw); have k1 := cell_fr hSw He.out (fun h => h); have s1 := conv_str vc1 (HP1.out.keep hSw (fun _ _ h => h)); have s2 := conv_str vc2 (HP2.out.keep hSw (fun _ _ h => h)); have s3 := conv_str vc3 (HP3.out.keep hSw (fun _ _ h => h)); have s4 := conv_str vc4 (HP4.out.keep hSw (fun _ _ h => h)); go_simp; all_goals (with_reducible rfl))
    change wpAnyH _ _ _ _ _ _ _ (Act.put _ (some 93) _) _
    simp only [Act.put, List.setIfInBounds_toArray, List.set_cons_zero, List.set_cons_succ]
    refine wpAnyH_take (i := 29) (v := ?v29a) rfl (by kernel_rfl) (by kernel_rfl) (by kernel_rfl) (fun _ _ _ h => h) (Or.inl ⟨by rfl, ?hy29a⟩) hHeld ?rest29a
    case hy29a => (intro W hSw; (try dsimp only at hSw); have k1 := cell_fr hSw He.out (fun h => h); have s1 := conv_str vc1 (HP1.out.keep hSw (fun _ _ h => h)); have s2 := conv_str vc2 (HP2.out.keep hSw (fun _ _ h => h)); have s3 := conv_str vc3 (HP3.out.keep hSw (fun _ _ h => h)); have s4 := conv_str vc4 (HP4.out.keep hSw (fun _ _ h => h)); go_simp; all_goals (with_reducible rfl))
    change wpAnyH _ _ _ _ _ _ _ (Act.put _ (some 94) _) _
    simp only [Act.put, List.setIfInBounds_toArray, List.set_cons_zero, List.set_cons_succ]
    refine wpAnyH_take (i := 30) (v := ?v30a) rfl (by kernel_rfl) (by kernel_rfl) (by kernel_rfl) (fun _ _ _ h => h) (Or.inl ⟨by rfl, ?hy30a⟩) hHeld ?rest30a
    case hy30a => (intro W hSw; (try dsimp only at hSw); have k1 := cell_fr hSw He.out (fun h => h); have s1 := conv_str vc1 (HP1.out.keep hSw (fun _ _ h => h)); have s2 := conv_str vc2 (HP2.out.keep hSw (fun _ _ h => h)); have s3 := conv_str vc3 (HP3.out.keep hSw (fun _ _ h => h)); have s4 := conv_str vc4 (HP4.out.keep hSw (fun _ _ h => h)); go_simp; all_goals (with_reducible rfl))
    change wpAnyH _ _ _ _ _ _ _ (Act.put _ (some 95) _) _
    simp only [Act.put, List.setIfInBounds_toArray, List.set_cons_zero, List.set_cons_succ]
    refine wpAnyH_take (i := 26) (v := ?v26a) rfl (by kernel_rfl) (by kernel_rfl) (by kernel_rfl) (fun _ _ _ h => h) (Or.inl ⟨by rfl, ?hy26a⟩) hHeld ?rest26a
    case hy26a => (intro W hSw; (try dsimp only at hSw); have k1 := cell_fr hSw He.out (fun h => h); have s1 := conv_str vc1 (HP1.out.keep hSw (fun _ _ h => h)); have s2 := conv_str vc2 (HP2.out.keep hSw (fun _ _ h => h)); have s3 := conv_str vc3 (HP3.out.keep hSw (fun _ _ h => h)); have s4 := conv_str vc4 (HP4.out.keep hSw (fun _ _ h => h)); go_simp; all_goals (with_reducible rfl))
    change wpAnyH _ _ _ _ _ _ _ (Act.put _ (some 91) _) _
    simp only [Act.put, List.setIfInBounds_toArray, List.set_cons_zero, List.set_cons_succ]
    refine wpAnyH_take (i := 31) (v := ?v31a) rfl (by kernel_rfl) (by kernel_rfl) (by kernel_rfl) (fun _ _ _ h => h) (Or.inl ⟨by rfl, ?hy31a⟩) hHeld ?rest31a
    case hy31a => (intro W hSw; (try dsimp only at hSw); have k1 := cell_fr hSw He.out (fun h => h); have s1 := conv_str vc1 (HP1.out.keep hSw (fun _ _ h => h)); have s2 := conv_str vc2 (HP2.out.keep hSw (fun _ _ h => h)); have s3 := conv_str vc3 (HP3.out.keep hSw (fun _ _ h => h)); have s4 := conv_str vc4 (HP4.out.keep hSw (fun _ _ h => h)); go_simp; all_goals (with_reducible rfl))
    change wpAnyH _ _ _ _ _ _ _ (Act.put _ (some 96) _) _
    simp only [Act.put, List.setIfInBounds_toArray, List.set_cons_zero, List.set_cons_succ]
    refine wpAnyH_ready (rs := [27]) (by kernel_rfl) (by simp) ?_
    refine AllReadyH.cons rfl (fun K hK => ?_) AllReadyH.nil
    try simp only [List.getElem_toArray, List.getElem_cons_succ, List.getElem_cons_zero]
    go_simp
    refine (HY1.out _ hHeld).mono ?_
    rintro e v1 ⟨rfl, hV1⟩
    refine hK.out _ _ (hHeld.join hV1) (fun hHeld => ?_)
    clear hK K
    refine wpAnyH_ready (rs := [32]) (by kernel_rfl) (by simp) ?_
    refine AllReadyH.cons rfl (fun K hK => ?_) AllReadyH.nil
    try simp only [List.getElem_toArray, List.getElem_cons_succ, List.getElem_cons_zero]
    go_simp
    refine (HY2.out _ hHeld).mono ?_
    rintro e v2 ⟨rfl, hV2⟩
    refine hK.out _ _ (hHeld.join hV2) (fun hHeld => ?_)
    clear hK K
    refine wpAnyH_take (i := 33) (v := ?v33a) rfl (by kernel_rfl) (by kernel_rfl) (by kernel_rfl) (fun _ _ _ h => h) (Or.inl ⟨by rfl, ?hy33a⟩) hHeld ?rest33a
    case hy33a => (intro W hSw; (try dsimp only at hSw); have k1 := cell_fr hSw He.out (fun h => h); have s1 := conv_str vc1 (HP1.out.keep hSw (fun _ _ h => h)); have s2 := conv_str vc2 (HP2.out.keep hSw (fun _ _ h => h)); have s3 := conv_str vc3 (HP3.out.keep hSw (fun _ _ h => h)); have s4 := conv_str vc4 (HP4.out.keep hSw (fun _ _ h => h)); go_simp; all_goals (with_reducible rfl))
    change wpAnyH _ _ _ _ _ _ _ (Act.put _ (some 98) _) _
    simp only [Act.put, List.setIfInBounds_toArray, List.set_cons_zero, List.set_cons_succ]
    refine wpAnyH_take (i := 34) (v := ?v34a) rfl (by kernel_rfl) (by kernel_rfl) (by kernel_rfl) (fun _ _ _ h => h) (Or.inl ⟨by rfl, ?hy34a⟩) hHeld ?rest34a
    case hy34a => (intro W hSw; (try dsimp only at hSw); have k1 := cell_fr hSw He.out (fun h => h); have s1 := conv_str vc1 (HP1.out.keep hSw (fun _ _ h => h)); have s2 := conv_str vc2 (HP2.out.keep hSw (fun _ _ h => h)); have s3 := conv_str vc3 (HP3.out.keep hSw (fun _ _ h => h)); have s4 := conv_str vc4 (HP4.out.keep hSw (fun _ _ h => h)); go_simp; all_goals (with_reducible rfl))
    change wpAnyH _ _ _ _ _ _ _ (Act.put _ (some 99) _) _
    simp only [Act.put, List.setIfInBounds_toArray, List.set_cons_zero, List.set_cons_succ]
    refine wpAnyH_take (i := 35) (v := ?v35a) rfl (by kernel_rfl) (by kernel_rfl) (by kernel_rfl) (fun _ _ _ h => h) (Or.inl ⟨by rfl, ?hy35a⟩) hHeld ?rest35a
    case hy35a => (intro W hSw; (try dsimp only at hSw); have k1 := cell_fr hSw He.out (fun h => h); have s1 := conv_str vc1 (HP1.out.keep hSw (fun _ _ h => h)); have s2 := conv_str vc2 (HP2.out.keep hSw (fun _ _ h => h)); have s3 := conv_str vc3 (HP3.out.keep hSw (fun _ _ h => h)); have s4 := conv_str vc4 (HP4.out.keep hSw (fun _ _ h => h)); go_simp; all_goals (with_reducible rfl))
    change wpAnyH _ _ _ _ _ _ _ (Act.put _ (some 6) _) _
    simp only [Act.put, List.setIfInBounds_toArray, List.set_cons_zero, List.set_cons_succ]
    refine wpAnyH_done (by kernel_rfl) ?_ _
    go_wp2
    go_ret
    exact ⟨rfl, HF5.out.join hHeld⟩
  · have hz : (3000 : Int) < (xs.length : Int) ∧ True ∨ ¬ ((3000 : Int) < (xs.length : Int)) ∧ (3000 : Int) < (ys.length : Int) := by
      by_cases h : 3000 < xs.length
      · exact .inl ⟨by omega, trivial⟩
      · exact .inr ⟨by omega, by omega⟩
    clear hfew
    rcases hz with ⟨z1, z2⟩ | ⟨z1, z2⟩
    all_goals
      go_enter Try.func3, Try.ntmps3
      go_wp2_with fail
      refine (awake_c _).mono ?_
      rintro e w1 ⟨rfl, hf1⟩
      have HF1 := hide (HF0.out.join hf1)
      clear hf1 HF0 HB0
      go_wp2
      go_ret
      exact ⟨rfl, HF1.out⟩
end Go.Proofs.Ytkafhjjdeldkbaa
