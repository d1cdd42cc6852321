/-
  lzw: LzwBlocks.
-/
import Derived.Test.YtdbgolklgiadeaaYo
namespace Go.Proofs.Ytdbgolklgiadeaa
open Go.RowKit

theorem blocks_bytes (bs : List Nat) (hb : ∀ b ∈ bs, b < 256) : ∀ b ∈ blocks bs, b < 256 := by
  have key : ∀ n (bs : List Nat), bs.length ≤ n → (∀ b ∈ bs, b < 256) → ∀ b ∈ blocks bs, b < 256 := by
    intro n
    induction n with
    | zero =>
      intro bs hn _ b hb
      have : bs = [] := List.eq_nil_of_length_eq_zero (by omega)
      subst this
      have e : blocks [] = [0] := rfl
      rw [e] at hb
      simp at hb
      omega
    | succ n ih =>
      intro bs hn hbs b hb
      by_cases hne : bs = []
      · subst hne
        have e : blocks [] = [0] := rfl
        rw [e] at hb
        simp at hb
        omega
      · have hp : 0 < bs.length := List.length_pos_iff.2 hne
        rw [blocks_cons bs hne _ rfl] at hb
        simp only [List.mem_cons, List.mem_append] at hb
        rcases hb with hb | hb | hb
        · omega
        · exact hbs b (List.mem_of_mem_take hb)
        · exact ih _ (by rw [List.length_drop]; omega) (fun x hx => hbs x (List.mem_of_mem_drop hx)) b hb
  exact key _ bs (Nat.le_refl _) hb

set_option maxHeartbeats 3200000 in
set_option maxRecDepth 100000 in
/-- LzwBlocks. -/
theorem blocksL_c (a : Option Addr) (n c : Nat) (bs : List Nat) (a' : Option Addr) (n' c' : Nat) (cs : List Nat) (w : World) (hn : n = bs.length) (h : Lies w (.slice a n c) bs) (hlt : ∀ b ∈ bs, b < 256) (hc : n ≤ c) (hn' : n' = cs.length) (h' : Lies w (.slice a' n' c') cs) (hlt' : ∀ b ∈ cs, b < 256) (hc' : n' ≤ c') :
    Calls Try.prog 7 #[.slice a n c, .slice a' n' c'] w fun e w' => e = .returned (.bool true) ∧ Fr (fun _ => False) w w' := by
  have HL := hide h
  have HL' := hide h'
  have Hlt := hide hlt
  have Hlt' := hide hlt'
  have Hn := hide hn
  have Hn' := hide hn'
  clear h h' hlt hlt' hn hn'
  go_enter Try.func7, Try.ntmps7
  go_wp2_with fail
  refine (awake_c w).mono ?_
  rintro e w0 ⟨rfl, hF0⟩
  have HF0 := hide hF0
  clear hF0
  by_cases hbig : 3000 < n
  · have hbi : (3000 : Int) < n := by omega
    go_wp2
    go_ret
    exact ⟨rfl, HF0.out⟩
  have hbi : ¬ (3000 : Int) < n := by omega
  by_cases hbig' : 3000 < n'
  · have hbi' : (3000 : Int) < n' := by omega
    go_wp2
    go_ret
    exact ⟨rfl, HF0.out⟩
  have hbi' : ¬ (3000 : Int) < n' := by omega
  have hln : bs.length ≤ 3000 := by have := Hn.out; omega
  have hln' : cs.length ≤ 3000 := by have := Hn'.out; omega
  have HB := hide (blocks_c a c bs w0 (by have h := lies_false HL.out HF0.out; rw [Hn.out] at h; exact h) Hlt.out (by omega) (by rw [← Hn.out]; exact hc))
  rw [← Hn.out] at HB
  go_wp2_with fail
  refine HB.out.mono ?_
  rintro e w1 ⟨ra, rc, rfl, hO1, hF1⟩
  obtain ⟨Z, hZ⟩ : ∃ Z, Z = blocks bs := ⟨_, rfl⟩
  have hZb : ∀ b ∈ Z, b < 256 := by rw [hZ]; exact blocks_bytes bs Hlt.out
  have hZl : Z.length ≤ 7000 := by have := blocks_len bs; rw [hZ]; omega
  rw [← hZ] at hO1 ⊢
  have HZe := hide hZ
  have HO1 := hide hO1
  have HF1 := hide (HF0.out.join hF1)
  have HZb := hide hZb
  clear hO1 hF1 hZ hZb HB
  have O2 : Hid (OwnB (w1.alloc (.cells #[] 5)) w1.heap.size (.slice (some ⟨w1.heap.size, 0, none⟩) 0 0) []) := World.ownsRow_made _ #[] 0 (Nat.le_refl _) (by unfold maxLen; omega) rfl
  have F2 : Hid (Fr (fun _ => False) w1 (w1.alloc (.cells #[] 5))) := Fr.of_alloc _ _
  have hs2 : Hid (w1.heap.size ≤ (w1.alloc (.cells #[] 5)).heap.size) := F2.out.size
  have HLz : Hid (Lies (w1.alloc (.cells #[] 5)) (.slice ra Z.length rc) Z) := lies_false (lies_ownB HO1.out) F2.out
  have hq1 : Hid (([] : List Nat).length + Z.length ≤ 2147483648) := by show _ ≤ _; simp; omega
  have hq2 : Hid (Z.length + cs.length ≤ 2147483648) := by show _ ≤ _; omega
  go_wp2_with (first
    | (at_builtin; refine wpList_app rfl (.tmp 28) (.tmp 29) rfl w1.heap.size (.slice (some ⟨w1.heap.size, 0, none⟩) 0 0) [] rfl O2.out (.slice ra Z.length rc) Z rfl HLz.out hq1.out hs2.out ?_; intro a3 c3 w3 hO3 hF3 _
       have HO3 := hide hO3
       have HF3 := hide (frJ F2.out hF3 fun j hj => by cases hj; exact Nat.le_refl _)
       have hO3b : Hid (OwnB w3 w1.heap.size (.slice a3 Z.length c3) Z) := by have h := hO3; rw [List.length_nil, Nat.zero_add, List.nil_append] at h; exact h
       have HL3 : Hid (Lies w3 (.slice a' n' c') cs) := lies_false HL'.out (HF1.out.join HF3.out)
       have hs3 : Hid (w1.heap.size ≤ w3.heap.size) := HF3.out.size
       clear hO3 hF3)
    | (at_builtin; go_must (refine wpList_app rfl (.tmp 30) (.tmp 31) rfl w1.heap.size (.slice a3 Z.length c3) Z rfl hO3b.out (.slice a' n' c') cs rfl HL3.out hq2.out hs3.out ?_); intro a4 c4 w4 hO4 hF4 _
       have HO4 := hide hO4
       have HF14 := hide (frJ HF3.out hF4 fun j hj => (World.ownsRow.lt hO3b.out j hj).1)
       have HF4 := hide (HF1.out.join HF14.out)
       clear hO4 hF4))
  obtain ⟨T, hT⟩ : ∃ T, T = Z ++ cs := ⟨_, rfl⟩
  have HO5 : Hid (OwnB w4 w1.heap.size (.slice a4 T.length c4) T) := by
    have h := HO4.out
    rw [← hT] at h
    have e : Z.length + cs.length = T.length := by rw [hT, List.length_append]
    rw [e] at h
    exact h
  have hTl : T.length ≤ 12000 := by rw [hT, List.length_append]; omega
  have hTb : ∀ b ∈ T, b < 256 := by
    intro b hb
    rw [hT] at hb
    rcases List.mem_append.1 hb with hb | hb
    · exact HZb.out b hb
    · exact Hlt'.out b hb
  have hTc : T.length ≤ c4 := own_capZ HO5.out
  have hTe : Z.length + cs.length = T.length := by rw [hT, List.length_append]
  have HU := hide (unblock_c a4 c4 T w4 (lies_ownB HO5.out) hTb (by omega) hTc)
  have hub : Ub T 0 [] (bs, Z.length, 0) := by
    have h := ub_blocks [] bs cs []
    rw [← HZe.out, List.nil_append, List.nil_append, ← hT] at h
    simpa using h
  have Hub := hide hub
  have HF4' := hide HF4.out
  clear hub hTb hTc HO4 HO5 hT hO3b O2 F2 hs2 HLz hq1 hq2 HF3 HL3 hs3 HO3
  refine (calls_args HU.out (by rw [hTe])).mono ?_
  rintro e w5 ⟨r, xa, xc, hr, rfl, hLx, hxb, hF5⟩
  obtain rfl := hr.det Hub.out
  have HLx := hide hLx
  have HF5 := hide (HF4.out.join hF5)
  have HF45 := hide hF5
  clear hr hLx hxb hF5 HU
  have HU2 := hide (unblock_c a' c' cs w5 (by have h := lies_false HL'.out HF5.out; rw [Hn'.out] at h; exact h) Hlt'.out (by omega) (by rw [← Hn'.out]; exact hc'))
  rw [← Hn'.out] at HU2
  go_wp2_with fail
  refine HU2.out.mono ?_
  rintro e w6 ⟨r2, ya, yc, hr2, rfl, hLy, hyb, hF6⟩
  have HF6 := hide (HF5.out.join hF6)
  have HF56 := hide hF6
  have HU3 := hide (runblock_c a' c' cs w6 (by have h := lies_false HL'.out HF6.out; rw [Hn'.out] at h; exact h) Hlt'.out (by omega) (by rw [← Hn'.out]; exact hc'))
  rw [← Hn'.out] at HU3
  have HLy := hide hLy
  have Hyb := hide hyb
  have Hr2 := hide hr2
  clear hr2 hLy hyb hF6 HU2
  obtain ⟨y1, y2, y3⟩ := r2
  obtain ⟨X, hX⟩ : ∃ X, X = y1.length := ⟨_, rfl⟩
  have HX := hide hX
  simp only at HLy Hyb ⊢
  rw [← hX] at HLy ⊢
  clear hX
  go_wp2_with fail
  refine HU3.out.mono ?_
  rintro e w7 ⟨r3, va, vc, hr3, rfl, hLv, hvb, hF7⟩
  obtain rfl := hr3.det Hr2.out
  have HF7 := hide (HF6.out.join hF7)
  have HF67 := hide hF7
  simp only at hLv ⊢
  rw [← HX.out] at hLv ⊢
  have HLv := hide hLv
  clear hr3 hLv hvb hF7 HU3
  have C5 : Hid (∀ W, Fr (fun _ => False) w7 W → (convert 22 9 (.slice ra Z.length rc)).run Try.prog W = .ok (.string (strOf Z)) W) := fun W f => str_lies (lies_false (lies_ownB HO1.out) (((HF14.out.join HF45.out).join (HF56.out.join HF67.out)).join f)) HZb.out
  have C6 : Hid (∀ W, Fr (fun _ => False) w7 W → (convert 22 9 (.slice xa bs.length xc)).run Try.prog W = .ok (.string (strOf bs)) W) := fun W f => str_lies (lies_false HLx.out ((HF56.out.join HF67.out).join f)) Hlt.out
  have C0 : Hid (∀ W, Fr (fun _ => False) w7 W → (convert 22 9 (.slice a n c)).run Try.prog W = .ok (.string (strOf bs)) W) := fun W f => str_lies (lies_false HL.out (HF7.out.join f)) Hlt.out
  have C9 : Hid (∀ W, Fr (fun _ => False) w7 W → (convert 22 9 (.slice ya X yc)).run Try.prog W = .ok (.string (strOf y1)) W) := fun W f => str_lies (lies_false HLy.out (HF67.out.join f)) Hyb.out
  have C12 : Hid (∀ W, Fr (fun _ => False) w7 W → (convert 22 9 (.slice va X vc)).run Try.prog W = .ok (.string (strOf y1)) W) := fun W f => str_lies (lies_false HLv.out f) Hyb.out
  have HRB : Hid (∀ W, Fr (fun _ => False) w7 W → Calls Try.prog 25 #[.slice a n c] W fun e w' => ∃ ba bc, e = .returned (.slice ba Z.length bc) ∧ OwnB w' W.heap.size (.slice ba Z.length bc) Z ∧ Fr (fun _ => False) W w') := fun W f => by
    rw [HZe.out, Hn.out]
    exact rblocks_c a c bs W (by have h := lies_false HL.out (HF7.out.join f); rw [Hn.out] at h; exact h) Hlt.out (by omega) (by rw [← Hn.out]; exact hc)
  go_upto_region 9 with fail
  refine wp_region_held_drew (S := fun w' => Fr (fun _ => False) w7 w') (by kernel_rfl) (by exact Fr.of_drewN w7 1) (fun hHeld => ?_)
  refine wpAnyH_take (i := 0) (v := ?v0) rfl (by kernel_rfl) (by kernel_rfl) (by kernel_rfl) (fun _ _ _ h => h) (Or.inl ⟨by rfl, ?hy0⟩) hHeld ?rest0
  case hy0 => (intro W hSw; (try dsimp only at hSw); have s5 := C5.out _ hSw; have s6 := C6.out _ hSw; have s0 := C0.out _ hSw; have s9 := C9.out _ hSw; have s12 := C12.out _ hSw; go_simp; all_goals (with_reducible rfl))
  change wpAnyH _ _ _ _ _ _ _ (Act.put _ (some 49) _) _
  simp only [Act.put, List.setIfInBounds_toArray, List.set_cons_zero, List.set_cons_succ]
  refine wpAnyH_take (i := 2) (v := ?v2) rfl (by kernel_rfl) (by kernel_rfl) (by kernel_rfl) (fun _ _ _ h => h) (Or.inl ⟨by rfl, ?hy2⟩) hHeld ?rest2
  case hy2 => (intro W hSw; (try dsimp only at hSw); have s5 := C5.out _ hSw; have s6 := C6.out _ hSw; have s0 := C0.out _ hSw; have s9 := C9.out _ hSw; have s12 := C12.out _ hSw; go_simp; all_goals (with_reducible rfl))
  change wpAnyH _ _ _ _ _ _ _ (Act.put _ (some 51) _) _
  simp only [Act.put, List.setIfInBounds_toArray, List.set_cons_zero, List.set_cons_succ]
  refine wpAnyH_take (i := 1) (v := ?v1) rfl (by kernel_rfl) (by kernel_rfl) (by kernel_rfl) (fun _ _ _ h => h) (Or.inl ⟨by rfl, ?hy1⟩) hHeld ?rest1
  case hy1 => (intro W hSw; (try dsimp only at hSw); have s5 := C5.out _ hSw; have s6 := C6.out _ hSw; have s0 := C0.out _ hSw; have s9 := C9.out _ hSw; have s12 := C12.out _ hSw; go_simp; all_goals (with_reducible rfl))
  change wpAnyH _ _ _ _ _ _ _ (Act.put _ (some 50) _) _
  simp only [Act.put, List.setIfInBounds_toArray, List.set_cons_zero, List.set_cons_succ]
  refine wpAnyH_ready (rs := [3]) (by kernel_rfl) (by simp) ?_
  refine AllReadyH.cons rfl (fun K hK => ?_) AllReadyH.nil
  try simp only [List.getElem_toArray, List.getElem_cons_succ, List.getElem_cons_zero]
  go_simp
  refine (HRB.out _ hHeld).mono ?_
  rintro e w8 ⟨ba, bc, rfl, hown, hF8⟩
  have s25 := str_lies (lies_ownB hown) HZb.out
  have hH8 := hHeld.join hF8
  clear hown hF8
  refine hK.out _ _ hH8 (fun hHeld => ?_)
  clear hK K
  refine wpAnyH_ready (rs := [4]) (by kernel_rfl) (by simp) ?_
  refine AllReadyH.cons rfl (fun K hK => ?_) AllReadyH.nil
  try simp only [List.getElem_toArray, List.getElem_cons_succ, List.getElem_cons_zero]
  go_simp
  refine hK.out _ _ hHeld (fun hHeld => ?_)
  clear hK K
  refine wpAnyH_take (i := 5) (v := ?v5) rfl (by kernel_rfl) (by kernel_rfl) (by kernel_rfl) (fun _ _ _ h => h) (Or.inl ⟨by rfl, ?hy5⟩) hHeld ?rest5
  case hy5 => (intro W hSw; (try dsimp only at hSw); have s5 := C5.out _ hSw; have s6 := C6.out _ hSw; have s0 := C0.out _ hSw; have s9 := C9.out _ hSw; have s12 := C12.out _ hSw; go_simp; all_goals (with_reducible rfl))
  change wpAnyH _ _ _ _ _ _ _ (Act.put _ (some 54) _) _
  simp only [Act.put, List.setIfInBounds_toArray, List.set_cons_zero, List.set_cons_succ]
  refine wpAnyH_take (i := 6) (v := ?v6) rfl (by kernel_rfl) (by kernel_rfl) (by kernel_rfl) (fun _ _ _ h => h) (Or.inl ⟨by rfl, ?hy6⟩) hHeld ?rest6
  case hy6 => (intro W hSw; (try dsimp only at hSw); have s5 := C5.out _ hSw; have s6 := C6.out _ hSw; have s0 := C0.out _ hSw; have s9 := C9.out _ hSw; have s12 := C12.out _ hSw; go_simp; all_goals (with_reducible rfl))
  change wpAnyH _ _ _ _ _ _ _ (Act.put _ (some 55) _) _
  simp only [Act.put, List.setIfInBounds_toArray, List.set_cons_zero, List.set_cons_succ]
  refine wpAnyH_take (i := 7) (v := ?v7) rfl (by kernel_rfl) (by kernel_rfl) (by kernel_rfl) (fun _ _ _ h => h) (Or.inl ⟨by rfl, ?hy7⟩) hHeld ?rest7
  case hy7 => (intro W hSw; (try dsimp only at hSw); have s5 := C5.out _ hSw; have s6 := C6.out _ hSw; have s0 := C0.out _ hSw; have s9 := C9.out _ hSw; have s12 := C12.out _ hSw; go_simp; all_goals (with_reducible rfl))
  change wpAnyH _ _ _ _ _ _ _ (Act.put _ (some 56) _) _
  simp only [Act.put, List.setIfInBounds_toArray, List.set_cons_zero, List.set_cons_succ]
  refine wpAnyH_take (i := 8) (v := ?v8) rfl (by kernel_rfl) (by kernel_rfl) (by kernel_rfl) (fun _ _ _ h => h) (Or.inl ⟨by rfl, ?hy8⟩) hHeld ?rest8
  case hy8 => (intro W hSw; (try dsimp only at hSw); have s5 := C5.out _ hSw; have s6 := C6.out _ hSw; have s0 := C0.out _ hSw; have s9 := C9.out _ hSw; have s12 := C12.out _ hSw; go_simp; all_goals (with_reducible rfl))
  change wpAnyH _ _ _ _ _ _ _ (Act.put _ (some 57) _) _
  simp only [Act.put, List.setIfInBounds_toArray, List.set_cons_zero, List.set_cons_succ]
  refine wpAnyH_take (i := 9) (v := ?v9) rfl (by kernel_rfl) (by kernel_rfl) (by kernel_rfl) (fun _ _ _ h => h) (Or.inl ⟨by rfl, ?hy9⟩) hHeld ?rest9
  case hy9 => (intro W hSw; (try dsimp only at hSw); have s5 := C5.out _ hSw; have s6 := C6.out _ hSw; have s0 := C0.out _ hSw; have s9 := C9.out _ hSw; have s12 := C12.out _ hSw; go_simp; all_goals (with_reducible rfl))
  change wpAnyH _ _ _ _ _ _ _ (Act.put _ (some 58) _) _
  simp only [Act.put, List.setIfInBounds_toArray, List.set_cons_zero, List.set_cons_succ]
  refine wpAnyH_take (i := 10) (v := ?v10) rfl (by kernel_rfl) (by kernel_rfl) (by kernel_rfl) (fun _ _ _ h => h) (Or.inl ⟨by rfl, ?hy10⟩) hHeld ?rest10
  case hy10 => (intro W hSw; (try dsimp only at hSw); have s5 := C5.out _ hSw; have s6 := C6.out _ hSw; have s0 := C0.out _ hSw; have s9 := C9.out _ hSw; have s12 := C12.out _ hSw; go_simp; all_goals (with_reducible rfl))
  change wpAnyH _ _ _ _ _ _ _ (Act.put _ (some 59) _) _
  simp only [Act.put, List.setIfInBounds_toArray, List.set_cons_zero, List.set_cons_succ]
  refine wpAnyH_take (i := 11) (v := ?v11) rfl (by kernel_rfl) (by kernel_rfl) (by kernel_rfl) (fun _ _ _ h => h) (Or.inl ⟨by rfl, ?hy11⟩) hHeld ?rest11
  case hy11 => (intro W hSw; (try dsimp only at hSw); have s5 := C5.out _ hSw; have s6 := C6.out _ hSw; have s0 := C0.out _ hSw; have s9 := C9.out _ hSw; have s12 := C12.out _ hSw; go_simp; all_goals (with_reducible rfl))
  change wpAnyH _ _ _ _ _ _ _ (Act.put _ (some 60) _) _
  simp only [Act.put, List.setIfInBounds_toArray, List.set_cons_zero, List.set_cons_succ]
  refine wpAnyH_take (i := 12) (v := ?v12) rfl (by kernel_rfl) (by kernel_rfl) (by kernel_rfl) (fun _ _ _ h => h) (Or.inl ⟨by rfl, ?hy12⟩) hHeld ?rest12
  case hy12 => (intro W hSw; (try dsimp only at hSw); have s5 := C5.out _ hSw; have s6 := C6.out _ hSw; have s0 := C0.out _ hSw; have s9 := C9.out _ hSw; have s12 := C12.out _ hSw; go_simp; all_goals (with_reducible rfl))
  change wpAnyH _ _ _ _ _ _ _ (Act.put _ (some 61) _) _
  simp only [Act.put, List.setIfInBounds_toArray, List.set_cons_zero, List.set_cons_succ]
  refine wpAnyH_take (i := 13) (v := ?v13) rfl (by kernel_rfl) (by kernel_rfl) (by kernel_rfl) (fun _ _ _ h => h) (Or.inl ⟨by rfl, ?hy13⟩) hHeld ?rest13
  case hy13 => (intro W hSw; (try dsimp only at hSw); have s5 := C5.out _ hSw; have s6 := C6.out _ hSw; have s0 := C0.out _ hSw; have s9 := C9.out _ hSw; have s12 := C12.out _ hSw; go_simp; all_goals (with_reducible rfl))
  change wpAnyH _ _ _ _ _ _ _ (Act.put _ (some 62) _) _
  simp only [Act.put, List.setIfInBounds_toArray, List.set_cons_zero, List.set_cons_succ]
  refine wpAnyH_take (i := 14) (v := ?v14) rfl (by kernel_rfl) (by kernel_rfl) (by kernel_rfl) (fun _ _ _ h => h) (Or.inl ⟨by rfl, ?hy14⟩) hHeld ?rest14
  case hy14 => (intro W hSw; (try dsimp only at hSw); have s5 := C5.out _ hSw; have s6 := C6.out _ hSw; have s0 := C0.out _ hSw; have s9 := C9.out _ hSw; have s12 := C12.out _ hSw; go_simp; all_goals (with_reducible rfl))
  change wpAnyH _ _ _ _ _ _ _ (Act.put _ (some 63) _) _
  simp only [Act.put, List.setIfInBounds_toArray, List.set_cons_zero, List.set_cons_succ]
  refine wpAnyH_take (i := 15) (v := ?v15) rfl (by kernel_rfl) (by kernel_rfl) (by kernel_rfl) (fun _ _ _ h => h) (Or.inl ⟨by rfl, ?hy15⟩) hHeld ?rest15
  case hy15 => (intro W hSw; (try dsimp only at hSw); have s5 := C5.out _ hSw; have s6 := C6.out _ hSw; have s0 := C0.out _ hSw; have s9 := C9.out _ hSw; have s12 := C12.out _ hSw; go_simp; all_goals (with_reducible rfl))
  change wpAnyH _ _ _ _ _ _ _ (Act.put _ (some 64) _) _
  simp only [Act.put, List.setIfInBounds_toArray, List.set_cons_zero, List.set_cons_succ]
  refine wpAnyH_take (i := 16) (v := ?v16) rfl (by kernel_rfl) (by kernel_rfl) (by kernel_rfl) (fun _ _ _ h => h) (Or.inl ⟨by rfl, ?hy16⟩) hHeld ?rest16
  case hy16 => (intro W hSw; (try dsimp only at hSw); have s5 := C5.out _ hSw; have s6 := C6.out _ hSw; have s0 := C0.out _ hSw; have s9 := C9.out _ hSw; have s12 := C12.out _ hSw; go_simp; all_goals (with_reducible rfl))
  change wpAnyH _ _ _ _ _ _ _ (Act.put _ (some 65) _) _
  simp only [Act.put, List.setIfInBounds_toArray, List.set_cons_zero, List.set_cons_succ]
  refine wpAnyH_take (i := 17) (v := ?v17) rfl (by kernel_rfl) (by kernel_rfl) (by kernel_rfl) (fun _ _ _ h => h) (Or.inl ⟨by rfl, ?hy17⟩) hHeld ?rest17
  case hy17 => (intro W hSw; (try dsimp only at hSw); have s5 := C5.out _ hSw; have s6 := C6.out _ hSw; have s0 := C0.out _ hSw; have s9 := C9.out _ hSw; have s12 := C12.out _ hSw; go_simp; all_goals (with_reducible rfl))
  change wpAnyH _ _ _ _ _ _ _ (Act.put _ (some 66) _) _
  simp only [Act.put, List.setIfInBounds_toArray, List.set_cons_zero, List.set_cons_succ]
  refine wpAnyH_take (i := 19) (v := ?v19) rfl (by kernel_rfl) (by kernel_rfl) (by kernel_rfl) (fun _ _ _ h => h) (Or.inl ⟨by rfl, ?hy19⟩) hHeld ?rest19
  case hy19 => (intro W hSw; (try dsimp only at hSw); have s5 := C5.out _ hSw; have s6 := C6.out _ hSw; have s0 := C0.out _ hSw; have s9 := C9.out _ hSw; have s12 := C12.out _ hSw; go_simp; all_goals (with_reducible rfl))
  change wpAnyH _ _ _ _ _ _ _ (Act.put _ (some 68) _) _
  simp only [Act.put, List.setIfInBounds_toArray, List.set_cons_zero, List.set_cons_succ]
  refine wpAnyH_take (i := 18) (v := ?v18) rfl (by kernel_rfl) (by kernel_rfl) (by kernel_rfl) (fun _ _ _ h => h) (Or.inl ⟨by rfl, ?hy18⟩) hHeld ?rest18
  case hy18 => (intro W hSw; (try dsimp only at hSw); have s5 := C5.out _ hSw; have s6 := C6.out _ hSw; have s0 := C0.out _ hSw; have s9 := C9.out _ hSw; have s12 := C12.out _ hSw; go_simp; all_goals (with_reducible rfl))
  change wpAnyH _ _ _ _ _ _ _ (Act.put _ (some 67) _) _
  simp only [Act.put, List.setIfInBounds_toArray, List.set_cons_zero, List.set_cons_succ]
  refine wpAnyH_take (i := 20) (v := ?v20) rfl (by kernel_rfl) (by kernel_rfl) (by kernel_rfl) (fun _ _ _ h => h) (Or.inl ⟨by rfl, ?hy20⟩) hHeld ?rest20
  case hy20 => (intro W hSw; (try dsimp only at hSw); have s5 := C5.out _ hSw; have s6 := C6.out _ hSw; have s0 := C0.out _ hSw; have s9 := C9.out _ hSw; have s12 := C12.out _ hSw; go_simp; all_goals (with_reducible rfl))
  change wpAnyH _ _ _ _ _ _ _ (Act.put _ (some 69) _) _
  simp only [Act.put, List.setIfInBounds_toArray, List.set_cons_zero, List.set_cons_succ]
  refine wpAnyH_take (i := 21) (v := ?v21) rfl (by kernel_rfl) (by kernel_rfl) (by kernel_rfl) (fun _ _ _ h => h) (Or.inl ⟨by rfl, ?hy21⟩) hHeld ?rest21
  case hy21 => (intro W hSw; (try dsimp only at hSw); have s5 := C5.out _ hSw; have s6 := C6.out _ hSw; have s0 := C0.out _ hSw; have s9 := C9.out _ hSw; have s12 := C12.out _ hSw; go_simp; all_goals (with_reducible rfl))
  change wpAnyH _ _ _ _ _ _ _ (Act.put _ (some 70) _) _
  simp only [Act.put, List.setIfInBounds_toArray, List.set_cons_zero, List.set_cons_succ]
  refine wpAnyH_take (i := 22) (v := ?v22) rfl (by kernel_rfl) (by kernel_rfl) (by kernel_rfl) (fun _ _ _ h => h) (Or.inl ⟨by rfl, ?hy22⟩) hHeld ?rest22
  case hy22 => (intro W hSw; (try dsimp only at hSw); have s5 := C5.out _ hSw; have s6 := C6.out _ hSw; have s0 := C0.out _ hSw; have s9 := C9.out _ hSw; have s12 := C12.out _ hSw; go_simp; all_goals (with_reducible rfl))
  change wpAnyH _ _ _ _ _ _ _ (Act.put _ (some 71) _) _
  simp only [Act.put, List.setIfInBounds_toArray, List.set_cons_zero, List.set_cons_succ]
  refine wpAnyH_take (i := 23) (v := ?v23) rfl (by kernel_rfl) (by kernel_rfl) (by kernel_rfl) (fun _ _ _ h => h) (Or.inl ⟨by rfl, ?hy23⟩) hHeld ?rest23
  case hy23 => (intro W hSw; (try dsimp only at hSw); have s5 := C5.out _ hSw; have s6 := C6.out _ hSw; have s0 := C0.out _ hSw; have s9 := C9.out _ hSw; have s12 := C12.out _ hSw; go_simp; all_goals (with_reducible rfl))
  change wpAnyH _ _ _ _ _ _ _ (Act.put _ (some 72) _) _
  simp only [Act.put, List.setIfInBounds_toArray, List.set_cons_zero, List.set_cons_succ]
  refine wpAnyH_take (i := 24) (v := ?v24) rfl (by kernel_rfl) (by kernel_rfl) (by kernel_rfl) (fun _ _ _ h => h) (Or.inl ⟨by rfl, ?hy24⟩) hHeld ?rest24
  case hy24 => (intro W hSw; (try dsimp only at hSw); have s5 := C5.out _ hSw; have s6 := C6.out _ hSw; have s0 := C0.out _ hSw; have s9 := C9.out _ hSw; have s12 := C12.out _ hSw; go_simp; all_goals (with_reducible rfl))
  change wpAnyH _ _ _ _ _ _ _ (Act.put _ (some 73) _) _
  simp only [Act.put, List.setIfInBounds_toArray, List.set_cons_zero, List.set_cons_succ]
  refine wpAnyH_take (i := 26) (v := ?v26) rfl (by kernel_rfl) (by kernel_rfl) (by kernel_rfl) (fun _ _ _ h => h) (Or.inl ⟨by rfl, ?hy26⟩) hHeld ?rest26
  case hy26 => (intro W hSw; (try dsimp only at hSw); have s5 := C5.out _ hSw; have s6 := C6.out _ hSw; have s0 := C0.out _ hSw; have s9 := C9.out _ hSw; have s12 := C12.out _ hSw; go_simp; all_goals (with_reducible rfl))
  change wpAnyH _ _ _ _ _ _ _ (Act.put _ (some 75) _) _
  simp only [Act.put, List.setIfInBounds_toArray, List.set_cons_zero, List.set_cons_succ]
  refine wpAnyH_take (i := 25) (v := ?v25) rfl (by kernel_rfl) (by kernel_rfl) (by kernel_rfl) (fun _ _ _ h => h) (Or.inl ⟨by rfl, ?hy25⟩) hHeld ?rest25
  case hy25 => (intro W hSw; (try dsimp only at hSw); have s5 := C5.out _ hSw; have s6 := C6.out _ hSw; have s0 := C0.out _ hSw; have s9 := C9.out _ hSw; have s12 := C12.out _ hSw; go_simp; all_goals (with_reducible rfl))
  change wpAnyH _ _ _ _ _ _ _ (Act.put _ (some 74) _) _
  simp only [Act.put, List.setIfInBounds_toArray, List.set_cons_zero, List.set_cons_succ]
  refine wpAnyH_take (i := 27) (v := ?v27) rfl (by kernel_rfl) (by kernel_rfl) (by kernel_rfl) (fun _ _ _ h => h) (Or.inl ⟨by rfl, ?hy27⟩) hHeld ?rest27
  case hy27 => (intro W hSw; (try dsimp only at hSw); have s5 := C5.out _ hSw; have s6 := C6.out _ hSw; have s0 := C0.out _ hSw; have s9 := C9.out _ hSw; have s12 := C12.out _ hSw; go_simp; all_goals (with_reducible rfl))
  change wpAnyH _ _ _ _ _ _ _ (Act.put _ (some 76) _) _
  simp only [Act.put, List.setIfInBounds_toArray, List.set_cons_zero, List.set_cons_succ]
  refine wpAnyH_take (i := 28) (v := ?v28) rfl (by kernel_rfl) (by kernel_rfl) (by kernel_rfl) (fun _ _ _ h => h) (Or.inl ⟨by rfl, ?hy28⟩) hHeld ?rest28
  case hy28 => (intro W hSw; (try dsimp only at hSw); have s5 := C5.out _ hSw; have s6 := C6.out _ hSw; have s0 := C0.out _ hSw; have s9 := C9.out _ hSw; have s12 := C12.out _ hSw; go_simp; all_goals (with_reducible rfl))
  change wpAnyH _ _ _ _ _ _ _ (Act.put _ (some 77) _) _
  simp only [Act.put, List.setIfInBounds_toArray, List.set_cons_zero, List.set_cons_succ]
  refine wpAnyH_take (i := 29) (v := ?v29) rfl (by kernel_rfl) (by kernel_rfl) (by kernel_rfl) (fun _ _ _ h => h) (Or.inl ⟨by rfl, ?hy29⟩) hHeld ?rest29
  case hy29 => (intro W hSw; (try dsimp only at hSw); have s5 := C5.out _ hSw; have s6 := C6.out _ hSw; have s0 := C0.out _ hSw; have s9 := C9.out _ hSw; have s12 := C12.out _ hSw; go_simp; all_goals (with_reducible rfl))
  change wpAnyH _ _ _ _ _ _ _ (Act.put _ (some 78) _) _
  simp only [Act.put, List.setIfInBounds_toArray, List.set_cons_zero, List.set_cons_succ]
  refine wpAnyH_take (i := 30) (v := ?v30) rfl (by kernel_rfl) (by kernel_rfl) (by kernel_rfl) (fun _ _ _ h => h) (Or.inl ⟨by rfl, ?hy30⟩) hHeld ?rest30
  case hy30 => (intro W hSw; (try dsimp only at hSw); have s5 := C5.out _ hSw; have s6 := C6.out _ hSw; have s0 := C0.out _ hSw; have s9 := C9.out _ hSw; have s12 := C12.out _ hSw; go_simp; all_goals (with_reducible rfl))
  change wpAnyH _ _ _ _ _ _ _ (Act.put _ (some 79) _) _
  simp only [Act.put, List.setIfInBounds_toArray, List.set_cons_zero, List.set_cons_succ]
  refine wpAnyH_take (i := 31) (v := ?v31) rfl (by kernel_rfl) (by kernel_rfl) (by kernel_rfl) (fun _ _ _ h => h) (Or.inl ⟨by rfl, ?hy31⟩) hHeld ?rest31
  case hy31 => (intro W hSw; (try dsimp only at hSw); have s5 := C5.out _ hSw; have s6 := C6.out _ hSw; have s0 := C0.out _ hSw; have s9 := C9.out _ hSw; have s12 := C12.out _ hSw; go_simp; all_goals (with_reducible rfl))
  change wpAnyH _ _ _ _ _ _ _ (Act.put _ (some 80) _) _
  simp only [Act.put, List.setIfInBounds_toArray, List.set_cons_zero, List.set_cons_succ]
  refine wpAnyH_take (i := 32) (v := ?v32) rfl (by kernel_rfl) (by kernel_rfl) (by kernel_rfl) (fun _ _ _ h => h) (Or.inl ⟨by rfl, ?hy32⟩) hHeld ?rest32
  case hy32 => (intro W hSw; (try dsimp only at hSw); have s5 := C5.out _ hSw; have s6 := C6.out _ hSw; have s0 := C0.out _ hSw; have s9 := C9.out _ hSw; have s12 := C12.out _ hSw; go_simp; all_goals (with_reducible rfl))
  change wpAnyH _ _ _ _ _ _ _ (Act.put _ (some 81) _) _
  simp only [Act.put, List.setIfInBounds_toArray, List.set_cons_zero, List.set_cons_succ]
  refine wpAnyH_take (i := 33) (v := ?v33) rfl (by kernel_rfl) (by kernel_rfl) (by kernel_rfl) (fun _ _ _ h => h) (Or.inl ⟨by rfl, ?hy33⟩) hHeld ?rest33
  case hy33 => (intro W hSw; (try dsimp only at hSw); have s5 := C5.out _ hSw; have s6 := C6.out _ hSw; have s0 := C0.out _ hSw; have s9 := C9.out _ hSw; have s12 := C12.out _ hSw; go_simp; all_goals (with_reducible rfl))
  change wpAnyH _ _ _ _ _ _ _ (Act.put _ (some 82) _) _
  simp only [Act.put, List.setIfInBounds_toArray, List.set_cons_zero, List.set_cons_succ]
  refine wpAnyH_take (i := 34) (v := ?v34) rfl (by kernel_rfl) (by kernel_rfl) (by kernel_rfl) (fun _ _ _ h => h) (Or.inl ⟨by rfl, ?hy34⟩) hHeld ?rest34
  case hy34 => (intro W hSw; (try dsimp only at hSw); have s5 := C5.out _ hSw; have s6 := C6.out _ hSw; have s0 := C0.out _ hSw; have s9 := C9.out _ hSw; have s12 := C12.out _ hSw; go_simp; all_goals (with_reducible rfl))
  change wpAnyH _ _ _ _ _ _ _ (Act.put _ (some 83) _) _
  simp only [Act.put, List.setIfInBounds_toArray, List.set_cons_zero, List.set_cons_succ]
  refine wpAnyH_take (i := 35) (v := ?v35) rfl (by kernel_rfl) (by kernel_rfl) (by kernel_rfl) (fun _ _ _ h => h) (Or.inl ⟨by rfl, ?hy35⟩) hHeld ?rest35
  case hy35 => (intro W hSw; (try dsimp only at hSw); have s5 := C5.out _ hSw; have s6 := C6.out _ hSw; have s0 := C0.out _ hSw; have s9 := C9.out _ hSw; have s12 := C12.out _ hSw; go_simp; all_goals (with_reducible rfl))
  change wpAnyH _ _ _ _ _ _ _ (Act.put _ (some 84) _) _
  simp only [Act.put, List.setIfInBounds_toArray, List.set_cons_zero, List.set_cons_succ]
  refine wpAnyH_take (i := 36) (v := ?v36) rfl (by kernel_rfl) (by kernel_rfl) (by kernel_rfl) (fun _ _ _ h => h) (Or.inl ⟨by rfl, ?hy36⟩) hHeld ?rest36
  case hy36 => (intro W hSw; (try dsimp only at hSw); have s5 := C5.out _ hSw; have s6 := C6.out _ hSw; have s0 := C0.out _ hSw; have s9 := C9.out _ hSw; have s12 := C12.out _ hSw; go_simp; all_goals (with_reducible rfl))
  change wpAnyH _ _ _ _ _ _ _ (Act.put _ (some 85) _) _
  simp only [Act.put, List.setIfInBounds_toArray, List.set_cons_zero, List.set_cons_succ]
  refine wpAnyH_take (i := 37) (v := ?v37) rfl (by kernel_rfl) (by kernel_rfl) (by kernel_rfl) (fun _ _ _ h => h) (Or.inl ⟨by rfl, ?hy37⟩) hHeld ?rest37
  case hy37 => (intro W hSw; (try dsimp only at hSw); have s5 := C5.out _ hSw; have s6 := C6.out _ hSw; have s0 := C0.out _ hSw; have s9 := C9.out _ hSw; have s12 := C12.out _ hSw; go_simp; all_goals (with_reducible rfl))
  change wpAnyH _ _ _ _ _ _ _ (Act.put _ (some 86) _) _
  simp only [Act.put, List.setIfInBounds_toArray, List.set_cons_zero, List.set_cons_succ]
  refine wpAnyH_take (i := 38) (v := ?v38) rfl (by kernel_rfl) (by kernel_rfl) (by kernel_rfl) (fun _ _ _ h => h) (Or.inl ⟨by rfl, ?hy38⟩) hHeld ?rest38
  case hy38 => (intro W hSw; (try dsimp only at hSw); have s5 := C5.out _ hSw; have s6 := C6.out _ hSw; have s0 := C0.out _ hSw; have s9 := C9.out _ hSw; have s12 := C12.out _ hSw; go_simp; all_goals (with_reducible rfl))
  change wpAnyH _ _ _ _ _ _ _ (Act.put _ (some 87) _) _
  simp only [Act.put, List.setIfInBounds_toArray, List.set_cons_zero, List.set_cons_succ]
  refine wpAnyH_take (i := 39) (v := ?v39) rfl (by kernel_rfl) (by kernel_rfl) (by kernel_rfl) (fun _ _ _ h => h) (Or.inl ⟨by rfl, ?hy39⟩) hHeld ?rest39
  case hy39 => (intro W hSw; (try dsimp only at hSw); have s5 := C5.out _ hSw; have s6 := C6.out _ hSw; have s0 := C0.out _ hSw; have s9 := C9.out _ hSw; have s12 := C12.out _ hSw; go_simp; all_goals (with_reducible rfl))
  change wpAnyH _ _ _ _ _ _ _ (Act.put _ (some 88) _) _
  simp only [Act.put, List.setIfInBounds_toArray, List.set_cons_zero, List.set_cons_succ]
  refine wpAnyH_take (i := 40) (v := ?v40) rfl (by kernel_rfl) (by kernel_rfl) (by kernel_rfl) (fun _ _ _ h => h) (Or.inl ⟨by rfl, ?hy40⟩) hHeld ?rest40
  case hy40 => (intro W hSw; (try dsimp only at hSw); have s5 := C5.out _ hSw; have s6 := C6.out _ hSw; have s0 := C0.out _ hSw; have s9 := C9.out _ hSw; have s12 := C12.out _ hSw; go_simp; all_goals (with_reducible rfl))
  change wpAnyH _ _ _ _ _ _ _ (Act.put _ (some 4) _) _
  simp only [Act.put, List.setIfInBounds_toArray, List.set_cons_zero, List.set_cons_succ]
  refine wpAnyH_done (by kernel_rfl) ?_ _
  go_wp2
  go_ret
  exact ⟨rfl, HF7.out.join hHeld⟩
end Go.Proofs.Ytdbgolklgiadeaa
