/-
  chunk: the document's Join.
-/
import Derived.Test.YtflapcaaaipoeaaCr
import Derived.Deep.RegionHeld3
namespace Go.Proofs.Ytflapcaaaipoeaa
open Go.RowKit Go.Lib
set_option linter.unusedVariables false

theorem Fr.drew1 (S : Nat → Prop) (w : World) : Fr S w w.drew := (Fr.of_drewN w 1).mono fun _ _ h => h.elim

theorem pl_length2 {l : List Ck} : ∀ k, k ≤ l.length → (l.take k).all (fun c => kindB c.1) = true → (pl l k).length = sizeL (l.take k)
  | 0, _, _ => by simp [pl, sizeL, sigL]
  | k + 1, hk, h => by
    rw [kinds_snoc l k (by omega), Bool.and_eq_true] at h
    rw [pl_snoc l k (by omega), List.length_append, pl_length2 k (by omega) h.1, encL_length h.2, size_snoc l k (by omega)]

set_option maxHeartbeats 3200000 in
set_option maxRecDepth 20000 in
theorem rjoin_c (a : Option Addr) (c : Nat) (l : List Ck) (w : World) (hl : LiesC w a l) (hlen : l.length ≤ 281474976710656) :
    Calls Try.prog 15 #[.slice a l.length c] w fun e w' => JoinOut l w.heap.size e w' ∧ Fr (fun _ => False) w w' := by
  have Hl := hide hl
  have hsig := fun W : World => (show Calls Try.prog 23 #[] W fun e w' => e = .returned (.string ⟨#[137, 80, 78, 71, 13, 10, 26, 10]⟩) ∧ W = w' from by
    go_enter Try.func23, Try.ntmps23
    go_wp2
    go_ret
    exact ⟨rfl, rfl⟩)
  obtain ⟨c1, w1, hcv, hf1, ho1⟩ := convB w ⟨#[137, 80, 78, 71, 13, 10, 26, 10]⟩ (by decide)
  have hsg : strBytes ⟨#[137, 80, 78, 71, 13, 10, 26, 10]⟩ = pl l 0 := by rfl
  rw [hsg] at ho1 hcv
  have HO1 := hide ho1
  have HF1 := hide hf1
  have h08 : Hid ((pl l 0).length ≤ 600000) := by show _ ≤ _; rw [show (pl l 0).length = 8 from rfl]; decide
  clear hl hsg ho1 hf1
  go_enter Try.func15, Try.ntmps15
  go_wp2_with (go_at_call 23; refine (hsig _).mono ?_; rintro e w' ⟨rfl, rfl⟩)
  go_loopw [4, 5, 6] (fun ov bv iv wr => ∃ (k : Nat) (b : Bool) (va : Option Addr) (vc : Nat) (bs : List Nat), k ≤ l.length ∧ iv = .int .i64 k ∧ bv = .bool b ∧ ov = .slice va bs.length vc ∧ OwnB wr w.heap.size (.slice va bs.length vc) bs ∧ bs.length ≤ 600000 ∧ Fr (fun _ => False) w wr ∧ Hid ((l.take k).all (fun c => kindB c.1) = true) ∧ Hid (b = false → bs = pl l k) ∧ Hid (b = true → 262144 < sizeL l)) (fun _ _ iv _ => l.length - (intOf iv).toNat)
  case atStart => exact ⟨0, false, _, c1, pl l 0, by omega, rfl, rfl, rfl, HO1.out, h08.out, HF1.out, rfl, fun _ => rfl, fun h => by cases h⟩
  case round =>
    clear HO1 HF1 h08 hcv
    obtain ⟨k, b, va, vc, bs, hkl, rfl, rfl, rfl, ho, hbs, hf, HKs, HPL, HLG⟩ := hrel
    by_cases hlt : k < l.length
    · obtain ⟨bb, o, d, cap, rfl, hck⟩ := Hl.out k hlt
      have h0 : (0 : Int) ≤ (k : Int) := by omega
      have h1 : (k : Int) < (l.length : Int) := by omega
      have hw1 := hck.kind
      have hw2 := hck.data
      have hc1 := cell_fr hf hck.kind (fun h => h)
      have hc2 := cell_fr hf hck.data (fun h => h)
      have hlet := letters_c (l.getD k default).1
      have hks : (l.getD k default).1.size ≤ maxLen := by have := hck.size; unfold maxLen; omega
      have HSN := hide (kinds_snoc l k hlt)
      have HKF := hide (@kinds_false l (k + 1))
      have HPS := hide (pl_snoc l k hlt)
      have HSZ := hide (size_snoc l k hlt)
      have HSL := hide (size_le l (k + 1))
      have HSK := hide (size_le l k)
      have HPK := hide (pl_length2 k hkl HKs.out)
      have HL := hide hck.lies
      have Hnil := hide hck.nil
      have hnl := hck.len
      have HO := hide ho
      have HF := hide hf
      clear hck ho hf
      generalize l.getD k default = q at *
      obtain ⟨kd, ds⟩ := q
      simp only [] at hc1 hc2 hw1 hw2 hnl
      obtain ⟨n, hn⟩ : ∃ n, ds.length = n := ⟨_, rfl⟩
      have Hn := hide hn
      rw [hn] at hc2 hw2 hnl
      clear hn
      cases hkb : kindB kd
      · have HN : Hid (joinV l = .error 1) := by
          have h1 := HKF.out (by rw [HSN.out, hkb, Bool.and_false])
          show _ = _; unfold joinV; rw [if_pos h1]
        rw [hkb] at hlet
        clear hkb
        go_wp2_with (go_at_call 24; refine (hlet _ hks).mono ?_; rintro e w' ⟨rfl, rfl⟩)
        go_ret2
        refine ⟨?_, HF.out⟩
        unfold JoinOut
        rw [HN.out]
        rfl
      · have HK1 : Hid ((l.take (k + 1)).all (fun c => kindB c.1) = true) := by show _ = _; rw [HSN.out, HKs.out, hkb]; rfl
        rw [hkb] at hlet
        have hkz := kind_size hkb
        clear hkb
        cases b
        · obtain rfl := HPL.out rfl
          by_cases hA : 262144 < n
          · have d1 : decide ((262144 : Int) < (n : Int)) = true := by simp; omega
            have HLt : Hid (262144 < sizeL l) := by have h1 := HSZ.out; have h2 := HSL.out; have h3 := Hn.out; show _ < _; simp only [] at h1; omega
            clear hA
            go_wp2_with (go_at_call 24; refine (hlet _ hks).mono ?_; rintro e w' ⟨rfl, rfl⟩)
            go_roundw
            case rel => exact ⟨k + 1, true, va, vc, pl l k, hlt, by go_num, rfl, rfl, HO.out, hbs, HF.out, HK1, fun h => (by cases h), fun _ => HLt.out⟩
            case measure => simp [intOf]; omega
          · have d1 : decide ((262144 : Int) < (n : Int)) = false := by simp; omega
            by_cases hB : 262144 < (pl l k).length
            · have d2 : decide ((262144 : Int) < ((pl l k).length : Int)) = true := by simp; omega
              have HLt : Hid (262144 < sizeL l) := by have h1 := HSK.out; have h2 := HPK.out; show _ < _; omega
              clear hA hB
              go_wp2_with (go_at_call 24; refine (hlet _ hks).mono ?_; rintro e w' ⟨rfl, rfl⟩)
              go_roundw
              case rel => exact ⟨k + 1, true, va, vc, pl l k, hlt, by go_num, rfl, rfl, HO.out, hbs, HF.out, HK1, fun h => (by cases h), fun _ => HLt.out⟩
              case measure => simp [intOf]; omega
            · have d2 : decide ((262144 : Int) < ((pl l k).length : Int)) = false := by simp; omega
              have hbl : (pl l k).length ≤ 262144 := by omega
              have hnn : n ≤ 262144 := by omega
              clear hA hB
              go_upto_region 11 with (go_at_call 24; refine (hlet _ hks).mono ?_; rintro e w' ⟨rfl, rfl⟩)
              obtain ⟨e0, he0⟩ : ∃ e0, e0 = n / 16777216 % 256 := ⟨_, rfl⟩
              obtain ⟨e1, he1⟩ : ∃ e1, e1 = n / 65536 % 256 := ⟨_, rfl⟩
              obtain ⟨e2, he2⟩ : ∃ e2, e2 = n / 256 % 256 := ⟨_, rfl⟩
              obtain ⟨e3, he3⟩ : ∃ e3, e3 = n % 256 := ⟨_, rfl⟩
              have hw : wd4 n = [e0, e1, e2, e3] := by rw [he0, he1, he2, he3]; rfl
              have k0 : IntKind.u8.wrap ((n : Int) / 16777216) = (e0 : Int) := by rw [IntKind.wrap_u8']; omega
              have k1 : IntKind.u8.wrap ((n : Int) / 65536) = (e1 : Int) := by rw [IntKind.wrap_u8']; omega
              have k2 : IntKind.u8.wrap ((n : Int) / 256) = (e2 : Int) := by rw [IntKind.wrap_u8']; omega
              have k3 : IntKind.u8.wrap (n : Int) = (e3 : Int) := by rw [IntKind.wrap_u8']; omega
              have hla := word_alloc wr e0 e1 e2 e3 (by omega) (by omega) (by omega) (by omega)
              have HO1 := hide (HO.out.keep (Fr.of_alloc wr (.cells #[.int .u8 e0, .int .u8 e1, .int .u8 e2, .int .u8 e3] 5)) (fun _ _ h => h))
              have HF1 := hide (HF.out.join (Fr.of_alloc wr (.cells #[.int .u8 e0, .int .u8 e1, .int .u8 e2, .int .u8 e3] 5)))
              have HLA := hide hla
              have HW := hide hw
              have h63 : Hid ((pl l k).length + [e0, e1, e2, e3].length ≤ 140737488355328) := by show _ ≤ _; simp only [List.length_cons, List.length_nil]; omega
              have hbs2 : Hid (w.heap.size ≤ (wr.alloc (.cells #[.int .u8 e0, .int .u8 e1, .int .u8 e2, .int .u8 e3] 5)).heap.size) := HF1.out.size
              clear he0 he1 he2 he3 hla hw
              go_upto_region 12 with (at_builtin; go_must (refine wpList_appBn rfl _ _ rfl w.heap.size _ (pl l k) rfl HO1.out (some ⟨wr.heap.size, 0, none⟩) 4 4 [e0, e1, e2, e3] rfl rfl HLA.out (fun h => by cases h) h63.out hbs2.out ?_); intro v5 w5 ho5 hf5)
              rw [← HW.out] at ho5
              have HF5 := hide (fr_own HF1.out HO1.out (Nat.le_refl _) hf5)
              have HO5 := hide ho5
              clear k0 k1 k2 k3 h63 hbs2 HLA HW HO1 HF1 ho5 hf5 hlet
              have HF6 := hide (HF5.out.join (Fr.drew1 _ w5))
              have HO6 := hide (HO5.out.keep (Fr.drew1 (fun _ => False) w5) (fun _ _ h => h))
              have hb6 : Hid (w.heap.size ≤ w5.drew.heap.size) := HF6.out.size
              have h63 : Hid ((pl l k ++ wd4 n).length + kd.size ≤ 140737488355328) := by show _ ≤ _; rw [List.length_append]; simp only [wd4, List.length_cons, List.length_nil]; omega
              have h64 : Hid ((pl l k ++ wd4 n ++ strBytes kd).length + ds.length ≤ 140737488355328) := by show _ ≤ _; rw [Hn.out, List.length_append, List.length_append, strBytes_length]; simp only [wd4, List.length_cons, List.length_nil]; omega
              refine wp_region_held_drew (S := fun W' => Fr (fun _ => False) w W') (by kernel_rfl) (by exact HF5.out.join (Fr.drew1 _ w5)) (fun hHeld => ?_)
              refine wpAnyH_take (i := 0) (v := ?v0) rfl (by kernel_rfl) (by kernel_rfl) (by kernel_rfl) (fun _ _ _ h => h) (Or.inl ⟨by rfl, ?hy0⟩) hHeld ?rest0
              case hy0 => (intro W hSw; (try dsimp only at hSw); have z1 := cell_fr hSw hw1 (fun h => h); have z2 := cell_fr hSw hw2 (fun h => h); go_simp; all_goals (with_reducible rfl))
              change wpAnyH _ _ _ _ _ _ _ (Act.put _ (some 55) _) _
              simp only [Act.put, List.setIfInBounds_toArray, List.set_cons_zero, List.set_cons_succ]
              refine wpAnyH_take (i := 1) (v := ?v1) rfl (by kernel_rfl) (by kernel_rfl) (by kernel_rfl) (fun _ _ _ h => h) (Or.inl ⟨by rfl, ?hy1⟩) hHeld ?rest1
              case hy1 => (intro W hSw; (try dsimp only at hSw); have z1 := cell_fr hSw hw1 (fun h => h); have z2 := cell_fr hSw hw2 (fun h => h); go_simp; all_goals (with_reducible rfl))
              change wpAnyH _ _ _ _ _ _ _ (Act.put _ (some 56) _) _
              simp only [Act.put, List.setIfInBounds_toArray, List.set_cons_zero, List.set_cons_succ]
              refine wpAnyH_take (i := 2) (v := ?v2) rfl (by kernel_rfl) (by kernel_rfl) (by kernel_rfl) (fun _ _ _ h => h) (Or.inl ⟨by rfl, ?hy2⟩) hHeld ?rest2
              case hy2 => (intro W hSw; (try dsimp only at hSw); have z1 := cell_fr hSw hw1 (fun h => h); have z2 := cell_fr hSw hw2 (fun h => h); go_simp; all_goals (with_reducible rfl))
              change wpAnyH _ _ _ _ _ _ _ (Act.put _ (some 57) _) _
              simp only [Act.put, List.setIfInBounds_toArray, List.set_cons_zero, List.set_cons_succ]
              refine wpAnyH_take (i := 7) (v := ?v7) rfl (by kernel_rfl) (by kernel_rfl) (by kernel_rfl) (fun _ _ _ h => h) (Or.inl ⟨by rfl, ?hy7⟩) hHeld ?rest7
              case hy7 => (intro W hSw; (try dsimp only at hSw); have z1 := cell_fr hSw hw1 (fun h => h); have z2 := cell_fr hSw hw2 (fun h => h); go_simp; all_goals (with_reducible rfl))
              change wpAnyH _ _ _ _ _ _ _ (Act.put _ (some 62) _) _
              simp only [Act.put, List.setIfInBounds_toArray, List.set_cons_zero, List.set_cons_succ]
              refine wpAnyH_take (i := 8) (v := ?v8) rfl (by kernel_rfl) (by kernel_rfl) (by kernel_rfl) (fun _ _ _ h => h) (Or.inl ⟨by rfl, ?hy8⟩) hHeld ?rest8
              case hy8 => (intro W hSw; (try dsimp only at hSw); have z1 := cell_fr hSw hw1 (fun h => h); have z2 := cell_fr hSw hw2 (fun h => h); go_simp; all_goals (with_reducible rfl))
              change wpAnyH _ _ _ _ _ _ _ (Act.put _ (some 63) _) _
              simp only [Act.put, List.setIfInBounds_toArray, List.set_cons_zero, List.set_cons_succ]
              refine wpAnyH_take (i := 3) (v := ?v3) rfl (by kernel_rfl) (by kernel_rfl) (by kernel_rfl) (fun _ _ _ h => h) (Or.inl ⟨by rfl, ?hy3⟩) hHeld ?rest3
              case hy3 => (intro W hSw; (try dsimp only at hSw); have z1 := cell_fr hSw hw1 (fun h => h); have z2 := cell_fr hSw hw2 (fun h => h); go_simp; all_goals (with_reducible rfl))
              change wpAnyH _ _ _ _ _ _ _ (Act.put _ (some 58) _) _
              simp only [Act.put, List.setIfInBounds_toArray, List.set_cons_zero, List.set_cons_succ]
              refine wpAnyH_take (i := 9) (v := ?v9) rfl (by kernel_rfl) (by kernel_rfl) (by kernel_rfl) (fun _ _ _ h => h) (Or.inl ⟨by rfl, ?hy9⟩) hHeld ?rest9
              case hy9 => (intro W hSw; (try dsimp only at hSw); have z1 := cell_fr hSw hw1 (fun h => h); have z2 := cell_fr hSw hw2 (fun h => h); go_simp; all_goals (with_reducible rfl))
              change wpAnyH _ _ _ _ _ _ _ (Act.put _ (some 64) _) _
              simp only [Act.put, List.setIfInBounds_toArray, List.set_cons_zero, List.set_cons_succ]
              refine wpAnyH_take (i := 4) (v := ?v4) rfl (by kernel_rfl) (by kernel_rfl) (by kernel_rfl) (fun _ _ _ h => h) (Or.inl ⟨by rfl, ?hy4⟩) hHeld ?rest4
              case hy4 => (intro W hSw; (try dsimp only at hSw); have z1 := cell_fr hSw hw1 (fun h => h); have z2 := cell_fr hSw hw2 (fun h => h); go_simp; all_goals (with_reducible rfl))
              change wpAnyH _ _ _ _ _ _ _ (Act.put _ (some 59) _) _
              simp only [Act.put, List.setIfInBounds_toArray, List.set_cons_zero, List.set_cons_succ]
              refine wpAnyH_take (i := 10) (v := ?v10) rfl (by kernel_rfl) (by kernel_rfl) (by kernel_rfl) (fun _ _ _ h => h) (Or.inl ⟨by rfl, ?hy10⟩) hHeld ?rest10
              case hy10 => (intro W hSw; (try dsimp only at hSw); have z1 := cell_fr hSw hw1 (fun h => h); have z2 := cell_fr hSw hw2 (fun h => h); go_simp; all_goals (with_reducible rfl))
              change wpAnyH _ _ _ _ _ _ _ (Act.put _ (some 65) _) _
              simp only [Act.put, List.setIfInBounds_toArray, List.set_cons_zero, List.set_cons_succ]
              refine wpAnyH_take (i := 5) (v := ?v5) rfl (by kernel_rfl) (by kernel_rfl) (by kernel_rfl) (fun _ _ _ h => h) (Or.inl ⟨by rfl, ?hy5⟩) hHeld ?rest5
              case hy5 => (intro W hSw; (try dsimp only at hSw); have z1 := cell_fr hSw hw1 (fun h => h); have z2 := cell_fr hSw hw2 (fun h => h); go_simp; all_goals (with_reducible rfl))
              change wpAnyH _ _ _ _ _ _ _ (Act.put _ (some 60) _) _
              simp only [Act.put, List.setIfInBounds_toArray, List.set_cons_zero, List.set_cons_succ]
              refine wpAnyH_take (i := 11) (v := ?v11) rfl (by kernel_rfl) (by kernel_rfl) (by kernel_rfl) (fun _ _ _ h => h) (Or.inl ⟨by rfl, ?hy11⟩) hHeld ?rest11
              case hy11 => (intro W hSw; (try dsimp only at hSw); have z1 := cell_fr hSw hw1 (fun h => h); have z2 := cell_fr hSw hw2 (fun h => h); go_simp; all_goals (with_reducible rfl))
              change wpAnyH _ _ _ _ _ _ _ (Act.put _ (some 66) _) _
              simp only [Act.put, List.setIfInBounds_toArray, List.set_cons_zero, List.set_cons_succ]
              refine wpAnyH_ready (rs := [6]) (by kernel_rfl) (by simp) ?_
              refine AllReadyH.cons rfl (fun K hK => ?_) AllReadyH.nil
              try simp only [List.getElem_toArray, List.getElem_cons_succ, List.getElem_cons_zero]
              rw [if_pos (by rfl)]
              refine wp_appS _ _ rfl w.heap.size v5 _ rfl HO6.out kd rfl h63.out hb6.out ?_
              rintro v7 w7 ho7 hf7
              have HF7 := hide (fr_own HF6.out HO6.out (Nat.le_refl _) hf7)
              refine hK.out _ _ HF7.out (fun hHeld => ?_)
              clear hK K
              refine wpAnyH_ready (rs := [12]) (by kernel_rfl) (by simp) ?_
              refine AllReadyH.cons rfl (fun K hK => ?_) AllReadyH.nil
              try simp only [List.getElem_toArray, List.getElem_cons_succ, List.getElem_cons_zero]
              rw [if_pos (by rfl)]
              refine wp_appBn _ _ rfl w.heap.size v7 _ rfl ho7 d n cap ds rfl Hn.out.symm (HL.out.keep HF7.out (fun _ _ h => h)) Hnil.out h64.out HF7.out.size ?_
              rintro v8 w8 ho8 hf8
              have HF8 := hide (fr_own HF7.out ho7 (Nat.le_refl _) hf8)
              refine hK.out _ _ HF8.out (fun hHeld => ?_)
              clear hK K
              refine wpAnyH_take (i := 13) (v := ?v13) rfl (by kernel_rfl) (by kernel_rfl) (by kernel_rfl) (fun _ _ _ h => h) (Or.inl ⟨by rfl, ?hy13⟩) hHeld ?rest13
              case hy13 => (intro W hSw; (try dsimp only at hSw); have z1 := cell_fr hSw hw1 (fun h => h); have z2 := cell_fr hSw hw2 (fun h => h); go_simp; all_goals (with_reducible rfl))
              change wpAnyH _ _ _ _ _ _ _ (Act.put _ (some 4) _) _
              simp only [Act.put, List.setIfInBounds_toArray, List.set_cons_zero, List.set_cons_succ]
              refine wpAnyH_done (by kernel_rfl) ?_ _
              have hO8 := ho8
              have HO8 := hide hO8
              clear ho8 hO8 HF5 HO5 HF6 HO6 hb6 h63 h64 hf7 ho7 hf8
              go_upto_region 13 with fail
              have hck := chunkSum_c kd d cap ds w8.drew (by rw [strBytes_length]; omega) (HL.out.keep (HF8.out.join (Fr.drew1 _ w8)) (fun _ _ h => h)) (by rw [Hn.out]; omega)
              rw [Hn.out] at hck
              have HK8 := hide hck
              have Hso := hide (show (crc 0#32 (strBytes kd ++ ds)).toNat = sumOf kd ds from rfl)
              clear hck
              refine wp_region_held_drew (S := fun W' => Fr (fun _ => False) w W') (by kernel_rfl) (by exact HF8.out.join (Fr.drew1 _ w8)) (fun hHeld => ?_)
              refine wpAnyH_take (i := 0) (v := ?v0b) rfl (by kernel_rfl) (by kernel_rfl) (by kernel_rfl) (fun _ _ _ h => h) (Or.inl ⟨by rfl, ?hy0b⟩) hHeld ?rest0b
              case hy0b => (intro W hSw; (try dsimp only at hSw); have z1 := cell_fr hSw hw1 (fun h => h); have z2 := cell_fr hSw hw2 (fun h => h); go_simp; all_goals (with_reducible rfl))
              change wpAnyH _ _ _ _ _ _ _ (Act.put _ (some 68) _) _
              simp only [Act.put, List.setIfInBounds_toArray, List.set_cons_zero, List.set_cons_succ]
              refine wpAnyH_take (i := 1) (v := ?v1b) rfl (by kernel_rfl) (by kernel_rfl) (by kernel_rfl) (fun _ _ _ h => h) (Or.inl ⟨by rfl, ?hy1b⟩) hHeld ?rest1b
              case hy1b => (intro W hSw; (try dsimp only at hSw); have z1 := cell_fr hSw hw1 (fun h => h); have z2 := cell_fr hSw hw2 (fun h => h); go_simp; all_goals (with_reducible rfl))
              change wpAnyH _ _ _ _ _ _ _ (Act.put _ (some 69) _) _
              simp only [Act.put, List.setIfInBounds_toArray, List.set_cons_zero, List.set_cons_succ]
              refine wpAnyH_take (i := 5) (v := ?v5b) rfl (by kernel_rfl) (by kernel_rfl) (by kernel_rfl) (fun _ _ _ h => h) (Or.inl ⟨by rfl, ?hy5b⟩) hHeld ?rest5b
              case hy5b => (intro W hSw; (try dsimp only at hSw); have z1 := cell_fr hSw hw1 (fun h => h); have z2 := cell_fr hSw hw2 (fun h => h); go_simp; all_goals (with_reducible rfl))
              change wpAnyH _ _ _ _ _ _ _ (Act.put _ (some 73) _) _
              simp only [Act.put, List.setIfInBounds_toArray, List.set_cons_zero, List.set_cons_succ]
              refine wpAnyH_take (i := 6) (v := ?v6b) rfl (by kernel_rfl) (by kernel_rfl) (by kernel_rfl) (fun _ _ _ h => h) (Or.inl ⟨by rfl, ?hy6b⟩) hHeld ?rest6b
              case hy6b => (intro W hSw; (try dsimp only at hSw); have z1 := cell_fr hSw hw1 (fun h => h); have z2 := cell_fr hSw hw2 (fun h => h); go_simp; all_goals (with_reducible rfl))
              change wpAnyH _ _ _ _ _ _ _ (Act.put _ (some 74) _) _
              simp only [Act.put, List.setIfInBounds_toArray, List.set_cons_zero, List.set_cons_succ]
              refine wpAnyH_take (i := 2) (v := ?v2b) rfl (by kernel_rfl) (by kernel_rfl) (by kernel_rfl) (fun _ _ _ h => h) (Or.inl ⟨by rfl, ?hy2b⟩) hHeld ?rest2b
              case hy2b => (intro W hSw; (try dsimp only at hSw); have z1 := cell_fr hSw hw1 (fun h => h); have z2 := cell_fr hSw hw2 (fun h => h); go_simp; all_goals (with_reducible rfl))
              change wpAnyH _ _ _ _ _ _ _ (Act.put _ (some 70) _) _
              simp only [Act.put, List.setIfInBounds_toArray, List.set_cons_zero, List.set_cons_succ]
              refine wpAnyH_take (i := 7) (v := ?v7b) rfl (by kernel_rfl) (by kernel_rfl) (by kernel_rfl) (fun _ _ _ h => h) (Or.inl ⟨by rfl, ?hy7b⟩) hHeld ?rest7b
              case hy7b => (intro W hSw; (try dsimp only at hSw); have z1 := cell_fr hSw hw1 (fun h => h); have z2 := cell_fr hSw hw2 (fun h => h); go_simp; all_goals (with_reducible rfl))
              change wpAnyH _ _ _ _ _ _ _ (Act.put _ (some 75) _) _
              simp only [Act.put, List.setIfInBounds_toArray, List.set_cons_zero, List.set_cons_succ]
              refine wpAnyH_take (i := 3) (v := ?v3b) rfl (by kernel_rfl) (by kernel_rfl) (by kernel_rfl) (fun _ _ _ h => h) (Or.inl ⟨by rfl, ?hy3b⟩) hHeld ?rest3b
              case hy3b => (intro W hSw; (try dsimp only at hSw); have z1 := cell_fr hSw hw1 (fun h => h); have z2 := cell_fr hSw hw2 (fun h => h); go_simp; all_goals (with_reducible rfl))
              change wpAnyH _ _ _ _ _ _ _ (Act.put _ (some 71) _) _
              simp only [Act.put, List.setIfInBounds_toArray, List.set_cons_zero, List.set_cons_succ]
              refine wpAnyH_take (i := 8) (v := ?v8b) rfl (by kernel_rfl) (by kernel_rfl) (by kernel_rfl) (fun _ _ _ h => h) (Or.inl ⟨by rfl, ?hy8b⟩) hHeld ?rest8b
              case hy8b => (intro W hSw; (try dsimp only at hSw); have z1 := cell_fr hSw hw1 (fun h => h); have z2 := cell_fr hSw hw2 (fun h => h); go_simp; all_goals (with_reducible rfl))
              change wpAnyH _ _ _ _ _ _ _ (Act.put _ (some 76) _) _
              simp only [Act.put, List.setIfInBounds_toArray, List.set_cons_zero, List.set_cons_succ]
              refine wpAnyH_take (i := 4) (v := ?v4b) rfl (by kernel_rfl) (by kernel_rfl) (by kernel_rfl) (fun _ _ _ h => h) (Or.inl ⟨by rfl, ?hy4b⟩) hHeld ?rest4b
              case hy4b => (intro W hSw; (try dsimp only at hSw); have z1 := cell_fr hSw hw1 (fun h => h); have z2 := cell_fr hSw hw2 (fun h => h); go_simp; all_goals (with_reducible rfl))
              change wpAnyH _ _ _ _ _ _ _ (Act.put _ (some 72) _) _
              simp only [Act.put, List.setIfInBounds_toArray, List.set_cons_zero, List.set_cons_succ]
              refine wpAnyH_take (i := 9) (v := ?v9b) rfl (by kernel_rfl) (by kernel_rfl) (by kernel_rfl) (fun _ _ _ h => h) (Or.inl ⟨by rfl, ?hy9b⟩) hHeld ?rest9b
              case hy9b => (intro W hSw; (try dsimp only at hSw); have z1 := cell_fr hSw hw1 (fun h => h); have z2 := cell_fr hSw hw2 (fun h => h); go_simp; all_goals (with_reducible rfl))
              change wpAnyH _ _ _ _ _ _ _ (Act.put _ (some 77) _) _
              simp only [Act.put, List.setIfInBounds_toArray, List.set_cons_zero, List.set_cons_succ]
              refine wpAnyH_ready (rs := [10]) (by kernel_rfl) (by simp) ?_
              refine AllReadyH.cons rfl (fun K hK => ?_) AllReadyH.nil
              try simp only [List.getElem_toArray, List.getElem_cons_succ, List.getElem_cons_zero]
              go_simp
              refine HK8.out.mono ?_
              rintro e w9 ⟨rfl, hf9⟩
              have HF9 := hide (hHeld.join hf9)
              refine hK.out _ _ HF9.out (fun hHeld => ?_)
              clear hK K
              refine wpAnyH_take (i := 11) (v := ?v11b) rfl (by kernel_rfl) (by kernel_rfl) (by kernel_rfl) (fun _ _ _ h => h) (Or.inl ⟨by rfl, ?hy11b⟩) hHeld ?rest11b
              case hy11b => (intro W hSw; (try dsimp only at hSw); have z1 := cell_fr hSw hw1 (fun h => h); have z2 := cell_fr hSw hw2 (fun h => h); go_simp; all_goals (with_reducible rfl))
              change wpAnyH _ _ _ _ _ _ _ (Act.put _ (some 8) _) _
              simp only [Act.put, List.setIfInBounds_toArray, List.set_cons_zero, List.set_cons_succ]
              refine wpAnyH_done (by kernel_rfl) ?_ _
              rw [Hso.out]
              have hsm : sumOf kd ds < 4294967296 := (crc 0#32 (strBytes kd ++ ds)).isLt
              have HO9 := hide (HO8.out.keep ((Fr.drew1 (fun _ => False) w8).join hf9) (fun _ _ h => h))
              obtain ⟨z, hz⟩ : ∃ z, sumOf kd ds = z := ⟨_, rfl⟩
              have Hzz := hide hz
              rw [hz] at hsm ⊢
              clear hz
              obtain ⟨g0, hg0⟩ : ∃ g0, g0 = z / 16777216 % 256 := ⟨_, rfl⟩
              obtain ⟨g1, hg1⟩ : ∃ g1, g1 = z / 65536 % 256 := ⟨_, rfl⟩
              obtain ⟨g2, hg2⟩ : ∃ g2, g2 = z / 256 % 256 := ⟨_, rfl⟩
              obtain ⟨g3, hg3⟩ : ∃ g3, g3 = z % 256 := ⟨_, rfl⟩
              have hw : wd4 z = [g0, g1, g2, g3] := by rw [hg0, hg1, hg2, hg3]; rfl
              have k0 : IntKind.u8.wrap ((z : Int) / 16777216) = (g0 : Int) := by rw [IntKind.wrap_u8']; omega
              have k1 : IntKind.u8.wrap ((z : Int) / 65536) = (g1 : Int) := by rw [IntKind.wrap_u8']; omega
              have k2 : IntKind.u8.wrap ((z : Int) / 256) = (g2 : Int) := by rw [IntKind.wrap_u8']; omega
              have k3 : IntKind.u8.wrap (z : Int) = (g3 : Int) := by rw [IntKind.wrap_u8']; omega
              have hla := word_alloc w9 g0 g1 g2 g3 (by omega) (by omega) (by omega) (by omega)
              have HO10 := hide (HO9.out.keep (Fr.of_alloc w9 (.cells #[.int .u8 g0, .int .u8 g1, .int .u8 g2, .int .u8 g3] 5)) (fun _ _ h => h))
              have HF10 := hide (HF9.out.join (Fr.of_alloc w9 (.cells #[.int .u8 g0, .int .u8 g1, .int .u8 g2, .int .u8 g3] 5)))
              have HLA := hide hla
              have HW := hide hw
              have h63 : Hid ((pl l k ++ wd4 n ++ strBytes kd ++ ds).length + [g0, g1, g2, g3].length ≤ 140737488355328) := by show _ ≤ _; rw [List.length_append, List.length_append, List.length_append, strBytes_length, Hn.out]; simp only [wd4, List.length_cons, List.length_nil]; omega
              have hbs2 : Hid (w.heap.size ≤ (w9.alloc (.cells #[.int .u8 g0, .int .u8 g1, .int .u8 g2, .int .u8 g3] 5)).heap.size) := HF10.out.size
              have hfin : Hid (pl l k ++ wd4 n ++ strBytes kd ++ ds ++ [g0, g1, g2, g3] = pl l (k + 1)) := by
                show _ = _
                rw [HPS.out, ← hw, ← Hzz.out]
                unfold encL
                rw [show ((kd, ds) : Ck).2.length = n from Hn.out]
                simp only [List.append_assoc]
              have hlen1 : Hid ((pl l (k + 1)).length ≤ 600000) := by
                show _ ≤ _
                rw [← hfin.out, List.length_append, List.length_append, List.length_append, List.length_append, strBytes_length, Hn.out]; simp only [wd4, List.length_cons, List.length_nil]; omega
              clear hg0 hg1 hg2 hg3 hla hw hHeld hf9
              go_wp2_with (at_builtin; go_must (refine wpList_appBn rfl _ _ rfl w.heap.size _ _ rfl HO10.out (some ⟨w9.heap.size, 0, none⟩) 4 4 [g0, g1, g2, g3] rfl rfl HLA.out (fun h => by cases h) h63.out hbs2.out ?_); intro v11 w11 ho11 hf11)
              rw [hfin.out] at ho11
              have HF11 := hide (fr_own HF10.out HO10.out (Nat.le_refl _) hf11)
              obtain ⟨va2, vc2, hv11, _⟩ := ho11.form
              subst hv11
              go_roundw
              case rel => exact ⟨k + 1, false, va2, vc2, pl l (k + 1), hlt, by go_num, rfl, rfl, ho11, hlen1.out, HF11.out, HK1, fun _ => rfl, fun h => (by cases h)⟩
              case measure => simp [intOf]; omega
        · go_wp2_with (go_at_call 24; refine (hlet _ hks).mono ?_; rintro e w' ⟨rfl, rfl⟩)
          go_roundw
          case rel => exact ⟨k + 1, true, va, vc, bs, hlt, by go_num, rfl, rfl, HO.out, hbs, HF.out, HK1, fun h => (by cases h), fun _ => HLG.out trivial⟩
          case measure => simp [intOf]; omega
    · have hke : k = l.length := by omega
      subst hke
      have HKB : Hid (kindsB l = true) := by have h := HKs.out; rw [List.take_length] at h; exact h
      have HPK := hide (pl_length2 l.length (Nat.le_refl _) HKs.out)
      have HO := hide ho
      have HF := hide hf
      clear ho hf
      cases b
      · obtain rfl := HPL.out rfl
        have HSE : Hid ((pl l l.length).length = sizeL l) := by have h := HPK.out; rw [List.take_length] at h; exact h
        by_cases hB : 262144 < (pl l l.length).length
        · have d2 : decide ((262144 : Int) < ((pl l l.length).length : Int)) = true := by simp; omega
          have HN : Hid (joinV l = .error 3) := by
            have h := HSE.out
            show _ = _; unfold joinV; rw [if_neg (by rw [HKB.out]; simp), if_neg (by omega)]
          clear hB
          go_wp2
          go_ret2
          refine ⟨?_, HF.out⟩
          unfold JoinOut
          rw [HN.out]
          rfl
        · have d2 : decide ((262144 : Int) < ((pl l l.length).length : Int)) = false := by simp; omega
          have HN : Hid (joinV l = .ok (pl l l.length)) := by
            have h := HSE.out
            show _ = _; unfold joinV; rw [if_neg (by rw [HKB.out]; simp), if_pos (by omega)]
          clear hB
          go_wp2
          go_ret2
          refine ⟨?_, HF.out⟩
          unfold JoinOut
          rw [HN.out]
          exact ⟨_, rfl, HO.out⟩
      · have HN : Hid (joinV l = .error 3) := by
          have h := HLG.out rfl
          show _ = _; unfold joinV; rw [if_neg (by rw [HKB.out]; simp), if_neg (by omega)]
        go_wp2
        go_ret2
        refine ⟨?_, HF.out⟩
        unfold JoinOut
        rw [HN.out]
        rfl
end Go.Proofs.Ytflapcaaaipoeaa
