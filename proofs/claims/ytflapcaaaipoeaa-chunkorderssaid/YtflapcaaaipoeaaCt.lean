/-
  chunk: the law's Model and Back.
-/
import Derived.Test.YtflapcaaaipoeaaCs
namespace Go.Proofs.Ytflapcaaaipoeaa
open Go.RowKit Go.Lib
set_option linter.unusedVariables false

theorem fr_ownC {ty : TypeId} {w w' w2 : World} {base : Nat} {v : Value} {l : List Ck} (h : Fr (fun _ => False) w w') (ho : OwnC ty w' base v l) (hb : w.heap.size ≤ base) (f : Fr (fun i => v.ownBlock = some i) w' w2) : Fr (fun _ => False) w w2 := by
  refine (h.trans f).mono fun i hi hh => ?_
  rcases hh with hh | hh
  · exact hh
  · have := (ho.form.2 i hh).1
    omega

theorem take_snocC (l : List Ck) (k : Nat) (h : k < l.length) : l.take (k + 1) = l.take k ++ [l.getD k default] := by
  rw [List.take_succ_eq_append_getElem h]
  simp [List.getD_eq_getElem?_getD, List.getElem?_eq_getElem h]

/-- What lies ready for the second append. -/
theorem back_facts {w wd w6 : World} {k : Nat} {va : Option Addr} {vc : Nat} {lk : List Ck} {da : Option Addr} {dc : Nat} {ds : List Nat} (hf : Fr (fun _ => False) wd w6) (ho : OwnC 51 wd w.heap.size (.slice va k vc) lk) (hF : Fr (fun _ => False) w w6)
    (hob : ∀ g, (Value.slice va k vc).ownBlock = some g → w.heap.size ≤ g ∧ g < wd.heap.size) (h6 : OwnB w6 wd.heap.size (.slice da ds.length dc) ds) (hdn : da = none → dc = 0 ∧ ds = []) (hdc : ds.length ≤ dc) (hdb : ∀ g, (Value.slice da ds.length dc).ownBlock = some g → wd.heap.size ≤ g ∧ ∃ cur fz, w6.heap[g]? = some (.cells cur 5 fz)) (kd : ByteArray) (hk : kd.size ≤ 281474976710656) (hd : ds.length ≤ 281474976710656) :
    Fr (fun _ => False) w (w6.alloc (.cells #[.string kd, .slice da ds.length dc] 51)) ∧ OwnC 51 (w6.alloc (.cells #[.string kd, .slice da ds.length dc] 51)) w.heap.size (.slice va k vc) lk ∧
    (w6.alloc (.cells #[.string kd, .slice da ds.length dc] 51)).cell? ((⟨w6.heap.size, 0, none⟩ : Addr).add 0) = some (.string ((kd, ds) : Ck).1) ∧ (w6.alloc (.cells #[.string kd, .slice da ds.length dc] 51)).cell? ((⟨w6.heap.size, 0, none⟩ : Addr).add 1) = some (.slice da ((kd, ds) : Ck).2.length dc) ∧
    Dat (w6.alloc (.cells #[.string kd, .slice da ds.length dc] 51)) (.slice va k vc) (kd, ds) da dc := by
  have hA := heap_alloc_new w6 (Obj.cells #[.string kd, .slice da ds.length dc] 51)
  refine ⟨hF.join (Fr.of_alloc _ _), ho.keep (hf.join (Fr.of_alloc _ _)) (fun _ _ h => h), ?_, ?_, ⟨h6.lies.keep (Fr.of_alloc _ _) (fun _ _ h => h), hdn, hk, hd, hdc, fun _ ad e hb => ?_⟩⟩
  · rw [add_none]; simp only [World.cell?]; rw [hA]; rfl
  · rw [add_none]; simp only [World.cell?]; rw [hA]; rfl
  · have h1 := (hob _ hb).2
    subst e
    have h2 := (hdb ad.block rfl).1
    omega

set_option maxHeartbeats 1600000 in
theorem model_c (a : Option Addr) (c : Nat) (l : List Ck) (w : World) (hl : LiesC w a l) (hlen : l.length ≤ 300000) :
    Calls Try.prog 11 #[.slice a l.length c] w fun e w' => ∃ v, e = .returned v ∧ OwnC 44 w' w.heap.size v l ∧ Fr (fun _ => False) w w' := by
  have Hl := hide hl
  clear hl
  go_enter Try.func11, Try.ntmps11
  go_wp2
  go_loopw [3, 4] (fun ov iv wr => ∃ (k : Nat) (va : Option Addr) (vc : Nat), k ≤ l.length ∧ iv = .int .i64 k ∧ ov = .slice va k vc ∧ OwnC 44 wr w.heap.size (.slice va k vc) (l.take k) ∧ Fr (fun _ => False) w wr) (fun _ iv _ => l.length - (intOf iv).toNat)
  case atStart => exact ⟨0, none, 0, by omega, rfl, rfl, OwnC.nil _ _ _, Fr.refl _ _⟩
  case round =>
    obtain ⟨k, va, vc, hkl, rfl, rfl, ho, hf⟩ := hrel
    by_cases hlt : k < l.length
    · obtain ⟨b, o, d, cap, rfl, hck⟩ := Hl.out k hlt
      have h0 : (0 : Int) ≤ (k : Int) := by omega
      have h1 : (k : Int) < (l.length : Int) := by omega
      have hw1 := hck.kind
      have hw2 := hck.data
      have hts := take_snocC l k hlt
      have HTS := hide hts
      have HL := hide hck.lies
      have Hnil := hide hck.nil
      have Hsz := hide hck.size
      have Hln := hide hck.len
      have Hsp := hide hck.sp
      have HO := hide ho
      have HF := hide hf
      clear hck ho hf hts
      generalize l.getD k default = q at *
      have hA := heap_alloc_new wr.drew (Obj.cells #[.string q.1, .slice d q.2.length cap] 44)
      have HF2 := hide (HF.out.join ((Fr.drew1 _ wr).join (Fr.of_alloc wr.drew (Obj.cells #[.string q.1, .slice d q.2.length cap] 44))))
      have HO2 := hide (HO.out.keep ((Fr.drew1 (fun _ => False) wr).join (Fr.of_alloc wr.drew (Obj.cells #[.string q.1, .slice d q.2.length cap] 44))) (fun _ _ h => h))
      have hc70 : (wr.drew.alloc (Obj.cells #[.string q.1, .slice d q.2.length cap] 44)).cell? ((⟨wr.heap.size, 0, none⟩ : Addr).add 0) = some (.string q.1) := by
        rw [add_none]; simp only [World.cell?]; rw [show wr.heap.size = wr.drew.heap.size from rfl, hA]; rfl
      have hc71 : (wr.drew.alloc (Obj.cells #[.string q.1, .slice d q.2.length cap] 44)).cell? ((⟨wr.heap.size, 0, none⟩ : Addr).add 1) = some (.slice d q.2.length cap) := by
        rw [add_none]; simp only [World.cell?]; rw [show wr.heap.size = wr.drew.heap.size from rfl, hA]; rfl
      have hdat : Dat (wr.drew.alloc (Obj.cells #[.string q.1, .slice d q.2.length cap] 44)) (.slice va k vc) q d cap := ⟨HL.out.keep HF2.out (fun _ _ h => h), Hnil.out, Hsz.out, Hln.out, Hsp.out, fun h0 ad' e hb => by
        obtain ⟨ad2, e2, hcell⟩ := HL.out.2 0 h0
        rw [e] at e2
        cases e2
        have hlt := World.block_lt_of_cell? w _ hcell
        rw [add_block] at hlt
        have := (HO.out.form.2 _ hb).1
        omega⟩
      have Hc70 := hide hc70
      have Hc71 := hide hc71
      have HDT := hide hdat
      have hl1 : Hid ((l.take k).length ≤ 1000000) := by show _ ≤ _; rw [List.length_take]; omega
      have hb1 : Hid (w.heap.size ≤ (wr.drew.alloc (Obj.cells #[.string q.1, .slice d q.2.length cap] 44)).heap.size) := HF2.out.size
      clear hA hc70 hc71 hdat
      obtain ⟨kd, ds⟩ := q
      simp only [] at hw1 hw2
      go_upto_region 5 with fail
      refine wp_region_held_drew (S := fun W' => Fr (fun _ => False) w W') (by kernel_rfl) (by exact HF.out.join (Fr.drew1 _ wr)) (fun hHeld => ?_)
      refine wpAnyH_take (i := 0) (v := ?v0) rfl (by kernel_rfl) (by kernel_rfl) (by kernel_rfl) (fun _ _ _ h => h) (Or.inl ⟨by rfl, ?hy0⟩) hHeld ?rest0
      case hy0 => (intro W hSw; (try dsimp only at hSw); have z1 := cell_fr hSw hw1 (fun h => h); have z2 := cell_fr hSw hw2 (fun h => h); go_simp; all_goals (with_reducible rfl))
      change wpAnyH _ _ _ _ _ _ _ (Act.put _ (some 11) _) _
      simp only [Act.put, List.setIfInBounds_toArray, List.set_cons_zero, List.set_cons_succ]
      refine wpAnyH_take (i := 1) (v := ?v1) rfl (by kernel_rfl) (by kernel_rfl) (by kernel_rfl) (fun _ _ _ h => h) (Or.inl ⟨by rfl, ?hy1⟩) hHeld ?rest1
      case hy1 => (intro W hSw; (try dsimp only at hSw); have z1 := cell_fr hSw hw1 (fun h => h); have z2 := cell_fr hSw hw2 (fun h => h); go_simp; all_goals (with_reducible rfl))
      change wpAnyH _ _ _ _ _ _ _ (Act.put _ (some 12) _) _
      simp only [Act.put, List.setIfInBounds_toArray, List.set_cons_zero, List.set_cons_succ]
      refine wpAnyH_take (i := 2) (v := ?v2) rfl (by kernel_rfl) (by kernel_rfl) (by kernel_rfl) (fun _ _ _ h => h) (Or.inl ⟨by rfl, ?hy2⟩) hHeld ?rest2
      case hy2 => (intro W hSw; (try dsimp only at hSw); have z1 := cell_fr hSw hw1 (fun h => h); have z2 := cell_fr hSw hw2 (fun h => h); go_simp; all_goals (with_reducible rfl))
      change wpAnyH _ _ _ _ _ _ _ (Act.put _ (some 13) _) _
      simp only [Act.put, List.setIfInBounds_toArray, List.set_cons_zero, List.set_cons_succ]
      refine wpAnyH_take (i := 6) (v := ?v6) rfl (by kernel_rfl) (by kernel_rfl) (by kernel_rfl) (fun _ _ _ h => h) (Or.inl ⟨by rfl, ?hy6⟩) hHeld ?rest6
      case hy6 => (intro W hSw; (try dsimp only at hSw); have z1 := cell_fr hSw hw1 (fun h => h); have z2 := cell_fr hSw hw2 (fun h => h); go_simp; all_goals (with_reducible rfl))
      change wpAnyH _ _ _ _ _ _ _ (Act.put _ (some 17) _) _
      simp only [Act.put, List.setIfInBounds_toArray, List.set_cons_zero, List.set_cons_succ]
      refine wpAnyH_take (i := 7) (v := ?v7) rfl (by kernel_rfl) (by kernel_rfl) (by kernel_rfl) (fun _ _ _ h => h) (Or.inl ⟨by rfl, ?hy7⟩) hHeld ?rest7
      case hy7 => (intro W hSw; (try dsimp only at hSw); have z1 := cell_fr hSw hw1 (fun h => h); have z2 := cell_fr hSw hw2 (fun h => h); go_simp; all_goals (with_reducible rfl))
      change wpAnyH _ _ _ _ _ _ _ (Act.put _ (some 18) _) _
      simp only [Act.put, List.setIfInBounds_toArray, List.set_cons_zero, List.set_cons_succ]
      refine wpAnyH_take (i := 3) (v := ?v3) rfl (by kernel_rfl) (by kernel_rfl) (by kernel_rfl) (fun _ _ _ h => h) (Or.inl ⟨by rfl, ?hy3⟩) hHeld ?rest3
      case hy3 => (intro W hSw; (try dsimp only at hSw); have z1 := cell_fr hSw hw1 (fun h => h); have z2 := cell_fr hSw hw2 (fun h => h); go_simp; all_goals (with_reducible rfl))
      change wpAnyH _ _ _ _ _ _ _ (Act.put _ (some 14) _) _
      simp only [Act.put, List.setIfInBounds_toArray, List.set_cons_zero, List.set_cons_succ]
      refine wpAnyH_take (i := 8) (v := ?v8) rfl (by kernel_rfl) (by kernel_rfl) (by kernel_rfl) (fun _ _ _ h => h) (Or.inl ⟨by rfl, ?hy8⟩) hHeld ?rest8
      case hy8 => (intro W hSw; (try dsimp only at hSw); have z1 := cell_fr hSw hw1 (fun h => h); have z2 := cell_fr hSw hw2 (fun h => h); go_simp; all_goals (with_reducible rfl))
      change wpAnyH _ _ _ _ _ _ _ (Act.put _ (some 19) _) _
      simp only [Act.put, List.setIfInBounds_toArray, List.set_cons_zero, List.set_cons_succ]
      refine wpAnyH_take (i := 4) (v := ?v4) rfl (by kernel_rfl) (by kernel_rfl) (by kernel_rfl) (fun _ _ _ h => h) (Or.inl ⟨by rfl, ?hy4⟩) hHeld ?rest4
      case hy4 => (intro W hSw; (try dsimp only at hSw); have z1 := cell_fr hSw hw1 (fun h => h); have z2 := cell_fr hSw hw2 (fun h => h); go_simp; all_goals (with_reducible rfl))
      change wpAnyH _ _ _ _ _ _ _ (Act.put _ (some 15) _) _
      simp only [Act.put, List.setIfInBounds_toArray, List.set_cons_zero, List.set_cons_succ]
      refine wpAnyH_take (i := 9) (v := ?v9) rfl (by kernel_rfl) (by kernel_rfl) (by kernel_rfl) (fun _ _ _ h => h) (Or.inl ⟨by rfl, ?hy9⟩) hHeld ?rest9
      case hy9 => (intro W hSw; (try dsimp only at hSw); have z1 := cell_fr hSw hw1 (fun h => h); have z2 := cell_fr hSw hw2 (fun h => h); go_simp; all_goals (with_reducible rfl))
      change wpAnyH _ _ _ _ _ _ _ (Act.put _ (some 20) _) _
      simp only [Act.put, List.setIfInBounds_toArray, List.set_cons_zero, List.set_cons_succ]
      refine wpAnyH_take (i := 5) (v := ?v5) rfl (by kernel_rfl) (by kernel_rfl) (by kernel_rfl) (fun _ _ _ h => h) (Or.inl ⟨by rfl, ?hy5⟩) hHeld ?rest5
      case hy5 => (intro W hSw; (try dsimp only at hSw); have z1 := cell_fr hSw hw1 (fun h => h); have z2 := cell_fr hSw hw2 (fun h => h); go_simp; all_goals (with_reducible rfl))
      change wpAnyH _ _ _ _ _ _ _ (Act.put _ (some 16) _) _
      simp only [Act.put, List.setIfInBounds_toArray, List.set_cons_zero, List.set_cons_succ]
      refine wpAnyH_take (i := 10) (v := ?v10) rfl (by kernel_rfl) (by kernel_rfl) (by kernel_rfl) (fun _ _ _ h => h) (Or.inl ⟨by rfl, ?hy10⟩) hHeld ?rest10
      case hy10 => (intro W hSw; (try dsimp only at hSw); have z1 := cell_fr hSw hw1 (fun h => h); have z2 := cell_fr hSw hw2 (fun h => h); go_simp; all_goals (with_reducible rfl))
      change wpAnyH _ _ _ _ _ _ _ (Act.put _ (some 21) _) _
      simp only [Act.put, List.setIfInBounds_toArray, List.set_cons_zero, List.set_cons_succ]
      refine wpAnyH_take (i := 11) (v := ?v11) rfl (by kernel_rfl) (by kernel_rfl) (by kernel_rfl) (fun _ _ _ h => h) (Or.inl ⟨by rfl, ?hy11⟩) hHeld ?rest11
      case hy11 => (intro W hSw; (try dsimp only at hSw); have z1 := cell_fr hSw hw1 (fun h => h); have z2 := cell_fr hSw hw2 (fun h => h); go_simp; all_goals (with_reducible rfl))
      change wpAnyH _ _ _ _ _ _ _ (Act.put _ (some 22) _) _
      simp only [Act.put, List.setIfInBounds_toArray, List.set_cons_zero, List.set_cons_succ]
      refine wpAnyH_ready (rs := [12]) (by kernel_rfl) (by simp) ?_
      refine AllReadyH.cons rfl (fun K hK => ?_) AllReadyH.nil
      try simp only [List.getElem_toArray, List.getElem_cons_succ, List.getElem_cons_zero]
      go_simp
      refine hK.out _ _ HF2.out (fun hHeld => ?_)
      clear hK K
      refine wpAnyH_ready (rs := [13]) (by kernel_rfl) (by simp) ?_
      refine AllReadyH.cons rfl (fun K hK => ?_) AllReadyH.nil
      try simp only [List.getElem_toArray, List.getElem_cons_succ, List.getElem_cons_zero]
      rw [if_pos (by rfl)]
      refine wp_appC 44 28 Try.underlying28 Try.info44 _ _ rfl w.heap.size _ (l.take k) rfl HO2.out ⟨wr.heap.size, 0, none⟩ 1 rfl (kd, ds) d cap Hc70.out Hc71.out HDT.out hl1.out hb1.out ?_
      rintro v7 w7 ho7 hf7
      have HF7 := hide (fr_ownC HF2.out HO2.out (Nat.le_refl _) hf7)
      refine hK.out _ _ HF7.out (fun hHeld => ?_)
      clear hK K
      refine wpAnyH_take (i := 14) (v := ?v14) rfl (by kernel_rfl) (by kernel_rfl) (by kernel_rfl) (fun _ _ _ h => h) (Or.inl ⟨by rfl, ?hy14⟩) hHeld ?rest14
      case hy14 => (intro W hSw; (try dsimp only at hSw); have z1 := cell_fr hSw hw1 (fun h => h); have z2 := cell_fr hSw hw2 (fun h => h); go_simp; all_goals (with_reducible rfl))
      change wpAnyH _ _ _ _ _ _ _ (Act.put _ (some 3) _) _
      simp only [Act.put, List.setIfInBounds_toArray, List.set_cons_zero, List.set_cons_succ]
      refine wpAnyH_done (by kernel_rfl) ?_ _
      rw [← HTS.out] at ho7
      obtain ⟨⟨va', vc', hv7, _⟩, _⟩ := ho7.form
      rw [show (l.take (k + 1)).length = k + 1 by rw [List.length_take]; omega] at hv7
      subst hv7
      clear HO HF HL Hnil hf7 hHeld
      go_wp2
      go_roundw
      case rel => exact ⟨k + 1, va', vc', hlt, by go_num, rfl, ho7, HF7.out⟩
      case measure => simp [intOf]; omega
    · have hke : k = l.length := by omega
      subst hke
      rw [List.take_length] at ho
      have HO := hide ho
      have HF := hide hf
      clear ho hf
      go_wp2
      go_ret
      exact ⟨_, rfl, HO.out, HF.out⟩
set_option maxHeartbeats 1600000 in
theorem back_c (a : Option Addr) (c : Nat) (l : List Ck) (w : World) (hl : LiesC w a l) (hlen : l.length ≤ 300000) (hsm : ∀ i, i < l.length → (l.getD i default).2.length ≤ 100000) :
    Calls Try.prog 14 #[.slice a l.length c] w fun e w' => ∃ v, e = .returned v ∧ OwnC 51 w' w.heap.size v l ∧ Fr (fun _ => False) w w' := by
  have Hl := hide hl
  clear hl
  go_enter Try.func14, Try.ntmps14
  go_wp2
  go_loopw [3, 4] (fun ov iv wr => ∃ (k : Nat) (va : Option Addr) (vc : Nat), k ≤ l.length ∧ iv = .int .i64 k ∧ ov = .slice va k vc ∧ OwnC 51 wr w.heap.size (.slice va k vc) (l.take k) ∧ Fr (fun _ => False) w wr) (fun _ iv _ => l.length - (intOf iv).toNat)
  case atStart => exact ⟨0, none, 0, by omega, rfl, rfl, OwnC.nil _ _ _, Fr.refl _ _⟩
  case round =>
    obtain ⟨k, va, vc, hkl, rfl, rfl, ho, hf⟩ := hrel
    by_cases hlt : k < l.length
    · obtain ⟨b, o, d, cap, rfl, hck⟩ := Hl.out k hlt
      have h0 : (0 : Int) ≤ (k : Int) := by omega
      have h1 : (k : Int) < (l.length : Int) := by omega
      have hw1 := hck.kind
      have hw2 := hck.data
      have hts := take_snocC l k hlt
      have HTS := hide hts
      have HL := hide hck.lies
      have Hnil := hide hck.nil
      have Hsz := hide hck.size
      have Hln := hide hck.len
      have Hsp := hide hck.sp
      have HO := hide ho
      have HF := hide hf
      clear hck ho hf hts
      have hsm1 := hsm k hlt
      have Hsm := hide hsm
      clear hsm
      generalize l.getD k default = q at *
      have HF2 := hide (HF.out.join (Fr.drew1 _ wr))
      have HO2 := hide (HO.out.keep (Fr.drew1 (fun _ => False) wr) (fun _ _ h => h))
      have HNB := hide (OwnB.nil wr.drew wr.heap.size)
      have hln0 : Hid (([] : List Nat).length + q.2.length ≤ 140737488355328) := by show _ ≤ _; rw [List.length_nil]; omega
      have hl1 : Hid ((l.take k).length ≤ 1000000) := by show _ ≤ _; rw [List.length_take]; omega
      have Hob := hide HO.out.form.2
      obtain ⟨kd, ds⟩ := q
      simp only [] at hw1 hw2
      go_upto_region 5 with fail
      refine wp_region_held_drew (S := fun W' => Fr (fun _ => False) w W') (by kernel_rfl) (by exact HF.out.join (Fr.drew1 _ wr)) (fun hHeld => ?_)
      refine wpAnyH_take (i := 0) (v := ?v0) rfl (by kernel_rfl) (by kernel_rfl) (by kernel_rfl) (fun _ _ _ h => h) (Or.inl ⟨by rfl, ?hy0⟩) hHeld ?rest0
      case hy0 => (intro W hSw; (try dsimp only at hSw); have z1 := cell_fr hSw hw1 (fun h => h); have z2 := cell_fr hSw hw2 (fun h => h); go_simp; all_goals (with_reducible rfl))
      change wpAnyH _ _ _ _ _ _ _ (Act.put _ (some 11) _) _
      simp only [Act.put, List.setIfInBounds_toArray, List.set_cons_zero, List.set_cons_succ]
      refine wpAnyH_take (i := 1) (v := ?v1) rfl (by kernel_rfl) (by kernel_rfl) (by kernel_rfl) (fun _ _ _ h => h) (Or.inl ⟨by rfl, ?hy1⟩) hHeld ?rest1
      case hy1 => (intro W hSw; (try dsimp only at hSw); have z1 := cell_fr hSw hw1 (fun h => h); have z2 := cell_fr hSw hw2 (fun h => h); go_simp; all_goals (with_reducible rfl))
      change wpAnyH _ _ _ _ _ _ _ (Act.put _ (some 12) _) _
      simp only [Act.put, List.setIfInBounds_toArray, List.set_cons_zero, List.set_cons_succ]
      refine wpAnyH_take (i := 2) (v := ?v2) rfl (by kernel_rfl) (by kernel_rfl) (by kernel_rfl) (fun _ _ _ h => h) (Or.inl ⟨by rfl, ?hy2⟩) hHeld ?rest2
      case hy2 => (intro W hSw; (try dsimp only at hSw); have z1 := cell_fr hSw hw1 (fun h => h); have z2 := cell_fr hSw hw2 (fun h => h); go_simp; all_goals (with_reducible rfl))
      change wpAnyH _ _ _ _ _ _ _ (Act.put _ (some 13) _) _
      simp only [Act.put, List.setIfInBounds_toArray, List.set_cons_zero, List.set_cons_succ]
      refine wpAnyH_take (i := 6) (v := ?v6) rfl (by kernel_rfl) (by kernel_rfl) (by kernel_rfl) (fun _ _ _ h => h) (Or.inl ⟨by rfl, ?hy6⟩) hHeld ?rest6
      case hy6 => (intro W hSw; (try dsimp only at hSw); have z1 := cell_fr hSw hw1 (fun h => h); have z2 := cell_fr hSw hw2 (fun h => h); go_simp; all_goals (with_reducible rfl))
      change wpAnyH _ _ _ _ _ _ _ (Act.put _ (some 17) _) _
      simp only [Act.put, List.setIfInBounds_toArray, List.set_cons_zero, List.set_cons_succ]
      refine wpAnyH_take (i := 7) (v := ?v7) rfl (by kernel_rfl) (by kernel_rfl) (by kernel_rfl) (fun _ _ _ h => h) (Or.inl ⟨by rfl, ?hy7⟩) hHeld ?rest7
      case hy7 => (intro W hSw; (try dsimp only at hSw); have z1 := cell_fr hSw hw1 (fun h => h); have z2 := cell_fr hSw hw2 (fun h => h); go_simp; all_goals (with_reducible rfl))
      change wpAnyH _ _ _ _ _ _ _ (Act.put _ (some 18) _) _
      simp only [Act.put, List.setIfInBounds_toArray, List.set_cons_zero, List.set_cons_succ]
      refine wpAnyH_take (i := 3) (v := ?v3) rfl (by kernel_rfl) (by kernel_rfl) (by kernel_rfl) (fun _ _ _ h => h) (Or.inl ⟨by rfl, ?hy3⟩) hHeld ?rest3
      case hy3 => (intro W hSw; (try dsimp only at hSw); have z1 := cell_fr hSw hw1 (fun h => h); have z2 := cell_fr hSw hw2 (fun h => h); go_simp; all_goals (with_reducible rfl))
      change wpAnyH _ _ _ _ _ _ _ (Act.put _ (some 14) _) _
      simp only [Act.put, List.setIfInBounds_toArray, List.set_cons_zero, List.set_cons_succ]
      refine wpAnyH_take (i := 8) (v := ?v8) rfl (by kernel_rfl) (by kernel_rfl) (by kernel_rfl) (fun _ _ _ h => h) (Or.inl ⟨by rfl, ?hy8⟩) hHeld ?rest8
      case hy8 => (intro W hSw; (try dsimp only at hSw); have z1 := cell_fr hSw hw1 (fun h => h); have z2 := cell_fr hSw hw2 (fun h => h); go_simp; all_goals (with_reducible rfl))
      change wpAnyH _ _ _ _ _ _ _ (Act.put _ (some 19) _) _
      simp only [Act.put, List.setIfInBounds_toArray, List.set_cons_zero, List.set_cons_succ]
      refine wpAnyH_take (i := 4) (v := ?v4) rfl (by kernel_rfl) (by kernel_rfl) (by kernel_rfl) (fun _ _ _ h => h) (Or.inl ⟨by rfl, ?hy4⟩) hHeld ?rest4
      case hy4 => (intro W hSw; (try dsimp only at hSw); have z1 := cell_fr hSw hw1 (fun h => h); have z2 := cell_fr hSw hw2 (fun h => h); go_simp; all_goals (with_reducible rfl))
      change wpAnyH _ _ _ _ _ _ _ (Act.put _ (some 15) _) _
      simp only [Act.put, List.setIfInBounds_toArray, List.set_cons_zero, List.set_cons_succ]
      refine wpAnyH_take (i := 9) (v := ?v9) rfl (by kernel_rfl) (by kernel_rfl) (by kernel_rfl) (fun _ _ _ h => h) (Or.inl ⟨by rfl, ?hy9⟩) hHeld ?rest9
      case hy9 => (intro W hSw; (try dsimp only at hSw); have z1 := cell_fr hSw hw1 (fun h => h); have z2 := cell_fr hSw hw2 (fun h => h); go_simp; all_goals (with_reducible rfl))
      change wpAnyH _ _ _ _ _ _ _ (Act.put _ (some 20) _) _
      simp only [Act.put, List.setIfInBounds_toArray, List.set_cons_zero, List.set_cons_succ]
      refine wpAnyH_take (i := 5) (v := ?v5) rfl (by kernel_rfl) (by kernel_rfl) (by kernel_rfl) (fun _ _ _ h => h) (Or.inl ⟨by rfl, ?hy5⟩) hHeld ?rest5
      case hy5 => (intro W hSw; (try dsimp only at hSw); have z1 := cell_fr hSw hw1 (fun h => h); have z2 := cell_fr hSw hw2 (fun h => h); go_simp; all_goals (with_reducible rfl))
      change wpAnyH _ _ _ _ _ _ _ (Act.put _ (some 16) _) _
      simp only [Act.put, List.setIfInBounds_toArray, List.set_cons_zero, List.set_cons_succ]
      refine wpAnyH_take (i := 10) (v := ?v10) rfl (by kernel_rfl) (by kernel_rfl) (by kernel_rfl) (fun _ _ _ h => h) (Or.inl ⟨by rfl, ?hy10⟩) hHeld ?rest10
      case hy10 => (intro W hSw; (try dsimp only at hSw); have z1 := cell_fr hSw hw1 (fun h => h); have z2 := cell_fr hSw hw2 (fun h => h); go_simp; all_goals (with_reducible rfl))
      change wpAnyH _ _ _ _ _ _ _ (Act.put _ (some 21) _) _
      simp only [Act.put, List.setIfInBounds_toArray, List.set_cons_zero, List.set_cons_succ]
      refine wpAnyH_ready (rs := [11]) (by kernel_rfl) (by simp) ?_
      refine AllReadyH.cons rfl (fun K hK => ?_) AllReadyH.nil
      try simp only [List.getElem_toArray, List.getElem_cons_succ, List.getElem_cons_zero]
      rw [if_pos (by rfl)]
      refine wp_appB _ _ rfl wr.heap.size (.slice none 0 0) [] rfl HNB.out d cap ds rfl (HL.out.keep HF2.out (fun _ _ h => h)) Hnil.out hln0.out (Nat.le_refl _) ?_
      rintro v6 w6 ho6 hf6
      rw [List.nil_append] at ho6
      have HF6 := hide (HF2.out.join (hf6.mono fun _ _ h => by cases h))
      have hf6' : Fr (fun _ => False) wr.drew w6 := hf6.mono fun _ _ h => by cases h
      obtain ⟨da, dc, hv6, hdc, hdn, hdb⟩ := ho6.form
      subst hv6
      refine hK.out _ _ HF6.out (fun hHeld => ?_)
      clear hK K
      refine wpAnyH_take (i := 12) (v := ?v12) rfl (by kernel_rfl) (by kernel_rfl) (by kernel_rfl) (fun _ _ _ h => h) (Or.inl ⟨by rfl, ?hy12⟩) hHeld ?rest12
      case hy12 => (intro W hSw; (try dsimp only at hSw); have z1 := cell_fr hSw hw1 (fun h => h); have z2 := cell_fr hSw hw2 (fun h => h); go_simp; all_goals (with_reducible rfl))
      change wpAnyH _ _ _ _ _ _ _ (Act.put _ (some 23) _) _
      simp only [Act.put, List.setIfInBounds_toArray, List.set_cons_zero, List.set_cons_succ]
      refine wpAnyH_ready (rs := [13]) (by kernel_rfl) (by simp) ?_
      refine AllReadyH.cons rfl (fun K hK => ?_) AllReadyH.nil
      try simp only [List.getElem_toArray, List.getElem_cons_succ, List.getElem_cons_zero]
      go_simp
      have HBS := hide (back_facts hf6' HO2.out HF6.out Hob.out ho6 hdn hdc hdb kd (by have := Hsz.out; exact this) (by have := hsm1; exact Nat.le_trans this (by decide)))
      refine hK.out _ _ HBS.out.1 (fun hHeld => ?_)
      clear hK K
      refine wpAnyH_ready (rs := [14]) (by kernel_rfl) (by simp) ?_
      refine AllReadyH.cons rfl (fun K hK => ?_) AllReadyH.nil
      try simp only [List.getElem_toArray, List.getElem_cons_succ, List.getElem_cons_zero]
      rw [if_pos (by rfl)]
      refine wp_appC 51 24 Try.underlying24 Try.info51 _ _ rfl w.heap.size _ (l.take k) rfl HBS.out.2.1 ⟨w6.heap.size, 0, none⟩ 1 rfl (kd, ds) da dc HBS.out.2.2.1 HBS.out.2.2.2.1 HBS.out.2.2.2.2 hl1.out HBS.out.1.size ?_
      rintro v7 w7 ho7 hf7
      have HF7 := hide (fr_ownC HBS.out.1 HBS.out.2.1 (Nat.le_refl _) hf7)
      refine hK.out _ _ HF7.out (fun hHeld => ?_)
      clear hK K
      refine wpAnyH_take (i := 15) (v := ?v15) rfl (by kernel_rfl) (by kernel_rfl) (by kernel_rfl) (fun _ _ _ h => h) (Or.inl ⟨by rfl, ?hy15⟩) hHeld ?rest15
      case hy15 => (intro W hSw; (try dsimp only at hSw); have z1 := cell_fr hSw hw1 (fun h => h); have z2 := cell_fr hSw hw2 (fun h => h); go_simp; all_goals (with_reducible rfl))
      change wpAnyH _ _ _ _ _ _ _ (Act.put _ (some 3) _) _
      simp only [Act.put, List.setIfInBounds_toArray, List.set_cons_zero, List.set_cons_succ]
      refine wpAnyH_done (by kernel_rfl) ?_ _
      rw [← HTS.out] at ho7
      obtain ⟨⟨va', vc', hv7, _⟩, _⟩ := ho7.form
      rw [show (l.take (k + 1)).length = k + 1 by rw [List.length_take]; omega] at hv7
      subst hv7
      clear HO HF HL Hnil hf7 hHeld
      go_wp2
      go_roundw
      case rel => exact ⟨k + 1, va', vc', hlt, by go_num, rfl, ho7, HF7.out⟩
      case measure => simp [intOf]; omega
    · have hke : k = l.length := by omega
      subst hke
      rw [List.take_length] at ho
      have HO := hide ho
      have HF := hide hf
      clear ho hf
      go_wp2
      go_ret
      exact ⟨_, rfl, HO.out, HF.out⟩
end Go.Proofs.Ytflapcaaaipoeaa
