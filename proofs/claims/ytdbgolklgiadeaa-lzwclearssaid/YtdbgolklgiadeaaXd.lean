/-
  lzw: the document's Blocks.
-/
import Derived.Test.YtdbgolklgiadeaaXb
namespace Go.Proofs.Ytdbgolklgiadeaa
open Go.RowKit

set_option maxHeartbeats 3200000 in
set_option maxRecDepth 100000 in
theorem rblocks_c (a : Option Addr) (c : Nat) (bs : List Nat) (w : World) (h : Lies w (.slice a bs.length c) bs) (hb : ∀ b ∈ bs, b < 256) (hlen : bs.length ≤ 1000000) (hc : bs.length ≤ c) :
    Calls Try.prog 25 #[.slice a bs.length c] w fun e w' => ∃ ra rc, e = .returned (.slice ra (blocks bs).length rc) ∧ OwnB w' w.heap.size (.slice ra (blocks bs).length rc) (blocks bs) ∧ Fr (fun _ => False) w w' := by
  have H := hide h
  have Hb := hide hb
  have hbl := blocks_len bs
  clear h hb
  go_enter Try.func25, Try.ntmps25
  go_wp2_with fail
  go_loopw [0, 3, 4] (fun tb tv _ wr => ∃ (rest o : List Nat) (ba : Option Addr) (bc : Nat) (oa : Option Addr) (oc : Nat), tb = .slice ba rest.length bc ∧ Hid (Lies w (.slice ba rest.length bc) rest) ∧ Hid (∀ b ∈ rest, b < 256) ∧ rest.length ≤ bc ∧ rest.length ≤ 1000000 ∧ tv = .slice oa o.length oc ∧ Hid (OwnB wr w.heap.size (.slice oa o.length oc) o) ∧ Hid (o ++ blocks rest = blocks bs) ∧ Hid (Fr (fun _ => False) w wr)) (fun tb _ _ _ => lenOf tb)
  case atStart => exact ⟨bs, [], a, c, none, 0, rfl, H.out, Hb.out, hc, hlen, rfl, World.ownsRow_nil _ _ _ _, rfl, Fr.refl _ _⟩
  case round =>
    obtain ⟨rest, o, ba, bc, oa, oc, rfl, HR, HRb, hrc, hrl, rfl, HO, HE, HF⟩ := hrel
    by_cases hne : rest = []
    · subst hne
      have hol : o.length ≤ 2000001 := by
        have := congrArg List.length HE.out
        rw [List.length_append] at this
        omega
      have FA : Hid (Fr (fun _ => False) wr (wr.alloc (.cells (cellsOf [0]).toArray 5))) := Fr.of_alloc _ _
      have HO1 : Hid (OwnB (wr.alloc (.cells (cellsOf [0]).toArray 5)) w.heap.size (.slice oa o.length oc) o) := ownsRow_fr HO.out fun j hj => FA.out.block j (World.ownsRow.lt HO.out j hj).2 (fun h => h)
      have HL0 : Hid (Lies (wr.alloc (.cells (cellsOf [0]).toArray 5)) (.slice (some ⟨wr.heap.size, 0, none⟩) 1 1) [0]) := lies_lit wr [0] 1
      have hs1 : w.heap.size ≤ (wr.alloc (.cells (cellsOf [0]).toArray 5)).heap.size := Nat.le_trans HF.out.size FA.out.size
      have hq1 : o.length + [0].length ≤ 2147483648 := by simp; omega
      have HS1 := hide hs1
      have HQ1 := hide hq1
      clear hs1 hq1 HO
      go_wp2_with (at_builtin; go_must (refine wpList_app rfl (.tmp 23) (.tmp 24) rfl w.heap.size (.slice oa o.length oc) o rfl HO1.out (.slice (some ⟨wr.heap.size, 0, none⟩) 1 1) [0] rfl HL0.out HQ1.out HS1.out ?_); intro a2 c2 w2 hO2 hF2 _
                   have HF2 := hide (frJ (HF.out.join FA.out) hF2 fun j hj => (World.ownsRow.lt HO1.out j hj).1)
                   have HO2 := hide hO2
                   clear hO2 hF2)
      have e : o ++ [0] = blocks bs := HE.out
      have ho := HO2.out
      rw [e] at ho
      have el : o.length + [0].length = (blocks bs).length := by rw [← e, List.length_append]
      rw [el] at ho
      go_ret
      exact ⟨a2, c2, by rw [← el]; rfl, ho, HF2.out⟩
    · have hp : 0 < rest.length := List.length_pos_iff.2 hne
      obtain ⟨ad, rfl⟩ : ∃ ad, ba = some ad := by
        rcases HR.out with ⟨_, e⟩ | ⟨ad, c', e, _⟩
        · exact absurd e hne
        · exact ⟨ad, (Value.slice.inj e).1⟩
      obtain ⟨m, hm⟩ : ∃ m, m = min rest.length 255 := ⟨_, rfl⟩
      have hE2 := HE.out
      rw [blocks_cons rest hne m hm] at hE2
      have hol : o.length + m + 1 ≤ 2000001 := by
        have := congrArg List.length hE2
        rw [List.length_append, List.length_cons, List.length_append, List.length_take] at this
        omega
      have hmi : (if (255 : Int) < (rest.length : Int) then (255 : Int) else (rest.length : Int)) = (m : Int) := by split <;> omega
      have hm1 : m ≤ 255 := by omega
      have hm2 : m ≤ rest.length := by omega
      have hm3 : 1 ≤ m := by omega
      have hwr8 : IntKind.u8.wrap (m : Int) = (m : Int) := by rw [IntKind.wrap_u8']; omega
      have HE2 := hide hE2
      have Hm := hide hm
      obtain ⟨n, hn⟩ : ∃ n, n = rest.length := ⟨_, rfl⟩
      have Hn := hide hn
      rw [← hn] at hrc hrl hp hmi hm2 ⊢
      clear hm hE2 HE
      have hpi : (0 : Int) < (n : Int) := by omega
      have HQ1 : Hid (o.length + [m].length ≤ 2147483648) := by show _ ≤ _; simp; omega
      obtain ⟨T, hT⟩ : ∃ T, T = rest.take m := ⟨_, rfl⟩
      have HTw : Hid (Lies w (.slice (some ad) m bc) T) := by rw [hT]; exact take_lies HR.out m bc (by rw [← Hn.out]; exact hm2)
      have Hlt : Hid (T.length = m) := by show _ = _; rw [hT, List.length_take, ← Hn.out]; omega
      have HT := hide hT
      have hmc : m ≤ bc := by omega
      have hmci : (m : Int) ≤ (bc : Int) := by omega
      clear hn hT
      go_upto_region 4 with fail
      refine wp_region_held_drew (S := fun _ => True) (by kernel_rfl) trivial (fun hHeld => ?_)
      obtain ⟨wz, hwz⟩ : ∃ W, W = wr.drew := ⟨_, rfl⟩
      have HFz : Hid (Fr (fun _ => False) wr wz) := by rw [hwz]; exact Fr.of_drewN wr 1
      rw [← hwz]
      clear hwz
      refine wpAnyH_take (i := 0) (v := ?v0_1) rfl (by kernel_rfl) (by kernel_rfl) (by kernel_rfl) (fun _ _ _ h => h) (Or.inl ⟨by rfl, ?hy0_1⟩) hHeld ?rest0_1
      case hy0_1 => (intro W hSw; (try dsimp only at hSw); go_simp; all_goals (with_reducible rfl))
      change wpAnyH _ _ _ _ _ _ _ (Act.put _ (some 11) _) _
      simp only [Act.put, List.setIfInBounds_toArray, List.set_cons_zero, List.set_cons_succ]
      refine wpAnyH_take (i := 1) (v := ?v1_1) rfl (by kernel_rfl) (by kernel_rfl) (by kernel_rfl) (fun _ _ _ h => h) (Or.inl ⟨by rfl, ?hy1_1⟩) hHeld ?rest1_1
      case hy1_1 => (intro W hSw; (try dsimp only at hSw); go_simp; all_goals (with_reducible rfl))
      change wpAnyH _ _ _ _ _ _ _ (Act.put _ (some 12) _) _
      simp only [Act.put, List.setIfInBounds_toArray, List.set_cons_zero, List.set_cons_succ]
      refine wpAnyH_take (i := 5) (v := ?v5_1) rfl (by kernel_rfl) (by kernel_rfl) (by kernel_rfl) (fun _ _ _ h => h) (Or.inl ⟨by rfl, ?hy5_1⟩) hHeld ?rest5_1
      case hy5_1 => (intro W hSw; (try dsimp only at hSw); go_simp; all_goals (with_reducible rfl))
      change wpAnyH _ _ _ _ _ _ _ (Act.put _ (some 16) _) _
      simp only [Act.put, List.setIfInBounds_toArray, List.set_cons_zero, List.set_cons_succ]
      refine wpAnyH_take (i := 6) (v := ?v6_1) rfl (by kernel_rfl) (by kernel_rfl) (by kernel_rfl) (fun _ _ _ h => h) (Or.inl ⟨by rfl, ?hy6_1⟩) hHeld ?rest6_1
      case hy6_1 => (intro W hSw; (try dsimp only at hSw); go_simp; all_goals (with_reducible rfl))
      change wpAnyH _ _ _ _ _ _ _ (Act.put _ (some 17) _) _
      simp only [Act.put, List.setIfInBounds_toArray, List.set_cons_zero, List.set_cons_succ]
      refine wpAnyH_take (i := 2) (v := ?v2_2) rfl (by kernel_rfl) (by kernel_rfl) (by kernel_rfl) (fun _ _ _ h => h) (Or.inl ⟨by rfl, ?hy2_2⟩) hHeld ?rest2_2
      case hy2_2 => (intro W hSw; (try dsimp only at hSw); go_simp; all_goals (with_reducible rfl))
      change wpAnyH _ _ _ _ _ _ _ (Act.put _ (some 13) _) _
      simp only [Act.put, List.setIfInBounds_toArray, List.set_cons_zero, List.set_cons_succ]
      refine wpAnyH_take (i := 7) (v := ?v7_2) rfl (by kernel_rfl) (by kernel_rfl) (by kernel_rfl) (fun _ _ _ h => h) (Or.inl ⟨by rfl, ?hy7_2⟩) hHeld ?rest7_2
      case hy7_2 => (intro W hSw; (try dsimp only at hSw); go_simp; all_goals (with_reducible rfl))
      change wpAnyH _ _ _ _ _ _ _ (Act.put _ (some 18) _) _
      simp only [Act.put, List.setIfInBounds_toArray, List.set_cons_zero, List.set_cons_succ]
      refine wpAnyH_ready (rs := [3]) (by kernel_rfl) (by simp) ?_
      refine (AllReadyH.cons rfl (fun K hK => ?_) AllReadyH.nil)
      try simp only [List.getElem_toArray, List.getElem_cons_succ, List.getElem_cons_zero]
      go_simp
      obtain ⟨w1, hw1⟩ : ∃ W, W = wz.alloc (.cells (cellsOf [m]).toArray 5) := ⟨_, rfl⟩
      have hw1b : wz.alloc (.cells #[.int .u8 (m : Int)] 5) = w1 := hw1.symm
      obtain ⟨e5, he5⟩ : ∃ e, e = wz.heap.size := ⟨_, rfl⟩
      rw [hw1b, ← he5]
      have FA : Hid (Fr (fun _ => False) wr w1) := by rw [hw1]; exact HFz.out.join (Fr.of_alloc _ _)
      have HL0 : Hid (Lies w1 (.slice (some ⟨e5, 0, none⟩) 1 1) [m]) := by rw [hw1, he5]; exact lies_lit wz [m] 1
      have HO1 : Hid (OwnB w1 w.heap.size (.slice oa o.length oc) o) := ownsRow_fr HO.out fun j hj => FA.out.block j (World.ownsRow.lt HO.out j hj).2 (fun h => h)
      have HS1 : Hid (w.heap.size ≤ w1.heap.size) := Nat.le_trans HF.out.size FA.out.size
      clear hw1 hw1b he5
      refine hK.out _ _ trivial (fun hHeld => ?_)
      clear hK K
      refine wpAnyH_ready (rs := [4]) (by kernel_rfl) (by simp) ?_
      refine (AllReadyH.cons rfl (fun K hK => ?_) AllReadyH.nil)
      try simp only [List.getElem_toArray, List.getElem_cons_succ, List.getElem_cons_zero]
      rw [if_pos (by rfl)]
      refine wp_app (.tmp 11) (.tmp 14) (by rfl) w.heap.size (.slice oa o.length oc) o (by rfl) HO1.out (.slice (some ⟨e5, 0, none⟩) 1 1) [m] (by rfl) HL0.out HQ1.out HS1.out ?_
      intro a2 c2 w2 hO2 hF2 _
      have HF2 := hide (frJ (HF.out.join FA.out) hF2 fun j hj => (World.ownsRow.lt HO1.out j hj).1)
      have HS2 := hide (Nat.le_trans HS1.out hF2.size)
      obtain ⟨o2, ho2⟩ : ∃ o2, o2 = o ++ [m] := ⟨_, rfl⟩
      have hL2 : o.length + [m].length = o2.length := by rw [ho2, List.length_append]
      rw [← ho2, hL2] at hO2
      rw [hL2]
      have HO2b := hide hO2
      have Ho2 := hide ho2
      have hol2 : o2.length ≤ 3000000 := by rw [← hL2]; simp; omega
      have HLt : Hid (Lies w2 (.slice (some ad) m bc) T) := lies_false HTw.out HF2.out
      have HQ2 : Hid (o2.length + T.length ≤ 2147483648) := by show _ ≤ _; rw [Hlt.out]; omega
      clear hO2 hF2 ho2 hL2
      refine hK.out _ _ trivial (fun hHeld => ?_)
      clear hK K
      refine wpAnyH_ready (rs := [8]) (by kernel_rfl) (by simp) ?_
      refine (AllReadyH.cons rfl (fun K hK => ?_) AllReadyH.nil)
      try simp only [List.getElem_toArray, List.getElem_cons_succ, List.getElem_cons_zero]
      rw [if_pos (by rfl)]
      refine wp_app (.tmp 15) (.tmp 18) (by rfl) w.heap.size (.slice a2 o2.length c2) o2 (by rfl) HO2b.out (.slice (some ad) m bc) T (by rfl) HLt.out HQ2.out HS2.out ?_
      intro a3 c3 w3 hO3 hF3 _
      have HF3 := hide (frJ HF2.out hF3 fun j hj => (World.ownsRow.lt HO2b.out j hj).1)
      have HO3 := hide hO3
      clear hO3 hF3
      rw [Hlt.out]
      refine hK.out _ _ trivial (fun hHeld => ?_)
      clear hK K
      refine wpAnyH_take (i := 9) (v := ?v9_3) rfl (by kernel_rfl) (by kernel_rfl) (by kernel_rfl) (fun _ _ _ h => h) (Or.inl ⟨by rfl, ?hy9_3⟩) hHeld ?rest9_3
      case hy9_3 => (intro W hSw; (try dsimp only at hSw); go_simp; all_goals (with_reducible rfl))
      change wpAnyH _ _ _ _ _ _ _ (Act.put _ (some 3) _) _
      simp only [Act.put, List.setIfInBounds_toArray, List.set_cons_zero, List.set_cons_succ]
      refine wpAnyH_done (by kernel_rfl) ?_ _
      have HO3b : Hid (OwnB w3 w.heap.size (.slice a3 (o2 ++ T).length c3) (o2 ++ T)) := by
        have h := HO3.out
        rw [← List.length_append] at h
        exact h
      have HEn : Hid ((o2 ++ T) ++ blocks (rest.drop m) = blocks bs) := by
        show _ = _
        rw [← HE2.out, Ho2.out, HT.out]
        simp
      have hlo : o2.length + m = (o2 ++ T).length := by rw [List.length_append, Hlt.out]
      have hld : n - m = (rest.drop m).length := by rw [List.length_drop, ← Hn.out]
      have hmn : (m : Int) ≤ (n : Int) := by omega
      have Hld := hide hld
      have Hlo := hide hlo
      clear hld hlo HO2b HLt HQ2 HO3
      by_cases hcm : bc = m
      · go_wp2_with fail
        go_roundw
        case rel =>
          refine ⟨rest.drop m, o2 ++ T, some ad, 0, a3, c3, by rw [Hld.out], ?_, sub_bytes HRb.out m, by rw [← Hld.out]; omega, by rw [← Hld.out]; omega, by rw [Hlo.out], HO3b.out, HEn.out, HF3.out⟩
          have e : rest.drop m = [] := List.eq_nil_of_length_eq_zero (by rw [← Hld.out]; omega)
          show Lies _ _ _
          rw [e]
          exact Or.inr ⟨ad, 0, rfl, fun j u hu => by simp [cellsOf] at hu⟩
        case measure => simp [lenOf]; have := Hn.out; omega
      · go_wp2_with fail
        go_roundw
        case rel =>
          refine ⟨rest.drop m, o2 ++ T, some (ad.add m), bc - m, a3, c3, by rw [Hld.out], ?_, sub_bytes HRb.out m, by rw [← Hld.out]; omega, by rw [← Hld.out]; omega, by rw [Hlo.out], HO3b.out, HEn.out, HF3.out⟩
          exact drop_lies HR.out m (bc - m)
        case measure => simp [lenOf]; have := Hn.out; omega
end Go.Proofs.Ytdbgolklgiadeaa
