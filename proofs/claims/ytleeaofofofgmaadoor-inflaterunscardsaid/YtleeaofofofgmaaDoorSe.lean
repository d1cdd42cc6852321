/-
  The law InflateStored: its walk.
-/
import Derived.Test.YtleeaofofofgmaaDoorSd
namespace Go.Proofs.YtleeaofofofgmaaDoor
open Go.RowKit

theorem lies_ownB {w : World} {base : Nat} {v : Value} {bs : List Nat} (h : OwnB w base v bs) : Lies w v bs := lies_own h

theorem stored_mid {wr w2 : World} {B : List Nat} {less c2 : Nat} {a2 : Option Addr} (_hless : less < 256) (hlB : B.length ≤ 1005 * 20) (FA : Fr (fun _ => False) wr (wr.alloc (.cells #[] 5))) (O0 : OwnB (wr.alloc (.cells #[] 5)) wr.heap.size (.slice (some ⟨wr.heap.size, 0, none⟩) 0 0) [])
    (hO2 : OwnB w2 wr.heap.size (.slice a2 (([] : List Nat).length + B.length) c2) ([] ++ B)) (hF2 : Fr (fun i => (Value.slice (some ⟨wr.heap.size, 0, none⟩) 0 0).ownBlock = some i) (wr.alloc (.cells #[] 5)) w2) :
    Hid (Fr (fun _ => False) wr w2) ∧ Hid (OwnB (w2.alloc (.cells #[.int .u8 (less : Int)] 5)) wr.heap.size (.slice a2 B.length c2) B) ∧ Hid (Lies (w2.alloc (.cells #[.int .u8 (less : Int)] 5)) (.slice (some ⟨w2.heap.size, 0, none⟩) 1 1) [less]) ∧
    Hid (Fr (fun _ => False) w2 (w2.alloc (.cells #[.int .u8 (less : Int)] 5))) ∧ wr.heap.size ≤ (w2.alloc (.cells #[.int .u8 (less : Int)] 5)).heap.size ∧ Hid (B.length + [less].length ≤ 2147483648) ∧ ([] : List Nat).length + B.length = B.length := by
  have e0 : ([] : List Nat).length + B.length = B.length := Nat.zero_add _
  rw [e0, List.nil_append] at hO2
  have F2 : Fr (fun _ => False) wr w2 := frNew FA O0 hF2
  have FB : Fr (fun _ => False) w2 (w2.alloc (.cells #[.int .u8 (less : Int)] 5)) := Fr.of_alloc _ _
  exact ⟨F2, ownsRow_fr hO2 fun k hk => FB.block k (World.ownsRow.lt hO2 k hk).2 (fun e => e), lies_lit w2 [less] 1, FB, Nat.le_trans F2.size FB.size, (by show _ ≤ _; simp; omega), e0⟩

set_option maxHeartbeats 1600000 in
set_option maxRecDepth 100000 in
theorem stored_c (a : Option Addr) (n cap : Nat) (ls : List (List Nat)) (w : World) (less : Nat) (hless : less < 256) (h : IsRows w a n ls) (hg : Gw w) :
    Calls Tryd.prog 5 #[.slice a n cap, .int .u8 (less : Int)] w fun e w' => e = .returned (.bool true) ∧ Fr (fun _ => False) w w' := by
  have HG := hide hg
  have HR := hide h
  clear hg h
  go_enter Tryd.func5, Tryd.ntmps5
  go_wp2_with fail
  refine (awake_c w HG.out).mono ?_
  rintro e w0 ⟨rfl, hF0⟩
  have HG0 := hide (HG.out.fr hF0)
  have HF0 := hide hF0
  clear hF0
  by_cases hbig : 20 < n
  · have hbi : (20 : Int) < n := by omega
    go_wp2
    go_ret
    exact ⟨rfl, HF0.out⟩
  by_cases h0 : n = 0
  · subst h0
    go_wp2
    go_ret
    exact ⟨rfl, HF0.out⟩
  have hbi : ¬ (20 : Int) < n := by omega
  have h0i : ¬ (n : Int) = 0 := by omega
  have h0b : ((n : Int) == 0) = false := beq_false_of_ne h0i
  have hls : ls.length = n := HR.out.n
  have hne : ls ≠ [] := by rintro rfl; simp at hls; omega
  have Hls := hide hls
  have Hne := hide hne
  clear hls hne
  go_wp2_with fail
  go_loopw [5, 6, 7, 8, 9] (fun tb tw ti _ _ wr => ∃ (i : Nat) (ab aw : Option Addr) (cb cw : Nat) (B X : List Nat), tb = .slice ab B.length cb ∧ tw = .slice aw X.length cw ∧ ti = .int .i64 i ∧ Sl4 w0 ls wr i (.slice ab B.length cb) (.slice aw X.length cw) B X) (fun _ _ ti _ _ _ => n - (intOf ti).toNat)
  case atStart => exact ⟨0, none, none, 0, 0, [], [], rfl, rfl, rfl, Sl4.start w0 ls Hne.out⟩
  case round =>
    obtain ⟨i, ab, aw, cb, cw, B, X, rfl, rfl, rfl, hS⟩ := hrel
    have hil := hS.le
    rw [Hls.out] at hil
    by_cases hlt : i < n
    · obtain ⟨ad, a', c', rfl, hcell, hlies⟩ := HR.out.lies i hlt
      obtain ⟨ys, hys⟩ : ∃ ys, ys = ls.getD i [] := ⟨_, rfl⟩
      rw [← hys] at hcell hlies
      have Hys := hide hys
      obtain ⟨m, hm⟩ : ∃ m, m = ys.length := ⟨_, rfl⟩
      rw [← hm] at hcell hlies
      have Hm := hide hm
      have HS := hide hS
      have hFw : Fr (fun _ => False) w wr := HF0.out.join hS.fr
      have hc : wr.cell? (ad.add i) = some (.slice a' m c') := by
        rw [cell_blk (hFw.block _ (cell_lt hcell) (fun h => h))]; exact hcell
      have HL := hide (lies_fr hlies hFw)
      have HL0 : Hid (Lies w0 (.slice a' m c') ys) := lies_fr hlies HF0.out
      have HFw := hide hFw
      have Hil := hide hil
      clear hcell hlies hFw hS hys hm hil
      have hlti : (i : Int) < (n : Int) := by omega
      by_cases hbig1 : 1000 < m
      · have hbj : (1000 : Int) < (m : Int) := by omega
        go_wp2
        go_ret
        exact ⟨rfl, HFw.out⟩
      · have hbj : ¬ (1000 : Int) < (m : Int) := by omega
        obtain ⟨f, hf⟩ : ∃ f, f = if i + 1 = n then 1 else 0 := ⟨_, rfl⟩
        have Hf := hide hf
        have F0 : Hid (Fr (fun _ => False) wr (wr.drew)) := Fr.of_drewN wr 1
        have hcd : (wr.drew).cell? (ad.add i) = some (.slice a' m c') := by rw [cell_blk (F0.out.block _ (cell_lt hc) (fun h => h))]; exact hc
        have HOb : Hid (OwnB wr w0.heap.size (.slice ab B.length cb) B) := HS.out.b
        have HOx : Hid (OwnB wr w0.heap.size (.slice aw X.length cw) X) := HS.out.x
        have HKC : Hid ((ad.add i).block < w0.heap.size) := by
          obtain ⟨ad2, _, _, e, hcell, _⟩ := HR.out.lies i hlt
          cases e
          exact Nat.lt_of_lt_of_le (cell_lt hcell) HF0.out.size
        have hlB : B.length ≤ 1005 * 20 := by have := HS.out.len.2; have := Hil.out; omega
        have hlX : X.length ≤ 1000 * 20 := by have := HS.out.len.1; have := Hil.out; omega
        have hm1 : m ≤ 1000 := by omega
        by_cases hlast : i + 1 = n
        · have hl1 : ((i : Int) == (n : Int) - 1) = true := beq_iff_eq.2 (by omega)
          go_wp2
          refine wp_region_held_drew (S := fun W' => W'.cell? (ad.add i) = some (.slice a' m c')) (by kernel_rfl) hcd (fun hHeld => ?_)
          refine wpAnyH_take (i := 0) (v := ?v0) rfl (by kernel_rfl) (by kernel_rfl) (by kernel_rfl) (fun _ _ _ h => h) (Or.inl ⟨by rfl, ?hy0⟩) hHeld ?rest0
          case hy0 => (intro W hSw; (try dsimp only at hSw); go_simp; all_goals (with_reducible rfl))
          change wpAnyH _ _ _ _ _ _ _ (Act.put _ (some 49) _) _
          simp only [Act.put, List.setIfInBounds_toArray, List.set_cons_zero, List.set_cons_succ]
          refine wpAnyH_take (i := 1) (v := ?v1) rfl (by kernel_rfl) (by kernel_rfl) (by kernel_rfl) (fun _ _ _ h => h) (Or.inl ⟨by rfl, ?hy1⟩) hHeld ?rest1
          case hy1 => (intro W hSw; (try dsimp only at hSw); go_simp; all_goals (with_reducible rfl))
          change wpAnyH _ _ _ _ _ _ _ (Act.put _ (some 50) _) _
          simp only [Act.put, List.setIfInBounds_toArray, List.set_cons_zero, List.set_cons_succ]
          refine wpAnyH_take (i := 2) (v := ?v2) rfl (by kernel_rfl) (by kernel_rfl) (by kernel_rfl) (fun _ _ _ h => h) (Or.inl ⟨by rfl, ?hy2⟩) hHeld ?rest2
          case hy2 => (intro W hSw; (try dsimp only at hSw); go_simp; all_goals (with_reducible rfl))
          change wpAnyH _ _ _ _ _ _ _ (Act.put _ (some 51) _) _
          simp only [Act.put, List.setIfInBounds_toArray, List.set_cons_zero, List.set_cons_succ]
          refine wpAnyH_take (i := 4) (v := ?v4) rfl (by kernel_rfl) (by kernel_rfl) (by kernel_rfl) (fun _ _ _ h => h) (Or.inl ⟨by rfl, ?hy4⟩) hHeld ?rest4
          case hy4 => (intro W hSw; (try dsimp only at hSw); go_simp; all_goals (with_reducible rfl))
          change wpAnyH _ _ _ _ _ _ _ (Act.put _ (some 53) _) _
          simp only [Act.put, List.setIfInBounds_toArray, List.set_cons_zero, List.set_cons_succ]
          refine wpAnyH_take (i := 7) (v := ?v7) rfl (by kernel_rfl) (by kernel_rfl) (by kernel_rfl) (fun _ _ _ h => h) (Or.inl ⟨by rfl, ?hy7⟩) hHeld ?rest7
          case hy7 => (intro W hSw; (try dsimp only at hSw); go_simp; all_goals (with_reducible rfl))
          change wpAnyH _ _ _ _ _ _ _ (Act.put _ (some 56) _) _
          simp only [Act.put, List.setIfInBounds_toArray, List.set_cons_zero, List.set_cons_succ]
          refine wpAnyH_take (i := 10) (v := ?v10) rfl (by kernel_rfl) (by kernel_rfl) (by kernel_rfl) (fun _ _ _ h => h) (Or.inl ⟨by rfl, ?hy10⟩) hHeld ?rest10
          case hy10 => (intro W hSw; (try dsimp only at hSw); go_simp; all_goals (with_reducible rfl))
          change wpAnyH _ _ _ _ _ _ _ (Act.put _ (some 59) _) _
          simp only [Act.put, List.setIfInBounds_toArray, List.set_cons_zero, List.set_cons_succ]
          refine wpAnyH_take (i := 16) (v := ?v16) rfl (by kernel_rfl) (by kernel_rfl) (by kernel_rfl) (fun _ _ _ h => h) (Or.inl ⟨by rfl, ?hy16⟩) hHeld ?rest16
          case hy16 => (intro W hSw; (try dsimp only at hSw); go_simp; all_goals (with_reducible rfl))
          change wpAnyH _ _ _ _ _ _ _ (Act.put _ (some 65) _) _
          simp only [Act.put, List.setIfInBounds_toArray, List.set_cons_zero, List.set_cons_succ]
          refine wpAnyH_take (i := 17) (v := ?v17) rfl (by kernel_rfl) (by kernel_rfl) (by kernel_rfl) (fun _ _ _ h => h) (Or.inl ⟨by rfl, ?hy17⟩) hHeld ?rest17
          case hy17 => (intro W hSw; (try dsimp only at hSw); go_simp; all_goals (with_reducible rfl))
          change wpAnyH _ _ _ _ _ _ _ (Act.put _ (some 66) _) _
          simp only [Act.put, List.setIfInBounds_toArray, List.set_cons_zero, List.set_cons_succ]
          refine wpAnyH_take (i := 3) (v := ?v3) rfl (by kernel_rfl) (by kernel_rfl) (by kernel_rfl) (fun _ _ _ h => h) (Or.inl ⟨by rfl, ?hy3⟩) hHeld ?rest3
          case hy3 => (intro W hSw; (try dsimp only at hSw); go_simp; all_goals (with_reducible rfl))
          change wpAnyH _ _ _ _ _ _ _ (Act.put _ (some 52) _) _
          simp only [Act.put, List.setIfInBounds_toArray, List.set_cons_zero, List.set_cons_succ]
          refine wpAnyH_take (i := 5) (v := ?v5) rfl (by kernel_rfl) (by kernel_rfl) (by kernel_rfl) (fun _ _ _ h => h) (Or.inl ⟨by rfl, ?hy5⟩) hHeld ?rest5
          case hy5 => (intro W hSw; (try dsimp only at hSw); go_simp; all_goals (with_reducible rfl))
          change wpAnyH _ _ _ _ _ _ _ (Act.put _ (some 54) _) _
          simp only [Act.put, List.setIfInBounds_toArray, List.set_cons_zero, List.set_cons_succ]
          refine wpAnyH_take (i := 8) (v := ?v8) rfl (by kernel_rfl) (by kernel_rfl) (by kernel_rfl) (fun _ _ _ h => h) (Or.inl ⟨by rfl, ?hy8⟩) hHeld ?rest8
          case hy8 => (intro W hSw; (try dsimp only at hSw); go_simp; all_goals (with_reducible rfl))
          change wpAnyH _ _ _ _ _ _ _ (Act.put _ (some 57) _) _
          simp only [Act.put, List.setIfInBounds_toArray, List.set_cons_zero, List.set_cons_succ]
          refine wpAnyH_take (i := 11) (v := ?v11) rfl (by kernel_rfl) (by kernel_rfl) (by kernel_rfl) (fun _ _ _ h => h) (Or.inl ⟨by rfl, ?hy11⟩) hHeld ?rest11
          case hy11 => (intro W hSw; (try dsimp only at hSw); go_simp; all_goals (with_reducible rfl))
          change wpAnyH _ _ _ _ _ _ _ (Act.put _ (some 60) _) _
          simp only [Act.put, List.setIfInBounds_toArray, List.set_cons_zero, List.set_cons_succ]
          refine wpAnyH_take (i := 18) (v := ?v18) rfl (by kernel_rfl) (by kernel_rfl) (by kernel_rfl) (fun _ _ _ h => h) (Or.inl ⟨by rfl, ?hy18⟩) hHeld ?rest18
          case hy18 => (intro W hSw; (try dsimp only at hSw); go_simp; all_goals (with_reducible rfl))
          change wpAnyH _ _ _ _ _ _ _ (Act.put _ (some 67) _) _
          simp only [Act.put, List.setIfInBounds_toArray, List.set_cons_zero, List.set_cons_succ]
          refine wpAnyH_take (i := 6) (v := ?v6) rfl (by kernel_rfl) (by kernel_rfl) (by kernel_rfl) (fun _ _ _ h => h) (Or.inl ⟨by rfl, ?hy6⟩) hHeld ?rest6
          case hy6 => (intro W hSw; (try dsimp only at hSw); go_simp; all_goals (with_reducible rfl))
          change wpAnyH _ _ _ _ _ _ _ (Act.put _ (some 55) _) _
          simp only [Act.put, List.setIfInBounds_toArray, List.set_cons_zero, List.set_cons_succ]
          refine wpAnyH_take (i := 9) (v := ?v9) rfl (by kernel_rfl) (by kernel_rfl) (by kernel_rfl) (fun _ _ _ h => h) (Or.inl ⟨by rfl, ?hy9⟩) hHeld ?rest9
          case hy9 => (intro W hSw; (try dsimp only at hSw); go_simp; all_goals (with_reducible rfl))
          change wpAnyH _ _ _ _ _ _ _ (Act.put _ (some 58) _) _
          simp only [Act.put, List.setIfInBounds_toArray, List.set_cons_zero, List.set_cons_succ]
          refine wpAnyH_take (i := 12) (v := ?v12) rfl (by kernel_rfl) (by kernel_rfl) (by kernel_rfl) (fun _ _ _ h => h) (Or.inl ⟨by rfl, ?hy12⟩) hHeld ?rest12
          case hy12 => (intro W hSw; (try dsimp only at hSw); go_simp; all_goals (with_reducible rfl))
          change wpAnyH _ _ _ _ _ _ _ (Act.put _ (some 61) _) _
          simp only [Act.put, List.setIfInBounds_toArray, List.set_cons_zero, List.set_cons_succ]
          refine wpAnyH_take (i := 19) (v := ?v19) rfl (by kernel_rfl) (by kernel_rfl) (by kernel_rfl) (fun _ _ _ h => h) (Or.inl ⟨by rfl, ?hy19⟩) hHeld ?rest19
          case hy19 => (intro W hSw; (try dsimp only at hSw); go_simp; all_goals (with_reducible rfl))
          change wpAnyH _ _ _ _ _ _ _ (Act.put _ (some 68) _) _
          simp only [Act.put, List.setIfInBounds_toArray, List.set_cons_zero, List.set_cons_succ]
          refine wpAnyH_take (i := 13) (v := ?v13) rfl (by kernel_rfl) (by kernel_rfl) (by kernel_rfl) (fun _ _ _ h => h) (Or.inl ⟨by rfl, ?hy13⟩) hHeld ?rest13
          case hy13 => (intro W hSw; (try dsimp only at hSw); go_simp; all_goals (with_reducible rfl))
          change wpAnyH _ _ _ _ _ _ _ (Act.put _ (some 62) _) _
          simp only [Act.put, List.setIfInBounds_toArray, List.set_cons_zero, List.set_cons_succ]
          refine wpAnyH_ready (rs := [14]) (by kernel_rfl) (by simp) ?_
          refine AllReadyH.cons rfl (fun K hK => ?_) AllReadyH.nil
          try simp only [List.getElem_toArray, List.getElem_cons_succ, List.getElem_cons_zero]
          go_simp
          refine after_five wr _ _ _ _ _ (shead 1 m) (five_eq 1 m hm1) (fun w1 hT5 hF1 => ?_)
          have HT5 := hide hT5
          have HF1 := hide hF1
          have hc1 : w1.cell? (ad.add i) = some (.slice a' m c') := keepc HF1.out hc (fun h => h)
          have HO1 : Hid (OwnB w1 w0.heap.size (.slice ab B.length cb) B) := ownsRow_fr HOb.out fun k hk => HF1.out.block k (World.ownsRow.lt HOb.out k hk).2 (fun e => e)
          have hz1 : w0.heap.size ≤ w1.heap.size := Nat.le_trans HS.out.fr.size HF1.out.size
          have q1 : Hid (B.length + (shead 1 m).length ≤ 2147483648) := by show _ ≤ _; rw [shead_len]; omega
          clear hT5 hF1
          refine hK.out _ _ hc1 (fun hHeld => ?_)
          clear hK K
          refine wpAnyH_ready (rs := [15]) (by kernel_rfl) (by simp) ?_
          refine AllReadyH.cons rfl (fun K hK => ?_) AllReadyH.nil
          try simp only [List.getElem_toArray, List.getElem_cons_succ, List.getElem_cons_zero]
          rw [if_pos (by rfl)]
          refine wp_app (.tmp 49) (.tmp 63) (by rfl) w0.heap.size (.slice ab B.length cb) B (by rfl) HO1.out (.slice (some ⟨wr.heap.size, 0, none⟩) 5 5) (shead 1 m) (by rfl) HT5.out q1.out hz1 ?_
          intro ab2 cb2 w2 hO2 hF2 hA2
          have HO2 := hide hO2
          have HF2 := hide hF2
          have HA2 := hide hA2
          have hc2 : w2.cell? (ad.add i) = some (.slice a' m c') := keepc HF2.out hc1 (fun h => by have := (World.ownsRow.lt HO1.out _ h).1; have := HKC.out; omega)
          have hz2 : w0.heap.size ≤ w2.heap.size := Nat.le_trans hz1 HF2.out.size
          have F2w : Hid (Fr (fun _ => False) w0 w2) := frNew (HS.out.fr.join HF1.out) HO1.out HF2.out
          have HL2 : Hid (Lies w2 (.slice a' m c') ys) := lies_fr HL0.out F2w.out
          have q2 : Hid ((B ++ shead 1 m).length + ys.length ≤ 2147483648) := by show _ ≤ _; rw [List.length_append, shead_len, ← Hm.out]; omega
          clear hO2 hF2 hA2
          refine hK.out _ _ hc2 (fun hHeld => ?_)
          clear hK K
          refine wpAnyH_ready (rs := [20]) (by kernel_rfl) (by simp) ?_
          refine AllReadyH.cons rfl (fun K hK => ?_) AllReadyH.nil
          try simp only [List.getElem_toArray, List.getElem_cons_succ, List.getElem_cons_zero]
          rw [if_pos (by rfl)]
          refine wp_app (.tmp 64) (.tmp 68) (by rfl) w0.heap.size (.slice ab2 (B.length + (shead 1 m).length) cb2) (B ++ shead 1 m) (by rfl) HO2.out (.slice a' m c') ys (by rfl) HL2.out q2.out hz2 ?_
          intro ab3 cb3 w3 hO3 hF3 hA3
          have HO3 := hide hO3
          have HF3 := hide hF3
          have HA3 := hide hA3
          have hc3 : w3.cell? (ad.add i) = some (.slice a' m c') := keepc HF3.out hc2 (fun h => by have := (World.ownsRow.lt HO2.out _ h).1; have := HKC.out; omega)
          have F3w : Hid (Fr (fun _ => False) w0 w3) := frNew F2w.out HO2.out HF3.out
          clear hO3 hF3 hA3
          refine hK.out _ _ hc3 (fun hHeld => ?_)
          clear hK K
          refine wpAnyH_take (i := 21) (v := ?v21) rfl (by kernel_rfl) (by kernel_rfl) (by kernel_rfl) (fun _ _ _ h => h) (Or.inl ⟨by rfl, ?hy21⟩) hHeld ?rest21
          case hy21 => (intro W hSw; (try dsimp only at hSw); go_simp; all_goals (with_reducible rfl))
          change wpAnyH _ _ _ _ _ _ _ (Act.put _ (some 5) _) _
          simp only [Act.put, List.setIfInBounds_toArray, List.set_cons_zero, List.set_cons_succ]
          refine wpAnyH_done (by kernel_rfl) ?_ _
          have hz3 : w0.heap.size ≤ w3.heap.size := F3w.out.size
          have HX1 : Hid (OwnB w1 w0.heap.size (.slice aw X.length cw) X) := ownsRow_fr HOx.out fun k hk => HF1.out.block k (World.ownsRow.lt HOx.out k hk).2 (fun e => e)
          have P1 := own_apart HS.out.ap (fun k hk => (own_block_ge HX1.out hk).2) HA2.out
          have HX2 := own_keep HX1.out HF2.out HS.out.ap
          have HX3 : Hid (OwnB w3 w0.heap.size (.slice aw X.length cw) X) := own_keep HX2 HF3.out P1
          have HL3 : Hid (Lies w3 (.slice a' m c') ys) := lies_fr HL0.out F3w.out
          have q3 : Hid (X.length + ys.length ≤ 2147483648) := by show _ ≤ _; rw [← Hm.out]; omega
          clear P1 HX2
          go_wp2_with (at_builtin; go_must (refine wpList_app rfl (.tmp 70) (.tmp 74) rfl w0.heap.size (.slice aw X.length cw) X rfl HX3.out (.slice a' m c') ys rfl HL3.out q3.out hz3 ?_); intro aw4 cw4 w4 hO4 hF4 hA4; have HO4 := hide hO4; have HF4 := hide hF4; have HA4 := hide hA4; clear hO4 hF4 hA4)
          go_roundw
          case rel =>
            have e1 := Hys.out
            have e2 := Hm.out
            subst e2
            subst e1
            have st := HS.out.step (f := 1) (by rw [Hls.out]; exact hlt) hm1 (by rw [Hls.out]; rw [if_pos hlast]) HF1.out HO2.out HF2.out HA2.out HO3.out HF3.out HA3.out HO4.out HF4.out HA4.out
            refine ⟨i + 1, ab3, aw4, cb3, cw4, B ++ shead 1 (ls.getD i []).length ++ ls.getD i [], X ++ ls.getD i [], ?_, ?_, by go_num, ?_⟩
            rotate_left 2
            · have e3 : (B ++ shead 1 (ls.getD i []).length ++ ls.getD i []).length = (B ++ shead 1 (ls.getD i []).length).length + (ls.getD i []).length := List.length_append
              have e4 : (X ++ ls.getD i []).length = X.length + (ls.getD i []).length := List.length_append
              rw [← e3, ← e4] at st
              exact st
            · simp only [List.length_append]
            · simp only [List.length_append]
          case measure => simp [intOf]; omega
        · have hl0 : ¬ (i : Int) = (n : Int) - 1 := by omega
          have hl1 : ((i : Int) == (n : Int) - 1) = false := beq_false_of_ne hl0
          go_wp2
          refine wp_region_held_drew (S := fun W' => W'.cell? (ad.add i) = some (.slice a' m c')) (by kernel_rfl) hcd (fun hHeld => ?_)
          refine wpAnyH_take (i := 0) (v := ?v0z) rfl (by kernel_rfl) (by kernel_rfl) (by kernel_rfl) (fun _ _ _ h => h) (Or.inl ⟨by rfl, ?hy0z⟩) hHeld ?rest0z
          case hy0z => (intro W hSw; (try dsimp only at hSw); go_simp; all_goals (with_reducible rfl))
          change wpAnyH _ _ _ _ _ _ _ (Act.put _ (some 49) _) _
          simp only [Act.put, List.setIfInBounds_toArray, List.set_cons_zero, List.set_cons_succ]
          refine wpAnyH_take (i := 1) (v := ?v1z) rfl (by kernel_rfl) (by kernel_rfl) (by kernel_rfl) (fun _ _ _ h => h) (Or.inl ⟨by rfl, ?hy1z⟩) hHeld ?rest1z
          case hy1z => (intro W hSw; (try dsimp only at hSw); go_simp; all_goals (with_reducible rfl))
          change wpAnyH _ _ _ _ _ _ _ (Act.put _ (some 50) _) _
          simp only [Act.put, List.setIfInBounds_toArray, List.set_cons_zero, List.set_cons_succ]
          refine wpAnyH_take (i := 2) (v := ?v2z) rfl (by kernel_rfl) (by kernel_rfl) (by kernel_rfl) (fun _ _ _ h => h) (Or.inl ⟨by rfl, ?hy2z⟩) hHeld ?rest2z
          case hy2z => (intro W hSw; (try dsimp only at hSw); go_simp; all_goals (with_reducible rfl))
          change wpAnyH _ _ _ _ _ _ _ (Act.put _ (some 51) _) _
          simp only [Act.put, List.setIfInBounds_toArray, List.set_cons_zero, List.set_cons_succ]
          refine wpAnyH_take (i := 4) (v := ?v4z) rfl (by kernel_rfl) (by kernel_rfl) (by kernel_rfl) (fun _ _ _ h => h) (Or.inl ⟨by rfl, ?hy4z⟩) hHeld ?rest4z
          case hy4z => (intro W hSw; (try dsimp only at hSw); go_simp; all_goals (with_reducible rfl))
          change wpAnyH _ _ _ _ _ _ _ (Act.put _ (some 53) _) _
          simp only [Act.put, List.setIfInBounds_toArray, List.set_cons_zero, List.set_cons_succ]
          refine wpAnyH_take (i := 7) (v := ?v7z) rfl (by kernel_rfl) (by kernel_rfl) (by kernel_rfl) (fun _ _ _ h => h) (Or.inl ⟨by rfl, ?hy7z⟩) hHeld ?rest7z
          case hy7z => (intro W hSw; (try dsimp only at hSw); go_simp; all_goals (with_reducible rfl))
          change wpAnyH _ _ _ _ _ _ _ (Act.put _ (some 56) _) _
          simp only [Act.put, List.setIfInBounds_toArray, List.set_cons_zero, List.set_cons_succ]
          refine wpAnyH_take (i := 10) (v := ?v10z) rfl (by kernel_rfl) (by kernel_rfl) (by kernel_rfl) (fun _ _ _ h => h) (Or.inl ⟨by rfl, ?hy10z⟩) hHeld ?rest10z
          case hy10z => (intro W hSw; (try dsimp only at hSw); go_simp; all_goals (with_reducible rfl))
          change wpAnyH _ _ _ _ _ _ _ (Act.put _ (some 59) _) _
          simp only [Act.put, List.setIfInBounds_toArray, List.set_cons_zero, List.set_cons_succ]
          refine wpAnyH_take (i := 16) (v := ?v16z) rfl (by kernel_rfl) (by kernel_rfl) (by kernel_rfl) (fun _ _ _ h => h) (Or.inl ⟨by rfl, ?hy16z⟩) hHeld ?rest16z
          case hy16z => (intro W hSw; (try dsimp only at hSw); go_simp; all_goals (with_reducible rfl))
          change wpAnyH _ _ _ _ _ _ _ (Act.put _ (some 65) _) _
          simp only [Act.put, List.setIfInBounds_toArray, List.set_cons_zero, List.set_cons_succ]
          refine wpAnyH_take (i := 17) (v := ?v17z) rfl (by kernel_rfl) (by kernel_rfl) (by kernel_rfl) (fun _ _ _ h => h) (Or.inl ⟨by rfl, ?hy17z⟩) hHeld ?rest17z
          case hy17z => (intro W hSw; (try dsimp only at hSw); go_simp; all_goals (with_reducible rfl))
          change wpAnyH _ _ _ _ _ _ _ (Act.put _ (some 66) _) _
          simp only [Act.put, List.setIfInBounds_toArray, List.set_cons_zero, List.set_cons_succ]
          refine wpAnyH_take (i := 3) (v := ?v3z) rfl (by kernel_rfl) (by kernel_rfl) (by kernel_rfl) (fun _ _ _ h => h) (Or.inl ⟨by rfl, ?hy3z⟩) hHeld ?rest3z
          case hy3z => (intro W hSw; (try dsimp only at hSw); go_simp; all_goals (with_reducible rfl))
          change wpAnyH _ _ _ _ _ _ _ (Act.put _ (some 52) _) _
          simp only [Act.put, List.setIfInBounds_toArray, List.set_cons_zero, List.set_cons_succ]
          refine wpAnyH_take (i := 5) (v := ?v5z) rfl (by kernel_rfl) (by kernel_rfl) (by kernel_rfl) (fun _ _ _ h => h) (Or.inl ⟨by rfl, ?hy5z⟩) hHeld ?rest5z
          case hy5z => (intro W hSw; (try dsimp only at hSw); go_simp; all_goals (with_reducible rfl))
          change wpAnyH _ _ _ _ _ _ _ (Act.put _ (some 54) _) _
          simp only [Act.put, List.setIfInBounds_toArray, List.set_cons_zero, List.set_cons_succ]
          refine wpAnyH_take (i := 8) (v := ?v8z) rfl (by kernel_rfl) (by kernel_rfl) (by kernel_rfl) (fun _ _ _ h => h) (Or.inl ⟨by rfl, ?hy8z⟩) hHeld ?rest8z
          case hy8z => (intro W hSw; (try dsimp only at hSw); go_simp; all_goals (with_reducible rfl))
          change wpAnyH _ _ _ _ _ _ _ (Act.put _ (some 57) _) _
          simp only [Act.put, List.setIfInBounds_toArray, List.set_cons_zero, List.set_cons_succ]
          refine wpAnyH_take (i := 11) (v := ?v11z) rfl (by kernel_rfl) (by kernel_rfl) (by kernel_rfl) (fun _ _ _ h => h) (Or.inl ⟨by rfl, ?hy11z⟩) hHeld ?rest11z
          case hy11z => (intro W hSw; (try dsimp only at hSw); go_simp; all_goals (with_reducible rfl))
          change wpAnyH _ _ _ _ _ _ _ (Act.put _ (some 60) _) _
          simp only [Act.put, List.setIfInBounds_toArray, List.set_cons_zero, List.set_cons_succ]
          refine wpAnyH_take (i := 18) (v := ?v18z) rfl (by kernel_rfl) (by kernel_rfl) (by kernel_rfl) (fun _ _ _ h => h) (Or.inl ⟨by rfl, ?hy18z⟩) hHeld ?rest18z
          case hy18z => (intro W hSw; (try dsimp only at hSw); go_simp; all_goals (with_reducible rfl))
          change wpAnyH _ _ _ _ _ _ _ (Act.put _ (some 67) _) _
          simp only [Act.put, List.setIfInBounds_toArray, List.set_cons_zero, List.set_cons_succ]
          refine wpAnyH_take (i := 6) (v := ?v6z) rfl (by kernel_rfl) (by kernel_rfl) (by kernel_rfl) (fun _ _ _ h => h) (Or.inl ⟨by rfl, ?hy6z⟩) hHeld ?rest6z
          case hy6z => (intro W hSw; (try dsimp only at hSw); go_simp; all_goals (with_reducible rfl))
          change wpAnyH _ _ _ _ _ _ _ (Act.put _ (some 55) _) _
          simp only [Act.put, List.setIfInBounds_toArray, List.set_cons_zero, List.set_cons_succ]
          refine wpAnyH_take (i := 9) (v := ?v9z) rfl (by kernel_rfl) (by kernel_rfl) (by kernel_rfl) (fun _ _ _ h => h) (Or.inl ⟨by rfl, ?hy9z⟩) hHeld ?rest9z
          case hy9z => (intro W hSw; (try dsimp only at hSw); go_simp; all_goals (with_reducible rfl))
          change wpAnyH _ _ _ _ _ _ _ (Act.put _ (some 58) _) _
          simp only [Act.put, List.setIfInBounds_toArray, List.set_cons_zero, List.set_cons_succ]
          refine wpAnyH_take (i := 12) (v := ?v12z) rfl (by kernel_rfl) (by kernel_rfl) (by kernel_rfl) (fun _ _ _ h => h) (Or.inl ⟨by rfl, ?hy12z⟩) hHeld ?rest12z
          case hy12z => (intro W hSw; (try dsimp only at hSw); go_simp; all_goals (with_reducible rfl))
          change wpAnyH _ _ _ _ _ _ _ (Act.put _ (some 61) _) _
          simp only [Act.put, List.setIfInBounds_toArray, List.set_cons_zero, List.set_cons_succ]
          refine wpAnyH_take (i := 19) (v := ?v19z) rfl (by kernel_rfl) (by kernel_rfl) (by kernel_rfl) (fun _ _ _ h => h) (Or.inl ⟨by rfl, ?hy19z⟩) hHeld ?rest19z
          case hy19z => (intro W hSw; (try dsimp only at hSw); go_simp; all_goals (with_reducible rfl))
          change wpAnyH _ _ _ _ _ _ _ (Act.put _ (some 68) _) _
          simp only [Act.put, List.setIfInBounds_toArray, List.set_cons_zero, List.set_cons_succ]
          refine wpAnyH_take (i := 13) (v := ?v13z) rfl (by kernel_rfl) (by kernel_rfl) (by kernel_rfl) (fun _ _ _ h => h) (Or.inl ⟨by rfl, ?hy13z⟩) hHeld ?rest13z
          case hy13z => (intro W hSw; (try dsimp only at hSw); go_simp; all_goals (with_reducible rfl))
          change wpAnyH _ _ _ _ _ _ _ (Act.put _ (some 62) _) _
          simp only [Act.put, List.setIfInBounds_toArray, List.set_cons_zero, List.set_cons_succ]
          refine wpAnyH_ready (rs := [14]) (by kernel_rfl) (by simp) ?_
          refine AllReadyH.cons rfl (fun K hK => ?_) AllReadyH.nil
          try simp only [List.getElem_toArray, List.getElem_cons_succ, List.getElem_cons_zero]
          go_simp
          refine after_five wr _ _ _ _ _ (shead 0 m) (five_eq 0 m hm1) (fun w1 hT5 hF1 => ?_)
          have HT5 := hide hT5
          have HF1 := hide hF1
          have hc1 : w1.cell? (ad.add i) = some (.slice a' m c') := keepc HF1.out hc (fun h => h)
          have HO1 : Hid (OwnB w1 w0.heap.size (.slice ab B.length cb) B) := ownsRow_fr HOb.out fun k hk => HF1.out.block k (World.ownsRow.lt HOb.out k hk).2 (fun e => e)
          have hz1 : w0.heap.size ≤ w1.heap.size := Nat.le_trans HS.out.fr.size HF1.out.size
          have q1 : Hid (B.length + (shead 0 m).length ≤ 2147483648) := by show _ ≤ _; rw [shead_len]; omega
          clear hT5 hF1
          refine hK.out _ _ hc1 (fun hHeld => ?_)
          clear hK K
          refine wpAnyH_ready (rs := [15]) (by kernel_rfl) (by simp) ?_
          refine AllReadyH.cons rfl (fun K hK => ?_) AllReadyH.nil
          try simp only [List.getElem_toArray, List.getElem_cons_succ, List.getElem_cons_zero]
          rw [if_pos (by rfl)]
          refine wp_app (.tmp 49) (.tmp 63) (by rfl) w0.heap.size (.slice ab B.length cb) B (by rfl) HO1.out (.slice (some ⟨wr.heap.size, 0, none⟩) 5 5) (shead 0 m) (by rfl) HT5.out q1.out hz1 ?_
          intro ab2 cb2 w2 hO2 hF2 hA2
          have HO2 := hide hO2
          have HF2 := hide hF2
          have HA2 := hide hA2
          have hc2 : w2.cell? (ad.add i) = some (.slice a' m c') := keepc HF2.out hc1 (fun h => by have := (World.ownsRow.lt HO1.out _ h).1; have := HKC.out; omega)
          have hz2 : w0.heap.size ≤ w2.heap.size := Nat.le_trans hz1 HF2.out.size
          have F2w : Hid (Fr (fun _ => False) w0 w2) := frNew (HS.out.fr.join HF1.out) HO1.out HF2.out
          have HL2 : Hid (Lies w2 (.slice a' m c') ys) := lies_fr HL0.out F2w.out
          have q2 : Hid ((B ++ shead 0 m).length + ys.length ≤ 2147483648) := by show _ ≤ _; rw [List.length_append, shead_len, ← Hm.out]; omega
          clear hO2 hF2 hA2
          refine hK.out _ _ hc2 (fun hHeld => ?_)
          clear hK K
          refine wpAnyH_ready (rs := [20]) (by kernel_rfl) (by simp) ?_
          refine AllReadyH.cons rfl (fun K hK => ?_) AllReadyH.nil
          try simp only [List.getElem_toArray, List.getElem_cons_succ, List.getElem_cons_zero]
          rw [if_pos (by rfl)]
          refine wp_app (.tmp 64) (.tmp 68) (by rfl) w0.heap.size (.slice ab2 (B.length + (shead 0 m).length) cb2) (B ++ shead 0 m) (by rfl) HO2.out (.slice a' m c') ys (by rfl) HL2.out q2.out hz2 ?_
          intro ab3 cb3 w3 hO3 hF3 hA3
          have HO3 := hide hO3
          have HF3 := hide hF3
          have HA3 := hide hA3
          have hc3 : w3.cell? (ad.add i) = some (.slice a' m c') := keepc HF3.out hc2 (fun h => by have := (World.ownsRow.lt HO2.out _ h).1; have := HKC.out; omega)
          have F3w : Hid (Fr (fun _ => False) w0 w3) := frNew F2w.out HO2.out HF3.out
          clear hO3 hF3 hA3
          refine hK.out _ _ hc3 (fun hHeld => ?_)
          clear hK K
          refine wpAnyH_take (i := 21) (v := ?v21z) rfl (by kernel_rfl) (by kernel_rfl) (by kernel_rfl) (fun _ _ _ h => h) (Or.inl ⟨by rfl, ?hy21z⟩) hHeld ?rest21z
          case hy21z => (intro W hSw; (try dsimp only at hSw); go_simp; all_goals (with_reducible rfl))
          change wpAnyH _ _ _ _ _ _ _ (Act.put _ (some 5) _) _
          simp only [Act.put, List.setIfInBounds_toArray, List.set_cons_zero, List.set_cons_succ]
          refine wpAnyH_done (by kernel_rfl) ?_ _
          have hz3 : w0.heap.size ≤ w3.heap.size := F3w.out.size
          have HX1 : Hid (OwnB w1 w0.heap.size (.slice aw X.length cw) X) := ownsRow_fr HOx.out fun k hk => HF1.out.block k (World.ownsRow.lt HOx.out k hk).2 (fun e => e)
          have P1 := own_apart HS.out.ap (fun k hk => (own_block_ge HX1.out hk).2) HA2.out
          have HX2 := own_keep HX1.out HF2.out HS.out.ap
          have HX3 : Hid (OwnB w3 w0.heap.size (.slice aw X.length cw) X) := own_keep HX2 HF3.out P1
          have HL3 : Hid (Lies w3 (.slice a' m c') ys) := lies_fr HL0.out F3w.out
          have q3 : Hid (X.length + ys.length ≤ 2147483648) := by show _ ≤ _; rw [← Hm.out]; omega
          clear P1 HX2
          go_wp2_with (at_builtin; go_must (refine wpList_app rfl (.tmp 70) (.tmp 74) rfl w0.heap.size (.slice aw X.length cw) X rfl HX3.out (.slice a' m c') ys rfl HL3.out q3.out hz3 ?_); intro aw4 cw4 w4 hO4 hF4 hA4; have HO4 := hide hO4; have HF4 := hide hF4; have HA4 := hide hA4; clear hO4 hF4 hA4)
          go_roundw
          case rel =>
            have e1 := Hys.out
            have e2 := Hm.out
            subst e2
            subst e1
            have st := HS.out.step (f := 0) (by rw [Hls.out]; exact hlt) hm1 (by rw [Hls.out]; rw [if_neg hlast]) HF1.out HO2.out HF2.out HA2.out HO3.out HF3.out HA3.out HO4.out HF4.out HA4.out
            refine ⟨i + 1, ab3, aw4, cb3, cw4, B ++ shead 0 (ls.getD i []).length ++ ls.getD i [], X ++ ls.getD i [], ?_, ?_, by go_num, ?_⟩
            rotate_left 2
            · have e3 : (B ++ shead 0 (ls.getD i []).length ++ ls.getD i []).length = (B ++ shead 0 (ls.getD i []).length).length + (ls.getD i []).length := List.length_append
              have e4 : (X ++ ls.getD i []).length = X.length + (ls.getD i []).length := List.length_append
              rw [← e3, ← e4] at st
              exact st
            · simp only [List.length_append]
            · simp only [List.length_append]
          case measure => simp [intOf]; omega
    · obtain rfl : i = n := by omega
      have hlB : B.length ≤ 1005 * 20 := by have := hS.len.2; omega
      have hlX : X.length ≤ 1000 * 20 := by have := hS.len.1; omega
      have hsz := hS.fr.size
      have hB : B = sstream ls := by rw [hS.eB, ← Hls.out, bstream_end]
      have hX : X = ls.flatten := by rw [hS.eX, ← Hls.out, List.take_length]
      have hsm : ∀ x ∈ ls, x.length < 65536 ∧ ∀ b ∈ x, b < 256 := fun x hx => ⟨by have := hS.small x (by rw [← Hls.out, List.take_length]; exact hx); omega, HR.out.bytes x hx⟩
      have HOb := hide hS.b
      have HOx := hide hS.x
      have HFw : Hid (Fr (fun _ => False) w wr) := HF0.out.join hS.fr
      have hbytes : ∀ b ∈ X, b < 256 := by
        intro b hb
        rw [hX] at hb
        obtain ⟨y, hy, hb⟩ := List.mem_flatten.1 hb
        exact HR.out.bytes y hy b hb
      have hbb : ∀ b ∈ B, b < 256 := by rw [hB]; exact sstream_lt ls hsm
      have HB := hide hB
      have HX := hide hX
      have Hsm := hide hsm
      have Hbytes := hide hbytes
      have Hbb := hide hbb
      clear hS hB hX hsm hbytes hbb
      have O0 : Hid (OwnB (wr.alloc (.cells #[] 5)) wr.heap.size (.slice (some ⟨wr.heap.size, 0, none⟩) 0 0) []) := World.ownsRow_made _ #[] 0 (Nat.le_refl _) (by unfold maxLen; omega) rfl
      have T1 : Hid (Lies wr (.slice ab B.length cb) B) := lies_own HOb.out
      have T2 : Hid (Lies wr (.slice aw X.length cw) X) := lies_own HOx.out
      have FA : Hid (Fr (fun _ => False) wr (wr.alloc (.cells #[] 5))) := Fr.of_alloc _ _
      have T1' : Hid (Lies (wr.alloc (.cells #[] 5)) (.slice ab B.length cb) B) := lies_fr T1.out FA.out
      have q1 : Hid (([] : List Nat).length + B.length ≤ 2147483648) := by show _ ≤ _; simp; omega
      have hsize0 : wr.heap.size ≤ (wr.alloc (.cells #[] 5)).heap.size := by simp
      go_wp2_with (at_builtin; first
        | ((refine wpList_app rfl (.tmp 77) (.tmp 78) rfl wr.heap.size (.slice (some ⟨wr.heap.size, 0, none⟩) 0 0) [] rfl O0.out (.slice ab B.length cb) B rfl T1'.out q1.out hsize0 ?_; intro a2 c2 w2 hO2 hF2 hA2
            obtain ⟨F2, HO2, L2, FB, hz2, q2, hO2e⟩ := stored_mid hless hlB FA.out O0.out hO2 hF2
            rw [hO2e]
            clear hO2 hF2 hA2 hO2e))
        | ((refine wpList_app rfl (.tmp 79) (.tmp 81) rfl wr.heap.size (.slice a2 B.length c2) B rfl HO2.out (.slice (some ⟨w2.heap.size, 0, none⟩) 1 1) [less] rfl L2.out q2.out hz2 ?_; intro a3 c3 w3 hO3 hF3 hA3
            have F3 : Hid (Fr (fun _ => False) wr w3) := frNew (F2.out.join FB.out) HO2.out hF3
            have HL3 : Hid (Lies w3 (.slice a3 (B.length + [less].length) c3) (B ++ [less])) := lies_ownB hO3
            clear hO3 hF3 hA3)))
      have HF3w := hide (HFw.out.join F3.out)
      have hV : AllOk (B ++ [less]) ((X.length : Nat) : Int) (.ok (X, 8 * B.length)) := by
        refine Or.inr ⟨by omega, ?_⟩
        have := (stored_all (most := X.length) [less] (L := 8 * (B ++ [less]).length) (V := leNum (B ++ [less])) ls [] [] Hne.out (by rw [HB.out]; rfl) (by simp) Hsm.out (by rw [HB.out]; simp; omega)).1 (by rw [HX.out]; simp)
        rw [← HX.out, ← HB.out] at this
        simpa [init] using this
      refine (calls_args (all_at (.slice a3 (B.length + [less].length) c3) (B ++ [less]) X.length w3 HL3.out (fun b hb => ?_) (by simp; omega) (by omega) (HG.out.fr HF3w.out)) (by rfl)).mono ?_
      · rw [List.mem_append] at hb
        rcases hb with hb | hb
        · exact Hbb.out b hb
        · simp at hb; omega
      rintro e w4 ⟨r4, a4, c4, hA4, rfl, hL4, hF4⟩
      obtain rfl := hA4.det hV
      simp only [outOf, usedOf, errOf] at hL4 ⊢
      have hu : (8 * B.length + 7) / 8 = B.length := by omega
      rw [hu]
      have HF4 := hide (HF3w.out.join hF4)
      have T1'' := hide (lies_fr T1.out (F3.out.join hF4))
      have s1 := str_lies hL4 Hbytes.out
      have s2 := str_lies (lies_fr T2.out (F3.out.join hF4)) Hbytes.out
      clear hA4 hV hu hL4 hF4
      obtain ⟨kk, hkk⟩ : ∃ kk : Nat, kk = less % 20 := ⟨_, rfl⟩
      have hlt' : (less : Int) % 20 = (kk : Int) := by omega
      have hk20 : kk < 20 := by omega
      clear hkk
      by_cases hk : X.length < 1 + kk
      · have hki : (X.length : Int) < 1 + (kk : Int) := by omega
        go_wp2
        go_ret
        exact ⟨rfl, HF4.out⟩
      · have hki : ¬ (X.length : Int) < 1 + (kk : Int) := by omega
        have hV : AllOk B ((X.length : Int) - (1 + (kk : Int))) (.error 6) := by
          refine Or.inr ⟨by omega, ?_⟩
          have := (stored_all (most := X.length - (1 + kk)) [] (L := 8 * B.length) (V := leNum B) ls [] [] Hne.out (by rw [HB.out]; simp) (by simp) Hsm.out (by rw [HB.out]; simp)).2 (by simp) (by rw [HX.out]; simp; rw [HX.out] at hk; simp at hk; omega)
          have e : ((X.length : Int) - (1 + (kk : Int))).toNat = X.length - (1 + kk) := by omega
          rw [e]
          simpa [init] using this
        go_wp2_with fail
        refine (calls_args (all_at (.slice ab B.length cb) B ((X.length : Int) - (1 + (kk : Int))) w4 T1''.out Hbb.out (by omega) (by omega) (HG.out.fr HF4.out)) (by rfl)).mono ?_
        rintro e w5 ⟨r5, a5, c5, hA5, rfl, _, hF5⟩
        obtain rfl := hA5.det hV
        simp only [outOf, usedOf, errOf, List.length_nil]
        have HF5 := hide (HF4.out.join hF5)
        clear hA5 hF5 hV
        go_wp2
        go_ret
        exact ⟨rfl, HF5.out⟩
end Go.Proofs.YtleeaofofofgmaaDoor
