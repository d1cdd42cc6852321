/-
  SumsChunks: the sum, in whatever pieces it is made.
-/
import Derived.Test.YtgjbinbhmbgidaaG
namespace Go.Proofs.Ytgjbinbhmbgidaa
open Go.RowKit

set_option maxHeartbeats 400000 in
theorem chunks_kind (kind : ByteArray) (a : Option Addr) (len c : Nat) (x : Int) (w : World) (h : (1000 : Int) < (kind.size : Int)) :
    Calls Try.prog 3 #[.string kind, .slice a len c, .int .u16 x] w fun e w' => e = .returned (.bool true) ∧ Fr (fun _ => False) w w' := by
  go_enter Try.func3, Try.ntmps3
  go_wp2_with fail
  refine (awake_c w).mono ?_
  rintro e w1 ⟨rfl, hf1⟩
  have Hf1 := hide hf1
  clear hf1
  go_wp2
  go_ret
  exact ⟨rfl, Hf1.out⟩
set_option maxHeartbeats 400000 in
theorem chunks_long (kind : ByteArray) (a : Option Addr) (len c : Nat) (x : Int) (w : World) (h0 : (kind.size : Int) ≤ 1000) (h : (5000 : Int) < (len : Int)) :
    Calls Try.prog 3 #[.string kind, .slice a len c, .int .u16 x] w fun e w' => e = .returned (.bool true) ∧ Fr (fun _ => False) w w' := by
  go_enter Try.func3, Try.ntmps3
  go_wp2_with fail
  refine (awake_c w).mono ?_
  rintro e w1 ⟨rfl, hf1⟩
  have Hf1 := hide hf1
  clear hf1
  go_wp2
  go_ret
  exact ⟨rfl, Hf1.out⟩

set_option maxHeartbeats 1600000 in
theorem chunks_main (kind : ByteArray) (a : Option Addr) (c : Nat) (bs : List Nat) (x : Nat) (w : World) (hl : Lies w a bs) (hc : bs.length ≤ c) (h0 : (kind.size : Int) ≤ 1000) (h1 : (bs.length : Int) ≤ 5000) (hx : x < 65536) :
    Calls Try.prog 3 #[.string kind, .slice a bs.length c, .int .u16 (x : Int)] w fun e w' => e = .returned (.bool true) ∧ Fr (fun _ => False) w w' := by
  have hwx : IntKind.i64.wrap (x : Int) = (x : Int) := by simp [IntKind.wrap, IntKind.bits, IntKind.signed]; omega
  have HK : Hid ((strBytes kind).length ≤ 2147483648) := by show _ ≤ _; rw [strBytes_length]; omega
  go_enter Try.func3, Try.ntmps3
  go_wp2_with fail
  refine (awake_c w).mono ?_
  rintro e w1 ⟨rfl, hf1⟩
  have Hf1 := hide hf1
  clear hf1
  go_wp2_with fail
  refine (new_c w1).mono ?_
  rintro e w2 ⟨T, rfl, ht, hf⟩
  have Ht := hide ht
  have Hf := hide (Hf1.out.join hf)
  have Hl := hide (hl.keep Hf.out (fun _ _ h => h))
  clear ht hf Hf1 hl
  have hp : x % (bs.length + 1) ≤ bs.length := Nat.le_of_lt_succ (Nat.mod_lt _ (Nat.succ_pos _))
  have hpi : (x : Int) % ((bs.length : Int) + 1) = ((x % (bs.length + 1) : Nat) : Int) := by simp
  obtain ⟨cap, w4, hcv, hf4, hl4⟩ := conv_c w2.drew kind
  have hf4' : Fr (fun _ => False) w2 w4 := (Fr.of_drewN w2 1).join hf4
  have Ht4 := Ht.out.keep hf4' (fun h => h)
  have HL := Hl.out.keep hf4' (fun _ _ h => h)
  have Q1 := hide (more_0 T _ cap (strBytes kind) w4 Ht4 hl4 HK.out)
  have Q2 := hide (more_c T (crc 0#32 (strBytes kind)) a c (bs.take (x % (bs.length + 1))) w4 Ht4 (HL.take _) (by simp; omega))
  have Q3 := hide (more_c T (crc 0#32 (strBytes kind ++ bs.take (x % (bs.length + 1)))) _ (c - x % (bs.length + 1)) (bs.drop (x % (bs.length + 1))) w4 Ht4 (HL.drop (x % (bs.length + 1)) c hp hc) (by simp; omega))
  rw [List.length_take, Nat.min_eq_left hp, crc_append] at Q2
  rw [List.length_drop, crc_append, List.append_assoc, List.take_append_drop] at Q3
  have Q4 := hide (chunk_c T kind a c bs w4 Ht4 HK.out HL (by omega))
  have Q5 := hide (fun W (f : Fr (fun _ => False) w4 W) => chunkSum_c kind a c bs W HK.out (HL.keep f (fun _ _ h => h)) (by omega))
  have HF4 := hide (Hf.out.join hf4')
  clear Ht4 HL hl4 hf4 hf4' Hf Hl Ht
  generalize x % (bs.length + 1) = p at hp hpi Q1 Q2 Q3
  generalize crc 0#32 (strBytes kind ++ bs.take p) = s2 at Q2 Q3
  generalize crc 0#32 (strBytes kind ++ bs) = s3 at Q3 Q4 Q5
  generalize crc 0#32 (strBytes kind) = s1 at Q1 Q2
  have h2 : (0 : Int) ≤ (p : Int) := by omega
  have h3 : (p : Int) ≤ (bs.length : Int) := by omega
  have h4 : (bs.length : Int) ≤ (c : Int) := by omega
  have h6 : p ≤ c := by omega
  go_wp2
  refine wp_region_noPanic ?_
  refine wp_region_held_drew (S := fun _ => True) (by kernel_rfl) trivial (fun hHeld => ?_)
  refine wpAnyH_take (i := 0) (v := ?v0) rfl (by kernel_rfl) (by kernel_rfl) (by kernel_rfl) (fun _ _ _ h => h) (Or.inl ⟨by rfl, ?hy0⟩) hHeld ?rest0
  case hy0 => (intro W hSw; (try dsimp only at hSw); go_simp; all_goals (with_reducible rfl))
  change wpAnyH _ _ _ _ _ _ _ (Act.put _ (some 29) _) _
  simp only [Act.put, List.setIfInBounds_toArray, List.set_cons_zero, List.set_cons_succ]
  refine wpAnyH_take (i := 1) (v := ?v1) rfl (by kernel_rfl) (by kernel_rfl) (by kernel_rfl) (fun _ _ _ h => h) (Or.inl ⟨by rfl, ?hy1⟩) hHeld ?rest1
  case hy1 => (intro W hSw; (try dsimp only at hSw); go_simp; all_goals (with_reducible rfl))
  change wpAnyH _ _ _ _ _ _ _ (Act.put _ (some 30) _) _
  simp only [Act.put, List.setIfInBounds_toArray, List.set_cons_zero, List.set_cons_succ]
  refine wpAnyH_take (i := 2) (v := ?v2) rfl (by kernel_rfl) (by kernel_rfl) (by kernel_rfl) (fun _ _ _ h => h) (Or.inl ⟨by rfl, ?hy2⟩) hHeld ?rest2
  case hy2 => (intro W hSw; (try dsimp only at hSw); go_simp; all_goals (with_reducible rfl))
  change wpAnyH _ _ _ _ _ _ _ (Act.put _ (some 31) _) _
  simp only [Act.put, List.setIfInBounds_toArray, List.set_cons_zero, List.set_cons_succ]
  refine wpAnyH_take (i := 3) (v := ?v3) rfl (by kernel_rfl) (by kernel_rfl) (by kernel_rfl) (fun _ _ _ h => h) (Or.inl ⟨by rfl, ?hy3⟩) hHeld ?rest3
  case hy3 => (intro W hSw; (try dsimp only at hSw); go_simp; all_goals (with_reducible rfl))
  change wpAnyH _ _ _ _ _ _ _ (Act.put _ (some 32) _) _
  simp only [Act.put, List.setIfInBounds_toArray, List.set_cons_zero, List.set_cons_succ]
  refine wpAnyH_take (i := 6) (v := ?v6) rfl (by kernel_rfl) (by kernel_rfl) (by kernel_rfl) (fun _ _ _ h => h) (Or.inl ⟨by rfl, ?hy6⟩) hHeld ?rest6
  case hy6 => (intro W hSw; (try dsimp only at hSw); go_simp; all_goals (with_reducible rfl))
  change wpAnyH _ _ _ _ _ _ _ (Act.put _ (some 35) _) _
  simp only [Act.put, List.setIfInBounds_toArray, List.set_cons_zero, List.set_cons_succ]
  refine wpAnyH_take (i := 7) (v := ?v7) rfl (by kernel_rfl) (by kernel_rfl) (by kernel_rfl) (fun _ _ _ h => h) (Or.inl ⟨by rfl, ?hy7⟩) hHeld ?rest7
  case hy7 => (intro W hSw; (try dsimp only at hSw); go_simp; all_goals (with_reducible rfl))
  change wpAnyH _ _ _ _ _ _ _ (Act.put _ (some 36) _) _
  simp only [Act.put, List.setIfInBounds_toArray, List.set_cons_zero, List.set_cons_succ]
  refine wpAnyH_take (i := 8) (v := ?v8) rfl (by kernel_rfl) (by kernel_rfl) (by kernel_rfl) (fun _ _ _ h => h) (Or.inl ⟨by rfl, ?hy8⟩) hHeld ?rest8
  case hy8 => (intro W hSw; (try dsimp only at hSw); go_simp; all_goals (with_reducible rfl))
  change wpAnyH _ _ _ _ _ _ _ (Act.put _ (some 37) _) _
  simp only [Act.put, List.setIfInBounds_toArray, List.set_cons_zero, List.set_cons_succ]
  refine wpAnyH_take (i := 10) (v := ?v10) rfl (by kernel_rfl) (by kernel_rfl) (by kernel_rfl) (fun _ _ _ h => h) (Or.inl ⟨by rfl, ?hy10⟩) hHeld ?rest10
  case hy10 => (intro W hSw; (try dsimp only at hSw); go_simp; all_goals (with_reducible rfl))
  change wpAnyH _ _ _ _ _ _ _ (Act.put _ (some 39) _) _
  simp only [Act.put, List.setIfInBounds_toArray, List.set_cons_zero, List.set_cons_succ]
  refine wpAnyH_take (i := 11) (v := ?v11) rfl (by kernel_rfl) (by kernel_rfl) (by kernel_rfl) (fun _ _ _ h => h) (Or.inl ⟨by rfl, ?hy11⟩) hHeld ?rest11
  case hy11 => (intro W hSw; (try dsimp only at hSw); go_simp; all_goals (with_reducible rfl))
  change wpAnyH _ _ _ _ _ _ _ (Act.put _ (some 40) _) _
  simp only [Act.put, List.setIfInBounds_toArray, List.set_cons_zero, List.set_cons_succ]
  refine wpAnyH_take (i := 12) (v := ?v12) rfl (by kernel_rfl) (by kernel_rfl) (by kernel_rfl) (fun _ _ _ h => h) (Or.inl ⟨by rfl, ?hy12⟩) hHeld ?rest12
  case hy12 => (intro W hSw; (try dsimp only at hSw); go_simp; all_goals (with_reducible rfl))
  change wpAnyH _ _ _ _ _ _ _ (Act.put _ (some 41) _) _
  simp only [Act.put, List.setIfInBounds_toArray, List.set_cons_zero, List.set_cons_succ]
  refine wpAnyH_ready (rs := [4]) (by kernel_rfl) (by simp) ?_
  refine AllReadyH.cons rfl (fun K hK => ?_) AllReadyH.nil
  try simp only [List.getElem_toArray, List.getElem_cons_succ, List.getElem_cons_zero]
  go_simp
  refine hK.out _ _ trivial (fun hHeld => ?_)
  clear hK K
  refine wpAnyH_ready (rs := [5]) (by kernel_rfl) (by simp) ?_
  refine AllReadyH.cons rfl (fun K hK => ?_) AllReadyH.nil
  try simp only [List.getElem_toArray, List.getElem_cons_succ, List.getElem_cons_zero]
  go_simp
  refine Q1.out.mono ?_
  rintro e w' ⟨rfl, rfl⟩
  refine hK.out _ _ trivial (fun hHeld => ?_)
  clear hK K
  refine wpAnyH_ready (rs := [9]) (by kernel_rfl) (by simp) ?_
  refine AllReadyH.cons rfl (fun K hK => ?_) AllReadyH.nil
  try simp only [List.getElem_toArray, List.getElem_cons_succ, List.getElem_cons_zero]
  go_simp
  refine Q2.out.mono ?_
  rintro e w' ⟨rfl, rfl⟩
  refine hK.out _ _ trivial (fun hHeld => ?_)
  clear hK K
  refine wpAnyH_ready (rs := [13]) (by kernel_rfl) (by simp) ?_
  refine AllReadyH.cons rfl (fun K hK => ?_) AllReadyH.nil
  try simp only [List.getElem_toArray, List.getElem_cons_succ, List.getElem_cons_zero]
  go_simp
  refine Q3.out.mono ?_
  rintro e w' ⟨rfl, rfl⟩
  refine hK.out _ _ trivial (fun hHeld => ?_)
  clear hK K
  refine wpAnyH_take (i := 14) (v := ?v14) rfl (by kernel_rfl) (by kernel_rfl) (by kernel_rfl) (fun _ _ _ h => h) (Or.inl ⟨by rfl, ?hy14⟩) hHeld ?rest14
  case hy14 => (intro W hSw; (try dsimp only at hSw); go_simp; all_goals (with_reducible rfl))
  change wpAnyH _ _ _ _ _ _ _ (Act.put _ (some 9) _) _
  simp only [Act.put, List.setIfInBounds_toArray, List.set_cons_zero, List.set_cons_succ]
  refine wpAnyH_done (by kernel_rfl) ?_ _
  refine NoPanic.normal ?_
  clear Q1 Q2 Q3 hcv
  generalize (if c = p then a else a.map (·.add p)) = ad2
  go_wp2_with fail
  refine Q4.out.mono ?_
  rintro e w5 ⟨rfl, hf5⟩
  have HF5 := hide (HF4.out.join hf5)
  have Q6 := hide (Q5.out w5 hf5)
  clear hf5
  go_wp2_with fail
  refine Q6.out.mono ?_
  rintro e w6 ⟨rfl, hf6⟩
  go_wp2
  go_ret
  exact ⟨rfl, HF5.out.join hf6⟩
end Go.Proofs.Ytgjbinbhmbgidaa
