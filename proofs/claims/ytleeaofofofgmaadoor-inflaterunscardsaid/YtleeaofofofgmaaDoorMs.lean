/-
  Contracts of growing and joining rows of ints.
-/
import Derived.Test.YtleeaofofofgmaaDoorMr
import Derived.Lib.AppendZerosOnto
namespace Go.Proofs.YtleeaofofofgmaaDoor
open Go.RowKit

set_option maxHeartbeats 1600000 in
set_option maxRecDepth 100000 in
theorem grow_c (n : Nat) (hn : 1 ≤ n ∧ n ≤ 100000) (w : World) : Calls Tryd.prog 67 #[.slice none 0 0, .int .i64 (n : Int)] w fun e w' => ∃ a c, e = .returned (.slice a 0 c) ∧ w'.ownsRow w.heap.size 3 1 (.slice a 0 c) 0 (cellsZ []) ∧ Fr (fun _ => False) w w' := by
  obtain ⟨i0, hi, hz0, hz1, hz2⟩ := info_parts Tryd.info3
  have hold : (Builtin.firstCells i0.size 0 (.slice none 0 0)).run Tryd.prog w.drew = .ok ([] : List Value).toArray w.drew := run_firstCells_none w.drew i0.size 0 0 0
  have hrz : ∀ ty, (Builtin.append_ #[30, 3] ty #[.slice none 0 0, .int .i64 (n : Int)]).run Tryd.prog w =
      .ok (.slice (some ⟨w.heap.size, 0, none⟩) n (grownCap w n 0 3)) (w.drew.alloc (.cells (([] : List Value).toArray ++ Builtin.zeroCells (Value.int .i64 0).cells n ++ Builtin.zeroCells (Value.int .i64 0).cells (grownCap w n 0 3 - n)) 3)) := fun ty => by
    have h := Lib.run_append_grow_zeros w 30 3 ty 3 i0 (.int .i64 0) .i64 .i64 Tryd.underlying30 Tryd.underlying3 hi hz0 none 0 0 [] hold n (by omega) (by omega) (by omega) (by omega) (by rw [hz2]; omega) (by rw [Nat.zero_add]; exact growslice_fits (by omega) (by rw [hz2]; omega))
    rw [Nat.zero_add] at h
    exact h
  have hGn : n ≤ grownCap w n 0 3 := grownCap_ge w _ _ _
  have hG63 := grownCap_le_maxLen w n 0 3 (by unfold maxLen; omega)
  obtain ⟨G, hG⟩ : ∃ G, G = grownCap w n 0 3 := ⟨_, rfl⟩
  rw [← hG] at hrz hGn hG63
  have Hrz := hide hrz
  have HG63 := hide hG63
  have hGb : G ≤ 9223372036854775807 := by unfold maxLen at hG63; omega
  clear hold hG hrz hG63
  go_enter Tryd.func67, Tryd.ntmps67
  go_wp2_with (at_builtin; refine Lib.wpList_append_run _ rfl _ _ _ _ rfl _ _ rfl rfl _ _ (Hrz.out _) ?_)
  all_goals
    go_ret
    refine ⟨_, _, rfl, ⟨rfl, Or.inr ⟨w.heap.size, G, _, rfl, Nat.le_refl _, heap_alloc_at rfl, Nat.zero_le _, HG63.out, ?_, rfl⟩⟩, ⟨rfl, rfl, rfl, by simp, fun k hk _ => Below.heap_alloc _ _ _ hk⟩⟩
    simp [Builtin.zeroCells]
    omega

theorem cellsZ_one {zs : List Int} : ∀ u ∈ cellsZ zs, u.oneCell' = true := by
  intro u hu
  simp only [cellsZ, List.mem_map] at hu
  obtain ⟨b, _, rfl⟩ := hu
  rfl

/-- The first i of rows, joined. -/
def catTo (Ls : Nat → List Int) : Nat → List Int
  | 0 => []
  | i + 1 => catTo Ls i ++ Ls i

set_option maxHeartbeats 1600000 in
set_option maxRecDepth 100000 in
theorem concat_c (Z m : Nat) (Ds : Nat → Nat) (Ls : Nat → List Int) (w : World) (hc : ∀ i, i < m → w.cell? ⟨Z, i, none⟩ = some (.slice (some ⟨Ds i, 0, none⟩) (Ls i).length (Ls i).length))
    (hD : ∀ i, i < m → LiesI w (some ⟨Ds i, 0, none⟩) (Ls i)) (hne : ∀ i, i < m → 0 < (Ls i).length) (hm : 1 ≤ m ∧ m ≤ 10) (htot : ∀ i, i ≤ m → (catTo Ls i).length ≤ 1000) :
    Calls Tryd.prog 61 #[.slice (some ⟨Z, 0, none⟩) m m] w fun e w' => ∃ a c, e = .returned (.slice a (catTo Ls m).length c) ∧ w'.ownsRow w.heap.size 3 1 (.slice a (catTo Ls m).length c) (catTo Ls m).length (cellsZ (catTo Ls m)) ∧ Fr (fun _ => False) w w' := by
  obtain ⟨i0, hi, hz0, hz1, hz2⟩ := info_parts Tryd.info3
  have Hc := hide hc
  have HD := hide hD
  have Hne := hide hne
  have Htot := hide htot
  clear hc hD hne htot
  go_enter Tryd.func61, Tryd.ntmps61
  go_wp2
  go_loopw [3, 5, 11] (fun sv _ iv wr => ∃ i : Nat, i ≤ m ∧ iv = .int .i64 (i : Int) ∧ sv = .int .i64 ((catTo Ls i).length : Int) ∧ Hid (w = wr)) (fun _ _ iv _ => m - (intOf iv).toNat)
  case atStart => exact ⟨0, Nat.zero_le _, rfl, rfl, rfl⟩
  case round =>
    obtain ⟨i, hi1, rfl, rfl, Hw⟩ := hrel
    obtain rfl := Hw.out
    by_cases hlt : i < m
    · have hlti : (i : Int) < (m : Int) := by omega
      have qi := Hc.out i hlt
      have h1 := Htot.out i (by omega)
      have h2 := Htot.out (i + 1) (by omega)
      have e2 : (catTo Ls (i + 1)).length = (catTo Ls i).length + (Ls i).length := by simp [catTo]
      rw [e2] at h2
      have E2 := hide e2
      clear e2
      go_wp2
      go_roundw
      case rel => exact ⟨i + 1, by omega, by go_num, by rw [E2.out]; go_num, (by first | exact trivial | rfl)⟩
      case measure => simp [intOf]; omega
    · have hlti : ¬ (i : Int) < (m : Int) := by omega
      have hie : i = m := by omega
      subst hie
      have hS := Htot.out i (Nat.le_refl _)
      have hS1 : 1 ≤ (catTo Ls i).length := by
        obtain ⟨j, rfl⟩ : ∃ j, i = j + 1 := ⟨i - 1, by omega⟩
        have := Hne.out j (by omega)
        simp [catTo]
        omega
      obtain ⟨S, hSe⟩ : ∃ S, S = (catTo Ls i).length := ⟨_, rfl⟩
      rw [← hSe] at hS hS1 ⊢
      have HSe := hide hSe
      clear hSe Hw
      go_wp2_with fail
      refine (grow_c S (by omega) w).mono ?_
      rintro e w1 ⟨a1, c1, rfl, hown1, hF1⟩
      have Hown1 := hide hown1
      have HF1 := hide hF1
      clear hown1 hF1
      go_wp2
      go_loopw [6, 8, 27] (fun v _ jv wr => ∃ j : Nat, j ≤ i ∧ jv = .int .i64 (j : Int) ∧ ∃ a c, v = .slice a (catTo Ls j).length c ∧ wr.ownsRow w.heap.size 3 1 (.slice a (catTo Ls j).length c) (catTo Ls j).length (cellsZ (catTo Ls j)) ∧ Fr (fun _ => False) w wr) (fun _ _ jv _ => i - (intOf jv).toNat)
      case atStart => exact ⟨0, Nat.zero_le _, rfl, a1, c1, rfl, Hown1.out, HF1.out⟩
      case round =>
        obtain ⟨j, hj1, rfl, a, c, rfl, hown, hF⟩ := hrel
        have Hown := hide hown
        have HF := hide hF
        clear hown hF
        by_cases hlt : j < i
        · have hlti : (j : Int) < (i : Int) := by omega
          have qj : wr.cell? ⟨Z, j, none⟩ = some (.slice (some ⟨Ds j, 0, none⟩) (Ls j).length (Ls j).length) := by
            have := Hc.out j hlt
            rw [cell_blk (HF.out.block Z (cell_lt this) (fun h => h))]
            exact this
          have h2 := Htot.out (j + 1) (by omega)
          have e2 : (catTo Ls (j + 1)).length = (catTo Ls j).length + (Ls j).length := by simp [catTo]
          rw [e2] at h2
          have E2 := hide e2
          obtain ⟨N, hN⟩ : ∃ N, N = (catTo Ls j).length := ⟨_, rfl⟩
          obtain ⟨K, hK⟩ : ∃ K, K = (Ls j).length := ⟨_, rfl⟩
          have hK0 : 0 < K := by rw [hK]; exact Hne.out j hlt
          have hsz := HF.out.size
          rw [← hN] at h2 Hown E2 ⊢
          rw [← hK] at h2 qj E2
          have hcl : (cellsZ (Ls j)).length = K * 1 := by simp [cellsZ, hK]
          have hsrc : ∀ q u, (cellsZ (Ls j))[q]? = some u → wr.cell? ((⟨Ds j, 0, none⟩ : Addr).add q) = some u := by
            intro q u hq
            have hql : q < (Ls j).length := by
              have := (List.getElem?_eq_some_iff.1 hq).1
              simpa [cellsZ] using this
            obtain ⟨ad, e, hcell⟩ := (HD.out j hlt).fr HF.out q hql
            cases e
            rw [hcell]
            rw [← hq]
            simp [cellsZ, at0, List.getElem?_eq_getElem hql]
          have Hcl := hide hcl
          have Hsrc := hide hsrc
          have HN := hide hN
          have HK := hide hK
          clear e2 hcl hsrc hN hK
          go_wp2_with (at_builtin; go_must (refine wpList_append_lies _ rfl _ _ 30 rfl w.heap.size 3 i0 (.int .i64 0) 1 8 Tryd.underlying30 hi hz0 hz1 hz2 rfl (by decide) (.slice a N c) N (cellsZ (catTo Ls j)) rfl Hown.out ⟨Ds j, 0, none⟩ K K (cellsZ (Ls j)) rfl Hcl.out Hsrc.out cellsZ_one hK0 (by unfold maxLen; omega) (by omega) hsz wr.heap.size rfl ?_); intro g cap w3 hown3 hgrow hat hlt3)
          have f2 : Fr (fun _ => False) w w3 := (HF.out.trans ⟨hgrow.os, hgrow.tape, hgrow.output, hgrow.size, fun k hk hn => hgrow.block k hk (fun e => hn e.symm)⟩ : Fr (fun k => False ∨ (Value.slice a N c).ownBlock = some k) w w3).mono fun k hk h => by
            rcases h with h | h
            · exact h
            · have := (Hown.out.lt k h).1; omega
          have G1 := hide f2
          have G2 : Hid (w3.ownsRow w.heap.size 3 1 (.slice (some ⟨g, 0, none⟩) (N + K) cap) (N + K) (cellsZ (catTo Ls (j + 1)))) := by
            have e : cellsZ (catTo Ls (j + 1)) = cellsZ (catTo Ls j) ++ cellsZ (Ls j) := by simp [cellsZ, catTo]
            rw [e]; exact hown3
          clear f2 hown3 hgrow hat hlt3
          go_roundw
          case rel => exact ⟨j + 1, by omega, by go_num, _, _, by rw [E2.out], by rw [E2.out]; exact G2.out, G1.out⟩
          case measure => simp [intOf]; omega
        · have hlti : ¬ (j : Int) < (i : Int) := by omega
          have hie : j = i := by omega
          subst hie
          go_wp2
          go_ret
          exact ⟨a, c, rfl, Hown.out, HF.out⟩
end Go.Proofs.YtleeaofofofgmaaDoor
