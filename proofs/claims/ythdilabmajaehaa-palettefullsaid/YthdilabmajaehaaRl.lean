/-
  raster: Colours of the raster that each law wakes with.
-/
import Derived.Test.YthdilabmajaehaaRk
namespace Go.Proofs.Ythdilabmajaehaa
open Go.RowKit

/-- Six pixels, the last one set. -/
def wakePx : List Nat := List.replicate 20 0 ++ [1, 2, 3, 4]

def wakeKeys : List Int := [0, 0, 0, 0, 0, 281483566841860]

theorem wake_keys : keyF 6 wakePx 24 = wakeKeys := by decide +kernel

theorem wake_two : (Go.Lib.compactUpTo wakeKeys.toArray 6).length = 2 := by decide +kernel

theorem wake_sorted (i : Nat) (hi : i + 1 < 6) : wakeKeys.getD i 0 ≤ wakeKeys.getD (i + 1) 0 := by
  have h : ∀ i : Fin 5, wakeKeys.getD i.1 0 ≤ wakeKeys.getD (i.1 + 1) 0 := by decide +kernel
  exact h ⟨i, by omega⟩

set_option maxHeartbeats 200000 in
set_option maxRecDepth 100000 in
theorem colours_wake (g : Nat) (w : World) (hg : w.heap[g]? = some (.cells (cellsU wakePx).toArray 29 (0, 0))) :
    Calls Try.prog 14 #[rasV 2 3 (some ⟨g, 0, none⟩) 24 24, .int .i64 9] w fun e w' => e = .returned (.tuple #[.int .i64 2, .bool true]) ∧ Fr (fun _ => False) w w' := by
  obtain ⟨w1, hw1⟩ : ∃ w1, w1 = w.alloc (.cells #[.int .i64 2, .int .i64 3, .slice (some ⟨g, 0, none⟩) 24 24] 24) := ⟨_, rfl⟩
  have hb1 : w1.heap[w.heap.size]? = some (.cells #[.int .i64 2, .int .i64 3, .slice (some ⟨g, 0, none⟩) 24 24] 24 (0, 0)) := by rw [hw1]; exact heap_alloc_at rfl
  have hF1 : Fr (fun _ => False) w w1 := by rw [hw1]; exact Fr.of_alloc _ _
  have HM := hide (may_c 2 3 (some ⟨g, 0, none⟩) 24 24 w1)
  have hmay : mayB 2 3 24 = true := by decide +kernel
  rw [hmay] at HM
  have Hb1 := hide hb1
  have HF1 := hide hF1
  have Hg := hide hg
  have Hw1 := hide hw1
  clear hb1 hF1 hg hw1 hmay
  go_enter Try.func14, Try.ntmps14
  go_wp2_with fail
  rw [← Hw1.out]
  refine HM.out.mono ?_
  rintro e w2 ⟨rfl, hF2⟩
  have hb2 := cells_at Hb1.out hF2 (fun e => e)
  have HF2 := hide (HF1.out.join hF2)
  have HK := hide (keys_c 2 3 g 24 6 wakePx w2 (by decide +kernel) (by decide) (by decide) (cells_at Hg.out HF2.out (fun e => e)) (by decide))
  rw [wake_keys] at HK
  have k0 := cell_of (o := 0) hb2 rfl
  have k1 := cell_of (o := 1) hb2 rfl
  have k2 := cell_of (o := 2) hb2 rfl
  clear hF2 hb2
  go_wp2_with fail
  refine HK.out.mono ?_
  rintro e w3 ⟨h, rfl, hk3, hsz, hF3⟩
  have HS := hide (sort6_c h wakeKeys w3 hk3 rfl wake_sorted)
  have Hk3 := hide hk3
  have HF23 := hide (HF2.out.join hF3)
  have Hhs : Hid (w.heap.size ≤ h) := Nat.le_trans HF2.out.size hsz
  clear hk3 hsz hF3 k0 k1 k2
  go_wp2_with fail
  refine HS.out.mono ?_
  rintro e w4 ⟨rfl, hF4⟩
  have HC := hide (compact_c h wakeKeys w4 (cells_at Hk3.out hF4 (fun e => e)) (by decide))
  have e6 : wakeKeys.length = 6 := rfl
  rw [e6, wake_two] at HC
  have HF4 := hide (HF23.out.join hF4)
  clear hF4 e6
  go_wp2_with fail
  refine HC.out.mono ?_
  rintro e w5 ⟨rfl, hF5⟩
  have HF5 : Hid (Fr (fun _ => False) w w5) := frJ HF4.out hF5 fun j hj => by
    have e : j = h := hj
    rw [e]
    exact Hhs.out
  clear hF5
  go_wp2_with fail
  go_ret2
  exact ⟨rfl, HF5.out⟩
end Go.Proofs.Ythdilabmajaehaa
