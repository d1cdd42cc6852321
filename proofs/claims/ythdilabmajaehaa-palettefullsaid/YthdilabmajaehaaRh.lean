/-
  raster: slices.Sort of six numbers that lie in their order already.
-/
import Derived.Test.YthdilabmajaehaaRg
namespace Go.Proofs.Ythdilabmajaehaa
open Go.RowKit

set_option maxHeartbeats 200000 in
set_option maxRecDepth 100000 in
theorem pdq_c (g n : Nat) (l : List Int) (lim : Int) (w : World) (hg : w.heap[g]? = some (.cells (cellsQ l).toArray 65 (0, 0))) (hn : l.length = n) (hn2 : n ≤ 12) (hs : ∀ i, i + 1 < n → l.getD i 0 ≤ l.getD (i + 1) 0) :
    Calls Try.prog 52 #[.slice (some ⟨g, 0, none⟩) n n, .int .i64 0, .int .i64 (n : Int), .int .i64 lim] w fun e w' => e = .returned (.tuple #[]) ∧ Fr (fun _ => False) w w' := by
  have HI := hide (insert_c g n l w hg hn (by omega) hs)
  have hni : (n : Int) ≤ 12 := by omega
  clear hg hn hs
  go_enter Try.func52, Try.ntmps52
  go_wp2_with fail
  go_loopw [1, 2] (fun v1 v2 wr => v1 = .int .i64 0 ∧ v2 = .int .i64 (n : Int) ∧ wr = w) (fun _ _ _ => 0)
  case atStart => exact ⟨rfl, rfl, rfl⟩
  case round =>
    obtain ⟨rfl, rfl, rfl⟩ := hrel
    go_wp2_with fail
    refine HI.out.mono ?_
    rintro e w2 ⟨rfl, hF⟩
    go_wp2_with fail
    exact bodyPost_ret (results_none rfl _ _ _) rfl ⟨rfl, hF⟩

set_option maxHeartbeats 200000 in
set_option maxRecDepth 100000 in
theorem len64_c (w : World) : Calls Try.prog 68 #[.int .u64 6] w fun e w' => (∃ x, e = .returned (.int .i64 x)) ∧ w' = w := by
  go_enter Try.func68, Try.ntmps68
  go_wp2_with fail
  go_ret
  exact ⟨⟨_, rfl⟩, rfl⟩

set_option maxHeartbeats 200000 in
set_option maxRecDepth 100000 in
theorem len_c (w : World) : Calls Try.prog 53 #[.int .u64 6] w fun e w' => (∃ x, e = .returned (.int .i64 x)) ∧ w' = w := by
  have H := hide (len64_c w)
  go_enter Try.func53, Try.ntmps53
  go_wp2_with fail
  refine H.out.mono ?_
  rintro e w2 ⟨⟨x, rfl⟩, rfl⟩
  go_wp2_with fail
  go_ret
  exact ⟨⟨_, rfl⟩, rfl⟩

set_option maxHeartbeats 200000 in
set_option maxRecDepth 100000 in
/-- Sort of six numbers that lie in their order already. -/
theorem sort6_c (g : Nat) (l : List Int) (w : World) (hg : w.heap[g]? = some (.cells (cellsQ l).toArray 65 (0, 0))) (hn : l.length = 6) (hs : ∀ i, i + 1 < 6 → l.getD i 0 ≤ l.getD (i + 1) 0) :
    Calls Try.prog 36 #[.slice (some ⟨g, 0, none⟩) 6 6] w fun e w' => e = .returned (.tuple #[]) ∧ Fr (fun _ => False) w w' := by
  have H := hide (len_c w)
  have HP := hide fun lim => pdq_c g 6 l lim w hg hn (by decide) hs
  clear hg hn hs
  go_enter Try.func36, Try.ntmps36
  go_wp2_with fail
  refine H.out.mono ?_
  rintro e w2 ⟨⟨x, rfl⟩, rfl⟩
  go_wp2_with fail
  refine (HP.out x).mono ?_
  rintro e w3 ⟨rfl, hF⟩
  go_wp2_with fail
  go_end0
  exact ⟨rfl, hF⟩
end Go.Proofs.Ythdilabmajaehaa
