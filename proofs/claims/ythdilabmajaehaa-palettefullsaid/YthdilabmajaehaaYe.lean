/-
  raster: the document's New.
-/
import Derived.Test.YthdilabmajaehaaRc
namespace Go.Proofs.Ythdilabmajaehaa
open Go.RowKit

theorem rnew_c (W H : Int) (w : World) : Calls Try.prog 34 #[.int .i64 W, .int .i64 H] w fun e w' => ∃ v er, e = .returned (.tuple #[v, .int .i64 er]) ∧ Newd W H w v er w' := by
  by_cases hs : sizeE W H = 0
  · obtain ⟨h1, h2, h3, h4, h5⟩ := size_ok hs
    have hm : 0 ≤ W * H := Int.mul_nonneg (by omega) (by omega)
    have e4 : 4 * W * H = 4 * (W * H) := Int.mul_assoc _ _ _
    obtain ⟨n, hn⟩ : ∃ n : Nat, 4 * W * H = (n : Int) := ⟨(4 * W * H).toNat, by omega⟩
    have hn2 : n ≤ 65536 := by omega
    have q1 : wrap64 (4 * W) = 4 * W := wrap64_id _ (by omega) (by omega)
    have q2 : wrap64 (4 * W * H) = (n : Int) := by rw [hn]; exact wrap64_id _ (by omega) (by omega)
    have hmk := makeU n (by omega)
    have HS := hide (rsize_c W H (w.alloc (.cells #[.int .i64 0, .int .i64 0, .slice none 0 0] 24)))
    rw [hs] at HS
    have Hs := hide hs
    have Hn := hide hn
    clear hs e4 hm h5 hn
    go_enter Try.func34, Try.ntmps34
    go_wp2_with fail
    refine HS.out.mono ?_
    rintro e w2 ⟨rfl, rfl⟩
    go_wp2_with fail
    obtain ⟨d, u1, u2, u3⟩ := Try.und24
    obtain ⟨L, hL⟩ : ∃ L : List Value, L = [.int .i64 W, .int .i64 H, .slice (some ⟨w.heap.size + 1, 0, none⟩) n n] := ⟨_, rfl⟩
    obtain ⟨w9, hw9⟩ : ∃ w9, w9 = (w.alloc (.cells L.toArray 24)).alloc (.cells (cellsU (List.replicate n 0)).toArray 29) := ⟨_, rfl⟩
    have hb1 : (w.alloc (.cells L.toArray 24)).heap[w.heap.size]? = some (.cells L.toArray 24 (0, 0)) := heap_alloc_at rfl
    have hb : w9.heap[w.heap.size]? = some (.cells L.toArray 24 (0, 0)) := by rw [hw9]; exact (Below.heap_alloc _ _ _ (by simp)).trans hb1
    have hg : w9.heap[w.heap.size + 1]? = some (.cells (cellsU (List.replicate n 0)).toArray 29 (0, 0)) := by rw [hw9]; exact heap_alloc_at (by simp)
    have hF : Fr (fun _ => False) w w9 := by rw [hw9]; exact (Fr.of_alloc _ _).join (Fr.of_alloc _ _)
    have hld := run_loadVar_mid (P := Try.prog) w9 w.heap.size 0 24 L d (rangeAt_cells hb) u1 u2 (by rw [hL]; exact u3)
    have hcut : (L.toArray) = #[.int .i64 W, .int .i64 H, .slice (some ⟨w.heap.size + 1, 0, none⟩) n n] := by rw [hL]
    rw [hcut] at hw9 hld
    rw [← hw9]
    exact bodyPost_ret (results_two (t := 4) (s := 5) Try.results34 rfl hld rfl) rfl ⟨_, _, rfl, hF, Or.inr ⟨Hs.out, rfl, n, _, Hn.out.symm, rfl, Nat.le_succ _, hg⟩⟩
  · have HS := hide (rsize_c W H (w.alloc (.cells #[.int .i64 0, .int .i64 0, .slice none 0 0] 24)))
    have hs2 : (sizeE W H == 0) = false := by rw [beq_eq_false_iff_ne]; exact hs
    have Hs := hide hs
    obtain ⟨E, hE⟩ : ∃ E, E = sizeE W H := ⟨_, rfl⟩
    rw [← hE] at HS hs2
    have hne : ¬ E = 0 := by rw [hE]; exact hs
    have hs3 : (E != 0) = true := bne_iff_ne.2 hne
    have HE := hide hE
    clear hs hE
    go_enter Try.func34, Try.ntmps34
    go_wp2_with fail
    refine HS.out.mono ?_
    rintro e w2 ⟨rfl, rfl⟩
    go_wp2_with fail
    obtain ⟨d, u1, u2, u3⟩ := Try.und24
    obtain ⟨L, hL⟩ : ∃ L : List Value, L = [.int .i64 0, .int .i64 0, .slice none 0 0] := ⟨_, rfl⟩
    obtain ⟨w9, hw9⟩ : ∃ w9, w9 = w.alloc (.cells L.toArray 24) := ⟨_, rfl⟩
    have hb : w9.heap[w.heap.size]? = some (.cells L.toArray 24 (0, 0)) := by rw [hw9]; exact heap_alloc_at rfl
    have hF : Fr (fun _ => False) w w9 := by rw [hw9]; exact Fr.of_alloc _ _
    have hld := run_loadVar_mid (P := Try.prog) w9 w.heap.size 0 24 L d (rangeAt_cells hb) u1 u2 (by rw [hL]; exact u3)
    have hcut : (L.toArray) = #[.int .i64 0, .int .i64 0, .slice none 0 0] := by rw [hL]
    rw [hcut] at hw9 hld
    rw [← hw9]
    exact bodyPost_ret (results_two (t := 4) (s := 5) Try.results34 rfl hld rfl) rfl ⟨_, _, rfl, hF, Or.inl ⟨Hs.out, HE.out, rfl⟩⟩
end Go.Proofs.Ythdilabmajaehaa
