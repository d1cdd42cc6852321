/-
  raster: New.
-/
import Derived.Test.YthdilabmajaehaaRb
import Derived.Deep.MidRow
namespace Go.Proofs.Ythdilabmajaehaa
open Go.RowKit

theorem rangeAt_cells {w : World} {b : Nat} {cs : List Value} {T : TypeId} (h : w.heap[b]? = some (.cells cs.toArray T (0, 0))) : w.rangeAt b 0 cs := fun j v hv => by
  rw [Nat.zero_add]
  exact cell_of h (by simpa using hv)

/-- Samples as cells. -/
def cellsU (bs : List Nat) : List Value := bs.map fun b => .int .u16 ((b : Nat) : Int)

theorem Try.info29 : (Try.prog.info? 29).map (fun i => (i.zero, i.size, i.bytes)) = some (some (.int .u16 0), 1, 2) := by kernel_rfl

theorem makeU (n : Nat) (hn : n ≤ 5000000) : ∀ W : World, (Instr.makeSlice 22 (.int .i64 (n : Int)) (.int .i64 (n : Int))).run Try.prog W = .ok (.slice (some ⟨W.heap.size, 0, none⟩) n n) (W.alloc (.cells (cellsU (List.replicate n 0)).toArray 29)) := by
  obtain ⟨i0, hi, hz0, hz1, hz2⟩ := info_parts Try.info29
  intro W
  have := run_make (P := Try.prog) W 22 29 i0 (.int .u16 0) Try.underlying22 hi hz0 .i64 .i64 n n (by omega) (Int.le_refl _) (by rw [hz2]; omega) (by omega)
  rw [hz1] at this
  have e : madeCells (Value.int .u16 0).cells (n * 1) = (cellsU (List.replicate n 0)).toArray := by
    apply Array.ext'
    rw [Nat.mul_one]
    show (madeCells #[.int .u16 0] n).toList = _
    rw [toList_madeCells_one]
    simp [cellsU]
  rw [← e]
  simpa using this

theorem results_two {fn : Func} {tmps : Array Value} {P : Program} {w : World} {t s : Nat} {ty : TypeId} {a : Addr} {v x : Value} (hf : fn.results = #[.cell t ty, .tmp s]) (ht : tmps[t]? = some (.pointer (some a))) (hl : (loadVar ty a).run P w = .ok v w) (hs : tmps[s]? = some x) :
    (results fn tmps).run P w = .ok (.tuple #[v, x]) w := by
  simp [results, hf, asAddr, ht, hl, hs]

theorem Try.und24 : ∃ d, Try.prog.underlying 24 = some d ∧ d.isRow = true ∧ (Try.prog.info? 24).map (·.size) = some 3 := by
  obtain ⟨d, h1, h2⟩ := row_of (P := Try.prog) (ty := 24) (by kernel_rfl)
  exact ⟨d, h1, h2, by kernel_rfl⟩

/-- What New leaves. -/
structure Newd (W H : Int) (w : World) (v : Value) (er : Int) (w' : World) : Prop where
  fr : Fr (fun _ => False) w w'
  out : (sizeE W H ≠ 0 ∧ er = sizeE W H ∧ v = rasV 0 0 none 0 0) ∨ (sizeE W H = 0 ∧ er = 0 ∧ ∃ (n : Nat) (g : Nat), (n : Int) = 4 * W * H ∧ v = rasV W H (some ⟨g, 0, none⟩) n n ∧ w.heap.size ≤ g ∧ w'.heap[g]? = some (.cells (cellsU (List.replicate n 0)).toArray 29 (0, 0)))

theorem new_c (W H : Int) (w : World) : Calls Try.prog 16 #[.int .i64 W, .int .i64 H] w fun e w' => ∃ v er, e = .returned (.tuple #[v, .int .i64 er]) ∧ Newd W H w v er w' := by
  by_cases hs : sizeE W H = 0
  · obtain ⟨h1, h2, h3, h4, h5⟩ := size_ok hs
    have hm : 0 ≤ W * H := Int.mul_nonneg (by omega) (by omega)
    have e4 : 4 * W * H = 4 * (W * H) := Int.mul_assoc _ _ _
    obtain ⟨n, hn⟩ : ∃ n : Nat, 4 * W * H = (n : Int) := ⟨(4 * W * H).toNat, by omega⟩
    have hn2 : n ≤ 65536 := by omega
    have q1 : wrap64 (4 * W) = 4 * W := wrap64_id _ (by omega) (by omega)
    have q2 : wrap64 (4 * W * H) = (n : Int) := by rw [hn]; exact wrap64_id _ (by omega) (by omega)
    have hmk := makeU n (by omega)
    have HS := hide (size_c W H (w.alloc (.cells #[.int .i64 0, .int .i64 0, .slice none 0 0] 24)))
    rw [hs] at HS
    have Hs := hide hs
    have Hn := hide hn
    clear hs e4 hm h5 hn
    go_enter Try.func16, Try.ntmps16
    go_wp2_with fail
    refine HS.out.mono ?_
    rintro e w2 ⟨rfl, rfl⟩
    go_wp2_with fail
    obtain ⟨d, u1, u2, u3⟩ := Try.und24
    obtain ⟨L, hL⟩ : ∃ L : List Value, L = [.int .i64 W, .int .i64 H, .slice (some ⟨w.heap.size + 1, 0, none⟩) n n] := ⟨_, rfl⟩
    obtain ⟨w9, hw9⟩ : ∃ w9, w9 = (w.alloc (.cells L.toArray 24)).alloc (.cells (cellsU (List.replicate n 0)).toArray 29) := ⟨_, rfl⟩
    have hb1 : (w.alloc (.cells L.toArray 24)).heap[w.heap.size]? = some (.cells L.toArray 24 (0, 0)) := heap_alloc_at rfl
    have hb : w9.heap[w.heap.size]? = some (.cells L.toArray 24 (0, 0)) := by rw [hw9]; exact (Below.heap_alloc _ _ _ (by simp)).trans hb1
    have hg : w9.heap[w.heap.size + 1]? = some (.cells (cellsU (List.replicate n 0)).toArray 29 (0, 0)) := by rw [hw9]; exact heap_alloc_at (by simp)
    have hF : Fr (fun _ => False) w w9 := by rw [hw9]; exact (Fr.of_alloc _ _).join (Fr.of_alloc _ _)
    have hld := run_loadVar_mid (P := Try.prog) w9 w.heap.size 0 24 L d (rangeAt_cells hb) u1 u2 (by rw [hL]; exact u3)
    have hcut : (L.toArray) = #[.int .i64 W, .int .i64 H, .slice (some ⟨w.heap.size + 1, 0, none⟩) n n] := by rw [hL]
    rw [hcut] at hw9 hld
    rw [← hw9]
    exact bodyPost_ret (results_two (t := 4) (s := 5) Try.results16 rfl hld rfl) rfl ⟨_, _, rfl, hF, Or.inr ⟨Hs.out, rfl, n, _, Hn.out.symm, rfl, Nat.le_succ _, hg⟩⟩
  · have HS := hide (size_c W H (w.alloc (.cells #[.int .i64 0, .int .i64 0, .slice none 0 0] 24)))
    have hs2 : (sizeE W H == 0) = false := by rw [beq_eq_false_iff_ne]; exact hs
    have Hs := hide hs
    obtain ⟨E, hE⟩ : ∃ E, E = sizeE W H := ⟨_, rfl⟩
    rw [← hE] at HS hs2
    have hne : ¬ E = 0 := by rw [hE]; exact hs
    have HE := hide hE
    clear hs hE
    go_enter Try.func16, Try.ntmps16
    go_wp2_with fail
    refine HS.out.mono ?_
    rintro e w2 ⟨rfl, rfl⟩
    go_wp2_with fail
    obtain ⟨d, u1, u2, u3⟩ := Try.und24
    obtain ⟨L, hL⟩ : ∃ L : List Value, L = [.int .i64 0, .int .i64 0, .slice none 0 0] := ⟨_, rfl⟩
    obtain ⟨w9, hw9⟩ : ∃ w9, w9 = w.alloc (.cells L.toArray 24) := ⟨_, rfl⟩
    have hb : w9.heap[w.heap.size]? = some (.cells L.toArray 24 (0, 0)) := by rw [hw9]; exact heap_alloc_at rfl
    have hF : Fr (fun _ => False) w w9 := by rw [hw9]; exact Fr.of_alloc _ _
    have hld := run_loadVar_mid (P := Try.prog) w9 w.heap.size 0 24 L d (rangeAt_cells hb) u1 u2 (by rw [hL]; exact u3)
    have hcut : (L.toArray) = #[.int .i64 0, .int .i64 0, .slice none 0 0] := by rw [hL]
    rw [hcut] at hw9 hld
    rw [← hw9]
    exact bodyPost_ret (results_two (t := 4) (s := 5) Try.results16 rfl hld rfl) rfl ⟨_, _, rfl, hF, Or.inl ⟨Hs.out, HE.out, rfl⟩⟩
end Go.Proofs.Ythdilabmajaehaa
