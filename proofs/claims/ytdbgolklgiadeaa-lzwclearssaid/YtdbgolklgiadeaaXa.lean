/-
  lzw: the numbers of a table.
-/
import Derived.Test.YtdbgolklgiadeaaXm
import Derived.Test.YtdbgolklgiadeaaBh
import Derived.Deep.MidRow
import Derived.BigRegion
import Derived.Deep.CutRange
import Derived.Deep.RegionHeld3
import Derived.Deep.RegionHeldLaw
import Derived.Deep.RegionLaw
namespace Go.Proofs.Ytdbgolklgiadeaa
open Go.RowKit

theorem results_cell {fn : Func} {tmps : Array Value} {P : Program} {w : World} {t : Nat} {ty : TypeId} {a : Addr} {v : Value} (hf : fn.results = #[.cell t ty]) (ht : tmps[t]? = some (.pointer (some a))) (hl : (loadVar ty a).run P w = .ok v w) :
    (results fn tmps).run P w = .ok v w := by
  simp [results, hf, asAddr, ht, hl]

theorem row_of {P : Program} {ty : TypeId} (h : (P.underlying ty).map TypeDesc.isRow = some true) : ∃ d, P.underlying ty = some d ∧ d.isRow = true := by
  cases e : P.underlying ty with
  | none => rw [e] at h; cases h
  | some d => rw [e] at h; exact ⟨d, rfl, by simpa using h⟩

theorem rangeAt_cells {w : World} {b : Nat} {cs : List Value} {T : TypeId} (h : w.heap[b]? = some (.cells cs.toArray T (0, 0))) : w.rangeAt b 0 cs := fun j v hv => by
  rw [Nat.zero_add]
  exact cell_of h (by simpa using hv)

theorem alloc_here (w : World) (o : Obj) : (w.alloc o).heap[w.heap.size]? = some o := by
  show (w.heap.push o)[w.heap.size]? = some o
  simp

theorem Try.und66 : ∃ d, Try.prog.underlying 66 = some d ∧ d.isRow = true ∧ (Try.prog.info? 66).map (·.size) = some 3 := by
  obtain ⟨d, h1, h2⟩ := row_of (P := Try.prog) (ty := 66) (by kernel_rfl)
  exact ⟨d, h1, h2, by kernel_rfl⟩

/-- The numbers as cells. -/
abbrev numC (k n : Nat) : List Value := [.int .i64 ((2 ^ k : Nat) : Int), .int .i64 ((nextN k n : Nat) : Int), .int .i64 ((wid k n : Nat) : Int)]

theorem pow_le (k : Nat) (hk : k ≤ 8) : 2 ^ k ≤ 256 := Nat.pow_le_pow_right (n := 2) (by omega) hk

set_option maxHeartbeats 800000 in
set_option maxRecDepth 100000 in
theorem newNumbers_c (k : Nat) (hk : 2 ≤ k ∧ k ≤ 8) (w : World) :
    Calls Try.prog 31 #[.int .i64 (k : Int)] w fun e w' => e = .returned (.agg (numC k 0).toArray) ∧ Fr (fun _ => False) w w' := by
  obtain ⟨P, hP⟩ : ∃ P, P = 2 ^ k := ⟨_, rfl⟩
  have hPi : (2 : Int) ^ k = (P : Int) := by rw [hP]; simp
  have hP2 : P ≤ 256 := by rw [hP]; exact pow_le k hk.2
  have hki : (0 : Int) ≤ (k : Int) := by omega
  have hk2 := hk.2
  have e1 : numC k 0 = [.int .i64 (P : Int), .int .i64 ((P : Int) + 2), .int .i64 ((k : Int) + 1)] := by
    simp only [numC, nextN, wid, ← hP]
    simp
  rw [e1]
  have HP := hide hP
  clear hP e1
  go_enter Try.func31, Try.ntmps31
  go_upto_region 1 with fail
  go_region
  go_wp2
  obtain ⟨d, u1, u2, u3⟩ := Try.und66
  obtain ⟨L, hL⟩ : ∃ L : List Value, L = [.int .i64 (P : Int), .int .i64 ((P : Int) + 2), .int .i64 ((k : Int) + 1)] := ⟨_, rfl⟩
  have hF : Fr (fun _ => False) w (w.alloc (.cells L.toArray 66)).drew := (Fr.of_alloc w _).join (Fr.of_drewN _ 1)
  have hb : (w.alloc (.cells L.toArray 66)).drew.heap[w.heap.size]? = some (.cells L.toArray 66 (0, 0)) := alloc_here w _
  have hld := run_loadVar_mid (P := Try.prog) (w.alloc (.cells L.toArray 66)).drew w.heap.size 0 66 L d (rangeAt_cells hb) u1 u2 (by rw [hL]; exact u3)
  rw [hL] at hld hF
  exact bodyPost_ret (results_cell (t := 2) Try.results31 rfl hld) rfl ⟨rfl, hF⟩

/-- Numbers that lie in an object. -/
structure Num (w : World) (M o k n : Nat) : Prop where
  c0 : w.cell? ⟨M, o, none⟩ = some (.int .i64 ((2 ^ k : Nat) : Int))
  c1 : w.cell? ⟨M, o + 1, none⟩ = some (.int .i64 ((nextN k n : Nat) : Int))
  c2 : w.cell? ⟨M, o + 2, none⟩ = some (.int .i64 ((wid k n : Nat) : Int))
  f1 : w.frozen? ⟨M, o + 1, none⟩ = false
  f2 : w.frozen? ⟨M, o + 2, none⟩ = false

set_option maxRecDepth 100000 in
theorem end_c (M o k n : Nat) (w : World) (hk : k ≤ 8) (h : Num w M o k n) : Calls Try.prog 49 #[.pointer (some ⟨M, o, none⟩)] w fun e w' => e = .returned (.int .i64 ((2 ^ k + 1 : Nat) : Int)) ∧ w = w' := by
  obtain ⟨c0, c1, c2, f1, f2⟩ := h
  have hp := pow_le k hk
  generalize 2 ^ k = P at *
  clear c1 c2 f1 f2
  go_enter Try.func49, Try.ntmps49
  go_wp2
  go_ret
  exact ⟨ret_int (by omega), rfl⟩

set_option maxRecDepth 100000 in
theorem firstRow_c (M o k n : Nat) (w : World) (hk : k ≤ 8) (h : Num w M o k n) : Calls Try.prog 56 #[.pointer (some ⟨M, o, none⟩)] w fun e w' => e = .returned (.int .i64 ((2 ^ k + 2 : Nat) : Int)) ∧ w = w' := by
  obtain ⟨c0, c1, c2, f1, f2⟩ := h
  have hp := pow_le k hk
  generalize 2 ^ k = P at *
  clear c1 c2 f1 f2
  go_enter Try.func56, Try.ntmps56
  go_wp2
  go_ret
  exact ⟨ret_int (by omega), rfl⟩

set_option maxRecDepth 100000 in
theorem full_c (M o k n : Nat) (w : World) (h : Num w M o k n) : Calls Try.prog 47 #[.pointer (some ⟨M, o, none⟩)] w fun e w' => e = .returned (.bool (decide (nextN k n = 4096))) ∧ w = w' := by
  obtain ⟨c0, c1, c2, f1, f2⟩ := h
  generalize nextN k n = P at *
  have e : ((P : Int) == 4096) = decide (P = 4096) := by
    rw [Bool.eq_iff_iff]; simp only [beq_iff_eq, decide_eq_true_eq]; omega
  have He := hide e
  clear c0 c2 f1 f2 e
  go_enter Try.func47, Try.ntmps47
  go_wp2
  go_ret
  exact ⟨by rw [← He.out]; rfl, rfl⟩

set_option maxHeartbeats 800000 in
set_option maxRecDepth 100000 in
theorem count_c (M o k n : Nat) (w : World) (hk : 2 ≤ k ∧ k ≤ 8) (hn : nextN k n < 4096) (h : Num w M o k n) :
    Calls Try.prog 61 #[.pointer (some ⟨M, o, none⟩)] w fun e w' => e = .returned (.tuple #[]) ∧ ∃ d, w' = ((w.setCell ⟨M, o + 1, none⟩ (.int .i64 ((nextN k (n + 1) : Nat) : Int))).setCell ⟨M, o + 2, none⟩ (.int .i64 ((wid k (n + 1) : Nat) : Int))).drewN d := by
  obtain ⟨c0, c1, c2, f1, f2⟩ := h
  have hw := wid_le k hk n
  have hnx : nextN k (n + 1) = nextN k n + 1 := by unfold nextN; omega
  have hwd : wid k (n + 1) = if nextN k n + 1 = 2 ^ wid k n ∧ wid k n < 12 then wid k n + 1 else wid k n := by simp only [wid, hnx]
  rw [hnx, hwd]
  generalize nextN k n = X at *
  generalize wid k n = W at *
  obtain ⟨P, hP⟩ : ∃ P, P = 2 ^ W := ⟨_, rfl⟩
  have hPi : (2 : Int) ^ W = (P : Int) := by rw [hP]; simp
  have hP2 : P ≤ 4096 := by rw [hP]; exact Nat.pow_le_pow_right (n := 2) (by omega) hw.2
  rw [← hP]
  clear c0 hnx hwd hP
  obtain ⟨w1, hw1⟩ : ∃ w1, w1 = w.setCell ⟨M, o + 1, none⟩ (.int .i64 ((X : Int) + 1)) := ⟨_, rfl⟩
  have hw1' : w.setCell ⟨M, o + 1, none⟩ (.int .i64 ((X + 1 : Nat) : Int)) = w1 := by rw [hw1]; rfl
  rw [hw1']
  have d1 : w1.cell? ⟨M, o + 1, none⟩ = some (.int .i64 ((X : Int) + 1)) := by rw [hw1]; exact World.cell?_setCell_same' w _ _ (by rw [c1]; rfl)
  have d2 : w1.cell? ⟨M, o + 2, none⟩ = some (.int .i64 (W : Int)) := by rw [hw1, World.cell?_setCell_other _ _ _ _ (by simp)]; exact c2
  have d3 : w1.frozen? ⟨M, o + 2, none⟩ = false := by rw [hw1]; simpa using f2
  have Hw1 := hide hw1
  clear hw1 hw1'
  by_cases h1 : X + 1 = P
  · have t1 : ((X : Int) + 1 == (P : Int)) = true := by rw [beq_iff_eq]; omega
    by_cases h2 : W < 12
    · have t2 : (W : Int) < 12 := by omega
      rw [if_pos ⟨h1, h2⟩]
      clear h1
      go_enter Try.func61, Try.ntmps61
      go_upto_region 1 with fail
      rw [← Hw1.out]
      go_quiet (fail)
      go_wp2
      go_end0
      exact ⟨rfl, _, by rfl⟩
    · have t2 : ¬ (W : Int) < 12 := by omega
      rw [if_neg (fun h => h2 h.2), setCell_same d2]
      clear h1
      go_enter Try.func61, Try.ntmps61
      go_upto_region 1 with fail
      rw [← Hw1.out]
      go_quiet (fail)
      go_wp2
      go_end0
      exact ⟨rfl, _, rfl⟩
  · have t1 : ((X : Int) + 1 == (P : Int)) = false := by rw [beq_eq_false_iff_ne]; omega
    rw [if_neg (fun h => h1 h.1), setCell_same d2]
    clear h1
    go_enter Try.func61, Try.ntmps61
    go_upto_region 1 with fail
    rw [← Hw1.out]
    go_quiet (fail)
    go_wp2
    go_end0
    exact ⟨rfl, _, rfl⟩
end Go.Proofs.Ytdbgolklgiadeaa
