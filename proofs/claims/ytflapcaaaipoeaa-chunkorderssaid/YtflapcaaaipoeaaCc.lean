/-
  chunk: places of a kind; the size of a file.
-/
import Derived.Test.YtflapcaaaipoeaaCb
import Derived.Deep.CutRange
import Derived.Deep.CutBlock
import Derived.Lib.SlicesS
import Derived.Deep.MidRow
import Derived.Lib.SmallJoins
namespace Go.Proofs.Ytflapcaaaipoeaa
open Go.RowKit
set_option linter.unusedVariables false

theorem bytes_ne {x y : ByteArray} (h : ¬ x = y) : (x.toList == y.toList) = false := by
  rw [Bool.eq_false_iff]
  intro hh
  rw [beq_iff_eq, ByteArray.toList_eq, ByteArray.toList_eq] at hh
  apply h
  cases x; cases y
  simp at hh
  rw [hh]

/-- How many bytes a file of these chunks has. -/
def sizeL (l : List Ck) : Nat := 8 + (l.map fun c => 12 + c.2.length).sum
theorem size_snoc (l : List Ck) (k : Nat) (h : k < l.length) : sizeL (l.take (k + 1)) = sizeL (l.take k) + (12 + (l.getD k default).2.length) := by
  unfold sizeL
  rw [List.take_succ_eq_append_getElem h, List.map_append, List.sum_append]
  simp [List.getD_eq_getElem?_getD, List.getElem?_eq_getElem h]; omega
theorem size_le (l : List Ck) (k : Nat) : sizeL (l.take k) ≤ sizeL l := by
  unfold sizeL
  have h : l.map (fun c => 12 + c.2.length) = (l.take k).map (fun c => 12 + c.2.length) ++ (l.drop k).map (fun c => 12 + c.2.length) := by
    rw [← List.map_append, List.take_append_drop]
  rw [h, List.sum_append]; omega

/-- What fileSize answers. -/
def sizeV (l : List Ck) : Value := if sizeL l ≤ 262144 then .tuple #[.int .i64 (sizeL l : Int), .bool true] else .tuple #[.int .i64 0, .bool false]

set_option maxHeartbeats 400000 in
theorem fileSize_c (a : Option Addr) (c : Nat) (l : List Ck) (w : World) (hl : LiesC w a l) (hlen : l.length ≤ 281474976710656) :
    Calls Try.prog 27 #[.slice a l.length c] w fun e w' => e = .returned (sizeV l) ∧ Fr (fun _ => False) w w' := by
  have Hl := hide hl
  clear hl
  go_enter Try.func27, Try.ntmps27
  go_wp2
  go_loopw [4, 9] (fun s i wr => ∃ k z : Nat, k ≤ l.length ∧ i = .int .i64 k ∧ s = .int .i64 z ∧ z ≤ 262144 ∧ Fr (fun _ => False) w wr ∧ Hid (sizeL (l.take k) = z)) (fun _ i _ => l.length - (intOf i).toNat)
  case atStart => exact ⟨0, 8, by omega, rfl, rfl, by omega, Fr.refl _ _, rfl⟩
  case round =>
    obtain ⟨k, z, hk, rfl, rfl, hz, hF, H⟩ := hrel
    by_cases hlt : k < l.length
    · obtain ⟨b, o, d, cap, rfl, hck⟩ := Hl.out k hlt
      have h0 : (0 : Int) ≤ (k : Int) := by omega
      have h1 : (k : Int) < (l.length : Int) := by omega
      have hc1 := cell_fr hF hck.kind (fun h => h)
      have hc2 := cell_fr hF hck.data (fun h => h)
      have hn := hck.len
      have HS := hide (size_snoc l k hlt)
      have HQ := hide (size_le l (k + 1))
      have HF := hide hF
      clear hF hck
      generalize l.getD k default = q at *
      obtain ⟨kd, ds⟩ := q
      replace HS : Hid (sizeL (l.take (k + 1)) = z + (12 + ds.length)) := by show _ = _; rw [HS.out, H.out]
      simp only [] at hc1 hc2 hn
      by_cases hb : ds.length + z > 262132
      · have d1 : decide ((262132 - (z : Int)) < (ds.length : Int)) = true := by simp; omega
        have HN : Hid (¬ sizeL l ≤ 262144) := by
          have h1 := HS.out
          have h2 := HQ.out
          show ¬ _
          omega
        generalize ds.length = n at *
        clear hb HS HQ H
        go_wp2
        go_ret2
        exact ⟨by unfold sizeV; rw [if_neg HN.out]; rfl, HF.out.join (Fr.of_alloc _ _)⟩
      · have d1 : decide ((262132 - (z : Int)) < (ds.length : Int)) = false := by simp; omega
        generalize ds.length = n at *
        clear HQ H
        go_wp2
        go_roundw
        case rel => exact ⟨k + 1, z + (12 + n), by omega, by go_num, by go_num, by omega, HF.out.join (Fr.of_alloc _ _), HS⟩
        case measure => simp [intOf]; omega
    · have HN : Hid (sizeL l = z) := by
        have h := H.out
        rw [List.take_of_length_le (by omega)] at h
        exact h
      have HF := hide hF
      clear H hF
      go_wp2
      go_ret2
      exact ⟨by unfold sizeV; rw [HN.out, if_pos hz]; rfl, HF.out⟩

/-- Places of a kind among the first n: how many, the first, the last. -/
def plc (l : List Ck) (k : ByteArray) : Nat → Nat × Int × Int
  | 0 => (0, -1, -1)
  | n + 1 => if (l.getD n default).1 = k then ((plc l k n).1 + 1, (if (plc l k n).1 = 0 then (n : Int) else (plc l k n).2.1), (n : Int)) else plc l k n

theorem plc_le (l : List Ck) (k : ByteArray) : ∀ n, (plc l k n).1 ≤ n ∧ -1 ≤ (plc l k n).2.1 ∧ (plc l k n).2.1 < n ∧ -1 ≤ (plc l k n).2.2 ∧ (plc l k n).2.2 < n
  | 0 => by simp [plc]
  | n + 1 => by
    have h := plc_le l k n
    unfold plc
    split
    · refine ⟨by simp only []; omega, ?_, ?_, by simp only []; omega, by simp only []; omega⟩
      · simp only []; split <;> omega
      · simp only []; split <;> omega
    · omega

theorem row_of {P : Program} {ty : TypeId} (h : (P.underlying ty).map TypeDesc.isRow = some true) : ∃ d, P.underlying ty = some d ∧ d.isRow = true := by
  cases e : P.underlying ty with
  | none => rw [e] at h; cases h
  | some d => rw [e] at h; exact ⟨d, rfl, by simpa using h⟩
theorem rangeAt_cells {w : World} {b : Nat} {cs : List Value} {T : TypeId} (h : w.heap[b]? = some (.cells cs.toArray T (0, 0))) : w.rangeAt b 0 cs := fun j v hv => by
  rw [Nat.zero_add]
  exact cell_of h (by simpa using hv)
theorem results_cell {fn : Func} {tmps : Array Value} {P : Program} {w : World} {t : Nat} {ty : TypeId} {a : Addr} {v : Value} (hf : fn.results = #[.cell t ty]) (ht : tmps[t]? = some (.pointer (some a))) (hl : (loadVar ty a).run P w = .ok v w) :
    (results fn tmps).run P w = .ok v w := by
  simp [results, hf, asAddr, ht, hl]
theorem results_two {fn : Func} {tmps : Array Value} {P : Program} {w : World} {t s : Nat} {ty : TypeId} {a : Addr} {v x : Value} (hf : fn.results = #[.cell t ty, .tmp s]) (ht : tmps[t]? = some (.pointer (some a))) (hl : (loadVar ty a).run P w = .ok v w) (hs : tmps[s]? = some x) :
    (results fn tmps).run P w = .ok (.tuple #[v, x]) w := by
  simp [results, hf, asAddr, ht, hl, hs]
theorem Try.und73 : ∃ d, Try.prog.underlying 73 = some d ∧ d.isRow = true ∧ (Try.prog.info? 73).map (·.size) = some 3 := by
  obtain ⟨d, h1, h2⟩ := row_of (P := Try.prog) (ty := 73) (by kernel_rfl)
  exact ⟨d, h1, h2, by kernel_rfl⟩
theorem Try.und51 : ∃ d, Try.prog.underlying 51 = some d ∧ d.isRow = true ∧ (Try.prog.info? 51).map (·.size) = some 2 := by
  obtain ⟨d, h1, h2⟩ := row_of (P := Try.prog) (ty := 51) (by kernel_rfl)
  exact ⟨d, h1, h2, by kernel_rfl⟩

def plcV (p : Nat × Int × Int) : Value := .agg #[.int .i64 (p.1 : Int), .int .i64 p.2.1, .int .i64 p.2.2]

set_option maxHeartbeats 800000 in
theorem placesOf_c (a : Option Addr) (c : Nat) (l : List Ck) (kd : ByteArray) (w : World) (hl : LiesC w a l) (hlen : l.length ≤ 281474976710656) :
    Calls Try.prog 41 #[.slice a l.length c, .string kd] w fun e w' => e = .returned (plcV (plc l kd l.length)) ∧ Fr (fun _ => False) w w' := by
  have Hl := hide hl
  clear hl
  go_enter Try.func41, Try.ntmps41
  go_wp2
  have hM : ∃ M, M = w.heap.size + 1 := ⟨_, rfl⟩
  obtain ⟨M, hM⟩ := hM
  go_loopw [11] (fun i wr => ∃ (k x : Nat) (y z : Int), k ≤ l.length ∧ i = .int .i64 k ∧ x ≤ k ∧ -1 ≤ y ∧ y < k ∧ -1 ≤ z ∧ z < k ∧ wr.heap[w.heap.size + 1]? = some (.cells #[.int .i64 x, .int .i64 y, .int .i64 z] 73 (0, 0)) ∧ wr.heap[w.heap.size]? = some (.cells #[.int .i64 0, .int .i64 0, .int .i64 0] 73 (0, 0)) ∧ Fr (fun _ => False) w wr ∧ Hid (plc l kd k = (x, y, z))) (fun i _ => l.length - (intOf i).toNat)
  case atStart =>
    refine ⟨0, 0, -1, -1, by omega, rfl, by omega, by omega, by omega, by omega, by omega, ?_, ?_, ?_, rfl⟩
    · rw [show w.heap.size + 1 = (w.alloc (.cells #[.int .i64 0, .int .i64 0, .int .i64 0] 73)).heap.size by simp]
      exact heap_alloc_new _ _
    · rw [Below.heap_alloc _ _ _ (by simp)]
      exact heap_alloc_new _ _
    · exact (Fr.of_alloc _ _).join (Fr.of_alloc _ _)
  case round =>
    obtain ⟨k, x, y, z, hk, rfl, hx, hy, hy2, hz, hz2, hob, hor, hF, H⟩ := hrel
    clear hM
    have hsz : w.heap.size + 1 < wr.heap.size := lt_of hob
    have g0 := cell_of hob (o := 0) rfl
    have g1 := cell_of hob (o := 1) rfl
    have g2 := cell_of hob (o := 2) rfl
    have f0 := frozen_of hob (o := 0)
    have f1 := frozen_of hob (o := 1)
    have f2 := frozen_of hob (o := 2)
    have HO := hide hob
    have HR := hide hor
    clear hob hor
    by_cases hlt : k < l.length
    · obtain ⟨b, o, d, cap, rfl, hck⟩ := Hl.out k hlt
      have h0 : (0 : Int) ≤ (k : Int) := by omega
      have h1 : (k : Int) < (l.length : Int) := by omega
      have hc1 := cell_fr hF hck.kind (fun h => h)
      have hc2 := cell_fr hF hck.data (fun h => h)
      have HF := hide hF
      clear hF hck
      have HS : Hid (plc l kd (k + 1) = if (l.getD k default).1 = kd then (x + 1, (if x = 0 then (k : Int) else y), (k : Int)) else (x, y, z)) := by
        show _ = _
        conv => lhs; unfold plc
        rw [H.out]
      generalize l.getD k default = q at *
      obtain ⟨kq, ds⟩ := q
      simp only [] at hc1 hc2
      by_cases he : kq = kd
      · subst he
        have hbe : (kq.toList == kq.toList) = true := by simp
        replace HS := HS.out
        rw [if_pos rfl] at HS
        by_cases hx0 : x = 0
        · subst hx0
          rw [if_pos rfl] at HS
          have HS := hide HS
          go_wp2
          go_roundw
          case rel =>
            refine ⟨k + 1, 1, k, k, by omega, by go_num, by omega, by omega, by omega, by omega, by omega, ?_, ?_, ?_, HS⟩
            · rw [Below.heap_alloc _ _ _ (by simpa using hsz)]
              exact heap_setCell_own _ (heap_setCell_own _ (heap_setCell_own _ HO.out))
            · rw [Below.heap_alloc _ _ _ (by simp; omega), Below.heap_setCell _ _ _ _ (by simp), Below.heap_setCell _ _ _ _ (by simp), Below.heap_setCell _ _ _ _ (by simp)]
              exact HR.out
            · refine (((HF.out.trans (Fr.of_setCell _ _ _)).trans ((Fr.of_setCell _ _ _).trans (Fr.of_setCell _ _ _))).trans (Fr.of_alloc _ _)).mono fun i hi h => ?_
              simp only [false_or, or_false] at h
              omega
          case measure => simp [intOf]; omega
        · rw [if_neg hx0] at HS
          have HS := hide HS
          have hxx : ((x : Int) == 0) = false := by simpa using hx0
          have Hx0 := hide hx0
          clear hx0
          go_wp2
          go_roundw
          case rel =>
            refine ⟨k + 1, x + 1, y, k, by omega, by go_num, by omega, by omega, by omega, by omega, by omega, ?_, ?_, ?_, HS⟩
            · rw [Below.heap_alloc _ _ _ (by simpa using hsz)]
              exact heap_setCell_own _ (heap_setCell_own _ HO.out)
            · rw [Below.heap_alloc _ _ _ (by simp; omega), Below.heap_setCell _ _ _ _ (by simp), Below.heap_setCell _ _ _ _ (by simp)]
              exact HR.out
            · refine (((HF.out.trans (Fr.of_setCell _ _ _)).trans (Fr.of_setCell _ _ _)).trans (Fr.of_alloc _ _)).mono fun i hi h => ?_
              simp only [false_or, or_false] at h
              omega
          case measure => simp [intOf]; omega
      · have hbe : (kq.toList == kd.toList) = false := bytes_ne he
        replace HS := HS.out
        rw [if_neg he] at HS
        have HS := hide HS
        go_wp2
        go_roundw
        case rel => exact ⟨k + 1, x, y, z, by omega, by go_num, by omega, hy, by omega, hz, by omega, by rw [Below.heap_alloc _ _ _ hsz]; exact HO.out, by rw [Below.heap_alloc _ _ _ (by omega)]; exact HR.out, HF.out.join (Fr.of_alloc _ _), HS⟩
        case measure => simp [intOf]; omega
    · have HN : Hid (plc l kd l.length = (x, y, z)) := by
        have h := H.out
        rw [show k = l.length by omega] at h
        exact h
      have r0 := cell_of HR.out (o := 0) rfl
      have r1 := cell_of HR.out (o := 1) rfl
      have r2 := cell_of HR.out (o := 2) rfl
      have e0 := frozen_of HR.out (o := 0)
      have e1 := frozen_of HR.out (o := 1)
      have e2 := frozen_of HR.out (o := 2)
      have HF := hide hF
      clear H hF
      go_wp2
      have hfin : (((wr.setCell ⟨w.heap.size, 0, none⟩ (.int .i64 x)).setCell ⟨w.heap.size, 1, none⟩ (.int .i64 y)).setCell ⟨w.heap.size, 2, none⟩ (.int .i64 z)).heap[w.heap.size]? = some (.cells #[.int .i64 x, .int .i64 y, .int .i64 z] 73 (0, 0)) := heap_setCell_own _ (heap_setCell_own _ (heap_setCell_own _ HR.out))
      obtain ⟨d, u1, u2, u3⟩ := Try.und73
      have hld := run_loadVar_mid (P := Try.prog) _ w.heap.size 0 73 [.int .i64 x, .int .i64 y, .int .i64 z] d (rangeAt_cells hfin) u1 u2 u3
      refine bodyPost_ret (results_cell (t := 4) Try.results41 rfl hld) rfl ⟨by rw [HN.out]; rfl, ?_⟩
      refine ((HF.out.trans (Fr.of_setCell _ _ _)).trans ((Fr.of_setCell _ _ _).trans (Fr.of_setCell _ _ _))).mono fun i hi h => ?_
      simp only [false_or] at h
      omega
end Go.Proofs.Ytflapcaaaipoeaa
