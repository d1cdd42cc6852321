/-
  depth: opaqueOrNothing.
-/
import Derived.Test.YthdilabmajaehaaVa
import Derived.Test.YthdilabmajaehaaSg
namespace Go.Proofs.Ythdilabmajaehaa
open Go.RowKit

/-- The pixel whose samples begin at k is opaque or all noughts. -/
def opq (px : List Nat) (k : Nat) : Bool := decide (px.getD (k + 3) 0 = 65535) || decide ([px.getD k 0, px.getD (k + 1) 0, px.getD (k + 2) 0, px.getD (k + 3) 0] = [0, 0, 0, 0])

/-- Each of the m pixels is. -/
def opqAll (m : Nat) (px : List Nat) : Bool := (List.range m).all fun q => opq px (4 * q)

theorem opqAll_false {m q : Nat} {px : List Nat} (hq : q < m) (h : opq px (4 * q) = false) : opqAll m px = false := by
  unfold opqAll
  rw [List.all_eq_false]
  exact ⟨q, List.mem_range.2 hq, by simp [h]⟩

theorem opqAll_true {m : Nat} {px : List Nat} (h : ∀ q, q < m → opq px (4 * q) = true) : opqAll m px = true := by
  unfold opqAll
  rw [List.all_eq_true]
  intro q hq
  exact h q (List.mem_range.1 hq)

set_option maxHeartbeats 1000000 in
set_option maxRecDepth 100000 in
theorem opaque_c (W H : Int) (g o n c m : Nat) (px : List Nat) (w : World) (hl : Lies w (some ⟨g, o, none⟩) px) (hp : px.length = n) (hnm : n = 4 * m) (hn : n ≤ 65536) (hc : n ≤ c) :
    Calls Try.prog 47 #[rasV W H (some ⟨g, o, none⟩) n c] w fun e w' => e = .returned (.bool (opqAll m px)) ∧ Fr (fun _ => False) w w' := by
  obtain ⟨w1, hw1⟩ : ∃ w1, w1 = w.alloc (.cells #[.int .i64 W, .int .i64 H, .slice (some ⟨g, o, none⟩) n c] 24) := ⟨_, rfl⟩
  have hb1 : w1.heap[w.heap.size]? = some (.cells #[.int .i64 W, .int .i64 H, .slice (some ⟨g, o, none⟩) n c] 24 (0, 0)) := by rw [hw1]; exact heap_alloc_at rfl
  have hF1 : Fr (fun _ => False) w w1 := by rw [hw1]; exact Fr.of_alloc _ _
  have HF1 := hide hF1
  have HL := hide (hl.keep0 hF1)
  have Hb1 := hide hb1
  have Hp := hide hp
  have Hnm := hide hnm
  have Hc := hide hc
  have hni : (n : Int) ≤ 65536 := Int.ofNat_le.2 hn
  have Hw1 := hide hw1
  have HB5 := hide hl.1
  clear hb1 hF1 hl hp hw1 hnm hc
  go_enter Try.func47, Try.ntmps47
  go_wp2_with fail
  rw [← Hw1.out]
  go_loopw [3, 4] (fun v3 _ wr => ∃ j k : Nat, v3 = .int .i64 (k : Int) ∧ j ≤ m ∧ Hid (k = 4 * j) ∧ Hid (Fr (fun _ => False) w1 wr) ∧ Hid (∀ i, i < j → opq px (4 * i) = true)) (fun v3 _ _ => n - (intOf v3).toNat)
  case atStart => exact ⟨0, 0, rfl, Nat.zero_le _, rfl, Fr.refl _ _, fun i hi => absurd hi (Nat.not_lt_zero i)⟩
  case round =>
    obtain ⟨j, k, rfl, hj, HK, HFr, HA⟩ := hrel
    have k2 := cell_of (o := 2) (cells_at Hb1.out HFr.out (fun e => e)) rfl
    by_cases hlt : j < m
    · have hk4 : k + 4 ≤ n := by have := HK.out; have := Hnm.out; omega
      have hkn : k < n := by omega
      have hki : (k : Int) < (n : Int) := by omega
      have hkc : k + 4 ≤ c := Nat.le_trans hk4 Hc.out
      have hkk : k + 4 - k = 4 := by omega
      have hLr := HL.out.keep0 HFr.out
      obtain ⟨s0, hs0⟩ : ∃ s, s = px.getD k 0 := ⟨_, rfl⟩
      obtain ⟨s1, hs1⟩ : ∃ s, s = px.getD (k + 1) 0 := ⟨_, rfl⟩
      obtain ⟨s2, hs2⟩ : ∃ s, s = px.getD (k + 2) 0 := ⟨_, rfl⟩
      obtain ⟨s3, hs3⟩ : ∃ s, s = px.getD (k + 3) 0 := ⟨_, rfl⟩
      have c0 : wr.cell? ⟨g, o + k, none⟩ = some (.int .u16 (s0 : Int)) := by rw [hs0]; exact hLr.cell (by have := Hp.out; omega)
      have c1 : wr.cell? ⟨g, o + k + 1, none⟩ = some (.int .u16 (s1 : Int)) := by rw [hs1]; exact hLr.cell (j := k + 1) (by have := Hp.out; omega)
      have c2 : wr.cell? ⟨g, o + k + 2, none⟩ = some (.int .u16 (s2 : Int)) := by rw [hs2]; exact hLr.cell (j := k + 2) (by have := Hp.out; omega)
      have c3 : wr.cell? ⟨g, o + k + 3, none⟩ = some (.int .u16 (s3 : Int)) := by rw [hs3]; exact hLr.cell (j := k + 3) (by have := Hp.out; omega)
      have hA : ∀ W : World, (Instr.arrayAt 36 (.slice (some ⟨g, o + k, none⟩) 4 (c - k))).run Try.prog W = .ok (.pointer (some ⟨g, o + k, none⟩)) W := fun W => run_arrayAt (P := Try.prog) (w := W) 36 29 4 (some ⟨g, o + k, none⟩) 4 (c - k) (by kernel_rfl) (by decide)
      have Hq4 : Hid (∀ x ∈ [s0, s1, s2, s3], x < 65536) := by show ∀ x ∈ _, _; rw [hs0, hs1, hs2, hs3]; intro x hx; simp only [List.mem_cons, List.not_mem_nil, or_false] at hx; rcases hx with rfl | rfl | rfl | rfl <;> exact sample_lt HB5.out _
      have Hs : Hid (opq px (4 * j) = (decide (s3 = 65535) || decide ([s0, s1, s2, s3] = [0, 0, 0, 0]))) := by show _ = _; rw [hs0, hs1, hs2, hs3, ← HK.out]; rfl
      clear hs0 hs1 hs2 hs3 hLr
      by_cases h3 : s3 = 65535
      · have h3i : ((s3 : Int) != 65535) = false := by rw [h3]; rfl
        have HB : Hid (∀ i, i < j + 1 → opq px (4 * i) = true) := fun i hi => by
          by_cases h : i = j
          · rw [h, Hs.out, h3]; rfl
          · exact HA.out i (by omega)
        have H3 := hide h3
        clear h3
        go_wp2_with fail
        refine ⟨⟨j + 1, k + 4, by go_num, by omega, by show k + 4 = 4 * (j + 1); have := HK.out; omega, HFr.out.join (Fr.of_alloc _ _), HB.out⟩, by simp [intOf]; omega⟩
      have h3i : ((s3 : Int) != 65535) = true := by rw [bne, beq_false_of_ne (by omega : (s3 : Int) ≠ 65535)]; rfl
      have h3d : decide (s3 = 65535) = false := decide_eq_false h3
      rw [h3d] at Hs
      obtain ⟨Z, hZ⟩ : ∃ Z, Z = decide ([s0, s1, s2, s3] = [0, 0, 0, 0]) := ⟨_, rfl⟩
      rw [← hZ] at Hs
      have hE : ∀ w : World, (Op.equalIn 10000 36 (.agg #[.int .u16 (s0 : Int), .int .u16 (s1 : Int), .int .u16 (s2 : Int), .int .u16 (s3 : Int)]) (.agg #[.int .u16 0, .int .u16 0, .int .u16 0, .int .u16 0])).run Try.prog w = .ok Z w := fun w => by rw [hZ]; exact eq_four s0 s1 s2 s3 0 0 0 0 Hq4.out (by decide) w
      clear h3 h3d hZ
      cases Z with
      | true =>
        have HB : Hid (∀ i, i < j + 1 → opq px (4 * i) = true) := fun i hi => by
          by_cases h : i = j
          · rw [h, Hs.out]; rfl
          · exact HA.out i (by omega)
        go_wp2_with fail
        refine ⟨⟨j + 1, k + 4, by go_num, by omega, by show k + 4 = 4 * (j + 1); have := HK.out; omega, HFr.out.join (Fr.of_alloc _ _), HB.out⟩, by simp [intOf]; omega⟩
      | false =>
        have HB : Hid (opqAll m px = false) := opqAll_false (q := j) hlt (by rw [Hs.out]; rfl)
        go_wp2_with fail
        go_ret
        exact ⟨by rw [HB.out]; rfl, HF1.out.join (HFr.out.join (Fr.of_alloc _ _))⟩
    · have hki : ¬ (k : Int) < (n : Int) := by have := HK.out; have := Hnm.out; omega
      have HB : Hid (opqAll m px = true) := opqAll_true fun i hi => HA.out i (by omega)
      go_wp2_with fail
      go_ret
      exact ⟨by rw [HB.out]; rfl, HF1.out.join HFr.out⟩
end Go.Proofs.Ythdilabmajaehaa
