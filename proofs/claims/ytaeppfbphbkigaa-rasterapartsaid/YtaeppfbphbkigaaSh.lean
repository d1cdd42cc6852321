/-
  raster: RasterPixels.
-/
import Derived.Test.YtaeppfbphbkigaaSg
namespace Go.Proofs.Ytaeppfbphbkigaa
open Go.RowKit

theorem sameB_self (W H : Int) (n : Nat) (P : List Nat) (h : mayB W H n = true) : sameB W H n P W H n P = true := by
  simp [sameB, h]

set_option maxHeartbeats 400000 in
set_option maxRecDepth 100000 in
theorem pixels_law (W H : Int) (a : Option Addr) (n c : Nat) (px : List Nat) (x y : Int) (q0 q1 q2 q3 : Nat) (w : World) (hl : Lies w a px) (hp : px.length = n) (hc : n ≤ c) (hnil : a = none → n = 0 ∧ c = 0) (hbig : n ≤ 9223372036854775807) (hq : ∀ v ∈ [q0, q1, q2, q3], v < 65536) :
    Calls Try.prog 3 #[rasV W H a n c, .agg #[.int .i64 x, .int .i64 y], .agg (pxV q0 q1 q2 q3)] w fun e w' => e = .returned (.bool true) ∧ Fr (fun _ => False) w w' := by
  obtain ⟨w0, hw0⟩ : ∃ w0, w0 = ((w.alloc (.cells #[.int .i64 W, .int .i64 H, .slice a n c] 24)).alloc (.cells #[.int .i64 x, .int .i64 y] 25)).alloc (.cells (pxV q0 q1 q2 q3) 27) := ⟨_, rfl⟩
  have hba : w0.heap[w.heap.size]? = some (.cells #[.int .i64 W, .int .i64 H, .slice a n c] 24 (0, 0)) := by rw [hw0]; exact (Below.heap_alloc _ _ _ (by simp; omega)).trans ((Below.heap_alloc _ _ _ (by simp)).trans (heap_alloc_at rfl))
  have hbb : w0.heap[w.heap.size + 1]? = some (.cells #[.int .i64 x, .int .i64 y] 25 (0, 0)) := by rw [hw0]; exact (Below.heap_alloc _ _ _ (by simp)).trans (heap_alloc_at (by simp))
  have hbc : w0.heap[w.heap.size + 2]? = some (.cells (pxV q0 q1 q2 q3) 27 (0, 0)) := by rw [hw0]; exact heap_alloc_at (by simp)
  have hF : Fr (fun _ => False) w w0 := by rw [hw0]; exact ((Fr.of_alloc _ _).join (Fr.of_alloc _ _)).join (Fr.of_alloc _ _)
  have HA := hide (awake_c w0)
  have Hw0 := hide hw0
  have HL := hide (hl.keep0 hF)
  have Hl0 := hide hl
  have Hp := hide hp
  have Hn := hide hnil
  have Hc := hide hc
  have HF0 := hide hF
  have Ha := hide hba
  have Hb := hide hbb
  have Hcc := hide hbc
  have Hq := hide hq
  clear hl hp hnil hw0 hF hba hbb hbc hq hc
  go_enter Try.func3, Try.ntmps3
  go_wp2_with fail
  rw [← Hw0.out]
  refine HA.out.mono ?_
  rintro e w1 ⟨rfl, hF⟩
  have HZ1 : Hid (w0.heap.size ≤ w1.heap.size) := hF.size
  have Ha1 := hide (cells_at Ha.out hF (fun e => e))
  have Hb1 := hide (cells_at Hb.out hF (fun e => e))
  have Hcc1 := hide (cells_at Hcc.out hF (fun e => e))
  have HL1 := hide (HL.out.keep0 hF)
  have HF1 := hide (HF0.out.join hF)
  have k0 := cell_of (o := 0) Ha1.out rfl
  have k1 := cell_of (o := 1) Ha1.out rfl
  have k2 := cell_of (o := 2) Ha1.out rfl
  have l0 := cell_of (o := 0) Hb1.out rfl
  have l1 := cell_of (o := 1) Hb1.out rfl
  clear hF
  by_cases hb : 70000 < n
  · have hbi : (70000 : Int) < (n : Int) := by omega
    go_wp2_with fail
    go_ret
    exact ⟨rfl, HF1.out⟩
  have hbi : ¬ (70000 : Int) < (n : Int) := by omega
  obtain ⟨ok, r0, r1, r2, r3, P, hD⟩ := deed W H x y n px q0 q1 q2 q3 Hp.out HL.out.1 Hq.out
  have HD := hide hD
  have hn6 : n ≤ 1000000 := by omega
  clear hD hb
  have HC := hide (rcopy_c W H a n c px w1 HL1.out Hp.out Hn.out hn6)
  go_wp2_with fail
  clear hbi
  refine HC.out.mono ?_
  rintro e w2 ⟨a2, c2, rfl, ho, hF⟩
  have HO2 := hide ho
  have Hlo2 : Hid (w1.heap.size ≤ w2.heap.size) := hF.size
  clear k0 k1 k2 l0 l1
  have Ha2 := hide (cells_at Ha1.out hF (fun e => e))
  have Hb2 := hide (cells_at Hb1.out hF (fun e => e))
  have Hcc2 := hide (cells_at Hcc1.out hF (fun e => e))
  have HL2 := hide (HL1.out.keep0 hF)
  have HF2 := hide (HF1.out.join hF)
  have k0 := cell_of (o := 0) Ha2.out rfl
  have k1 := cell_of (o := 1) Ha2.out rfl
  have k2 := cell_of (o := 2) Ha2.out rfl
  have l0 := cell_of (o := 0) Hb2.out rfl
  have l1 := cell_of (o := 1) Hb2.out rfl
  clear hF
  clear ho
  have HAT := hide (HD.out.at_ a c)
  obtain ⟨w3, hw3⟩ : ∃ w3, w3 = w2.alloc (.cells #[.int .i64 W, .int .i64 H, .slice a2 n c2] 24) := ⟨_, rfl⟩
  have hF : Fr (fun _ => False) w2 w3 := by rw [hw3]; exact Fr.of_alloc _ _
  have HQ3 : Hid (w3.heap[w2.heap.size]? = some (.cells #[.int .i64 W, .int .i64 H, .slice a2 n c2] 24 (0, 0))) := by rw [hw3]; exact heap_alloc_at rfl
  have HO3 := hide (HO2.out.keep hF fun _ _ h => h)
  have Hw3 := hide hw3
  clear k0 k1 k2 l0 l1
  have Ha3 := hide (cells_at Ha2.out hF (fun e => e))
  have Hb3 := hide (cells_at Hb2.out hF (fun e => e))
  have Hcc3 := hide (cells_at Hcc2.out hF (fun e => e))
  have HL3 := hide (HL2.out.keep0 hF)
  have HF3 := hide (HF2.out.join hF)
  have k0 := cell_of (o := 0) Ha3.out rfl
  have k1 := cell_of (o := 1) Ha3.out rfl
  have k2 := cell_of (o := 2) Ha3.out rfl
  have l0 := cell_of (o := 0) Hb3.out rfl
  have l1 := cell_of (o := 1) Hb3.out rfl
  clear hF
  rw [hw3] at k0 k1 k2 l0 l1
  clear hw3
  have HAT3 := hide (HD.out.at_ a c w3 HL3.out Hc.out)
  go_wp2_with fail
  rw [← Hw3.out]
  refine HAT3.out.mono ?_
  rintro e w4 ⟨rfl, hF⟩
  have HQ4 := hide (cells_at HQ3.out hF (fun e => e))
  have HO4 := hide (HO3.out.keep hF fun _ _ h => h)
  have HZ4 : Hid (w3.heap.size ≤ w4.heap.size) := hF.size
  clear k0 k1 k2 l0 l1
  have Ha4 := hide (cells_at Ha3.out hF (fun e => e))
  have Hb4 := hide (cells_at Hb3.out hF (fun e => e))
  have Hcc4 := hide (cells_at Hcc3.out hF (fun e => e))
  have HL4 := hide (HL3.out.keep0 hF)
  have HF4 := hide (HF3.out.join hF)
  have k0 := cell_of (o := 0) Ha4.out rfl
  have k1 := cell_of (o := 1) Ha4.out rfl
  have k2 := cell_of (o := 2) Ha4.out rfl
  have l0 := cell_of (o := 0) Hb4.out rfl
  have l1 := cell_of (o := 1) Hb4.out rfl
  clear hF
  have s0 := cell_of (o := 0) HQ4.out rfl
  have s1 := cell_of (o := 1) HQ4.out rfl
  have s2 := cell_of (o := 2) HQ4.out rfl
  obtain ⟨w5, hw5⟩ : ∃ w5, w5 = w4.alloc (.cells (pxV r0 r1 r2 r3) 27) := ⟨_, rfl⟩
  have hF : Fr (fun _ => False) w4 w5 := by rw [hw5]; exact Fr.of_alloc _ _
  have HR5 : Hid (w5.heap[w4.heap.size]? = some (.cells (pxV r0 r1 r2 r3) 27 (0, 0))) := by rw [hw5]; exact heap_alloc_at rfl
  have HQ5 := hide (cells_at HQ4.out hF (fun e => e))
  have HO5 := hide (HO4.out.keep hF fun _ _ h => h)
  have Hw5 := hide hw5
  clear s0 s1 s2
  clear k0 k1 k2 l0 l1
  have Ha5 := hide (cells_at Ha4.out hF (fun e => e))
  have Hb5 := hide (cells_at Hb4.out hF (fun e => e))
  have Hcc5 := hide (cells_at Hcc4.out hF (fun e => e))
  have HL5 := hide (HL4.out.keep0 hF)
  have HF5 := hide (HF4.out.join hF)
  have k0 := cell_of (o := 0) Ha5.out rfl
  have k1 := cell_of (o := 1) Ha5.out rfl
  have k2 := cell_of (o := 2) Ha5.out rfl
  have l0 := cell_of (o := 0) Hb5.out rfl
  have l1 := cell_of (o := 1) Hb5.out rfl
  clear hF
  have s0 := cell_of (o := 0) HQ5.out rfl
  have s1 := cell_of (o := 1) HQ5.out rfl
  have s2 := cell_of (o := 2) HQ5.out rfl
  rw [hw5] at k0 k1 k2 l0 l1 s0 s1 s2
  clear hw5
  have HAT5 := hide (HD.out.rat a2 c2 w5 HO5.out.lies (by have h := HO5.out; rcases h.own.2 with ⟨e, h0⟩ | ⟨g, cap, cur, hv, _, _, hc, _⟩; · omega
                                                          · cases hv; exact hc))
  go_wp2_with fail
  rw [← Hw5.out]
  refine HAT5.out.mono ?_
  rintro e w6 ⟨rfl, hF⟩
  have HQ6 := hide (cells_at HQ5.out hF (fun e => e))
  have HO6 := hide (HO5.out.keep hF fun _ _ h => h)
  have HR6 := hide (cells_at HR5.out hF (fun e => e))
  have HZ6 : Hid (w5.heap.size ≤ w6.heap.size) := hF.size
  clear k0 k1 k2 l0 l1
  have Ha6 := hide (cells_at Ha5.out hF (fun e => e))
  have Hb6 := hide (cells_at Hb5.out hF (fun e => e))
  have Hcc6 := hide (cells_at Hcc5.out hF (fun e => e))
  have HL6 := hide (HL5.out.keep0 hF)
  have HF6 := hide (HF5.out.join hF)
  have k0 := cell_of (o := 0) Ha6.out rfl
  have k1 := cell_of (o := 1) Ha6.out rfl
  have k2 := cell_of (o := 2) Ha6.out rfl
  have l0 := cell_of (o := 0) Hb6.out rfl
  have l1 := cell_of (o := 1) Hb6.out rfl
  clear hF
  clear s0 s1 s2
  obtain ⟨w7, hw7⟩ : ∃ w7, w7 = w6.alloc (.cells (pxV r0 r1 r2 r3) 27) := ⟨_, rfl⟩
  have hF : Fr (fun _ => False) w6 w7 := by rw [hw7]; exact Fr.of_alloc _ _
  have HT7 : Hid (w7.heap[w6.heap.size]? = some (.cells (pxV r0 r1 r2 r3) 27 (0, 0))) := by rw [hw7]; exact heap_alloc_at rfl
  have HQ7 := hide (cells_at HQ6.out hF (fun e => e))
  have HO7 := hide (HO6.out.keep hF fun _ _ h => h)
  have HR7 := hide (cells_at HR6.out hF (fun e => e))
  have Hw7 := hide hw7
  clear k0 k1 k2 l0 l1
  have Ha7 := hide (cells_at Ha6.out hF (fun e => e))
  have Hb7 := hide (cells_at Hb6.out hF (fun e => e))
  have Hcc7 := hide (cells_at Hcc6.out hF (fun e => e))
  have HL7 := hide (HL6.out.keep0 hF)
  have HF7 := hide (HF6.out.join hF)
  have k0 := cell_of (o := 0) Ha7.out rfl
  have k1 := cell_of (o := 1) Ha7.out rfl
  have k2 := cell_of (o := 2) Ha7.out rfl
  have l0 := cell_of (o := 0) Hb7.out rfl
  have l1 := cell_of (o := 1) Hb7.out rfl
  clear hF
  rw [hw7] at k0 k1 k2 l0 l1
  clear hw7
  have HC7 := hide (copy_c W H a n c px w7 HL7.out Hp.out Hn.out hn6)
  go_wp2_with fail
  rw [← Hw7.out]
  refine HC7.out.mono ?_
  rintro e w8 ⟨a8, c8, rfl, ho, hF⟩
  have HP8 := hide ho
  have HO8 := hide (HO7.out.keep hF fun _ _ h => h)
  have Hap : Hid (∀ ad, a2 = some ad → ∀ ad8, a8 = some ad8 → ad.block ≠ ad8.block) := fun ad e ad8 e8 => by
    have h1 := HO7.out
    rw [e] at h1
    have h2 := ho
    rw [e8] at h2
    have := h1.lt
    have := h2.lt
    omega
  have HQ8 := hide (cells_at HQ7.out hF (fun e => e))
  have HR8 := hide (cells_at HR7.out hF (fun e => e))
  have HT8 := hide (cells_at HT7.out hF (fun e => e))
  have HZ8 : Hid (w7.heap.size ≤ w8.heap.size) := hF.size
  clear k0 k1 k2 l0 l1
  have Ha8 := hide (cells_at Ha7.out hF (fun e => e))
  have Hb8 := hide (cells_at Hb7.out hF (fun e => e))
  have Hcc8 := hide (cells_at Hcc7.out hF (fun e => e))
  have HL8 := hide (HL7.out.keep0 hF)
  have HF8 := hide (HF7.out.join hF)
  have k0 := cell_of (o := 0) Ha8.out rfl
  have k1 := cell_of (o := 1) Ha8.out rfl
  have k2 := cell_of (o := 2) Ha8.out rfl
  have l0 := cell_of (o := 0) Hb8.out rfl
  have l1 := cell_of (o := 1) Hb8.out rfl
  clear hF
  clear ho
  obtain ⟨w9, hw9⟩ : ∃ w9, w9 = w8.alloc (.cells #[.int .i64 W, .int .i64 H, .slice a8 n c8] 24) := ⟨_, rfl⟩
  have hF : Fr (fun _ => False) w8 w9 := by rw [hw9]; exact Fr.of_alloc _ _
  have HS9 : Hid (w9.heap[w8.heap.size]? = some (.cells #[.int .i64 W, .int .i64 H, .slice a8 n c8] 24 (0, 0))) := by rw [hw9]; exact heap_alloc_at rfl
  have HP9 := hide (HP8.out.keep hF fun _ _ h => h)
  have HO9 := hide (HO8.out.keep hF fun _ _ h => h)
  have HQ9 := hide (cells_at HQ8.out hF (fun e => e))
  have HR9 := hide (cells_at HR8.out hF (fun e => e))
  have HT9 := hide (cells_at HT8.out hF (fun e => e))
  have Hw9 := hide hw9
  clear k0 k1 k2 l0 l1
  have Ha9 := hide (cells_at Ha8.out hF (fun e => e))
  have Hb9 := hide (cells_at Hb8.out hF (fun e => e))
  have Hcc9 := hide (cells_at Hcc8.out hF (fun e => e))
  have HL9 := hide (HL8.out.keep0 hF)
  have HF9 := hide (HF8.out.join hF)
  have k0 := cell_of (o := 0) Ha9.out rfl
  have k1 := cell_of (o := 1) Ha9.out rfl
  have k2 := cell_of (o := 2) Ha9.out rfl
  have l0 := cell_of (o := 0) Hb9.out rfl
  have l1 := cell_of (o := 1) Hb9.out rfl
  clear hF
  have m0 := cell_of (o := 0) Hcc9.out rfl
  have m1 := cell_of (o := 1) Hcc9.out rfl
  have m2 := cell_of (o := 2) Hcc9.out rfl
  have m3 := cell_of (o := 3) Hcc9.out rfl
  rw [hw9] at k0 k1 k2 l0 l1 m0 m1 m2 m3
  clear hw9
  have HSE := hide (HD.out.set_ w7.heap.size a8 c8 w9 HP9.out)
  go_wp2_with fail
  rw [← Hw9.out]
  refine HSE.out.mono ?_
  rintro e w10 ⟨rfl, hG, hP10⟩
  have HZ : Hid (w0.heap.size = w.heap.size + 3 ∧ w0.heap.size ≤ w1.heap.size ∧ w1.heap.size ≤ w2.heap.size ∧ w3.heap.size = w2.heap.size + 1 ∧ w3.heap.size ≤ w4.heap.size ∧ w5.heap.size = w4.heap.size + 1 ∧ w5.heap.size ≤ w6.heap.size ∧ w7.heap.size = w6.heap.size + 1 ∧ w7.heap.size ≤ w8.heap.size ∧ w9.heap.size = w8.heap.size + 1) :=
    ⟨by rw [Hw0.out]; simp, HZ1.out, Hlo2.out, by rw [Hw3.out]; simp, HZ4.out, by rw [Hw5.out]; simp, HZ6.out, by rw [Hw7.out]; simp, HZ8.out, by rw [Hw9.out]; simp⟩
  have HNB : Hid (∀ B, (B < w7.heap.size ∨ w8.heap.size ≤ B) → ¬ Blk a8 B) := fun B hB ⟨ad, e, e2⟩ => by
    have h1 := HP8.out
    rw [e] at h1
    have := h1.lt
    omega
  have HNA : Hid (∀ B, (B < w1.heap.size ∨ w2.heap.size ≤ B) → ¬ Blk a2 B) := fun B hB ⟨ad, e, e2⟩ => by
    have h1 := HO2.out
    rw [e] at h1
    have := h1.lt
    omega
  have z := HZ.out
  clear k0 k1 k2 l0 l1 m0 m1 m2 m3
  have HF10 : Hid (Fr (fun _ => False) w w10) := frJ HF9.out hG fun i hi => by
    have := HNB.out i
    rcases Nat.lt_or_ge i w.heap.size with h | h
    · exact absurd hi (this (by omega))
    · exact h
  have HL10 := hide (Hl0.out.keep0 HF10.out)
  have HP10 := hide hP10
  have HO10 := hide (HO9.out.keep hG fun ad e => by
    have h1 := HO2.out
    rw [e] at h1
    have := h1.lt
    exact HNB.out _ (by omega))
  have Ha10 := hide (cells_at Ha9.out hG (HNB.out _ (by omega)))
  have Hb10 := hide (cells_at Hb9.out hG (HNB.out _ (by omega)))
  have Hcc10 := hide (cells_at Hcc9.out hG (HNB.out _ (by omega)))
  have HQ10 := hide (cells_at HQ9.out hG (HNB.out _ (by omega)))
  have HR10 := hide (cells_at HR9.out hG (HNB.out _ (by omega)))
  have HT10 := hide (cells_at HT9.out hG (HNB.out _ (by omega)))
  have HS10 := hide (cells_at HS9.out hG (HNB.out _ (by omega)))
  have HRS := hide (HD.out.rset w1.heap.size a2 c2 w10 HO10.out)
  clear hG hP10 z
  have l0 := cell_of (o := 0) Hb10.out rfl
  have l1 := cell_of (o := 1) Hb10.out rfl
  have m0 := cell_of (o := 0) Hcc10.out rfl
  have m1 := cell_of (o := 1) Hcc10.out rfl
  have m2 := cell_of (o := 2) Hcc10.out rfl
  have m3 := cell_of (o := 3) Hcc10.out rfl
  have s0 := cell_of (o := 0) HQ10.out rfl
  have s1 := cell_of (o := 1) HQ10.out rfl
  have s2 := cell_of (o := 2) HQ10.out rfl
  go_wp2_with fail
  refine HRS.out.mono ?_
  rintro e w11 ⟨rfl, hG, hO11⟩
  clear l0 l1 m0 m1 m2 m3 s0 s1 s2
  have z := HZ.out
  have HF11 : Hid (Fr (fun _ => False) w w11) := frJ HF10.out hG fun i hi => by
    have := HNA.out i
    rcases Nat.lt_or_ge i w.heap.size with h | h
    · exact absurd hi (this (by omega))
    · exact h
  have HL11 := hide (Hl0.out.keep0 HF11.out)
  have HO11 := hide hO11
  have HP11 := hide (HP10.out.keep hG fun ad e => by
    have h1 := HP8.out
    rw [e] at h1
    have := h1.lt
    exact HNA.out _ (by omega))
  have Ha11 := hide (cells_at Ha10.out hG (HNA.out _ (by omega)))
  have HQ11 := hide (cells_at HQ10.out hG (HNA.out _ (by omega)))
  have HR11 := hide (cells_at HR10.out hG (HNA.out _ (by omega)))
  have HT11 := hide (cells_at HT10.out hG (HNA.out _ (by omega)))
  have HS11 := hide (cells_at HS10.out hG (HNA.out _ (by omega)))
  clear hG hO11 z
  have hE : ∀ W, (Op.equalIn 10000 27 (.agg (pxV r0 r1 r2 r3)) (.agg (pxV r0 r1 r2 r3))).run Try.prog W = .ok true W := fun W => by
    rw [eq_four r0 r1 r2 r3 r0 r1 r2 r3 HD.out.small HD.out.small W, decide_eq_true rfl]
  have HM := hide (fun w => may_c W H a n c w)
  have HM2 := hide (fun w => rmay_c W H a n c w)
  have HSelf := hide (sameB_self W H n)
  obtain ⟨M, hM⟩ : ∃ M, M = mayB W H n := ⟨_, rfl⟩
  rw [← hM] at HM HM2 HSelf
  clear hM
  have hok : (ok != ok) = false := by cases ok <;> rfl
  have hMM : (M != M) = false := by cases M <;> rfl
  go_upto_region 11 with fail
  refine wp_region_held_drew (S := fun w' => Fr (fun _ => False) w11 w') (by kernel_rfl) (by exact Fr.of_drewN _ 1) (fun hHeld => ?_)
  refine wpAnyH_take (i := 0) (v := ?v0) rfl (by kernel_rfl) (by kernel_rfl) (by kernel_rfl) (fun _ _ _ h => h) (Or.inl ⟨by rfl, ?hy0⟩) hHeld ?rest0
  case hy0 => (intro W hSw; (try dsimp only at hSw); have k0 := cell_of (o := 0) (cells_at Ha11.out hSw (fun e => e)) rfl; have k1 := cell_of (o := 1) (cells_at Ha11.out hSw (fun e => e)) rfl; have k2 := cell_of (o := 2) (cells_at Ha11.out hSw (fun e => e)) rfl; have a0 := cell_of (o := 0) (cells_at HR11.out hSw (fun e => e)) rfl; have a1 := cell_of (o := 1) (cells_at HR11.out hSw (fun e => e)) rfl; have a2 := cell_of (o := 2) (cells_at HR11.out hSw (fun e => e)) rfl; have a3 := cell_of (o := 3) (cells_at HR11.out hSw (fun e => e)) rfl; have b0 := cell_of (o := 0) (cells_at HT11.out hSw (fun e => e)) rfl; have b1 := cell_of (o := 1) (cells_at HT11.out hSw (fun e => e)) rfl; have b2 := cell_of (o := 2) (cells_at HT11.out hSw (fun e => e)) rfl; have b3 := cell_of (o := 3) (cells_at HT11.out hSw (fun e => e)) rfl; go_simp; all_goals (with_reducible rfl))
  change wpAnyH _ _ _ _ _ _ _ (Act.put _ (some 58) _) _
  simp only [Act.put, List.setIfInBounds_toArray, List.set_cons_zero, List.set_cons_succ]
  refine wpAnyH_take (i := 1) (v := ?v1) rfl (by kernel_rfl) (by kernel_rfl) (by kernel_rfl) (fun _ _ _ h => h) (Or.inl ⟨by rfl, ?hy1⟩) hHeld ?rest1
  case hy1 => (intro W hSw; (try dsimp only at hSw); have k0 := cell_of (o := 0) (cells_at Ha11.out hSw (fun e => e)) rfl; have k1 := cell_of (o := 1) (cells_at Ha11.out hSw (fun e => e)) rfl; have k2 := cell_of (o := 2) (cells_at Ha11.out hSw (fun e => e)) rfl; have a0 := cell_of (o := 0) (cells_at HR11.out hSw (fun e => e)) rfl; have a1 := cell_of (o := 1) (cells_at HR11.out hSw (fun e => e)) rfl; have a2 := cell_of (o := 2) (cells_at HR11.out hSw (fun e => e)) rfl; have a3 := cell_of (o := 3) (cells_at HR11.out hSw (fun e => e)) rfl; have b0 := cell_of (o := 0) (cells_at HT11.out hSw (fun e => e)) rfl; have b1 := cell_of (o := 1) (cells_at HT11.out hSw (fun e => e)) rfl; have b2 := cell_of (o := 2) (cells_at HT11.out hSw (fun e => e)) rfl; have b3 := cell_of (o := 3) (cells_at HT11.out hSw (fun e => e)) rfl; go_simp; all_goals (with_reducible rfl))
  change wpAnyH _ _ _ _ _ _ _ (Act.put _ (some 59) _) _
  simp only [Act.put, List.setIfInBounds_toArray, List.set_cons_zero, List.set_cons_succ]
  refine wpAnyH_take (i := 2) (v := ?v2) rfl (by kernel_rfl) (by kernel_rfl) (by kernel_rfl) (fun _ _ _ h => h) (Or.inl ⟨by rfl, ?hy2⟩) hHeld ?rest2
  case hy2 => (intro W hSw; (try dsimp only at hSw); have k0 := cell_of (o := 0) (cells_at Ha11.out hSw (fun e => e)) rfl; have k1 := cell_of (o := 1) (cells_at Ha11.out hSw (fun e => e)) rfl; have k2 := cell_of (o := 2) (cells_at Ha11.out hSw (fun e => e)) rfl; have a0 := cell_of (o := 0) (cells_at HR11.out hSw (fun e => e)) rfl; have a1 := cell_of (o := 1) (cells_at HR11.out hSw (fun e => e)) rfl; have a2 := cell_of (o := 2) (cells_at HR11.out hSw (fun e => e)) rfl; have a3 := cell_of (o := 3) (cells_at HR11.out hSw (fun e => e)) rfl; have b0 := cell_of (o := 0) (cells_at HT11.out hSw (fun e => e)) rfl; have b1 := cell_of (o := 1) (cells_at HT11.out hSw (fun e => e)) rfl; have b2 := cell_of (o := 2) (cells_at HT11.out hSw (fun e => e)) rfl; have b3 := cell_of (o := 3) (cells_at HT11.out hSw (fun e => e)) rfl; go_simp; all_goals (with_reducible rfl))
  change wpAnyH _ _ _ _ _ _ _ (Act.put _ (some 60) _) _
  simp only [Act.put, List.setIfInBounds_toArray, List.set_cons_zero, List.set_cons_succ]
  refine wpAnyH_take (i := 3) (v := ?v3) rfl (by kernel_rfl) (by kernel_rfl) (by kernel_rfl) (fun _ _ _ h => h) (Or.inl ⟨by rfl, ?hy3⟩) hHeld ?rest3
  case hy3 => (intro W hSw; (try dsimp only at hSw); have k0 := cell_of (o := 0) (cells_at Ha11.out hSw (fun e => e)) rfl; have k1 := cell_of (o := 1) (cells_at Ha11.out hSw (fun e => e)) rfl; have k2 := cell_of (o := 2) (cells_at Ha11.out hSw (fun e => e)) rfl; have a0 := cell_of (o := 0) (cells_at HR11.out hSw (fun e => e)) rfl; have a1 := cell_of (o := 1) (cells_at HR11.out hSw (fun e => e)) rfl; have a2 := cell_of (o := 2) (cells_at HR11.out hSw (fun e => e)) rfl; have a3 := cell_of (o := 3) (cells_at HR11.out hSw (fun e => e)) rfl; have b0 := cell_of (o := 0) (cells_at HT11.out hSw (fun e => e)) rfl; have b1 := cell_of (o := 1) (cells_at HT11.out hSw (fun e => e)) rfl; have b2 := cell_of (o := 2) (cells_at HT11.out hSw (fun e => e)) rfl; have b3 := cell_of (o := 3) (cells_at HT11.out hSw (fun e => e)) rfl; go_simp; all_goals (with_reducible rfl))
  change wpAnyH _ _ _ _ _ _ _ (Act.put _ (some 61) _) _
  simp only [Act.put, List.setIfInBounds_toArray, List.set_cons_zero, List.set_cons_succ]
  refine wpAnyH_take (i := 4) (v := ?v4) rfl (by kernel_rfl) (by kernel_rfl) (by kernel_rfl) (fun _ _ _ h => h) (Or.inl ⟨by rfl, ?hy4⟩) hHeld ?rest4
  case hy4 => (intro W hSw; (try dsimp only at hSw); have k0 := cell_of (o := 0) (cells_at Ha11.out hSw (fun e => e)) rfl; have k1 := cell_of (o := 1) (cells_at Ha11.out hSw (fun e => e)) rfl; have k2 := cell_of (o := 2) (cells_at Ha11.out hSw (fun e => e)) rfl; have a0 := cell_of (o := 0) (cells_at HR11.out hSw (fun e => e)) rfl; have a1 := cell_of (o := 1) (cells_at HR11.out hSw (fun e => e)) rfl; have a2 := cell_of (o := 2) (cells_at HR11.out hSw (fun e => e)) rfl; have a3 := cell_of (o := 3) (cells_at HR11.out hSw (fun e => e)) rfl; have b0 := cell_of (o := 0) (cells_at HT11.out hSw (fun e => e)) rfl; have b1 := cell_of (o := 1) (cells_at HT11.out hSw (fun e => e)) rfl; have b2 := cell_of (o := 2) (cells_at HT11.out hSw (fun e => e)) rfl; have b3 := cell_of (o := 3) (cells_at HT11.out hSw (fun e => e)) rfl; go_simp; all_goals (with_reducible rfl))
  change wpAnyH _ _ _ _ _ _ _ (Act.put _ (some 62) _) _
  simp only [Act.put, List.setIfInBounds_toArray, List.set_cons_zero, List.set_cons_succ]
  refine wpAnyH_take (i := 5) (v := ?v5) rfl (by kernel_rfl) (by kernel_rfl) (by kernel_rfl) (fun _ _ _ h => h) (Or.inl ⟨by rfl, ?hy5⟩) hHeld ?rest5
  case hy5 => (intro W hSw; (try dsimp only at hSw); have k0 := cell_of (o := 0) (cells_at Ha11.out hSw (fun e => e)) rfl; have k1 := cell_of (o := 1) (cells_at Ha11.out hSw (fun e => e)) rfl; have k2 := cell_of (o := 2) (cells_at Ha11.out hSw (fun e => e)) rfl; have a0 := cell_of (o := 0) (cells_at HR11.out hSw (fun e => e)) rfl; have a1 := cell_of (o := 1) (cells_at HR11.out hSw (fun e => e)) rfl; have a2 := cell_of (o := 2) (cells_at HR11.out hSw (fun e => e)) rfl; have a3 := cell_of (o := 3) (cells_at HR11.out hSw (fun e => e)) rfl; have b0 := cell_of (o := 0) (cells_at HT11.out hSw (fun e => e)) rfl; have b1 := cell_of (o := 1) (cells_at HT11.out hSw (fun e => e)) rfl; have b2 := cell_of (o := 2) (cells_at HT11.out hSw (fun e => e)) rfl; have b3 := cell_of (o := 3) (cells_at HT11.out hSw (fun e => e)) rfl; go_simp; all_goals (with_reducible rfl))
  change wpAnyH _ _ _ _ _ _ _ (Act.put _ (some 63) _) _
  simp only [Act.put, List.setIfInBounds_toArray, List.set_cons_zero, List.set_cons_succ]
  refine wpAnyH_take (i := 6) (v := ?v6) rfl (by kernel_rfl) (by kernel_rfl) (by kernel_rfl) (fun _ _ _ h => h) (Or.inl ⟨by rfl, ?hy6⟩) hHeld ?rest6
  case hy6 => (intro W hSw; (try dsimp only at hSw); have k0 := cell_of (o := 0) (cells_at Ha11.out hSw (fun e => e)) rfl; have k1 := cell_of (o := 1) (cells_at Ha11.out hSw (fun e => e)) rfl; have k2 := cell_of (o := 2) (cells_at Ha11.out hSw (fun e => e)) rfl; have a0 := cell_of (o := 0) (cells_at HR11.out hSw (fun e => e)) rfl; have a1 := cell_of (o := 1) (cells_at HR11.out hSw (fun e => e)) rfl; have a2 := cell_of (o := 2) (cells_at HR11.out hSw (fun e => e)) rfl; have a3 := cell_of (o := 3) (cells_at HR11.out hSw (fun e => e)) rfl; have b0 := cell_of (o := 0) (cells_at HT11.out hSw (fun e => e)) rfl; have b1 := cell_of (o := 1) (cells_at HT11.out hSw (fun e => e)) rfl; have b2 := cell_of (o := 2) (cells_at HT11.out hSw (fun e => e)) rfl; have b3 := cell_of (o := 3) (cells_at HT11.out hSw (fun e => e)) rfl; go_simp; all_goals (with_reducible rfl))
  change wpAnyH _ _ _ _ _ _ _ (Act.put _ (some 64) _) _
  simp only [Act.put, List.setIfInBounds_toArray, List.set_cons_zero, List.set_cons_succ]
  refine wpAnyH_take (i := 7) (v := ?v7) rfl (by kernel_rfl) (by kernel_rfl) (by kernel_rfl) (fun _ _ _ h => h) (Or.inl ⟨by rfl, ?hy7⟩) hHeld ?rest7
  case hy7 => (intro W hSw; (try dsimp only at hSw); have k0 := cell_of (o := 0) (cells_at Ha11.out hSw (fun e => e)) rfl; have k1 := cell_of (o := 1) (cells_at Ha11.out hSw (fun e => e)) rfl; have k2 := cell_of (o := 2) (cells_at Ha11.out hSw (fun e => e)) rfl; have a0 := cell_of (o := 0) (cells_at HR11.out hSw (fun e => e)) rfl; have a1 := cell_of (o := 1) (cells_at HR11.out hSw (fun e => e)) rfl; have a2 := cell_of (o := 2) (cells_at HR11.out hSw (fun e => e)) rfl; have a3 := cell_of (o := 3) (cells_at HR11.out hSw (fun e => e)) rfl; have b0 := cell_of (o := 0) (cells_at HT11.out hSw (fun e => e)) rfl; have b1 := cell_of (o := 1) (cells_at HT11.out hSw (fun e => e)) rfl; have b2 := cell_of (o := 2) (cells_at HT11.out hSw (fun e => e)) rfl; have b3 := cell_of (o := 3) (cells_at HT11.out hSw (fun e => e)) rfl; go_simp; all_goals (with_reducible rfl))
  change wpAnyH _ _ _ _ _ _ _ (Act.put _ (some 65) _) _
  simp only [Act.put, List.setIfInBounds_toArray, List.set_cons_zero, List.set_cons_succ]
  refine wpAnyH_take (i := 8) (v := ?v8) rfl (by kernel_rfl) (by kernel_rfl) (by kernel_rfl) (fun _ _ _ h => h) (Or.inl ⟨by rfl, ?hy8⟩) hHeld ?rest8
  case hy8 => (intro W hSw; (try dsimp only at hSw); have k0 := cell_of (o := 0) (cells_at Ha11.out hSw (fun e => e)) rfl; have k1 := cell_of (o := 1) (cells_at Ha11.out hSw (fun e => e)) rfl; have k2 := cell_of (o := 2) (cells_at Ha11.out hSw (fun e => e)) rfl; have a0 := cell_of (o := 0) (cells_at HR11.out hSw (fun e => e)) rfl; have a1 := cell_of (o := 1) (cells_at HR11.out hSw (fun e => e)) rfl; have a2 := cell_of (o := 2) (cells_at HR11.out hSw (fun e => e)) rfl; have a3 := cell_of (o := 3) (cells_at HR11.out hSw (fun e => e)) rfl; have b0 := cell_of (o := 0) (cells_at HT11.out hSw (fun e => e)) rfl; have b1 := cell_of (o := 1) (cells_at HT11.out hSw (fun e => e)) rfl; have b2 := cell_of (o := 2) (cells_at HT11.out hSw (fun e => e)) rfl; have b3 := cell_of (o := 3) (cells_at HT11.out hSw (fun e => e)) rfl; go_simp; all_goals (with_reducible rfl))
  change wpAnyH _ _ _ _ _ _ _ (Act.put _ (some 66) _) _
  simp only [Act.put, List.setIfInBounds_toArray, List.set_cons_zero, List.set_cons_succ]
  refine wpAnyH_take (i := 9) (v := ?v9) rfl (by kernel_rfl) (by kernel_rfl) (by kernel_rfl) (fun _ _ _ h => h) (Or.inl ⟨by rfl, ?hy9⟩) hHeld ?rest9
  case hy9 => (intro W hSw; (try dsimp only at hSw); have k0 := cell_of (o := 0) (cells_at Ha11.out hSw (fun e => e)) rfl; have k1 := cell_of (o := 1) (cells_at Ha11.out hSw (fun e => e)) rfl; have k2 := cell_of (o := 2) (cells_at Ha11.out hSw (fun e => e)) rfl; have a0 := cell_of (o := 0) (cells_at HR11.out hSw (fun e => e)) rfl; have a1 := cell_of (o := 1) (cells_at HR11.out hSw (fun e => e)) rfl; have a2 := cell_of (o := 2) (cells_at HR11.out hSw (fun e => e)) rfl; have a3 := cell_of (o := 3) (cells_at HR11.out hSw (fun e => e)) rfl; have b0 := cell_of (o := 0) (cells_at HT11.out hSw (fun e => e)) rfl; have b1 := cell_of (o := 1) (cells_at HT11.out hSw (fun e => e)) rfl; have b2 := cell_of (o := 2) (cells_at HT11.out hSw (fun e => e)) rfl; have b3 := cell_of (o := 3) (cells_at HT11.out hSw (fun e => e)) rfl; go_simp; all_goals (with_reducible rfl))
  change wpAnyH _ _ _ _ _ _ _ (Act.put _ (some 67) _) _
  simp only [Act.put, List.setIfInBounds_toArray, List.set_cons_zero, List.set_cons_succ]
  refine wpAnyH_take (i := 10) (v := ?v10) rfl (by kernel_rfl) (by kernel_rfl) (by kernel_rfl) (fun _ _ _ h => h) (Or.inl ⟨by rfl, ?hy10⟩) hHeld ?rest10
  case hy10 => (intro W hSw; (try dsimp only at hSw); have k0 := cell_of (o := 0) (cells_at Ha11.out hSw (fun e => e)) rfl; have k1 := cell_of (o := 1) (cells_at Ha11.out hSw (fun e => e)) rfl; have k2 := cell_of (o := 2) (cells_at Ha11.out hSw (fun e => e)) rfl; have a0 := cell_of (o := 0) (cells_at HR11.out hSw (fun e => e)) rfl; have a1 := cell_of (o := 1) (cells_at HR11.out hSw (fun e => e)) rfl; have a2 := cell_of (o := 2) (cells_at HR11.out hSw (fun e => e)) rfl; have a3 := cell_of (o := 3) (cells_at HR11.out hSw (fun e => e)) rfl; have b0 := cell_of (o := 0) (cells_at HT11.out hSw (fun e => e)) rfl; have b1 := cell_of (o := 1) (cells_at HT11.out hSw (fun e => e)) rfl; have b2 := cell_of (o := 2) (cells_at HT11.out hSw (fun e => e)) rfl; have b3 := cell_of (o := 3) (cells_at HT11.out hSw (fun e => e)) rfl; go_simp; all_goals (with_reducible rfl))
  change wpAnyH _ _ _ _ _ _ _ (Act.put _ (some 68) _) _
  simp only [Act.put, List.setIfInBounds_toArray, List.set_cons_zero, List.set_cons_succ]
  refine wpAnyH_take (i := 11) (v := ?v11) rfl (by kernel_rfl) (by kernel_rfl) (by kernel_rfl) (fun _ _ _ h => h) (Or.inl ⟨by rfl, ?hy11⟩) hHeld ?rest11
  case hy11 => (intro W hSw; (try dsimp only at hSw); have k0 := cell_of (o := 0) (cells_at Ha11.out hSw (fun e => e)) rfl; have k1 := cell_of (o := 1) (cells_at Ha11.out hSw (fun e => e)) rfl; have k2 := cell_of (o := 2) (cells_at Ha11.out hSw (fun e => e)) rfl; have a0 := cell_of (o := 0) (cells_at HR11.out hSw (fun e => e)) rfl; have a1 := cell_of (o := 1) (cells_at HR11.out hSw (fun e => e)) rfl; have a2 := cell_of (o := 2) (cells_at HR11.out hSw (fun e => e)) rfl; have a3 := cell_of (o := 3) (cells_at HR11.out hSw (fun e => e)) rfl; have b0 := cell_of (o := 0) (cells_at HT11.out hSw (fun e => e)) rfl; have b1 := cell_of (o := 1) (cells_at HT11.out hSw (fun e => e)) rfl; have b2 := cell_of (o := 2) (cells_at HT11.out hSw (fun e => e)) rfl; have b3 := cell_of (o := 3) (cells_at HT11.out hSw (fun e => e)) rfl; go_simp; all_goals (with_reducible rfl))
  change wpAnyH _ _ _ _ _ _ _ (Act.put _ (some 69) _) _
  simp only [Act.put, List.setIfInBounds_toArray, List.set_cons_zero, List.set_cons_succ]
  refine wpAnyH_take (i := 12) (v := ?v12) rfl (by kernel_rfl) (by kernel_rfl) (by kernel_rfl) (fun _ _ _ h => h) (Or.inl ⟨by rfl, ?hy12⟩) hHeld ?rest12
  case hy12 => (intro W hSw; (try dsimp only at hSw); have k0 := cell_of (o := 0) (cells_at Ha11.out hSw (fun e => e)) rfl; have k1 := cell_of (o := 1) (cells_at Ha11.out hSw (fun e => e)) rfl; have k2 := cell_of (o := 2) (cells_at Ha11.out hSw (fun e => e)) rfl; have a0 := cell_of (o := 0) (cells_at HR11.out hSw (fun e => e)) rfl; have a1 := cell_of (o := 1) (cells_at HR11.out hSw (fun e => e)) rfl; have a2 := cell_of (o := 2) (cells_at HR11.out hSw (fun e => e)) rfl; have a3 := cell_of (o := 3) (cells_at HR11.out hSw (fun e => e)) rfl; have b0 := cell_of (o := 0) (cells_at HT11.out hSw (fun e => e)) rfl; have b1 := cell_of (o := 1) (cells_at HT11.out hSw (fun e => e)) rfl; have b2 := cell_of (o := 2) (cells_at HT11.out hSw (fun e => e)) rfl; have b3 := cell_of (o := 3) (cells_at HT11.out hSw (fun e => e)) rfl; go_simp; all_goals (with_reducible rfl))
  change wpAnyH _ _ _ _ _ _ _ (Act.put _ (some 70) _) _
  simp only [Act.put, List.setIfInBounds_toArray, List.set_cons_zero, List.set_cons_succ]
  refine wpAnyH_take (i := 13) (v := ?v13) rfl (by kernel_rfl) (by kernel_rfl) (by kernel_rfl) (fun _ _ _ h => h) (Or.inl ⟨by rfl, ?hy13⟩) hHeld ?rest13
  case hy13 => (intro W hSw; (try dsimp only at hSw); have k0 := cell_of (o := 0) (cells_at Ha11.out hSw (fun e => e)) rfl; have k1 := cell_of (o := 1) (cells_at Ha11.out hSw (fun e => e)) rfl; have k2 := cell_of (o := 2) (cells_at Ha11.out hSw (fun e => e)) rfl; have a0 := cell_of (o := 0) (cells_at HR11.out hSw (fun e => e)) rfl; have a1 := cell_of (o := 1) (cells_at HR11.out hSw (fun e => e)) rfl; have a2 := cell_of (o := 2) (cells_at HR11.out hSw (fun e => e)) rfl; have a3 := cell_of (o := 3) (cells_at HR11.out hSw (fun e => e)) rfl; have b0 := cell_of (o := 0) (cells_at HT11.out hSw (fun e => e)) rfl; have b1 := cell_of (o := 1) (cells_at HT11.out hSw (fun e => e)) rfl; have b2 := cell_of (o := 2) (cells_at HT11.out hSw (fun e => e)) rfl; have b3 := cell_of (o := 3) (cells_at HT11.out hSw (fun e => e)) rfl; go_simp; all_goals (with_reducible rfl))
  change wpAnyH _ _ _ _ _ _ _ (Act.put _ (some 71) _) _
  simp only [Act.put, List.setIfInBounds_toArray, List.set_cons_zero, List.set_cons_succ]
  refine wpAnyH_take (i := 14) (v := ?v14) rfl (by kernel_rfl) (by kernel_rfl) (by kernel_rfl) (fun _ _ _ h => h) (Or.inl ⟨by rfl, ?hy14⟩) hHeld ?rest14
  case hy14 => (intro W hSw; (try dsimp only at hSw); have k0 := cell_of (o := 0) (cells_at Ha11.out hSw (fun e => e)) rfl; have k1 := cell_of (o := 1) (cells_at Ha11.out hSw (fun e => e)) rfl; have k2 := cell_of (o := 2) (cells_at Ha11.out hSw (fun e => e)) rfl; have a0 := cell_of (o := 0) (cells_at HR11.out hSw (fun e => e)) rfl; have a1 := cell_of (o := 1) (cells_at HR11.out hSw (fun e => e)) rfl; have a2 := cell_of (o := 2) (cells_at HR11.out hSw (fun e => e)) rfl; have a3 := cell_of (o := 3) (cells_at HR11.out hSw (fun e => e)) rfl; have b0 := cell_of (o := 0) (cells_at HT11.out hSw (fun e => e)) rfl; have b1 := cell_of (o := 1) (cells_at HT11.out hSw (fun e => e)) rfl; have b2 := cell_of (o := 2) (cells_at HT11.out hSw (fun e => e)) rfl; have b3 := cell_of (o := 3) (cells_at HT11.out hSw (fun e => e)) rfl; go_simp; all_goals (with_reducible rfl))
  change wpAnyH _ _ _ _ _ _ _ (Act.put _ (some 72) _) _
  simp only [Act.put, List.setIfInBounds_toArray, List.set_cons_zero, List.set_cons_succ]
  refine wpAnyH_take (i := 16) (v := ?v16) rfl (by kernel_rfl) (by kernel_rfl) (by kernel_rfl) (fun _ _ _ h => h) (Or.inl ⟨by rfl, ?hy16⟩) hHeld ?rest16
  case hy16 => (intro W hSw; (try dsimp only at hSw); have k0 := cell_of (o := 0) (cells_at Ha11.out hSw (fun e => e)) rfl; have k1 := cell_of (o := 1) (cells_at Ha11.out hSw (fun e => e)) rfl; have k2 := cell_of (o := 2) (cells_at Ha11.out hSw (fun e => e)) rfl; have a0 := cell_of (o := 0) (cells_at HR11.out hSw (fun e => e)) rfl; have a1 := cell_of (o := 1) (cells_at HR11.out hSw (fun e => e)) rfl; have a2 := cell_of (o := 2) (cells_at HR11.out hSw (fun e => e)) rfl; have a3 := cell_of (o := 3) (cells_at HR11.out hSw (fun e => e)) rfl; have b0 := cell_of (o := 0) (cells_at HT11.out hSw (fun e => e)) rfl; have b1 := cell_of (o := 1) (cells_at HT11.out hSw (fun e => e)) rfl; have b2 := cell_of (o := 2) (cells_at HT11.out hSw (fun e => e)) rfl; have b3 := cell_of (o := 3) (cells_at HT11.out hSw (fun e => e)) rfl; go_simp; all_goals (with_reducible rfl))
  change wpAnyH _ _ _ _ _ _ _ (Act.put _ (some 74) _) _
  simp only [Act.put, List.setIfInBounds_toArray, List.set_cons_zero, List.set_cons_succ]
  refine wpAnyH_ready (rs := [15]) (by kernel_rfl) (by simp) ?_
  refine AllReadyH.cons rfl (fun K hK => ?_) AllReadyH.nil
  try simp only [List.getElem_toArray, List.getElem_cons_succ, List.getElem_cons_zero]
  go_simp
  refine (HM.out _).mono ?_
  rintro e w12 ⟨rfl, hF12⟩
  refine hK.out _ _ (hHeld.join hF12) (fun hHeld => ?_)
  clear hK K
  refine wpAnyH_ready (rs := [17]) (by kernel_rfl) (by simp) ?_
  refine AllReadyH.cons rfl (fun K hK => ?_) AllReadyH.nil
  try simp only [List.getElem_toArray, List.getElem_cons_succ, List.getElem_cons_zero]
  go_simp
  refine (HM2.out _).mono ?_
  rintro e w13 ⟨rfl, hF13⟩
  refine hK.out _ _ (hHeld.join hF13) (fun hHeld => ?_)
  clear hK K
  refine wpAnyH_take (i := 18) (v := ?v18) rfl (by kernel_rfl) (by kernel_rfl) (by kernel_rfl) (fun _ _ _ h => h) (Or.inl ⟨by rfl, ?hy18⟩) hHeld ?rest18
  case hy18 => (intro W hSw; (try dsimp only at hSw); have k0 := cell_of (o := 0) (cells_at Ha11.out hSw (fun e => e)) rfl; have k1 := cell_of (o := 1) (cells_at Ha11.out hSw (fun e => e)) rfl; have k2 := cell_of (o := 2) (cells_at Ha11.out hSw (fun e => e)) rfl; have a0 := cell_of (o := 0) (cells_at HR11.out hSw (fun e => e)) rfl; have a1 := cell_of (o := 1) (cells_at HR11.out hSw (fun e => e)) rfl; have a2 := cell_of (o := 2) (cells_at HR11.out hSw (fun e => e)) rfl; have a3 := cell_of (o := 3) (cells_at HR11.out hSw (fun e => e)) rfl; have b0 := cell_of (o := 0) (cells_at HT11.out hSw (fun e => e)) rfl; have b1 := cell_of (o := 1) (cells_at HT11.out hSw (fun e => e)) rfl; have b2 := cell_of (o := 2) (cells_at HT11.out hSw (fun e => e)) rfl; have b3 := cell_of (o := 3) (cells_at HT11.out hSw (fun e => e)) rfl; go_simp; all_goals (with_reducible rfl))
  change wpAnyH _ _ _ _ _ _ _ (Act.put _ (some 76) _) _
  simp only [Act.put, List.setIfInBounds_toArray, List.set_cons_zero, List.set_cons_succ]
  refine wpAnyH_take (i := 19) (v := ?v19) rfl (by kernel_rfl) (by kernel_rfl) (by kernel_rfl) (fun _ _ _ h => h) (Or.inl ⟨by rfl, ?hy19⟩) hHeld ?rest19
  case hy19 => (intro W hSw; (try dsimp only at hSw); have k0 := cell_of (o := 0) (cells_at Ha11.out hSw (fun e => e)) rfl; have k1 := cell_of (o := 1) (cells_at Ha11.out hSw (fun e => e)) rfl; have k2 := cell_of (o := 2) (cells_at Ha11.out hSw (fun e => e)) rfl; have a0 := cell_of (o := 0) (cells_at HR11.out hSw (fun e => e)) rfl; have a1 := cell_of (o := 1) (cells_at HR11.out hSw (fun e => e)) rfl; have a2 := cell_of (o := 2) (cells_at HR11.out hSw (fun e => e)) rfl; have a3 := cell_of (o := 3) (cells_at HR11.out hSw (fun e => e)) rfl; have b0 := cell_of (o := 0) (cells_at HT11.out hSw (fun e => e)) rfl; have b1 := cell_of (o := 1) (cells_at HT11.out hSw (fun e => e)) rfl; have b2 := cell_of (o := 2) (cells_at HT11.out hSw (fun e => e)) rfl; have b3 := cell_of (o := 3) (cells_at HT11.out hSw (fun e => e)) rfl; go_simp; all_goals (with_reducible rfl))
  change wpAnyH _ _ _ _ _ _ _ (Act.put _ (some 77) _) _
  simp only [Act.put, List.setIfInBounds_toArray, List.set_cons_zero, List.set_cons_succ]
  refine wpAnyH_take (i := 20) (v := ?v20) rfl (by kernel_rfl) (by kernel_rfl) (by kernel_rfl) (fun _ _ _ h => h) (Or.inl ⟨by rfl, ?hy20⟩) hHeld ?rest20
  case hy20 => (intro W hSw; (try dsimp only at hSw); have k0 := cell_of (o := 0) (cells_at Ha11.out hSw (fun e => e)) rfl; have k1 := cell_of (o := 1) (cells_at Ha11.out hSw (fun e => e)) rfl; have k2 := cell_of (o := 2) (cells_at Ha11.out hSw (fun e => e)) rfl; have a0 := cell_of (o := 0) (cells_at HR11.out hSw (fun e => e)) rfl; have a1 := cell_of (o := 1) (cells_at HR11.out hSw (fun e => e)) rfl; have a2 := cell_of (o := 2) (cells_at HR11.out hSw (fun e => e)) rfl; have a3 := cell_of (o := 3) (cells_at HR11.out hSw (fun e => e)) rfl; have b0 := cell_of (o := 0) (cells_at HT11.out hSw (fun e => e)) rfl; have b1 := cell_of (o := 1) (cells_at HT11.out hSw (fun e => e)) rfl; have b2 := cell_of (o := 2) (cells_at HT11.out hSw (fun e => e)) rfl; have b3 := cell_of (o := 3) (cells_at HT11.out hSw (fun e => e)) rfl; go_simp; all_goals (with_reducible rfl))
  change wpAnyH _ _ _ _ _ _ _ (Act.put _ (some 78) _) _
  simp only [Act.put, List.setIfInBounds_toArray, List.set_cons_zero, List.set_cons_succ]
  refine wpAnyH_take (i := 21) (v := ?v21) rfl (by kernel_rfl) (by kernel_rfl) (by kernel_rfl) (fun _ _ _ h => h) (Or.inl ⟨by rfl, ?hy21⟩) hHeld ?rest21
  case hy21 => (intro W hSw; (try dsimp only at hSw); have k0 := cell_of (o := 0) (cells_at Ha11.out hSw (fun e => e)) rfl; have k1 := cell_of (o := 1) (cells_at Ha11.out hSw (fun e => e)) rfl; have k2 := cell_of (o := 2) (cells_at Ha11.out hSw (fun e => e)) rfl; have a0 := cell_of (o := 0) (cells_at HR11.out hSw (fun e => e)) rfl; have a1 := cell_of (o := 1) (cells_at HR11.out hSw (fun e => e)) rfl; have a2 := cell_of (o := 2) (cells_at HR11.out hSw (fun e => e)) rfl; have a3 := cell_of (o := 3) (cells_at HR11.out hSw (fun e => e)) rfl; have b0 := cell_of (o := 0) (cells_at HT11.out hSw (fun e => e)) rfl; have b1 := cell_of (o := 1) (cells_at HT11.out hSw (fun e => e)) rfl; have b2 := cell_of (o := 2) (cells_at HT11.out hSw (fun e => e)) rfl; have b3 := cell_of (o := 3) (cells_at HT11.out hSw (fun e => e)) rfl; go_simp; all_goals (with_reducible rfl))
  change wpAnyH _ _ _ _ _ _ _ (Act.put _ (some 79) _) _
  simp only [Act.put, List.setIfInBounds_toArray, List.set_cons_zero, List.set_cons_succ]
  refine wpAnyH_take (i := 22) (v := ?v22) rfl (by kernel_rfl) (by kernel_rfl) (by kernel_rfl) (fun _ _ _ h => h) (Or.inl ⟨by rfl, ?hy22⟩) hHeld ?rest22
  case hy22 => (intro W hSw; (try dsimp only at hSw); have k0 := cell_of (o := 0) (cells_at Ha11.out hSw (fun e => e)) rfl; have k1 := cell_of (o := 1) (cells_at Ha11.out hSw (fun e => e)) rfl; have k2 := cell_of (o := 2) (cells_at Ha11.out hSw (fun e => e)) rfl; have a0 := cell_of (o := 0) (cells_at HR11.out hSw (fun e => e)) rfl; have a1 := cell_of (o := 1) (cells_at HR11.out hSw (fun e => e)) rfl; have a2 := cell_of (o := 2) (cells_at HR11.out hSw (fun e => e)) rfl; have a3 := cell_of (o := 3) (cells_at HR11.out hSw (fun e => e)) rfl; have b0 := cell_of (o := 0) (cells_at HT11.out hSw (fun e => e)) rfl; have b1 := cell_of (o := 1) (cells_at HT11.out hSw (fun e => e)) rfl; have b2 := cell_of (o := 2) (cells_at HT11.out hSw (fun e => e)) rfl; have b3 := cell_of (o := 3) (cells_at HT11.out hSw (fun e => e)) rfl; go_simp; all_goals (with_reducible rfl))
  change wpAnyH _ _ _ _ _ _ _ (Act.put _ (some 80) _) _
  simp only [Act.put, List.setIfInBounds_toArray, List.set_cons_zero, List.set_cons_succ]
  refine wpAnyH_take (i := 23) (v := ?v23) rfl (by kernel_rfl) (by kernel_rfl) (by kernel_rfl) (fun _ _ _ h => h) (Or.inl ⟨by rfl, ?hy23⟩) hHeld ?rest23
  case hy23 => (intro W hSw; (try dsimp only at hSw); have k0 := cell_of (o := 0) (cells_at Ha11.out hSw (fun e => e)) rfl; have k1 := cell_of (o := 1) (cells_at Ha11.out hSw (fun e => e)) rfl; have k2 := cell_of (o := 2) (cells_at Ha11.out hSw (fun e => e)) rfl; have a0 := cell_of (o := 0) (cells_at HR11.out hSw (fun e => e)) rfl; have a1 := cell_of (o := 1) (cells_at HR11.out hSw (fun e => e)) rfl; have a2 := cell_of (o := 2) (cells_at HR11.out hSw (fun e => e)) rfl; have a3 := cell_of (o := 3) (cells_at HR11.out hSw (fun e => e)) rfl; have b0 := cell_of (o := 0) (cells_at HT11.out hSw (fun e => e)) rfl; have b1 := cell_of (o := 1) (cells_at HT11.out hSw (fun e => e)) rfl; have b2 := cell_of (o := 2) (cells_at HT11.out hSw (fun e => e)) rfl; have b3 := cell_of (o := 3) (cells_at HT11.out hSw (fun e => e)) rfl; go_simp; all_goals (with_reducible rfl))
  change wpAnyH _ _ _ _ _ _ _ (Act.put _ (some 81) _) _
  simp only [Act.put, List.setIfInBounds_toArray, List.set_cons_zero, List.set_cons_succ]
  refine wpAnyH_take (i := 24) (v := ?v24) rfl (by kernel_rfl) (by kernel_rfl) (by kernel_rfl) (fun _ _ _ h => h) (Or.inl ⟨by rfl, ?hy24⟩) hHeld ?rest24
  case hy24 => (intro W hSw; (try dsimp only at hSw); have k0 := cell_of (o := 0) (cells_at Ha11.out hSw (fun e => e)) rfl; have k1 := cell_of (o := 1) (cells_at Ha11.out hSw (fun e => e)) rfl; have k2 := cell_of (o := 2) (cells_at Ha11.out hSw (fun e => e)) rfl; have a0 := cell_of (o := 0) (cells_at HR11.out hSw (fun e => e)) rfl; have a1 := cell_of (o := 1) (cells_at HR11.out hSw (fun e => e)) rfl; have a2 := cell_of (o := 2) (cells_at HR11.out hSw (fun e => e)) rfl; have a3 := cell_of (o := 3) (cells_at HR11.out hSw (fun e => e)) rfl; have b0 := cell_of (o := 0) (cells_at HT11.out hSw (fun e => e)) rfl; have b1 := cell_of (o := 1) (cells_at HT11.out hSw (fun e => e)) rfl; have b2 := cell_of (o := 2) (cells_at HT11.out hSw (fun e => e)) rfl; have b3 := cell_of (o := 3) (cells_at HT11.out hSw (fun e => e)) rfl; go_simp; all_goals (with_reducible rfl))
  change wpAnyH _ _ _ _ _ _ _ (Act.put _ (some 82) _) _
  simp only [Act.put, List.setIfInBounds_toArray, List.set_cons_zero, List.set_cons_succ]
  refine wpAnyH_done (by kernel_rfl) ?_ _
  have HG := hide hHeld
  have ha13 := cells_at Ha11.out HG.out (fun e => e)
  have k0 := cell_of (o := 0) ha13 rfl
  have k1 := cell_of (o := 1) ha13 rfl
  have k2 := cell_of (o := 2) ha13 rfl
  clear ha13 hHeld hE hok hMM
  go_wp2_with fail
  refine (HM2.out w13).mono ?_
  rintro e w14 ⟨rfl, hF14⟩
  have HG14 := hide (HG.out.join hF14)
  clear hF14 k0 k1 k2
  cases M with
  | false =>
    go_wp2_with fail
    go_ret
    exact ⟨rfl, HF11.out.join HG14.out⟩
  | true =>
  have ha := cells_at Ha11.out HG14.out (fun e => e)
  have hs := cells_at HS11.out HG14.out (fun e => e)
  have k0 := cell_of (o := 0) ha rfl
  have k1 := cell_of (o := 1) ha rfl
  have k2 := cell_of (o := 2) ha rfl
  have l0 := cell_of (o := 0) hs rfl
  have l1 := cell_of (o := 1) hs rfl
  have l2 := cell_of (o := 2) hs rfl
  clear ha hs
  have HL14 := hide (HL11.out.keep0 HG14.out)
  have HP14 := hide (HP11.out.keep HG14.out fun _ _ h => h)
  have HO14 := hide (HO11.out.keep HG14.out fun _ _ h => h)
  have HPl := HD.out.len
  obtain ⟨R, hR⟩ : ∃ R, R = sameB W H n P W H n px := ⟨_, rfl⟩
  have HS1 := hide (same_c W H a8 n c8 P W H a n c px w14 HP14.out.lies HPl HL14.out Hp.out)
  rw [← hR] at HS1
  have HS3 := hide fun w15 (f : Fr (fun _ => False) w14 w15) => rsame_c W H a2 n c2 P W H a n c px w15 (HO14.out.lies.keep0 f) HPl (HL14.out.keep0 f) Hp.out
  rw [← hR] at HS3
  have HS2 := hide fun w15 (f : Fr (fun _ => False) w14 w15) => rsame_c W H a8 n c8 P W H a2 n c2 P w15 (HP14.out.lies.keep0 f) HPl (HO14.out.lies.keep0 f) HPl
  rw [HSelf.out P rfl] at HS2
  have HS4 := hide fun w15 (f : Fr (fun _ => False) w14 w15) => same_c W H a n c px W H a n c px w15 (HL14.out.keep0 f) Hp.out (HL14.out.keep0 f) Hp.out
  rw [HSelf.out px rfl] at HS4
  clear hR
  go_wp2_with fail
  refine HS1.out.mono ?_
  rintro e w15 ⟨rfl, hF15⟩
  have HG15 := hide hF15
  clear hF15 k0 k1 k2 l0 l1 l2
  have HJ := hide (HG14.out.join HG15.out)
  have ha := cells_at Ha11.out HJ.out (fun e => e)
  have hs := cells_at HS11.out HJ.out (fun e => e)
  have hq := cells_at HQ11.out HJ.out (fun e => e)
  have k0 := cell_of (o := 0) ha rfl
  have k1 := cell_of (o := 1) ha rfl
  have k2 := cell_of (o := 2) ha rfl
  have l0 := cell_of (o := 0) hs rfl
  have l1 := cell_of (o := 1) hs rfl
  have l2 := cell_of (o := 2) hs rfl
  have s0 := cell_of (o := 0) hq rfl
  have s1 := cell_of (o := 1) hq rfl
  have s2 := cell_of (o := 2) hq rfl
  clear ha hs hq
  have hRR : (R == R) = true := beq_self_eq_true R
  go_wp2_with fail
  refine (HS2.out w15 HG15.out).mono ?_
  rintro e w16 ⟨rfl, hF16⟩
  have HG16 := hide (HG15.out.join hF16)
  clear hF16 k0 k1 k2 l0 l1 l2 s0 s1 s2
  have HJ16 := hide (HG14.out.join HG16.out)
  have ha := cells_at Ha11.out HJ16.out (fun e => e)
  have hq := cells_at HQ11.out HJ16.out (fun e => e)
  have k0 := cell_of (o := 0) ha rfl
  have k1 := cell_of (o := 1) ha rfl
  have k2 := cell_of (o := 2) ha rfl
  have s0 := cell_of (o := 0) hq rfl
  have s1 := cell_of (o := 1) hq rfl
  have s2 := cell_of (o := 2) hq rfl
  clear ha hq
  go_wp2_with fail
  refine (HS3.out w16 HG16.out).mono ?_
  rintro e w17 ⟨rfl, hF17⟩
  have HG17 := hide (HG16.out.join hF17)
  clear hF17 k0 k1 k2 s0 s1 s2
  have ha := cells_at Ha11.out (HG14.out.join HG17.out) (fun e => e)
  have k0 := cell_of (o := 0) ha rfl
  have k1 := cell_of (o := 1) ha rfl
  have k2 := cell_of (o := 2) ha rfl
  clear ha
  go_wp2_with fail
  refine (HS4.out w17 HG17.out).mono ?_
  rintro e w18 ⟨rfl, hF18⟩
  have HG18 := hide (HG17.out.join hF18)
  clear hF18
  go_wp2_with fail
  go_ret
  exact ⟨by simp, HF11.out.join (HG14.out.join HG18.out)⟩
end Go.Proofs.Ytaeppfbphbkigaa
