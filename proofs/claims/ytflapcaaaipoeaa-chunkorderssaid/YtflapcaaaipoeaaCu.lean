/-
  chunk: few, same.
-/
import Derived.Test.YtflapcaaaipoeaaCt
namespace Go.Proofs.Ytflapcaaaipoeaa
open Go.RowKit Go.Lib
set_option linter.unusedVariables false

def fewN (l : List Ck) : Nat := (l.map fun c => c.2.length + c.1.size).sum
/-- Are they short? -/
def fewB (l : List Ck) : Bool := decide (l.length ≤ 100) && decide (fewN l ≤ 9000)
theorem few_snoc (l : List Ck) (k : Nat) (h : k < l.length) : fewN (l.take (k + 1)) = fewN (l.take k) + ((l.getD k default).2.length + (l.getD k default).1.size) := by
  unfold fewN
  rw [take_snocC l k h, List.map_append, List.sum_append]
  simp

set_option maxHeartbeats 800000 in
theorem few_c (a : Option Addr) (c : Nat) (l : List Ck) (w : World) (hl : LiesC w a l) (hlen : l.length ≤ 281474976710656) :
    Calls Try.prog 12 #[.slice a l.length c] w fun e w' => e = .returned (.bool (fewB l)) ∧ Fr (fun _ => False) w w' := by
  have Hl := hide hl
  clear hl
  by_cases h100 : l.length ≤ 100
  · have HB : Hid (fewB l = decide (fewN l ≤ 9000)) := by show _ = _; unfold fewB; rw [decide_eq_true h100, Bool.true_and]
    go_enter Try.func12, Try.ntmps12
    go_wp2
    go_loopw [3, 4] (fun nv iv wr => ∃ (k z : Nat), k ≤ l.length ∧ iv = .int .i64 k ∧ nv = .int .i64 z ∧ z ≤ k * 600000000000000 ∧ Fr (fun _ => False) w wr ∧ Hid (fewN (l.take k) = z)) (fun _ iv _ => l.length - (intOf iv).toNat)
    case atStart => exact ⟨0, 0, by omega, rfl, rfl, by omega, Fr.refl _ _, rfl⟩
    case round =>
      obtain ⟨k, z, hkl, rfl, rfl, hz, hf, HN⟩ := hrel
      by_cases hlt : k < l.length
      · obtain ⟨b, o, d, cap, rfl, hck⟩ := Hl.out k hlt
        have h0 : (0 : Int) ≤ (k : Int) := by omega
        have h1 : (k : Int) < (l.length : Int) := by omega
        have hc1 := cell_fr hf hck.kind (fun h => h)
        have hc2 := cell_fr hf hck.data (fun h => h)
        have hs1 := hck.size
        have hs2 := hck.len
        have HSN := hide (few_snoc l k hlt)
        have HF := hide hf
        clear hck hf
        generalize l.getD k default = q at *
        obtain ⟨kd, ds⟩ := q
        simp only [] at hc1 hc2 hs1 hs2
        obtain ⟨n, hn⟩ : ∃ n, ds.length = n := ⟨_, rfl⟩
        obtain ⟨m, hm⟩ : ∃ m, kd.size = m := ⟨_, rfl⟩
        have hzb : z ≤ 60000000000000000 := by omega
        have HZ1 : Hid (z + n + m ≤ (k + 1) * 600000000000000) := by show _ ≤ _; omega
        have HN1 : Hid (fewN (l.take (k + 1)) = z + n + m) := by show _ = _; rw [HSN.out, HN.out]; show z + (ds.length + kd.size) = _; omega
        have i1 := i64w ((z : Int) + (n : Int)) (by omega) (by omega)
        have i2 := i64w ((z : Int) + (n : Int) + (m : Int)) (by omega) (by omega)
        rw [hn] at hc2
        have Hm := hide hm
        clear HSN HN hn hs1 hs2 hz
        go_upto_region 5 with fail
        go_quiet (fail)
        go_wp2
        go_roundw
        case rel => exact ⟨k + 1, z + n + m, hlt, by go_num, by go_num, HZ1.out, HF.out.join (Fr.of_drewN _ _), HN1⟩
        case measure => simp [intOf]; omega
      · have hke : k = l.length := by omega
        subst hke
        rw [List.take_length] at HN
        have HF := hide hf
        have d1 : decide ((l.length : Int) ≤ 100) = true := by simp; omega
        clear hf
        by_cases h9 : z ≤ 9000
        · have d2 : decide ((z : Int) ≤ 9000) = true := by simp; omega
          have HR : Hid (fewB l = true) := by show _ = _; rw [HB.out, HN.out]; exact decide_eq_true h9
          clear h9
          go_wp2
          go_ret
          exact ⟨by rw [HR.out]; rfl, HF.out⟩
        · have d2 : decide ((z : Int) ≤ 9000) = false := by simp; omega
          have HR : Hid (fewB l = false) := by show _ = _; rw [HB.out, HN.out]; exact decide_eq_false h9
          clear h9
          go_wp2
          go_ret
          exact ⟨by rw [HR.out]; rfl, HF.out⟩
  · have HB : Hid (fewB l = false) := by show _ = _; unfold fewB; rw [decide_eq_false h100, Bool.false_and]
    go_enter Try.func12, Try.ntmps12
    go_wp2
    go_loopw [3, 4] (fun nv iv wr => ∃ (k : Nat) (z : Int), k ≤ l.length ∧ iv = .int .i64 k ∧ nv = .int .i64 z ∧ Fr (fun _ => False) w wr) (fun _ iv _ => l.length - (intOf iv).toNat)
    case atStart => exact ⟨0, 0, by omega, rfl, rfl, Fr.refl _ _⟩
    case round =>
      obtain ⟨k, z, hkl, rfl, rfl, hf⟩ := hrel
      by_cases hlt : k < l.length
      · obtain ⟨b, o, d, cap, rfl, hck⟩ := Hl.out k hlt
        have h0 : (0 : Int) ≤ (k : Int) := by omega
        have h1 : (k : Int) < (l.length : Int) := by omega
        have hc1 := cell_fr hf hck.kind (fun h => h)
        have hc2 := cell_fr hf hck.data (fun h => h)
        have HF := hide hf
        clear hck hf
        generalize l.getD k default = q at *
        obtain ⟨kd, ds⟩ := q
        simp only [] at hc1 hc2
        go_upto_region 5 with fail
        go_quiet (fail)
        go_wp2
        go_roundw
        case rel => exact ⟨k + 1, _, hlt, by go_num, rfl, HF.out.join (Fr.of_drewN _ _)⟩
        case measure => simp [intOf]; omega
      · have HF := hide hf
        have d1 : decide ((l.length : Int) ≤ 100) = false := by simp; omega
        clear hf
        go_wp2
        go_ret
        exact ⟨by rw [HB.out]; rfl, HF.out⟩

set_option maxHeartbeats 800000 in
/-- Two rows of the same chunks are the same. -/
theorem same_c (a b : Option Addr) (c c' : Nat) (l : List Ck) (w : World) (hl : LiesC w a l) (hl2 : LiesC w b l) (hlen : l.length ≤ 281474976710656) :
    Calls Try.prog 10 #[.slice a l.length c, .slice b l.length c'] w fun e w' => e = .returned (.bool true) ∧ Fr (fun _ => False) w w' := by
  have Hl := hide hl
  have Hl2 := hide hl2
  clear hl hl2
  go_enter Try.func10, Try.ntmps10
  go_wp2
  go_loopw [5] (fun iv wr => ∃ (k : Nat), k ≤ l.length ∧ iv = .int .i64 k ∧ Fr (fun _ => False) w wr) (fun iv _ => l.length - (intOf iv).toNat)
  case atStart => exact ⟨0, by omega, rfl, Fr.refl _ _⟩
  case round =>
    obtain ⟨k, hkl, rfl, hf⟩ := hrel
    by_cases hlt : k < l.length
    · obtain ⟨b1, o1, d1, cap1, rfl, hck⟩ := Hl.out k hlt
      obtain ⟨b2, o2, d2, cap2, rfl, hck2⟩ := Hl2.out k hlt
      have h0 : (0 : Int) ≤ (k : Int) := by omega
      have h1 : (k : Int) < (l.length : Int) := by omega
      have hc1 := cell_fr hf hck.kind (fun h => h)
      have hc2 := cell_fr hf hck.data (fun h => h)
      have hc3 := cell_fr hf hck2.kind (fun h => h)
      have hc4 := cell_fr hf hck2.data (fun h => h)
      have hcv1 := fun j => conv_str cap1 (hck.lies.keep (hf.join (Fr.of_drewN wr j)) (fun _ _ h => h))
      have hcv2 := fun j => conv_str cap2 (hck2.lies.keep (hf.join (Fr.of_drewN wr j)) (fun _ _ h => h))
      have HF := hide hf
      clear hck hck2 hf
      generalize l.getD k default = q at *
      obtain ⟨kd, ds⟩ := q
      simp only [] at hc1 hc2 hc3 hc4 hcv1 hcv2
      generalize strOf ds = sd at *
      generalize ds.length = n at *
      have b1' : (kd.toList == kd.toList) = true := by simp
      have b2' : (sd.toList == sd.toList) = true := by simp
      go_upto_region 6 with fail
      go_quiet (fail)
      go_wp2
      go_roundw
      case rel => exact ⟨k + 1, hlt, by go_num, HF.out.join (Fr.of_drewN _ _)⟩
      case measure => simp [intOf]; omega
    · have HF := hide hf
      clear hf
      go_wp2
      go_ret
      exact ⟨rfl, HF.out⟩
end Go.Proofs.Ytflapcaaaipoeaa
