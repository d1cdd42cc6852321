import Derived.Test.YtflapcaaaipoeaaB
import Derived.Deep.RegionHeld3
namespace Go.Proofs.Ytflapcaaaipoeaa
open Go.RowKit

theorem zero40 (w : World) : (zeroValue 67).run Try.prog w = .ok (.agg (Array.replicate 256 (.int .u32 0))) w := by kernel_rfl

theorem heap_setCell_own {w : World} {b o : Nat} {cs : Array Value} {T : TypeId} {fz : Nat × Nat} (v : Value) (h : w.heap[b]? = some (.cells cs T fz)) : (w.setCell ⟨b, o, none⟩ v).heap[b]? = some (.cells (cs.setIfInBounds o v) T fz) := by
  show (w.heap.modify b _)[b]? = _
  simp [Array.getElem?_modify, h]
theorem cell_of {w : World} {b o : Nat} {cs : Array Value} {T : TypeId} {v : Value} (h : w.heap[b]? = some (.cells cs T (0, 0))) (hv : cs[o]? = some v) : w.cell? ⟨b, o, none⟩ = some v := by
  simp [World.cell?, h, hv]
theorem frozen_of {w : World} {b o : Nat} {cs : Array Value} {T : TypeId} (h : w.heap[b]? = some (.cells cs T (0, 0))) : w.frozen? ⟨b, o, none⟩ = false := by
  simp [World.frozen?, h]

/-- A table in the making: its first k places are laid. -/
def Made (w : World) (T k : Nat) : Prop := ∃ cs : Array Value, w.heap[T]? = some (.cells cs 67 (0, 0)) ∧ cs.size = 256 ∧ ∀ i, i < k → cs[i]? = some (.int .u32 ((steps 8 (BitVec.ofNat 32 i)).toNat : Int))

theorem Made.tab {w : World} {T : Nat} (h : Made w T 256) : IsTab w T := by
  obtain ⟨cs, h1, _, h3⟩ := h
  exact fun i hi => cell_of h1 (h3 i hi)

theorem divided_k (k : Nat) (hk : k < 256) (w : World) :
    Calls Try.prog 36 #[.int .u32 (k : Int)] w fun e w' => e = .returned (.int .u32 ((steps 8 (BitVec.ofNat 32 k)).toNat : Int)) ∧ w = w' := by
  have := divided_c (BitVec.ofNat 32 k) w
  rw [BitVec.toNat_ofNat, Nat.mod_eq_of_lt (by omega)] at this
  exact this

theorem Made.next {w w' : World} {T k : Nat} {n : Nat} (h : Made w T k) (hk : k < 256) (e : w' = (w.setCell ⟨T, k, none⟩ (.int .u32 ((steps 8 (BitVec.ofNat 32 k)).toNat : Int))).drewN n) : Made w' T (k + 1) := by
  obtain ⟨cs, h1, h2, h3⟩ := h
  subst e
  refine ⟨_, heap_setCell_own _ h1, by simpa using h2, fun i hi => ?_⟩
  rw [Array.getElem?_setIfInBounds]
  by_cases e : k = i
  · subst e; simp [h2, hk]
  · rw [if_neg e]; exact h3 i (by omega)

set_option maxHeartbeats 1600000 in
theorem new_c (w : World) :
    Calls Try.prog 21 #[] w fun e w' => ∃ T, e = .returned (.pointer (some ⟨T, 0, none⟩)) ∧ IsTab w' T ∧ Fr (fun _ => False) w w' := by
  have hz := zero40
  have H0 : Hid (∀ o : Obj, (w.alloc o).heap[w.heap.size]? = some o) := heap_alloc_new w
  have hsz : (Array.replicate 256 (Value.int .u32 0)).size = 256 := by simp
  generalize Array.replicate 256 (Value.int .u32 0) = zs at hz hsz
  have HS := hide hsz
  clear hsz
  go_enter Try.func21, Try.ntmps21
  go_wp2
  go_loopw [5] (fun i wr => ∃ k : Nat, k ≤ 256 ∧ i = .int .i64 k ∧ Made wr w.heap.size k ∧ Fr (fun _ => False) w wr) (fun i _ => 256 - (intOf i).toNat)
  case atStart => exact ⟨0, by omega, rfl, ⟨zs, H0.out _, HS.out, by simp⟩, Fr.of_alloc w _⟩
  case round =>
    obtain ⟨k, hk, rfl, hM, hF⟩ := hrel
    clear hz HS H0
    by_cases hlt : k < 256
    · obtain ⟨v, hv, hfz⟩ : ∃ v, wr.cell? ⟨w.heap.size, k, none⟩ = some v ∧ wr.frozen? ⟨w.heap.size, k, none⟩ = false := by
        obtain ⟨cs, h1, h2, h3⟩ := hM
        exact ⟨_, cell_of h1 (Array.getElem?_eq_getElem (show k < cs.size by omega)), frozen_of h1⟩
      have HM := hide hM
      have HF := hide hF
      clear hM hF
      have h0 : (0 : Int) ≤ (k : Int) := by omega
      have h1 : (k : Int) < 256 := by omega
      go_wp2
      have hwr : IntKind.u32.wrap (k : Int) = (k : Int) := wrap_u32_nat k (by omega)
      go_region_held3 (fun _ => True) (trivial) ((go_at_call 36; refine (divided_k k hlt _).mono ?_; rintro e w' ⟨rfl, rfl⟩))
      go_wp2
      go_roundw
      case rel =>
        refine ⟨k + 1, by omega, by go_num, HM.out.next (n := 1) hlt rfl, ?_⟩
        exact ((HF.out.trans (Fr.of_setCell wr ⟨w.heap.size, k, none⟩ (.int .u32 ((steps 8 (BitVec.ofNat 32 k)).toNat : Int)))).trans (Fr.of_drewN _ 1)).mono fun i hi h => by
          rcases h with (h | h) | h
          · exact h
          · exact absurd h (Nat.ne_of_lt hi)
          · exact h
      case measure => simp [intOf]; omega
    · have e : k = 256 := by omega
      subst e
      have HM := hide hM
      have HF := hide hF
      clear hM hF
      go_wp2
      go_ret
      exact ⟨_, rfl, HM.out.tab, HF.out⟩
end Go.Proofs.Ytflapcaaaipoeaa
