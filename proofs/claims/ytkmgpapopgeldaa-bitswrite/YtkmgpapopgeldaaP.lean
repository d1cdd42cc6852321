import Derived.Test.YtkmgpapopgeldaaG
import Derived.BigRegion
import Derived.Deep.AppendLies
namespace Go.Proofs.Ytkmgpapopgeldaa
open Go.RowKit

set_option maxHeartbeats 800000 in
set_option maxRecDepth 100000 in
theorem fill_c (B g m L c : Nat) (last v : Int) (w : World) (h0 : w.cell? ⟨B, 2, none⟩ = some (.slice (some ⟨g, 0, none⟩) L c)) (h1 : w.cell? ⟨g, m, none⟩ = some (.int .u8 last)) (hf : w.frozen? ⟨g, m, none⟩ = false)
    (hv0 : 0 ≤ v) (hv1 : v < 256) (hm : (m : Int) ≤ 2147483648) (hL : L = m + 1) :
    Calls Try.prog 51 #[.pointer (some ⟨B, 2, none⟩), .int .i64 v] w fun e w' => e = .returned (.tuple #[]) ∧ w' = (w.setCell ⟨g, m, none⟩ (.int .u8 (bits .or .u8 last v))).drew := by
  have hw1 : IntKind.i64.wrap ((L : Int) - 1) = (m : Int) := by rw [wrap_i64_id _ (by omega) (by omega)]; omega
  have hw2 : IntKind.u8.wrap v = v := by rw [IntKind.wrap_u8']; omega
  have hm0 : (0 : Int) ≤ (m : Int) := by omega
  have hm1 : (m : Int) < (L : Int) := by omega
  clear hL
  go_enter Try.func51, Try.ntmps51
  go_region
  all_goals
    go_end0
    exact ⟨rfl, rfl⟩

theorem ret_tup2 {k1 k2 : IntKind} {a1 b1 a2 b2 : Int} (h1 : a1 = b1) (h2 : a2 = b2) :
    Ending.returned (.tuple #[.int k1 a1, .int k2 a2]) = .returned (.tuple #[.int k1 b1, .int k2 b2]) := by rw [h1, h2]

set_option maxHeartbeats 400000 in
theorem room_in (B wr s : Nat) (m : Int) (w : World) (h3 : w.cell? ⟨B, 3, none⟩ = some (.int .i64 wr)) (hf3 : w.frozen? ⟨B, 3, none⟩ = false)
    (hwr : (wr : Int) ≤ 2147483648) (hne : ¬ (wr : Int) % 8 = 0) (hm0 : 0 < m) (hm1 : m ≤ 24) (hs1 : (s : Int) ≤ m) (hs2 : wr % 8 + s ≤ 8) (hs3 : (s : Int) = m ∨ wr % 8 + s = 8) :
    Calls Try.prog 50 #[.pointer (some ⟨B, 2, none⟩), .int .i64 m] w fun e w' => e = .returned (.tuple #[.int .i64 (wr % 8 : Nat), .int .i64 s]) ∧ w' = w.setCell ⟨B, 3, none⟩ (.int .i64 ((wr + s : Nat) : Int)) := by
  have Hs : Hid (((s : Int) ≤ m ∧ wr % 8 + s ≤ 8) ∧ ((s : Int) = m ∨ wr % 8 + s = 8)) := ⟨⟨hs1, hs2⟩, hs3⟩
  have hq : ((wr : Int) % 8 == 0) = false := by simpa using hne
  clear hs1 hs2 hs3 hne
  go_enter Try.func50, Try.ntmps50
  go_wp2
  all_goals
    go_ret2
    obtain ⟨⟨hs1, hs2⟩, hs3⟩ := Hs.out
    exact ⟨ret_tup2 (by omega) (by omega), by congr 2; omega⟩

set_option maxHeartbeats 800000 in
theorem room_new (T : TypeId) (lo B wr s : Nat) (v ov : Value) (pos : Int) (m : Int) (os : List Nat) (w : World) (h : w.heap[B]? = some (.cells #[v, .int .i64 pos, ov, .int .i64 wr] T (0, 0)))
    (hown : w.ownsRow lo 5 1 ov os.length (cellsOf os)) (hlo : lo ≤ w.heap.size) (hap : ∀ k, ov.ownBlock = some k → k ≠ B)
    (hwr : (wr : Int) ≤ 2147483648) (hos : os.length ≤ 2147483648) (hne : (wr : Int) % 8 = 0) (hm0 : 0 < m) (hm1 : m ≤ 24) (hs1 : (s : Int) ≤ m) (hs2 : s ≤ 8) (hs3 : (s : Int) = m ∨ s = 8) :
    Calls Try.prog 50 #[.pointer (some ⟨B, 2, none⟩), .int .i64 m] w fun e w' => e = .returned (.tuple #[.int .i64 0, .int .i64 s]) ∧
      ∃ g cap w1, w1.ownsRow lo 5 1 (.slice (some ⟨g, 0, none⟩) (os.length + 1) cap) (os.length + 1) (cellsOf os ++ [.int .u8 0]) ∧ Fr (fun k => ov.ownBlock = some k) w w1 ∧ (ov.ownBlock = some g ∨ w.heap.size ≤ g) ∧ g ≠ B ∧
        w' = (w1.setCell ⟨B, 2, none⟩ (.slice (some ⟨g, 0, none⟩) (os.length + 1) cap)).setCell ⟨B, 3, none⟩ (.int .i64 ((wr + s : Nat) : Int)) := by
  obtain ⟨i0, hi, hz0, hz1, hz2⟩ := info_parts Try.info5
  obtain ⟨a0, c0, rfl⟩ := ownsRow_shape hown
  have hB := lt_of h
  have h2 := cell_of (o := 2) h rfl
  have h3 := cell_of (o := 3) h rfl
  have hf2 := frozen_of (o := 2) h
  have hf3 := frozen_of (o := 3) h
  have Hh := hide h
  have Hs : Hid (((s : Int) ≤ m ∧ s ≤ 8) ∧ ((s : Int) = m ∨ s = 8)) := ⟨⟨hs1, hs2⟩, hs3⟩
  have Hap := hide hap
  have hq : ((wr : Int) % 8 == 0) = true := by simpa using hne
  have Hne := hide hne
  clear hs1 hs2 hs3 hne h hap
  go_enter Try.func50, Try.ntmps50
  go_wp2_with (at_builtin; go_must (refine wpList_append_lies _ rfl _ _ 22 rfl lo 5 i0 (.int .u8 0) 1 1 Try.underlying22 hi hz0 hz1 hz2 rfl (by decide) (.slice a0 os.length c0) os.length (cellsOf os) rfl (hown.alloc _) ⟨w.heap.size, 0, none⟩ 1 1 [.int .u8 0] rfl rfl (cell_one_new _ _ _) (fun x hx => by simp at hx; subst hx; rfl) (by decide) (by unfold maxLen; omega) (by omega) (by simp; omega) (w.heap.size + 1) (by simp) ?_); intro g cap w1 hown1 hgrow hat hlt
               have hb1 := (hgrow.block B (by simp; omega) (fun e => Hap.out B e.symm rfl)).trans ((Below.heap_alloc _ _ _ hB).trans Hh.out)
               have q2 := cell_of (o := 2) hb1 rfl
               have q3 := cell_of (o := 3) hb1 rfl
               have z2 := frozen_of (o := 2) hb1
               have z3 := frozen_of (o := 3) hb1
               have Hown1 := hide hown1
               have Hgrow := hide hgrow
               have Hat := hide hat
               clear hown1 hgrow hat hlt hb1)
  all_goals
    go_ret2
    obtain ⟨⟨hs1, hs2⟩, hs3⟩ := Hs.out
    have hne := Hne.out
    refine ⟨ret_tup2 (by omega) (by omega), g, cap, w1, Hown1.out, ?_, ?_, ?_, ?_⟩
    · have f : Fr (fun k => (Value.slice a0 os.length c0).ownBlock = some k) (w.alloc (.cells #[.int .u8 0] 5)) w1 := ⟨Hgrow.out.os, Hgrow.out.tape, Hgrow.out.output, Hgrow.out.size, fun k hk hn => Hgrow.out.block k hk (fun e => hn e.symm)⟩
      exact ((Fr.of_alloc w _).trans f).mono fun k _ h => by
        rcases h with h | h
        · exact h.elim
        · exact h
    · rcases Hat.out with h | h
      · exact Or.inl h
      · exact Or.inr (by omega)
    · rcases Hat.out with h | h
      · exact Hap.out g h
      · omega
    · congr 2
      omega
end Go.Proofs.Ytkmgpapopgeldaa
