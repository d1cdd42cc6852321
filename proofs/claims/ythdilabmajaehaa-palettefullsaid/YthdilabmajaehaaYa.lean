/-
  palette: slices.Chunk of the samples, by fours.
-/
import Derived.RangeFuncNested
import Derived.RangeFuncBound
import Derived.RangeFuncCalls
import Derived.RangeFuncLeaves
import Derived.RangeFuncBox
import Derived.RangeFuncWrites
import Derived.Shelf.Abstract
import Derived.Shelf.RegionOpen
import Derived.OwnWalkIn
import Derived.TacticsInMore
import Derived.LoopNIn
import Derived.LoopIn
import Derived.Test.YthdilabmajaehaaXd
namespace Go.Proofs.Ythdilabmajaehaa
open Go.RowKit

attribute [local go_sem] Oper.semAt_some

/-- The first k numbers below m. -/
def upto (m k : Nat) : List (Fin m) := (List.finRange m).take k
theorem upto_succ {m k : Nat} (h : k < m) : upto m (k + 1) = upto m k ++ [⟨k, h⟩] := by
  unfold upto
  rw [List.take_succ_eq_append_getElem (by simpa using h)]
  simp
theorem upto_length {m k : Nat} (h : k ≤ m) : (upto m k).length = k := by
  unfold upto
  simp [h]
theorem upto_all (m : Nat) : upto m m = List.finRange m := by
  unfold upto
  exact List.take_of_length_le (by simp)

/-- What a round keeps for Chunk: its two boxes. -/
def KeepC (Bs Bn : Nat) (W W' : World) : Prop := W'.heap[Bs]? = W.heap[Bs]? ∧ W'.heap[Bn]? = W.heap[Bn]?
theorem KeepC.trans {Bs Bn : Nat} {A B C : World} (h : KeepC Bs Bn A B) (k : KeepC Bs Bn B C) : KeepC Bs Bn A C := ⟨k.1.trans h.1, k.2.trans h.2⟩

theorem chunk_c (a : Option Addr) (n c : Nat) (w : World) : Calls Try.prog 50 #[.slice a n c, .int .i64 4] w fun e w' => e = .returned (.func (.func 57) #[] #[.pointer (some ⟨w.heap.size, 0, none⟩), .pointer (some ⟨w.heap.size + 1, 0, none⟩)]) ∧ w' = (w.alloc (.cells #[.slice a n c] 22)).alloc (.cells #[.int .i64 4] 3) := by
  go_enter Try.func50, Try.ntmps50
  go_wp2_with fail
  go_ret
  exact ⟨rfl, rfl⟩

set_option maxRecDepth 100000 in
set_option maxHeartbeats 1000000 in
theorem chunk1_in (N : Nat) (hN : 1 ≤ N) (l Bs Bn g o n c m : Nat) (hnm : n = 4 * m) (hc : n ≤ c) (hm : m ≤ 16384) (J Jx : List (Fin m) → World → Prop)
    (hY : ∀ pre x W, J pre W → pre.length < m → YieldAt Fence.wide (N - 1) Try.prog l #[.slice (some ⟨g, o + 4 * x.1, none⟩) 4 4] W fun e W' =>
      (e = .returned (.bool true) ∧ J (pre ++ [x]) W' ∧ KeepC Bs Bn W W') ∨ (e = .returned (.bool false) ∧ Jx (pre ++ [x]) W'))
    (hD : ∀ pre W, J pre W → J pre W.drew)
    (W : World) (hBs : W.cell? ⟨Bs, 0, none⟩ = some (.slice (some ⟨g, o, none⟩) n c)) (hBn : W.cell? ⟨Bn, 0, none⟩ = some (.int .i64 4)) (h0 : J [] W) :
    CallsIn Fence.wide N Try.prog 57 #[.func (.yield l) #[] #[], .pointer (some ⟨Bs, 0, none⟩), .pointer (some ⟨Bn, 0, none⟩)] W fun e W' => (∃ v, e = .returned v) ∧
      ((∃ ys, ys = List.finRange m ∧ J ys W') ∨ (∃ pre, True ∧ Jx pre W')) := by
  have Hnm := hide hnm
  have hn5 : n ≤ 65536 := by omega
  clear hnm
  have H0 : Hid (J (upto m 0) W) := by show J _ _; simpa [upto] using h0
  clear h0
  refine callsIn_of_wp Try.func57 rfl trivial ?_ rfl
  simp only [Try.ntmps57, List.size_toArray, List.length_cons, List.length_nil, Nat.reduceAdd, Nat.reduceSub, Array.replicate_succ, Array.replicate_zero, List.push_toArray, List.append_toArray, List.nil_append, List.cons_append]
  gi_wp2
  gi_loopw [4, 5] (fun v4 _ wr => ∃ k q : Nat, k ≤ m ∧ Hid (q = 4 * k) ∧ v4 = .int .i64 (q : Int) ∧ Hid (J (upto m k) wr) ∧ Hid (KeepC Bs Bn W wr))
    (fun v4 _ _ => n - (intOf v4).toNat)
  case atStart => exact ⟨0, 0, Nat.zero_le _, rfl, rfl, H0.out, ⟨rfl, rfl⟩⟩
  case round =>
    obtain ⟨k, q, hk, HQ, rfl, HJ, HB⟩ := hrel
    have cs := (cell_blk (a := ⟨Bs, 0, none⟩) HB.out.1).trans hBs
    have cn := (cell_blk (a := ⟨Bn, 0, none⟩) HB.out.2).trans hBn
    by_cases hlt : k < m
    · have hK4 : q + 4 ≤ n := by have := HQ.out; have := Hnm.out; omega
      have hki : (q : Int) < (n : Int) := by omega
      have hKi : (q : Int) ≤ (n : Int) := by omega
      have hck : ¬ c = q := by omega
      have hlen : (4 : Int) ≤ ((n - q : Nat) : Int) := by omega
      have hmin : min 4 ((n - q : Nat) : Int) = 4 := by omega
      have r3 : IntKind.i64.wrap (q : Int) = (q : Int) := wrap_i64_id _ (by omega) (by omega)
      gi_wp2
      refine wpIn_wide.2 ?_
      refine wp_region_held_drew (S := fun W' => Fr (fun _ => False) wr W') (by kernel_rfl) (by exact Fr.drew1 _ wr) (fun hHeld => ?_)
      refine wpAnyH_take (i := 0) (v := ?v0) rfl (by kernel_rfl) (by kernel_rfl) (by kernel_rfl) (fun _ _ _ h => h) (Or.inl ⟨by rfl, ?hy0⟩) hHeld ?rest0
      case hy0 => (intro W hSw; (try dsimp only at hSw); have cs := hSw.cell0 cs; have cn := hSw.cell0 cn; have he := add_none g o q; go_simp; all_goals (with_reducible rfl))
      change wpAnyH _ _ _ _ _ _ _ (Act.put _ (some 13) _) _
      simp only [Act.put, List.setIfInBounds_toArray, List.set_cons_zero, List.set_cons_succ]
      refine wpAnyH_take (i := 1) (v := ?v1) rfl (by kernel_rfl) (by kernel_rfl) (by kernel_rfl) (fun _ _ _ h => h) (Or.inl ⟨by rfl, ?hy1⟩) hHeld ?rest1
      case hy1 => (intro W hSw; (try dsimp only at hSw); have cs := hSw.cell0 cs; have cn := hSw.cell0 cn; have he := add_none g o q; go_simp; all_goals (with_reducible rfl))
      change wpAnyH _ _ _ _ _ _ _ (Act.put _ (some 14) _) _
      simp only [Act.put, List.setIfInBounds_toArray, List.set_cons_zero, List.set_cons_succ]
      refine wpAnyH_take (i := 2) (v := ?v2) rfl (by kernel_rfl) (by kernel_rfl) (by kernel_rfl) (fun _ _ _ h => h) (Or.inl ⟨by rfl, ?hy2⟩) hHeld ?rest2
      case hy2 => (intro W hSw; (try dsimp only at hSw); have cs := hSw.cell0 cs; have cn := hSw.cell0 cn; have he := add_none g o q; go_simp; all_goals (with_reducible rfl))
      change wpAnyH _ _ _ _ _ _ _ (Act.put _ (some 15) _) _
      simp only [Act.put, List.setIfInBounds_toArray, List.set_cons_zero, List.set_cons_succ]
      refine wpAnyH_take (i := 3) (v := ?v3) rfl (by kernel_rfl) (by kernel_rfl) (by kernel_rfl) (fun _ _ _ h => h) (Or.inl ⟨by rfl, ?hy3⟩) hHeld ?rest3
      case hy3 => (intro W hSw; (try dsimp only at hSw); have cs := hSw.cell0 cs; have cn := hSw.cell0 cn; have he := add_none g o q; go_simp; all_goals (with_reducible rfl))
      change wpAnyH _ _ _ _ _ _ _ (Act.put _ (some 16) _) _
      simp only [Act.put, List.setIfInBounds_toArray, List.set_cons_zero, List.set_cons_succ]
      refine wpAnyH_take (i := 4) (v := ?v4) rfl (by kernel_rfl) (by kernel_rfl) (by kernel_rfl) (fun _ _ _ h => h) (Or.inl ⟨by rfl, ?hy4⟩) hHeld ?rest4
      case hy4 => (intro W hSw; (try dsimp only at hSw); have cs := hSw.cell0 cs; have cn := hSw.cell0 cn; have he := add_none g o q; go_simp; all_goals (with_reducible rfl))
      change wpAnyH _ _ _ _ _ _ _ (Act.put _ (some 17) _) _
      simp only [Act.put, List.setIfInBounds_toArray, List.set_cons_zero, List.set_cons_succ]
      refine wpAnyH_ready (rs := [5]) (by kernel_rfl) (by simp) ?_
      refine AllReadyH.cons rfl (fun K hK => ?_) AllReadyH.nil
      try simp only [List.getElem_toArray, List.getElem_cons_succ, List.getElem_cons_zero]
      go_simp
      refine hK.out _ _ hHeld (fun hHeld => ?_)
      clear hK K
      refine wpAnyH_take (i := 6) (v := ?v6) rfl (by kernel_rfl) (by kernel_rfl) (by kernel_rfl) (fun _ _ _ h => h) (Or.inl ⟨by rfl, ?hy6⟩) hHeld ?rest6
      case hy6 => (intro W hSw; (try dsimp only at hSw); have cs := hSw.cell0 cs; have cn := hSw.cell0 cn; have he := add_none g o q; go_simp; all_goals (with_reducible rfl))
      change wpAnyH _ _ _ _ _ _ _ (Act.put _ (some 5) _) _
      simp only [Act.put, List.setIfInBounds_toArray, List.set_cons_zero, List.set_cons_succ]
      refine wpAnyH_done (by kernel_rfl) ?_ _
      have hJ2 := hD _ _ HJ.out
      have HB2 := hide (HB.out.trans (show KeepC Bs Bn wr wr.drew from ⟨rfl, rfl⟩))
      obtain ⟨fn, tmps, assign, body, hy, hR⟩ := hY (upto m k) ⟨k, hlt⟩ wr.drew hJ2 (by rw [upto_length (by omega)]; exact hlt)
      dsimp only at hy
      rw [← HQ.out] at hy
      have cs2 : wr.drew.cell? ⟨Bs, 0, none⟩ = some (.slice (some ⟨g, o, none⟩) n c) := cs
      have cn2 : wr.drew.cell? ⟨Bn, 0, none⟩ = some (.int .i64 4) := cn
      have hq4i : (q : Int) + 4 ≤ (c : Int) := by omega
      have hsub : q + 4 - q = 4 := by omega
      obtain ⟨q4, hq4⟩ : ∃ q4, q4 = q + 4 := ⟨_, rfl⟩
      have i4 : (q : Int) + 4 = (q4 : Int) := by omega
      have l4 : q4 - q = 4 := by omega
      have l5 : q ≤ q4 := by omega
      have l6 : q4 ≤ c := by omega
      have Hq4 := hide hq4
      clear hHeld cs cn hJ2 hmin hlen hKi hq4 hsub hq4i hK4
      gi_wp2
      refine hR.mono ?_
      rintro e W3 (⟨rfl, hJ3, hk3⟩ | ⟨rfl, hJx3⟩)
      · have cn3 := (cell_blk (a := ⟨Bn, 0, none⟩) hk3.2).trans cn2
        clear hy hR cs2 cn2
        gi_wp2
        go_roundw
        case rel => exact ⟨k + 1, q4, by omega, by show q4 = 4 * (k + 1); have := HQ.out; have := Hq4.out; omega, rfl, by rw [upto_succ hlt]; exact hJ3, HB2.out.trans hk3⟩
        case measure => have := Hq4.out; simp [intOf]; omega
      · clear hy hR
        gi_wp2
        refine bodyPost_ret (results_none rfl _ _ _) rfl ?_
        exact ⟨⟨_, rfl⟩, .inr ⟨_, trivial, hJx3⟩⟩
    · have hki : ¬ (q : Int) < (n : Int) := by have := HQ.out; have := Hnm.out; omega
      obtain rfl : k = m := by omega
      gi_wp2
      go_end0
      exact ⟨⟨_, rfl⟩, .inl (by rw [← upto_all]; exact HJ.out)⟩

/-- slices.Chunk of n samples by fours: all chunks, in order. -/
theorem chunk_stops (N : Nat) (hN : 1 ≤ N) (Bs Bn g o n c m : Nat) (hnm : n = 4 * m) (hc : n ≤ c) (hm : m ≤ 16384) (w : World) (hs0 : Bs < w.heap.size) (hn0 : Bn < w.heap.size)
    (hBs : w.cell? ⟨Bs, 0, none⟩ = some (.slice (some ⟨g, o, none⟩) n c)) (hBn : w.cell? ⟨Bn, 0, none⟩ = some (.int .i64 4)) :
    SeqStopsK Fence.wide N Try.prog 57 #[.pointer (some ⟨Bs, 0, none⟩), .pointer (some ⟨Bn, 0, none⟩)] (fun x : Fin m => #[Value.slice (some ⟨g, o + 4 * x.1, none⟩) 4 4]) (KeepC Bs Bn) (fun ys => ys = List.finRange m) (fun _ => True) m w := fun l J Jx W hW hJ _ hY h0 =>
  chunk1_in N hN l Bs Bn g o n c m hnm hc hm J Jx hY (fun pre W1 h => hJ pre W1 W1.drew none h ⟨rfl, rfl, rfl, Nat.le_refl _, fun _ _ _ => rfl⟩ (fun r e => by cases e)) W ((hW.cell (p := ⟨Bs, 0, none⟩) hs0).trans hBs) ((hW.cell (p := ⟨Bn, 0, none⟩) hn0).trans hBn) h0
end Go.Proofs.Ythdilabmajaehaa
