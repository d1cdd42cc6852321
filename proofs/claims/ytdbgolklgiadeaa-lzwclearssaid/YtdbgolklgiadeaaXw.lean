/-
  lzw: what a Reader tells; Most.
-/
import Derived.Test.YtdbgolklgiadeaaXv
namespace Go.Proofs.Ytdbgolklgiadeaa
open Go.RowKit

set_option maxRecDepth 100000 in
theorem doneR_c (M : Nat) (b : Bool) (w : World) (h : w.cell? ⟨M, 13, none⟩ = some (.bool b)) : Calls Try.prog 15 #[.pointer (some ⟨M, 0, none⟩)] w fun e w' => e = .returned (.bool b) ∧ w = w' := by
  go_enter Try.func15, Try.ntmps15
  go_wp2
  go_ret
  exact ⟨rfl, rfl⟩

set_option maxRecDepth 100000 in
theorem errR_c (M : Nat) (er : Int) (w : World) (h : w.cell? ⟨M, 12, none⟩ = some (.int .i64 er)) : Calls Try.prog 18 #[.pointer (some ⟨M, 0, none⟩)] w fun e w' => e = .returned (.int .i64 er) ∧ w = w' := by
  go_enter Try.func18, Try.ntmps18
  go_wp2
  go_ret
  exact ⟨rfl, rfl⟩

set_option maxRecDepth 100000 in
theorem outR_no (M : Nat) (w : World) (h : w.cell? ⟨M, 13, none⟩ = some (.bool false)) : Calls Try.prog 17 #[.pointer (some ⟨M, 0, none⟩)] w fun e w' => e = .returned (.slice none 0 0) ∧ w = w' := by
  have Hd := hide (doneR_c M false w h)
  clear h
  go_enter Try.func17, Try.ntmps17
  go_wp2_with fail
  refine Hd.out.mono ?_
  rintro e w1 ⟨rfl, rfl⟩
  go_wp2
  go_ret
  exact ⟨rfl, rfl⟩

set_option maxRecDepth 100000 in
theorem outR_c (M : Nat) (oa : Option Addr) (oc : Nat) (out : List Nat) (w : World) (h : w.cell? ⟨M, 13, none⟩ = some (.bool true)) (h11 : w.cell? ⟨M, 11, none⟩ = some (.slice oa out.length oc)) (hl : Lies w (.slice oa out.length oc) out) (hlen : out.length ≤ 2147483648) : Calls Try.prog 17 #[.pointer (some ⟨M, 0, none⟩)] w fun e w' => ∃ a c, e = .returned (.slice a out.length c) ∧ OwnB w' w.heap.size (.slice a out.length c) out ∧ Fr (fun _ => False) w w' := by
  have Hd := hide (doneR_c M true w h)
  have Hc := hide (clone_c (.slice oa out.length oc) out w hl hlen)
  clear h hl
  go_enter Try.func17, Try.ntmps17
  go_wp2_with fail
  refine Hd.out.mono ?_
  rintro e w1 ⟨rfl, rfl⟩
  go_wp2_with fail
  refine Hc.out.mono ?_
  rintro e w1 ⟨a, c, rfl, ho, hb⟩
  have HO := hide ho
  have HF := hide ((Fr.of_below hb).mono (S' := fun _ => False) fun j hj e => by omega)
  clear ho hb
  go_wp2_with fail
  go_ret
  exact ⟨a, c, rfl, HO.out, HF.out⟩

set_option maxRecDepth 100000 in
theorem mostL_c (n : Nat) (w : World) (hn : n ≤ 1000000000) : Calls Try.prog 20 #[.int .i64 (n : Int)] w fun e w' => e = .returned (.int .i64 ((2 * n + n / 4 + 16 : Nat) : Int)) ∧ w = w' := by
  have hmx : (if (n : Int) < 0 then (0 : Int) else (n : Int)) = (n : Int) := by rw [if_neg (by omega)]
  have hmx2 : (if (0 : Int) < (n : Int) then (n : Int) else 0) = (n : Int) := by split <;> omega
  have hdv : Int.tdiv (n : Int) 4 = ((n / 4 : Nat) : Int) := by rw [Int.tdiv_eq_ediv_of_nonneg (by omega)]; omega
  go_enter Try.func20, Try.ntmps20
  go_wp2
  go_ret
  exact ⟨ret_int (by omega), rfl⟩
end Go.Proofs.Ytdbgolklgiadeaa
