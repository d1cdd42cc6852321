/-
  Contracts of copying bytes.
-/
import Derived.Test.YtdbgolklgiadeaaBa
import Derived.Defers
import Derived.Recover
namespace Go.Proofs.Ytdbgolklgiadeaa
open Go.RowKit

theorem Try.info5 : (Try.prog.info? 5).map (fun i => (i.zero, i.size, i.bytes)) = some (some (.int .u8 0), 1, 1) := by kernel_rfl

theorem nilB (w : World) (a : Option Addr) (n c n' c' : Nat) : (binOp .eql 22 (.slice a n c) (.slice none n' c')).run Try.prog w = .ok (.bool a.isNone) w := Lib.run_eql_slice_nil w _ _ a n c n' c' Try.underlying22

/-- The cells of bytes. -/
def cellsOf (bs : List Nat) : List Value := bs.map fun b => .int .u8 ((b : Nat) : Int)

theorem cellsOf_length (bs : List Nat) : (cellsOf bs).length = bs.length := by simp [cellsOf]

theorem cellsOf_one (bs : List Nat) : ∀ u ∈ cellsOf bs, u.oneCell' = true := by
  intro u hu
  simp only [cellsOf, List.mem_map] at hu
  obtain ⟨b, _, rfl⟩ := hu
  rfl

set_option maxHeartbeats 400000 in
set_option maxRecDepth 100000 in
theorem clone_nil (w : World) : Calls Try.prog 33 #[.slice none 0 0] w fun e w' => e = .returned (.slice none 0 0) ∧ w = w' := by
  have q := nilB
  go_enter Try.func33, Try.ntmps33
  go_wp2
  go_ret
  exact ⟨rfl, rfl⟩

set_option maxHeartbeats 400000 in
set_option maxRecDepth 100000 in
theorem clone_some (ad : Addr) (c : Nat) (bs : List Nat) (w : World) (hc : ∀ j u, (cellsOf bs)[j]? = some u → w.cell? (ad.add j) = some u) (hlen : bs.length ≤ 2147483648) :
    Calls Try.prog 33 #[.slice (some ad) bs.length c] w fun e w' => ∃ v, e = .returned v ∧ w'.ownsRow w.heap.size 5 1 v bs.length (cellsOf bs) ∧ Below w.heap.size w w' := by
  obtain ⟨i0, hi, hz0, hz1, hz2⟩ := info_parts Try.info5
  have hnews : ∀ j u, (cellsOf bs)[j]? = some u → (w.alloc (.cells #[] 5)).cell? (ad.add j) = some u := by
    intro j u hu
    have := hc j u hu
    have hb := World.block_lt_of_cell? w _ this
    rw [World.cell?_alloc_lt _ _ _ hb]; exact this
  have hone := cellsOf_one bs
  have hl : (cellsOf bs).length = bs.length * 1 := by simp [cellsOf_length]
  generalize cellsOf bs = news at *
  generalize bs.length = m at *
  have q := nilB
  go_enter Try.func33, Try.ntmps33
  go_wp2_with (at_builtin; refine wpList_append_own _ rfl _ _ 22 rfl w.heap.size 5 i0 (.int .u8 0) 1 1 Try.underlying22 hi hz0 hz1 hz2 rfl (by decide) (.slice (some ⟨w.heap.size, 0, none⟩) 0 0) 0 [] rfl (World.ownsRow_made _ #[] 0 (Nat.le_refl _) (by unfold maxLen; omega) rfl) ad m c news rfl hl hnews hone (by unfold maxLen; omega) (by omega) (by simp) ?_; intro v' w3 hown' hgrow3 hnil3)
  go_ret
  exact ⟨_, rfl, by simpa using hown', Below.grown ((Below.refl _ _).alloc (Nat.le_refl _) _) hgrow3 (by simp) (fun k hk => by simp [Value.ownBlock] at hk; omega)⟩

/-- A slice of bytes that lies in memory. -/
def Lies (w : World) (sv : Value) (bs : List Nat) : Prop :=
  (sv = .slice none 0 0 ∧ bs = []) ∨ ∃ ad c, sv = .slice (some ad) bs.length c ∧ ∀ j u, (cellsOf bs)[j]? = some u → w.cell? (ad.add j) = some u

theorem ownsRow_shape {w : World} {lo : Nat} {e : TypeId} {size : Nat} {v : Value} {n : Nat} {xs : List Value} (h : w.ownsRow lo e size v n xs) : ∃ a c, v = .slice a n c := by
  rcases h.2 with ⟨h, hn⟩ | ⟨g, cap, cur, hv, _⟩
  · exact ⟨none, 0, by rw [h, hn]⟩
  · exact ⟨_, _, hv⟩

theorem clone_c (sv : Value) (bs : List Nat) (w : World) (h : Lies w sv bs) (hlen : bs.length ≤ 2147483648) :
    Calls Try.prog 33 #[sv] w fun e w' => ∃ a c, e = .returned (.slice a bs.length c) ∧ w'.ownsRow w.heap.size 5 1 (.slice a bs.length c) bs.length (cellsOf bs) ∧ Below w.heap.size w w' := by
  rcases h with ⟨rfl, rfl⟩ | ⟨ad, c, rfl, hc⟩
  · exact (clone_nil w).mono fun e w' ⟨he, hw⟩ => ⟨none, 0, he, hw ▸ World.ownsRow_nil _ _ _ _, hw ▸ Below.refl _ _⟩
  · exact (clone_some ad c bs w hc hlen).mono fun e w' ⟨v, he, ho, hb⟩ => by
      obtain ⟨a, c, rfl⟩ := ownsRow_shape ho
      exact ⟨a, c, he, ho, hb⟩
end Go.Proofs.Ytdbgolklgiadeaa
