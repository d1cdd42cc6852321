/-
  What was written, handed out.
-/
import Derived.Test.YtdbgolklgiadeaaBw
namespace Go.Proofs.Ytdbgolklgiadeaa
open Go.RowKit

theorem lies_own {w : World} {lo : Nat} {v : Value} {bs : List Nat} (h : w.ownsRow lo 5 1 v bs.length (cellsOf bs)) : Lies w v bs := by
  rcases h.2 with ⟨rfl, hn⟩ | ⟨g, cap, cur, rfl, hg, hh, hr, hm, hs, ht⟩
  · exact Or.inl ⟨rfl, List.eq_nil_of_length_eq_zero hn⟩
  · exact Or.inr ⟨⟨g, 0, none⟩, cap, rfl, fun j u hu => h.cells (g := g) rfl j u hu⟩

set_option maxHeartbeats 400000 in
set_option maxRecDepth 100000 in
theorem low_out_c (B : Nat) (ov : Value) (os : List Nat) (w : World) (h : w.cell? ⟨B, 2, none⟩ = some ov) (hl : Lies w ov os) (hlen : os.length ≤ 2147483648) :
    Calls Try.prog 50 #[.pointer (some ⟨B, 0, none⟩)] w fun e w' => ∃ a c, e = .returned (.slice a os.length c) ∧ w'.ownsRow w.heap.size 5 1 (.slice a os.length c) os.length (cellsOf os) ∧ Below w.heap.size w w' := by
  have hsh : ∃ a c, ov = .slice a os.length c := by
    rcases hl with ⟨rfl, rfl⟩ | ⟨ad, c, rfl, _⟩
    · exact ⟨_, _, rfl⟩
    · exact ⟨_, _, rfl⟩
  obtain ⟨a0, c0, rfl⟩ := hsh
  have Hl := hide hl
  clear hl
  go_enter Try.func50, Try.ntmps50
  go_wp2_with (go_at_call 33; refine (clone_c _ os _ Hl.out hlen).mono ?_; rintro e w1 ⟨a, c, rfl, hown, hbel⟩)
  go_ret
  exact ⟨a, c, rfl, hown, hbel⟩

theorem low_out (T : TypeId) (w : World) (lo B : Nat) (g : Option Nat) (os : List Nat) (wr : Nat) (h : Wr T w lo B g os wr) (hlen : os.length ≤ 2147483648) :
    Calls Try.prog 50 #[.pointer (some ⟨B, 0, none⟩)] w fun e w' => ∃ a c, e = .returned (.slice a os.length c) ∧ Lies w' (.slice a os.length c) os ∧ Fr (fun _ => False) w w' ∧ (∀ ad, a = some ad → w.heap.size ≤ ad.block) := by
  obtain ⟨v, pos, ov, h1, h2, h3⟩ := h.eobj
  refine (low_out_c B ov os w (cell_of (o := 2) h1 rfl) (lies_own h2) hlen).mono ?_
  rintro e w' ⟨a, c, rfl, hown, hbel⟩
  exact ⟨a, c, rfl, lies_own hown, (Fr.of_below hbel).mono (fun k hk h => by omega), fun ad e => by subst e; exact (hown.lt ad.block rfl).1⟩
end Go.Proofs.Ytdbgolklgiadeaa
