/-
  lzw: a Reader is made.
-/
import Derived.Test.YtdbgolklgiadeaaXu
namespace Go.Proofs.Ytdbgolklgiadeaa
open Go.RowKit

set_option maxRecDepth 100000 in
theorem sizeMay_ok (k : Nat) (hk : 2 ≤ k ∧ k ≤ 8) (w : World) : Calls Try.prog 29 #[.int .i64 (k : Int)] w fun e w' => e = .returned (.bool true) ∧ w = w' := by
  have h1 : (2 : Int) ≤ (k : Int) := by omega
  have h2 : (k : Int) ≤ 8 := by omega
  go_enter Try.func29, Try.ntmps29
  go_wp2
  go_ret
  exact ⟨by simp, rfl⟩

theorem Rd.wide {T : TypeId} {w : World} {lo hi hi' B : Nat} {bs : List Nat} {pos : Nat} {ov : Value} {wr : Int} (h : Rd T w lo hi B bs pos ov wr) (h1 : hi ≤ hi') (h2 : hi' ≤ w.heap.size) : Rd T w lo hi' B bs pos ov wr := by
  obtain ⟨v, e1, e2, e3⟩ := h.eobj
  exact ⟨h.elo, Nat.lt_of_lt_of_le h.ehi h1, h2, h.epos, h.ebytes, h.elen, v, e1, e2, fun k hk => ⟨(e3 k hk).1, Nat.lt_of_lt_of_le (e3 k hk).2 h1⟩⟩

/-- At the beginning. -/
abbrev rq0 : Rq := ⟨0, [], 0, 0, 0, 0, []⟩

set_option maxHeartbeats 1600000 in
set_option maxRecDepth 100000 in
theorem newReader_ok (sv : Value) (bs : List Nat) (k most : Nat) (w : World) (h : Lies w sv bs) (hlt : ∀ b ∈ bs, b < 256) (hlen : bs.length ≤ 2147483648) (hk : 2 ≤ k ∧ k ≤ 8) (hm : most ≤ 1000000) :
    Calls Try.prog 14 #[sv, .int .i64 (k : Int), .int .i64 (most : Int)] w fun e w' => ∃ M B, e = .returned (.pointer (some ⟨M, 0, none⟩)) ∧ Rx w' w.heap.size M B bs k most rq0 none 0 none 0 ∧ Fr (fun _ => False) w w' := by
  have Hn := hide (newLow_c sv bs w h hlt hlen)
  have Hs := hide (sizeMay_ok k hk w)
  have hm0 : ¬ (most : Int) < 0 := by omega
  obtain ⟨sa, sn, sc, rfl⟩ : ∃ a n c, sv = .slice a n c := by
    rcases h with ⟨rfl, _⟩ | ⟨ad, c, rfl, _⟩
    · exact ⟨_, _, _, rfl⟩
    · exact ⟨_, _, _, rfl⟩
  clear h hlt
  go_enter Try.func14, Try.ntmps14
  go_wp2_with fail
  refine Hs.out.mono ?_
  rintro e w1 ⟨rfl, rfl⟩
  go_wp2_with fail
  refine Hn.out.mono ?_
  rintro e w1 ⟨B, rfl, hR, hF1⟩
  have Hnn := hide (newNumbers_c k hk w1)
  unfold numC at Hnn
  have HR := hide hR
  have HF1 := hide hF1
  clear hR hF1
  obtain ⟨X, hX⟩ : ∃ X, X = 2 ^ k := ⟨_, rfl⟩
  obtain ⟨Y, hY⟩ : ∃ Y, Y = nextN k 0 := ⟨_, rfl⟩
  obtain ⟨Z, hZ⟩ : ∃ Z, Z = wid k 0 := ⟨_, rfl⟩
  rw [← hX, ← hY, ← hZ] at Hnn
  have HXYZ := hide (And.intro hX (And.intro hY hZ))
  clear hX hY hZ
  go_wp2_with fail
  refine Hnn.out.mono ?_
  rintro e w2 ⟨rfl, hF2⟩
  have HF2 := hide hF2
  clear hF2
  go_wp2_with fail
  obtain ⟨hX, hY, hZ⟩ := HXYZ.out
  subst hX hY hZ
  go_ret
  have F3 := Fr.of_alloc w2 (.cells (rcells B k most rq0 (.slice none 0 0) (.slice none 0 0)) 71)
  have hR2 := HR.out.keep HF2.out (fun _ _ _ h => h)
  have hR3 := (hR2.keep F3 (fun _ _ _ h => h)).wide (hi' := w2.heap.size) HF2.out.size (by simp)
  refine ⟨w2.heap.size, B, rfl, ⟨alloc_here w2 _, hR3, World.ownsRow_nil _ _ _ _, World.ownsRow_nil _ _ _ _, ?_, (fun b hb => by cases hb), Nat.zero_le _, hm, Nat.zero_le _⟩, (HF1.out.join HF2.out).join F3⟩
  have := pow_le k hk.2
  show nextN k 0 ≤ 4096
  unfold nextN
  omega
end Go.Proofs.Ytdbgolklgiadeaa
