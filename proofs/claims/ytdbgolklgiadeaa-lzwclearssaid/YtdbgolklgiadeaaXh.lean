/-
  lzw: a byte of a row; a Clear.
-/
import Derived.Test.YtdbgolklgiadeaaXg
namespace Go.Proofs.Ytdbgolklgiadeaa
open Go.RowKit

theorem Putd.pre {M base : Nat} {cs : Array Value} {ov : Value} {out : List Nat} {b most : Nat} {w w1 : World} {e : Ending} {w' : World} (h : Putd M base cs ov out b most w1 e w') (F : Fr (fun k => k = M) w w1) (hs : w1.heap.size = w.heap.size) : Putd M base cs ov out b most w e w' := by
  refine ⟨fun hf => ?_, fun hf => ?_⟩
  · obtain ⟨h1, h2, h3⟩ := h.full hf
    exact ⟨h1, h2, F.join h3⟩
  · obtain ⟨h1, oa, oc, h2, h3, h4, h5⟩ := h.fits hf
    refine ⟨h1, oa, oc, h2, h3, (F.trans h4).mono fun k _ e => ?_, ?_⟩
    · rcases e with e | e
      · exact Or.inl e
      · exact e
    · rcases h5 with h5 | h5
      · exact Or.inl h5
      · exact Or.inr fun k hk => by have := h5 k hk; omega

set_option maxHeartbeats 1600000 in
set_option maxRecDepth 100000 in
theorem rowByte_c (M base : Nat) (cs : Array Value) (oa : Option Addr) (oc : Nat) (out : List Nat) (most fr lt : Nat) (w : World) (h : w.heap[M]? = some (.cells cs 71 (0, 0))) (hs : cs.size = 14) (h2 : cs[2]? = some (.int .i64 (most : Int))) (h9 : cs[9]? = some (.int .i64 (fr : Int))) (h10 : cs[10]? = some (.int .i64 (lt : Int))) (h11 : cs[11]? = some (.slice oa out.length oc)) (hO : OwnB w base (.slice oa out.length oc) out) (hM : M < base) (hbs : base ≤ w.heap.size) (hl : out.length ≤ 1000000) (hfr : fr < out.length) (hlt : 1 ≤ lt) (hlb : lt ≤ 1000000) (hob : ∀ b ∈ out, b < 256) :
    Calls Try.prog 40 #[.pointer (some ⟨M, 0, none⟩)] w (Putd M base ((cs.setIfInBounds 9 (.int .i64 ((fr + 1 : Nat) : Int))).setIfInBounds 10 (.int .i64 ((lt - 1 : Nat) : Int))) (.slice oa out.length oc) out (out.getD fr 0) most w) := by
  have m9 := cell_of h h9
  have m10 := cell_of h h10
  have m11 := cell_of h h11
  obtain ⟨ad, rfl, hcell⟩ := (Lz.of (lies_own hO) hob).2 fr hfr
  obtain ⟨b, hb⟩ : ∃ b, b = out.getD fr 0 := ⟨_, rfl⟩
  rw [← hb] at hcell ⊢
  obtain ⟨cs1, hcs1⟩ : ∃ cs1, cs1 = (cs.setIfInBounds 9 (.int .i64 ((fr + 1 : Nat) : Int))).setIfInBounds 10 (.int .i64 ((lt - 1 : Nat) : Int)) := ⟨_, rfl⟩
  obtain ⟨w1, hw1⟩ : ∃ w1, w1 = (w.setCell ⟨M, 9, none⟩ (.int .i64 ((fr : Int) + 1))).setCell ⟨M, 10, none⟩ (.int .i64 ((lt : Int) - 1)) := ⟨_, rfl⟩
  have hcs : (cs.setIfInBounds 9 (.int .i64 ((fr : Int) + 1))).setIfInBounds 10 (.int .i64 ((lt : Int) - 1)) = cs1 := by
    rw [hcs1, show ((fr + 1 : Nat) : Int) = (fr : Int) + 1 by omega, show ((lt - 1 : Nat) : Int) = (lt : Int) - 1 by omega]
  have hb1 : w1.heap[M]? = some (.cells cs1 71 (0, 0)) := by rw [hw1, ← hcs]; exact heap_setCell_own _ (heap_setCell_own _ h)
  have hF1 : Fr (fun k => k = M) w w1 := by rw [hw1]; exact (Fr.of_setCell w ⟨M, 9, none⟩ _).join (Fr.of_setCell _ ⟨M, 10, none⟩ _)
  have hsz : w1.heap.size = w.heap.size := by rw [hw1]; simp
  have hO1 : OwnB w1 base (.slice (some ad) out.length oc) out := ownsRow_fr hO fun j hj => hF1.block j (World.ownsRow.lt hO j hj).2 (fun e => by have := (World.ownsRow.lt hO j hj).1; have e2 : j = M := e; omega)
  have k2 : cs1[2]? = some (.int .i64 (most : Int)) := by rw [hcs1]; simpa using h2
  have k11 : cs1[11]? = some (.slice (some ad) out.length oc) := by rw [hcs1]; simpa using h11
  have hs1 : cs1.size = 14 := by rw [hcs1]; simpa using hs
  have Hp : Hid (∀ d, Calls Try.prog 51 #[.pointer (some ⟨M, 0, none⟩), .int .u8 (b : Int)] (w1.drewN d) (Putd M base cs1 (.slice (some ad) out.length oc) out b most (w1.drewN d))) := fun d => put_c M base cs1 (some ad) oc out b most (w1.drewN d) hb1 hs1 k2 k11 hO1 hM (by show base ≤ w1.heap.size; omega) hl
  have f9 := frozen_of (o := 9) h
  have f10 := frozen_of (o := 10) h
  have m10' : (w.setCell ⟨M, 9, none⟩ (.int .i64 ((fr : Int) + 1))).cell? ⟨M, 10, none⟩ = some (.int .i64 (lt : Int)) := by
    rw [World.cell?_setCell_other _ _ _ _ (by simp)]; exact m10
  rw [← hcs1]
  have HF1 := hide hF1
  have Hsz := hide hsz
  have Hw1 := hide hw1
  have hfi : (fr : Int) < (out.length : Int) := by omega
  have hf0 : (0 : Int) ≤ (fr : Int) := by omega
  clear h hs h2 h9 h10 h11 hO hcs1 hw1 hcs hb1 hF1 hsz hO1 k2 k11 hb hs1
  go_enter Try.func40, Try.ntmps40
  go_upto_region 1 with fail
  go_quiet (fail)
  go_wp2_with fail
  have ew : ((w.drewN nq).setCell ⟨M, 9, none⟩ (.int .i64 ((fr : Int) + 1))).setCell ⟨M, 10, none⟩ (.int .i64 ((lt : Int) - 1)) = w1.drewN nq := by rw [Hw1.out]; rfl
  rw [ew]
  clear ew
  refine (Hp.out nq).mono ?_
  intro e w2 h2
  have h3 := h2.pre (HF1.out.join ((Fr.of_drewN w1 nq).mono fun _ _ h => h.elim)) Hsz.out
  by_cases hf : most ≤ out.length
  · obtain ⟨rfl, h4, h5⟩ := h3.full hf
    have H3 := hide h3
    clear h3 h2 h4 h5
    go_wp2_with fail
    go_ret
    exact H3.out
  · obtain ⟨rfl, h4⟩ := h3.fits (by omega)
    have H3 := hide h3
    clear h3 h2 h4
    go_wp2_with fail
    go_ret
    exact H3.out
end Go.Proofs.Ytdbgolklgiadeaa
