/-
  lzw: a row is begun.
-/
import Derived.Test.YtdbgolklgiadeaaXk
namespace Go.Proofs.Ytdbgolklgiadeaa
open Go.RowKit

/-- What beginRow comes to. -/
structure Begun (M : Nat) (cs : Array Value) (rs : List (Nat × Nat)) (n place : Nat) (w : World) (e : Ending) (w' : World) : Prop where
  ret : e = .returned (.bool false)
  form : rs.length ≤ place → w'.heap[M]? = some (.cells (dcells (.slice none 0 0) 4).toArray 71 (0, 0)) ∧ Fr (fun j => j = M) w w'
  fits : ∀ f l, rs[place]? = some (f, l) → w'.heap[M]? = some (.cells ((((cs.setIfInBounds 9 (.int .i64 (f : Int))).setIfInBounds 10 (.int .i64 (l : Int))).setIfInBounds 7 (.int .i64 (n : Int))).setIfInBounds 8 (.int .i64 (l : Int))) 71 (0, 0)) ∧ Fr (fun j => j = M) w w'

set_option maxHeartbeats 3200000 in
set_option maxRecDepth 100000 in
theorem beginRow_c (M base : Nat) (cs : Array Value) (ra : Option Addr) (rc : Nat) (rs : List (Nat × Nat)) (oa : Option Addr) (n oc : Nat) (place : Nat) (w : World) (h : w.heap[M]? = some (.cells cs 71 (0, 0))) (hs : cs.size = 14) (h6 : cs[6]? = some (.slice ra rs.length rc)) (h11 : cs[11]? = some (.slice oa n oc)) (hO : OwnR w base (.slice ra rs.length rc) rs) (hM : M < base) :
    Calls Try.prog 55 #[.pointer (some ⟨M, 0, none⟩), .int .i64 (place : Int)] w (Begun M cs rs n place w) := by
  have m6 := cell_of h h6
  by_cases hf : rs.length ≤ place
  · have hfi : (rs.length : Int) ≤ (place : Int) := by omega
    have Hf := hide (fail_c M cs 4 w h hs)
    clear h h6 h11 hO
    go_enter Try.func55, Try.ntmps55
    go_wp2_with fail
    refine Hf.out.mono ?_
    rintro e w1 ⟨rfl, h1, h2⟩
    have H1 := hide h1
    have H2 := hide h2
    clear h1 h2
    go_wp2_with fail
    go_ret
    exact ⟨rfl, fun _ => ⟨H1.out, H2.out⟩, fun f l e => by
      have := (List.getElem?_eq_some_iff.1 e).1
      omega⟩
  · have hfi : ¬ (rs.length : Int) ≤ (place : Int) := by omega
    have hpi : (place : Int) < (rs.length : Int) := by omega
    have hp0 : (0 : Int) ≤ (place : Int) := by omega
    have hpn : place < rs.length := by omega
    obtain ⟨⟨f, l⟩, hfl⟩ : ∃ x, rs[place]? = some x := ⟨_, List.getElem?_eq_getElem hpn⟩
    obtain ⟨c1, c2⟩ := cellsR_at rs place (f, l) hfl
    obtain ⟨g, rfl, hg, r1, r2⟩ : ∃ g, ra = some ⟨g, 0, none⟩ ∧ g ≠ M ∧ w.cell? ⟨g, place * 2, none⟩ = some (.int .i64 (f : Int)) ∧ w.cell? ⟨g, place * 2 + 1, none⟩ = some (.int .i64 (l : Int)) := by
      rcases hO.2 with ⟨_, e⟩ | ⟨g, cap, cur, hv, hg, hh, hr, hm, hsz, ht⟩
      · omega
      · obtain ⟨e1, _, _⟩ := Value.slice.inj hv
        refine ⟨g, e1, by omega, ?_, ?_⟩
        · refine cell_of hh ?_
          rw [← ht, List.getElem?_take] at c1
          split at c1
          · simpa using c1
          · cases c1
        · refine cell_of hh ?_
          rw [← ht, List.getElem?_take] at c2
          split at c2
          · simpa using c2
          · cases c2
    have hcs : ∀ i, i < 14 → ∃ v, cs[i]? = some v := fun i hi => ⟨_, Array.getElem?_eq_getElem (by rw [hs]; exact hi)⟩
    obtain ⟨v7, e7⟩ := hcs 7 (by omega)
    obtain ⟨v8, e8⟩ := hcs 8 (by omega)
    obtain ⟨v9, e9⟩ := hcs 9 (by omega)
    obtain ⟨v10, e10⟩ := hcs 10 (by omega)
    have m7 := cell_of h e7
    have m8 := cell_of h e8
    have m9 := cell_of h e9
    have m10 := cell_of h e10
    have m11 := cell_of h h11
    have f7 := frozen_of (o := 7) h
    have f8 := frozen_of (o := 8) h
    have f9 := frozen_of (o := 9) h
    have f10 := frozen_of (o := 10) h
    have H := hide h
    have Hs := hide hs
    have E7 := hide e7
    have E8 := hide e8
    have E11 := hide h11
    have Hfl := hide hfl
    clear h h6 h11 hO c1 c2 hcs e7 e8 e9 e10 hfl hf hs
    go_enter Try.func55, Try.ntmps55
    go_upto_region 3 with fail
    go_region
    obtain ⟨w1, hw1⟩ : ∃ w1, w1 = ((w.setCell ⟨M, 9, none⟩ (.int .i64 (f : Int))).setCell ⟨M, 10, none⟩ (.int .i64 (l : Int))).drew := ⟨_, rfl⟩
    rw [← hw1]
    obtain ⟨cs1, hcs1⟩ : ∃ cs1, cs1 = (cs.setIfInBounds 9 (.int .i64 (f : Int))).setIfInBounds 10 (.int .i64 (l : Int)) := ⟨_, rfl⟩
    have hb1 : w1.heap[M]? = some (.cells cs1 71 (0, 0)) := by rw [hw1, hcs1]; exact heap_setCell_own _ (heap_setCell_own _ H.out)
    have hF1 : Fr (fun j => j = M) w w1 := by rw [hw1]; exact ((Fr.of_setCell w ⟨M, 9, none⟩ _).join (Fr.of_setCell _ ⟨M, 10, none⟩ _)).join ((Fr.of_drewN _ 1).mono fun _ _ h => h.elim)
    have E7 : cs1[7]? = some v7 := by rw [hcs1]; simpa using E7.out
    have E8 : cs1[8]? = some v8 := by rw [hcs1]; simpa using E8.out
    have E10 : cs1[10]? = some (.int .i64 (l : Int)) := by
      rw [hcs1, Array.getElem?_setIfInBounds_self_of_lt]
      simp [Hs.out]
    have E11 : cs1[11]? = some (.slice oa n oc) := by rw [hcs1]; simpa using E11.out
    have q7 := cell_of hb1 E7
    have q8 := cell_of hb1 E8
    have q10 := cell_of hb1 E10
    have q11 := cell_of hb1 E11
    have g7 := frozen_of (o := 7) hb1
    have g8 := frozen_of (o := 8) hb1
    have Hb1 := hide hb1
    have HF1 := hide hF1
    have Hcs1 := hide hcs1
    clear hw1 hb1 hF1 hcs1 E7 E8 E10 E11 m6 m7 m8 m9 m10 m11 f7 f8 f9 f10 r1 r2
    go_upto_region 4 with fail
    go_region
    go_wp2_with fail
    go_ret
    refine ⟨rfl, fun hx => by omega, fun f' l' e => ?_⟩
    have e2 := e.symm.trans Hfl.out
    cases e2
    refine ⟨?_, ((HF1.out.join (Fr.of_setCell w1 ⟨M, 7, none⟩ _)).join (Fr.of_setCell _ ⟨M, 8, none⟩ _)).join ((Fr.of_drewN _ 1).mono fun _ _ h => h.elim)⟩
    rw [← Hcs1.out]
    exact heap_setCell_own _ (heap_setCell_own _ Hb1.out)
end Go.Proofs.Ytdbgolklgiadeaa
