/-
  lzw: an End is taken.
-/
import Derived.Test.YtdbgolklgiadeaaXn
namespace Go.Proofs.Ytdbgolklgiadeaa
open Go.RowKit

theorem Rx.num {w : World} {lo M B : Nat} {bs : List Nat} {k most : Nat} {q : Rq} {ra : Option Addr} {rc : Nat} {oa : Option Addr} {oc : Nat} (h : Rx w lo M B bs k most q ra rc oa oc) : Num w M 3 k q.rs.length := ⟨cell_of h.obj rfl, cell_of h.obj rfl, cell_of h.obj rfl, frozen_of h.obj, frozen_of h.obj⟩

set_option maxHeartbeats 1600000 in
set_option maxRecDepth 100000 in
/-- An End. -/
theorem take_end (lo M B : Nat) (bs : List Nat) (k most : Nat) (q : Rq) (ra : Option Addr) (rc : Nat) (oa : Option Addr) (oc : Nat) (w : World) (hk : 2 ≤ k ∧ k ≤ 8) (h : Rx w lo M B bs k most q ra rc oa oc) :
    Calls Try.prog 43 #[.pointer (some ⟨M, 0, none⟩), .int .i64 ((2 ^ k + 1 : Nat) : Int)] w fun e w' => e = .returned (.bool false) ∧ w'.heap[M]? = some (.cells (dcells (.slice oa q.out.length oc) 0).toArray 71 (0, 0)) ∧ OwnB w' (M + 1) (.slice oa q.out.length oc) q.out ∧ Fr (fun j => j = M) w w' := by
  have m3 : w.cell? ⟨M, 3, none⟩ = some (.int .i64 ((2 ^ k : Nat) : Int)) := cell_of (o := 3) h.obj rfl
  have m11 : w.cell? ⟨M, 11, none⟩ = some (.slice oa q.out.length oc) := cell_of (o := 11) h.obj rfl
  have He := hide (end_c M 3 k q.rs.length w hk.2 h.num)
  have H := hide h
  have Hobj := hide h.obj
  clear h
  obtain ⟨P, hP⟩ : ∃ P, P = 2 ^ k := ⟨_, rfl⟩
  obtain ⟨cs, hcs⟩ : ∃ cs, cs = rcells B k most q (.slice ra q.rs.length rc) (.slice oa q.out.length oc) := ⟨_, rfl⟩
  have hsz : cs.size = 14 := by rw [hcs]; rfl
  rw [← hP] at m3 He ⊢
  rw [← hcs] at Hobj
  have Hsz := hide hsz
  have t1 : (((P + 1 : Nat) : Int) == (P : Int)) = false := by rw [beq_eq_false_iff_ne]; omega
  obtain ⟨E, hE⟩ : ∃ E, E = P + 1 := ⟨_, rfl⟩
  rw [← hE] at He t1 ⊢
  have t2 : ((E : Int) == (E : Int)) = true := beq_self_eq_true _
  clear hP hE hcs hsz
  go_enter Try.func43, Try.ntmps43
  go_wp2_with fail
  refine He.out.mono ?_
  rintro e w1 ⟨rfl, rfl⟩
  go_upto_region 6 with fail
  apply wp_region_lit
  refine wpList_plain rfl fun K1 hK1 => ?_
  go_simp
  refine hK1 _ _ ?_
  clear hK1 K1
  refine wpList_plain rfl fun K1 hK1 => ?_
  go_simp
  refine hK1 _ _ ?_
  clear hK1 K1
  refine wpList_plain rfl fun K1 hK1 => ?_
  go_simp
  refine hK1 _ _ ?_
  clear hK1 K1
  refine wpList_plain rfl fun K1 hK1 => ?_
  go_simp
  refine hK1 _ _ ?_
  clear hK1 K1
  refine wpList_plain rfl fun K1 hK1 => ?_
  go_simp
  refine hK1 _ _ ?_
  clear hK1 K1
  refine wpList_plain rfl fun K1 hK1 => ?_
  go_simp
  refine hK1 _ _ ?_
  clear hK1 K1
  refine wpList_plain rfl fun K1 hK1 => ?_
  go_simp
  refine hK1 _ _ ?_
  clear hK1 K1
  refine wpList_plain rfl fun K1 hK1 => wp_store_row 71 (.tmp 27) (.tmp 26) rfl M 71 cs (dcells (.slice oa q.out.length oc) 0).toArray rfl rfl Hobj.out (by kernel_rfl) (by rw [Hsz.out]; rfl) (by simp [Value.oneCell']) ?_
  refine hK1 _ _ (wpList_nil ?_)
  have hfin := setRow_heap w M cs (dcells (.slice oa q.out.length oc) 0).toArray 71 (0, 0) Hobj.out
  have hfr : Fr (fun k => k = M) w (w.setRow M (dcells (.slice oa q.out.length oc) 0).toArray) := ⟨rfl, rfl, rfl, by simp, fun j _ hj => setRow_other _ _ _ _ hj⟩
  generalize w.setRow M (dcells (.slice oa q.out.length oc) 0).toArray = w2 at hfin hfr ⊢
  clear hK1 K1
  have Hfin := hide hfin
  have Hfr := hide hfr
  clear hfin hfr
  go_wp2_with fail
  go_ret
  refine ⟨rfl, Hfin.out, ?_, Hfr.out⟩
  exact ownsRow_fr H.out.own fun j hj => Hfr.out.block j (World.ownsRow.lt H.out.own j hj).2 (fun e => by have := (World.ownsRow.lt H.out.own j hj).1; have e2 : j = M := e; omega)
end Go.Proofs.Ytdbgolklgiadeaa
