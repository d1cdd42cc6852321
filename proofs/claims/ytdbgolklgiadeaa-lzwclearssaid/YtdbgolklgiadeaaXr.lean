/-
  lzw: a row's code is taken.
-/
import Derived.Test.YtdbgolklgiadeaaXq
namespace Go.Proofs.Ytdbgolklgiadeaa
open Go.RowKit

/-- What a row's code comes to. -/
structure Rowx (lo M B : Nat) (bs : List Nat) (k most : Nat) (q : Rq) (place : Nat) (oa : Option Addr) (oc : Nat) (rv ov : Value) (w : World) (e : Ending) (w' : World) : Prop where
  ret : e = .returned (.bool false)
  fr : Fr (Rmine M rv ov) w w'
  form : q.rs.length ≤ place → w'.heap[M]? = some (.cells (dcells (.slice none 0 0) 4).toArray 71 (0, 0))
  fits : ∀ f l, q.rs[place]? = some (f, l) → ∃ ra rc, Rx w' lo M B bs k most { q with fr := f, lt := l, lf := q.out.length, ll := l } ra rc oa oc ∧ Grown w rv (.slice ra q.rs.length rc)

set_option maxHeartbeats 3200000 in
set_option maxRecDepth 100000 in
/-- A row's code. -/
theorem take_row (lo M B : Nat) (bs : List Nat) (k most : Nat) (q : Rq) (ra : Option Addr) (rc : Nat) (oa : Option Addr) (oc : Nat) (c : Nat) (w : World) (hk : 2 ≤ k ∧ k ≤ 8) (hc : 2 ^ k + 2 ≤ c) (hc2 : c < 4096) (h : Rx w lo M B bs k most q ra rc oa oc) (hl : ∀ x ∈ (mkq k q).rs, x.2 ≤ 1000000) :
    Calls Try.prog 43 #[.pointer (some ⟨M, 0, none⟩), .int .i64 (c : Int)] w (Rowx lo M B bs k most (mkq k q) (c - (2 ^ k + 2)) oa oc (.slice ra q.rs.length rc) (.slice oa q.out.length oc) w) := by
  have m3 : w.cell? ⟨M, 3, none⟩ = some (.int .i64 ((2 ^ k : Nat) : Int)) := cell_of (o := 3) h.obj rfl
  have He := hide (end_c M 3 k q.rs.length w hk.2 h.num)
  have Hm := hide (h.make_c hk)
  have H := hide h
  have Hl := hide hl
  clear h hl
  obtain ⟨P, hP⟩ : ∃ P, P = 2 ^ k := ⟨_, rfl⟩
  have HP := hide hP
  rw [← hP] at m3 He hc ⊢
  have t1 : ((c : Int) == (P : Int)) = false := by rw [beq_eq_false_iff_ne]; omega
  obtain ⟨E, hE⟩ : ∃ E, E = P + 1 := ⟨_, rfl⟩
  rw [← hE] at He
  have t2 : ((c : Int) == (E : Int)) = false := by rw [beq_eq_false_iff_ne]; omega
  have hci : ¬ (c : Int) < (P : Int) := by omega
  obtain ⟨pl, hpl⟩ : ∃ pl, pl = c - (P + 2) := ⟨_, rfl⟩
  rw [← hpl]
  have hpi : (c : Int) - ((P + 2 : Nat) : Int) = (pl : Int) := by omega
  have Hpl := hide hpl
  clear hP hE hpl
  go_enter Try.func43, Try.ntmps43
  go_wp2_with fail
  refine He.out.mono ?_
  rintro e w1 ⟨rfl, rfl⟩
  clear m3
  go_wp2_with fail
  refine Hm.out.mono ?_
  rintro e w1 ⟨rfl, ra1, rc1, hX, hF1, hG1⟩
  have n3 : w1.cell? ⟨M, 3, none⟩ = some (.int .i64 (P : Int)) := by rw [HP.out]; exact cell_of (o := 3) hX.obj rfl
  have Hfr := hide (firstRow_c M 3 k (mkq k q).rs.length w1 hk.2 hX.num)
  rw [← HP.out] at Hfr
  have Hbg := hide (beginRow_c M (M + 1) _ ra1 rc1 (mkq k q).rs oa (mkq k q).out.length oc pl w1 hX.obj rfl rfl rfl hX.rws (Nat.lt_succ_self M))
  have HX := hide hX
  have HF1 := hide hF1
  have HG1 := hide hG1
  clear hX hF1 hG1
  go_wp2_with fail
  refine Hfr.out.mono ?_
  rintro e w2 ⟨rfl, rfl⟩
  obtain ⟨F, hF⟩ : ∃ F, F = P + 2 := ⟨_, rfl⟩
  rw [← hF] at hpi ⊢
  clear hF n3
  go_wp2_with fail
  refine Hbg.out.mono ?_
  intro e w2 hb
  obtain rfl := hb.ret
  have hFM : Fr (fun j => j = M) w1 w2 := by
    by_cases hx : (mkq k q).rs.length ≤ pl
    · exact (hb.form hx).2
    · obtain ⟨⟨f, l⟩, hfl⟩ : ∃ x, (mkq k q).rs[pl]? = some x := ⟨_, List.getElem?_eq_getElem (by omega)⟩
      exact (hb.fits f l hfl).2
  have hR : Rowx lo M B bs k most (mkq k q) pl oa oc (.slice ra q.rs.length rc) (.slice oa q.out.length oc) w (.returned (.bool false)) w2 := by
    refine ⟨rfl, Rmine.pre HF1.out HG1.out (hFM.mono fun _ _ e => Or.inl e), fun hx => (hb.form hx).1, fun f l hfl => ⟨ra1, rc1, ⟨(hb.fits f l hfl).1, ?_, ?_, ?_, HX.out.next, HX.out.byt, HX.out.len, HX.out.big, Hl.out _ (List.mem_of_getElem? hfl)⟩, HG1.out⟩⟩
    · exact HX.out.rd.keep hFM (fun j _ hj e => by have e2 : j = M := e; omega)
    · exact own_keepR HX.out.rws hFM fun j hj e => by have := (World.ownsRow.lt HX.out.rws j hj).1; have e2 : j = M := e; omega
    · exact own_keepB HX.out.own hFM fun j hj e => by have := (World.ownsRow.lt HX.out.own j hj).1; have e2 : j = M := e; omega
  have HR := hide hR
  clear hb hFM hR
  go_wp2_with fail
  go_ret
  exact HR.out
end Go.Proofs.Ytdbgolklgiadeaa
