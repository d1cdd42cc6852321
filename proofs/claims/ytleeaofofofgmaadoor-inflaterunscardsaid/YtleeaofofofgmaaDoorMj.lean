/-
  The contract of reading the code of code lengths.
-/
import Derived.Test.YtleeaofofofgmaaDoorMh
namespace Go.Proofs.YtleeaofofofgmaaDoor
open Go.RowKit

/-- The order in which lengths are told, as the program's variable holds it. -/
def Gl (w : World) : Prop := ∀ i, i < 19 → w.cell? ⟨0, i, none⟩ = some (.int .i64 ((order.getD i 0 : Nat) : Int))

theorem Gl.keep {w w' : World} (h : Gl w) {S : Nat → Prop} (hF : Fr S w w') (hS : ¬ S 0) : Gl w' := fun i hi => by
  rw [cell_blk (hF.block 0 (cell_lt (h i hi)) hS)]
  exact h i hi

theorem order_lt (i : Nat) : order.getD i 0 < 19 := by
  rcases Nat.lt_or_ge i 19 with h | h
  · have : ∀ i : Fin 19, order.getD i.1 0 < 19 := by decide
    exact this ⟨i, h⟩
  · rw [List.getD_eq_getElem?_getD, List.getElem?_eq_none (by exact h)]
    decide

theorem fine_zero : fine zero19 := fun i hi => by
  have e : at0 zero19 i = 0 := by
    unfold at0 zero19
    rw [List.getD_eq_getElem?_getD, List.getElem?_replicate]
    split <;> rfl
  omega

theorem fine_set {cl : List Int} {j x : Nat} (h : fine cl) (hx : x ≤ 15) : fine (cl.set j (x : Int)) := fun i hi => by
  have hi' : i < cl.length := by simpa using hi
  have h1 := h i hi'
  unfold at0 at h1 ⊢
  rw [List.getD_eq_getElem?_getD, List.getElem?_set]
  split
  · split
    · simp; omega
    · simp
  · rw [← List.getD_eq_getElem?_getD]; exact h1

/-- What the reading of the told lengths holds at a round. -/
structure Tl (w wr : World) (lo R M B G : Nat) (bs : List Nat) (X : Except Nat (List Int × Nat)) (N i : Nat) (cl : List Int) (q : Nat) : Prop where
  mi : Mi wr lo R M B bs q
  fr : Fr (fun k => k = B) w wr
  obj : wr.heap[G]? = some (.cells (cellsZ cl).toArray 111 (0, 0))
  len : cl.length = 19
  eq : X = told (N - i) i cl (leNum bs) (8 * bs.length) q
  good : fine cl

set_option maxHeartbeats 3200000 in
set_option maxRecDepth 100000 in
theorem codeOf_c (w : World) (lo R M B : Nat) (bs : List Nat) (p : Nat) (h : Mi w lo R M B bs p) (hg : Gl w) (hlo : 0 < lo) (N : Nat) (hN : N ≤ 19) (Q : Ending → World → Prop)
    (hok : ∀ cl q w' C clo, told N 0 zero19 (leNum bs) (8 * bs.length) p = .ok (cl, q) → cl.length = 19 → codeOk cl → w.heap.size ≤ clo → Cd w' clo w'.heap.size C cl → Rm w' lo R B bs q → Fr (fun k => k = B) w w' → Q (.returned (.pointer (some ⟨C, 0, none⟩))) w')
    (hbad : ∀ cl q w', told N 0 zero19 (leNum bs) (8 * bs.length) p = .ok (cl, q) → ¬ codeOk cl → Fr (fun k => k = B) w w' → Q (errPanic 4) w')
    (hno : ∀ (er : Nat) w', told N 0 zero19 (leNum bs) (8 * bs.length) p = .error er → Fr (fun k => k = B) w w' → Q (errPanic er) w') :
    Calls Tryd.prog 65 #[.pointer (some ⟨M, 0, none⟩), .int .i64 N] w Q := by
  obtain ⟨X, hX⟩ : ∃ X, X = told N 0 zero19 (leNum bs) (8 * bs.length) p := ⟨_, rfl⟩
  rw [← hX] at hok hno hbad
  have hBw : B < w.heap.size := by have := h.rd.ehi; have := h.rd.esz; omega
  have hB0 : 0 < B := by have := h.rd.elo; omega
  have HG := hide hg
  have H := hide h
  have Hok := hide hok
  have Hno := hide hno
  have Hbad := hide hbad
  have HX := hide hX
  clear h hok hno hX hbad hg
  go_enter Tryd.func65, Tryd.ntmps65
  go_wp2
  obtain ⟨G, hG⟩ : ∃ G, G = w.heap.size := ⟨_, rfl⟩
  have Hst : Hid (Tl w (w.alloc (.cells #[.int .i64 0, .int .i64 0, .int .i64 0, .int .i64 0, .int .i64 0, .int .i64 0, .int .i64 0, .int .i64 0, .int .i64 0, .int .i64 0, .int .i64 0, .int .i64 0, .int .i64 0, .int .i64 0, .int .i64 0, .int .i64 0, .int .i64 0, .int .i64 0, .int .i64 0] 111)) lo R M B G bs X N 0 zero19 p) := by
    have fr := Fr.of_alloc w (.cells #[.int .i64 0, .int .i64 0, .int .i64 0, .int .i64 0, .int .i64 0, .int .i64 0, .int .i64 0, .int .i64 0, .int .i64 0, .int .i64 0, .int .i64 0, .int .i64 0, .int .i64 0, .int .i64 0, .int .i64 0, .int .i64 0, .int .i64 0, .int .i64 0, .int .i64 0] 111)
    exact ⟨⟨H.out.rd.keep fr (fun _ _ _ h => h), H.out.hM, by rw [cell_blk (fr.block M (cell_lt H.out.ptr) (fun h => h))]; exact H.out.ptr⟩, fr.mono (fun _ _ h => h.elim), heap_alloc_at hG, rfl, HX.out, fine_zero⟩
  rw [← hG]
  have hMG : M < G := by rw [hG]; exact cell_lt H.out.ptr
  have hBG : B < G := by omega
  have HGs : Hid (G = w.heap.size) := hG
  clear hG
  go_loopw [6, 8] (fun _ iv wr => ∃ i cl q, i ≤ N ∧ iv = .int .i64 ((i : Nat) : Int) ∧ Tl w wr lo R M B G bs X N i cl q) (fun _ iv _ => N - (intOf iv).toNat)
  case atStart => exact ⟨0, zero19, p, Nat.zero_le _, rfl, Hst.out⟩
  case round =>
    obtain ⟨i, cl, q, hi, rfl, hT⟩ := hrel
    have HT := hide hT
    clear hT
    by_cases hlt : i < N
    · have hlti : (i : Int) < (N : Int) := by omega
      have E0 : Hid (X = andThen (tkn 3) (fun x => told (N - (i + 1)) (i + 1) (cl.set (order.getD i 0) (x : Int))) (leNum bs) (8 * bs.length) q) := by
        show X = _
        rw [HT.out.eq, show N - i = (N - (i + 1)) + 1 by omega]
        rfl
      obtain ⟨j, hj⟩ : ∃ j, j = order.getD i 0 := ⟨_, rfl⟩
      have hj19 : j < 19 := by rw [hj]; exact order_lt i
      rw [← hj] at E0
      have q0 := HT.out.mi.ptr
      have hi19 : (i : Int) < 19 := by omega
      have qg : wr.cell? ⟨0, i, none⟩ = some (.int .i64 (j : Int)) := by
        have := (HG.out.keep HT.out.fr (by omega)) i (by omega)
        rw [hj]; exact this
      have Hp : Hid (∀ w', Fr (fun k => k = B) wr w' → w'.cell? ⟨0, i, none⟩ = some (.int .i64 (j : Int)) ∧ w'.cell? ⟨M, 0, none⟩ = some (.pointer (some ⟨B, 0, none⟩))) := by
        intro w' hF
        rw [cell_blk (a := ⟨M, 0, none⟩) (hF.block M (cell_lt q0) HT.out.mi.ne), cell_blk (a := ⟨0, i, none⟩) (hF.block 0 (cell_lt qg) (by omega))]
        exact ⟨qg, q0⟩
      have hji : (j : Int) < 19 := by omega
      clear hj
      go_wp2_with fail
      refine wp_region_held_drew (S := fun w' => w'.cell? ⟨0, i, none⟩ = some (.int .i64 (j : Int)) ∧ w'.cell? ⟨M, 0, none⟩ = some (.pointer (some ⟨B, 0, none⟩))) (by kernel_rfl) (by exact Hp.out _ (Fr.none _)) (fun hHeld => ?_)
      refine wpAnyH_take (i := 0) (v := ?v0) rfl (by kernel_rfl) (by kernel_rfl) (by kernel_rfl) (fun _ _ _ h => h) (Or.inl ⟨by rfl, ?hy0⟩) hHeld ?rest0
      case hy0 => (intro W hSw; (try dsimp only at hSw); obtain ⟨s1, s2⟩ := hSw; go_simp; all_goals (with_reducible rfl))
      change wpAnyH _ _ _ _ _ _ _ (Act.put _ (some 11) _) _
      simp only [Act.put, List.setIfInBounds_toArray, List.set_cons_zero, List.set_cons_succ]
      refine wpAnyH_take (i := 3) (v := ?v3) rfl (by kernel_rfl) (by kernel_rfl) (by kernel_rfl) (fun _ _ _ h => h) (Or.inl ⟨by rfl, ?hy3⟩) hHeld ?rest3
      case hy3 => (intro W hSw; (try dsimp only at hSw); obtain ⟨s1, s2⟩ := hSw; go_simp; all_goals (with_reducible rfl))
      change wpAnyH _ _ _ _ _ _ _ (Act.put _ (some 14) _) _
      simp only [Act.put, List.setIfInBounds_toArray, List.set_cons_zero, List.set_cons_succ]
      refine wpAnyH_take (i := 1) (v := ?v1) rfl (by kernel_rfl) (by kernel_rfl) (by kernel_rfl) (fun _ _ _ h => h) (Or.inl ⟨by rfl, ?hy1⟩) hHeld ?rest1
      case hy1 => (intro W hSw; (try dsimp only at hSw); obtain ⟨s1, s2⟩ := hSw; go_simp; all_goals (with_reducible rfl))
      change wpAnyH _ _ _ _ _ _ _ (Act.put _ (some 12) _) _
      simp only [Act.put, List.setIfInBounds_toArray, List.set_cons_zero, List.set_cons_succ]
      refine wpAnyH_take (i := 4) (v := ?v4) rfl (by kernel_rfl) (by kernel_rfl) (by kernel_rfl) (fun _ _ _ h => h) (Or.inl ⟨by rfl, ?hy4⟩) hHeld ?rest4
      case hy4 => (intro W hSw; (try dsimp only at hSw); obtain ⟨s1, s2⟩ := hSw; go_simp; all_goals (with_reducible rfl))
      change wpAnyH _ _ _ _ _ _ _ (Act.put _ (some 15) _) _
      simp only [Act.put, List.setIfInBounds_toArray, List.set_cons_zero, List.set_cons_succ]
      refine wpAnyH_take (i := 2) (v := ?v2) rfl (by kernel_rfl) (by kernel_rfl) (by kernel_rfl) (fun _ _ _ h => h) (Or.inl ⟨by rfl, ?hy2⟩) hHeld ?rest2
      case hy2 => (intro W hSw; (try dsimp only at hSw); obtain ⟨s1, s2⟩ := hSw; go_simp; all_goals (with_reducible rfl))
      change wpAnyH _ _ _ _ _ _ _ (Act.put _ (some 13) _) _
      simp only [Act.put, List.setIfInBounds_toArray, List.set_cons_zero, List.set_cons_succ]
      refine wpAnyH_take (i := 5) (v := ?v5) rfl (by kernel_rfl) (by kernel_rfl) (by kernel_rfl) (fun _ _ _ h => h) (Or.inl ⟨by rfl, ?hy5⟩) hHeld ?rest5
      case hy5 => (intro W hSw; (try dsimp only at hSw); obtain ⟨s1, s2⟩ := hSw; go_simp; all_goals (with_reducible rfl))
      change wpAnyH _ _ _ _ _ _ _ (Act.put _ (some 16) _) _
      simp only [Act.put, List.setIfInBounds_toArray, List.set_cons_zero, List.set_cons_succ]
      refine wpAnyH_take (i := 6) (v := ?v6) rfl (by kernel_rfl) (by kernel_rfl) (by kernel_rfl) (fun _ _ _ h => h) (Or.inl ⟨by rfl, ?hy6⟩) hHeld ?rest6
      case hy6 => (intro W hSw; (try dsimp only at hSw); obtain ⟨s1, s2⟩ := hSw; go_simp; all_goals (with_reducible rfl))
      change wpAnyH _ _ _ _ _ _ _ (Act.put _ (some 17) _) _
      simp only [Act.put, List.setIfInBounds_toArray, List.set_cons_zero, List.set_cons_succ]
      refine wpAnyH_ready (rs := [7]) (by kernel_rfl) (by simp) ?_
      refine AllReadyH.cons rfl (fun K hK => ?_) AllReadyH.nil
      try simp only [List.getElem_toArray, List.getElem_cons_succ, List.getElem_cons_zero]
      go_simp
      refine calls_args (low_reads _ lo R B bs q 3 (HT.out.mi.call ⟨_, rfl⟩).rd (by omega) _ ⟨?ok1, ?no1⟩) rfl
      case no1 => (intro er w1 hx hF; exact ⟨rfl, Hno.out er w1 (E0.out.trans (then_err hx)) (HT.out.fr.join ((Fr.none _).join hF))⟩)
      intro x q2 w1 hx hR hF
      have hxb : x < 8 := tkn_lt hx
      have HFB := hide ((Fr.none (S := fun k => k = B) _).join hF)
      have E1 := hide (E0.out.trans (then_ok hx))
      have HM1 := hide (HT.out.mi.next hR HFB.out)
      have hob : w1.heap[G]? = some (.cells (cellsZ cl).toArray 111 (0, 0)) := by rw [HFB.out.block G (lt_of HT.out.obj) (by omega)]; exact HT.out.obj
      have cG : w1.cell? ⟨G, j, none⟩ = some (.int .i64 (at0 cl j)) := cell_of hob (by have := HT.out.len; simp [cellsZ, at0, List.getElem?_eq_getElem (show j < cl.length by omega)])
      have zG := frozen_of (o := j) hob
      have Hob := hide hob
      clear hx hR hF hob
      refine hK.out _ _ (Hp.out _ HFB.out) (fun hHeld => ?_)
      clear hK K
      refine wpAnyH_take (i := 8) (v := ?v8) rfl (by kernel_rfl) (by kernel_rfl) (by kernel_rfl) (fun _ _ _ h => h) (Or.inl ⟨by rfl, ?hy8⟩) hHeld ?rest8
      case hy8 => (intro W hSw; (try dsimp only at hSw); obtain ⟨s1, s2⟩ := hSw; go_simp; all_goals (with_reducible rfl))
      change wpAnyH _ _ _ _ _ _ _ (Act.put _ (some 19) _) _
      simp only [Act.put, List.setIfInBounds_toArray, List.set_cons_zero, List.set_cons_succ]
      refine wpAnyH_ready (rs := [9]) (by kernel_rfl) (by simp) ?_
      refine AllReadyH.cons rfl (fun K hK => ?_) AllReadyH.nil
      try simp only [List.getElem_toArray, List.getElem_cons_succ, List.getElem_cons_zero]
      go_simp
      refine hK.out _ _ ⟨(World.cell?_setCell_far _ _ _ _ (by show G ≠ 0; omega)).trans hHeld.1, (World.cell?_setCell_far _ _ _ _ (by show G ≠ M; omega)).trans hHeld.2⟩ (fun hHeld => ?_)
      clear hK K
      refine wpAnyH_done (by kernel_rfl) ?_ _
      go_wp2
      go_roundw
      case rel =>
        have hl := HT.out.len
        refine ⟨i + 1, cl.set j (x : Int), q2, by omega, by go_num, ⟨⟨HM1.out.rd.keep (fr_set w1 G j _) (fun k _ h2 e => ?_), HM1.out.hM, ?_⟩, ((HT.out.fr.join HFB.out).trans (fr_set w1 G j _)).mono (fun k hk e => ?_), ?_, by simp [hl], E1.out, fine_set HT.out.good (by omega)⟩⟩
        · have := HM1.out.rd.esz; have := HM1.out.hM; omega
        · exact hHeld.2
        · have := HGs.out
          rcases e with e | e
          · exact e
          · omega
        · rw [heap_set _ Hob.out]
          simp [cellsZ, List.map_set]
      case measure => simp [intOf]; omega
    · have hlti : ¬ (i : Int) < (N : Int) := by omega
      have hie : i = N := by omega
      subst hie
      have E0 : Hid (X = .ok (cl, q)) := by
        show X = _
        rw [HT.out.eq, Nat.sub_self]
        rfl
      have hl := HT.out.len
      have hL : LiesI wr (some ⟨G, 0, none⟩) cl := fun j hj => ⟨_, rfl, by
        rw [add_none, Nat.zero_add]
        exact cell_of HT.out.obj (by simp [cellsZ, at0, List.getElem?_eq_getElem hj])⟩
      have HL := hide hL
      have hgood : good cl := ⟨by omega, HT.out.good⟩
      have Hgood := hide hgood
      have Hl : Hid (cl.length = 19) := hl
      clear hL hl hgood
      go_wp2_with fail
      refine calls_args (mustBe_c (some ⟨G, 0, none⟩) 19 cl wr HL.out Hgood.out _ ?yes ?nope) (by rw [Hl.out])
      case nope => (intro hn w2 hF; exact ⟨rfl, Hbad.out cl q w2 E0.out hn (HT.out.fr.join (hF.mono fun _ _ h => h.elim))⟩)
      intro hok C w2 hC hF
      have HC := hide hC
      have HF := hide hF
      clear hC hF
      go_wp2
      exact Hok.out cl q _ C wr.heap.size E0.out Hl.out hok HT.out.fr.size HC.out (HT.out.mi.rd.keep HF.out (fun _ _ _ h => h)) (HT.out.fr.join (HF.out.mono fun _ _ h => h.elim))
end Go.Proofs.YtleeaofofofgmaaDoor
