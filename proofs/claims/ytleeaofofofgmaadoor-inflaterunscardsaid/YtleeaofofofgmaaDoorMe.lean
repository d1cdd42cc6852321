/-
  Contracts of a symbol, of a byte of a row, of the end.
-/
import Derived.Test.YtleeaofofofgmaaDoorMd
import Derived.Test.YtleeaofofofgmaaDoorHl
namespace Go.Proofs.YtleeaofofofgmaaDoor
open Go.RowKit

theorem out_snoc {out : List Nat} {b : Nat} (h : ∀ x ∈ out, x < 256) (hb : b < 256) : ∀ x ∈ out ++ [b], x < 256 := by
  intro x hx
  simp only [List.mem_append, List.mem_singleton] at hx
  rcases hx with hx | hx
  · exact h x hx
  · omega

set_option maxHeartbeats 2000000 in
set_option maxRecDepth 100000 in
theorem takeSymbol_c (w : World) (lo R M B : Nat) (bs : List Nat) (most : Nat) (hmost : most ≤ 2147483648) (p : Nat) (last : Bool) (out : List Nat) (ll dl : List Int) (h : Mx w lo R M B bs most ⟨p, last, out, .coded ll dl⟩) (u : Value) (Q : Ending → World → Prop)
    (hQ : AdvQ lo R M B bs most ⟨p, last, out, .coded ll dl⟩ w (.bool true) (.bool false) u Q) : Calls Tryd.prog 41 #[.pointer (some ⟨M, 0, none⟩)] w Q := by
  obtain ⟨lf, bk, b1, b2, f1, f2, ov, hO, ⟨hc1, hc2⟩, hX, hb, ho⟩ := h
  obtain ⟨C, clo, chi, rfl, hRc, hC, hCM, hCo⟩ := hc1
  have HC1 : Hid (CodeAt w R M ov (.pointer (some ⟨C, 0, none⟩)) ll) := ⟨C, clo, chi, rfl, hRc, hC, hCM, hCo⟩
  have HC2 := hide hc2
  have HC := hide hC
  have q7 : w.cell? ⟨M, 7, none⟩ = some (.pointer (some ⟨C, 0, none⟩)) := cell_of hO.obj rfl
  have q0 : w.cell? ⟨M, 0, none⟩ = some (.pointer (some ⟨B, 0, none⟩)) := cell_of hO.obj rfl
  have Hap : Hid (chi ≤ B ∨ B < clo) := Or.inr (by have := hO.rd.ehi; omega)
  have HO := hide hO
  have HX := hide hX
  have Hb := hide hb
  have Ho : Hid (out.length ≤ most) := ho
  have HQ := hide hQ
  have Hp : Hid (∀ w', Fr (fun k => k = B) w w' → w'.cell? ⟨M, 0, none⟩ = some (.pointer (some ⟨B, 0, none⟩)) ∧ w'.cell? ⟨M, 7, none⟩ = some (.pointer (some ⟨C, 0, none⟩))) := by
    intro w' hF
    rw [cell_blk (a := ⟨M, 0, none⟩) (hF.block M (cell_lt q0) hO.mi.ne), cell_blk (a := ⟨M, 7, none⟩) (hF.block M (cell_lt q7) hO.mi.ne)]
    exact ⟨q0, q7⟩
  have E : Hid (word ll dl out.length (leNum bs) (8 * bs.length) p = andThen (tk ll) (fun s => if s < 256 then ret (.lit s) else if s = 256 then ret .fin else andThen (rlen s) fun n => andThen (rdist dl out.length) fun d => ret (.row n d)) (leNum bs) (8 * bs.length) p) := rfl
  have A : Hid (∀ er, word ll dl out.length (leNum bs) (8 * bs.length) p = .error er → adv (leNum bs) (8 * bs.length) ⟨p, last, out, .coded ll dl⟩ = .fail er) := by
    intro er h
    simp only [adv, h]
  have A2 : Hid (∀ y q, word ll dl out.length (leNum bs) (8 * bs.length) p = .ok (y, q) → adv (leNum bs) (8 * bs.length) ⟨p, last, out, .coded ll dl⟩ = match y with
      | .lit b => .put ⟨q, last, out ++ [b], .coded ll dl⟩
      | .fin => .go ⟨q, last, out, .ahead⟩
      | .row n d => .go ⟨q, last, out, .row n d ll dl⟩) := by
    intro y q h
    simp only [adv, h]
    cases y <;> rfl
  clear hO hX hb ho hQ hc2 hC hCM hCo hRc
  go_enter Tryd.func41, Tryd.ntmps41
  go_wp2_with fail
  refine wp_region_held_drew (S := fun w' => w'.cell? ⟨M, 0, none⟩ = some (.pointer (some ⟨B, 0, none⟩)) ∧ w'.cell? ⟨M, 7, none⟩ = some (.pointer (some ⟨C, 0, none⟩))) (by kernel_rfl) (by exact Hp.out _ (Fr.none _)) (fun hHeld => ?_)
  refine wpAnyH_take (i := 0) (v := ?v0) rfl (by kernel_rfl) (by kernel_rfl) (by kernel_rfl) (fun _ _ _ h => h) (Or.inl ⟨by rfl, ?hy0⟩) hHeld ?rest0
  case hy0 => (intro W hSw; (try dsimp only at hSw); obtain ⟨s1, s2⟩ := hSw; go_simp; all_goals (with_reducible rfl))
  change wpAnyH _ _ _ _ _ _ _ (Act.put _ (some 4) _) _
  simp only [Act.put, List.setIfInBounds_toArray, List.set_cons_zero, List.set_cons_succ]
  refine wpAnyH_take (i := 5) (v := ?v5) rfl (by kernel_rfl) (by kernel_rfl) (by kernel_rfl) (fun _ _ _ h => h) (Or.inl ⟨by rfl, ?hy5⟩) hHeld ?rest5
  case hy5 => (intro W hSw; (try dsimp only at hSw); obtain ⟨s1, s2⟩ := hSw; go_simp; all_goals (with_reducible rfl))
  change wpAnyH _ _ _ _ _ _ _ (Act.put _ (some 9) _) _
  simp only [Act.put, List.setIfInBounds_toArray, List.set_cons_zero, List.set_cons_succ]
  refine wpAnyH_take (i := 1) (v := ?v1) rfl (by kernel_rfl) (by kernel_rfl) (by kernel_rfl) (fun _ _ _ h => h) (Or.inl ⟨by rfl, ?hy1⟩) hHeld ?rest1
  case hy1 => (intro W hSw; (try dsimp only at hSw); obtain ⟨s1, s2⟩ := hSw; go_simp; all_goals (with_reducible rfl))
  change wpAnyH _ _ _ _ _ _ _ (Act.put _ (some 5) _) _
  simp only [Act.put, List.setIfInBounds_toArray, List.set_cons_zero, List.set_cons_succ]
  refine wpAnyH_take (i := 6) (v := ?v6) rfl (by kernel_rfl) (by kernel_rfl) (by kernel_rfl) (fun _ _ _ h => h) (Or.inl ⟨by rfl, ?hy6⟩) hHeld ?rest6
  case hy6 => (intro W hSw; (try dsimp only at hSw); obtain ⟨s1, s2⟩ := hSw; go_simp; all_goals (with_reducible rfl))
  change wpAnyH _ _ _ _ _ _ _ (Act.put _ (some 10) _) _
  simp only [Act.put, List.setIfInBounds_toArray, List.set_cons_zero, List.set_cons_succ]
  refine wpAnyH_take (i := 2) (v := ?v2) rfl (by kernel_rfl) (by kernel_rfl) (by kernel_rfl) (fun _ _ _ h => h) (Or.inl ⟨by rfl, ?hy2⟩) hHeld ?rest2
  case hy2 => (intro W hSw; (try dsimp only at hSw); obtain ⟨s1, s2⟩ := hSw; go_simp; all_goals (with_reducible rfl))
  change wpAnyH _ _ _ _ _ _ _ (Act.put _ (some 6) _) _
  simp only [Act.put, List.setIfInBounds_toArray, List.set_cons_zero, List.set_cons_succ]
  refine wpAnyH_take (i := 7) (v := ?v7) rfl (by kernel_rfl) (by kernel_rfl) (by kernel_rfl) (fun _ _ _ h => h) (Or.inl ⟨by rfl, ?hy7⟩) hHeld ?rest7
  case hy7 => (intro W hSw; (try dsimp only at hSw); obtain ⟨s1, s2⟩ := hSw; go_simp; all_goals (with_reducible rfl))
  change wpAnyH _ _ _ _ _ _ _ (Act.put _ (some 11) _) _
  simp only [Act.put, List.setIfInBounds_toArray, List.set_cons_zero, List.set_cons_succ]
  refine wpAnyH_take (i := 3) (v := ?v3) rfl (by kernel_rfl) (by kernel_rfl) (by kernel_rfl) (fun _ _ _ h => h) (Or.inl ⟨by rfl, ?hy3⟩) hHeld ?rest3
  case hy3 => (intro W hSw; (try dsimp only at hSw); obtain ⟨s1, s2⟩ := hSw; go_simp; all_goals (with_reducible rfl))
  change wpAnyH _ _ _ _ _ _ _ (Act.put _ (some 7) _) _
  simp only [Act.put, List.setIfInBounds_toArray, List.set_cons_zero, List.set_cons_succ]
  refine wpAnyH_take (i := 8) (v := ?v8) rfl (by kernel_rfl) (by kernel_rfl) (by kernel_rfl) (fun _ _ _ h => h) (Or.inl ⟨by rfl, ?hy8⟩) hHeld ?rest8
  case hy8 => (intro W hSw; (try dsimp only at hSw); obtain ⟨s1, s2⟩ := hSw; go_simp; all_goals (with_reducible rfl))
  change wpAnyH _ _ _ _ _ _ _ (Act.put _ (some 12) _) _
  simp only [Act.put, List.setIfInBounds_toArray, List.set_cons_zero, List.set_cons_succ]
  refine wpAnyH_take (i := 4) (v := ?v4) rfl (by kernel_rfl) (by kernel_rfl) (by kernel_rfl) (fun _ _ _ h => h) (Or.inl ⟨by rfl, ?hy4⟩) hHeld ?rest4
  case hy4 => (intro W hSw; (try dsimp only at hSw); obtain ⟨s1, s2⟩ := hSw; go_simp; all_goals (with_reducible rfl))
  change wpAnyH _ _ _ _ _ _ _ (Act.put _ (some 8) _) _
  simp only [Act.put, List.setIfInBounds_toArray, List.set_cons_zero, List.set_cons_succ]
  refine wpAnyH_ready (rs := [9]) (by kernel_rfl) (by simp) ?_
  refine AllReadyH.cons rfl (fun K hK => ?_) AllReadyH.nil
  try simp only [List.getElem_toArray, List.getElem_cons_succ, List.getElem_cons_zero]
  go_simp
  refine calls_args (take_E clo chi C lo R B ll bs p _ (HC.out.keep (Fr.none (S := fun _ => False) _) (fun _ _ _ h => h)) (HO.out.mi.call ⟨_, rfl⟩).rd Hap.out _ ⟨?ok1, ?no1⟩) rfl
  case no1 => (intro er w1 hx hF; have hF' := (Fr.none (S := fun k => k = B) _).join hF; exact ⟨rfl, HQ.out.fail er w1 (A.out er (E.out.trans (then_err hx))) (HO.out.md.fr hF' HO.out.mi.ne) (HO.out.frB hF')⟩)
  intro s q w1 hx hR hF
  have E1 := hide (E.out.trans (then_ok hx))
  have HFB := hide ((Fr.none (S := fun k => k = B) _).join hF)
  have H1 := hide (HO.out.next hR HFB.out)
  have HF1 := hide (HO.out.frB HFB.out)
  have hBR := HO.out.rd.ehi
  have HX1 := hide (HX.out.keep HFB.out (fun k e => Or.inl (by omega)))
  have K1 := hide (HC1.out.keep HFB.out (fun k e => Or.inl (by omega)))
  have K2 := hide (HC2.out.keep HFB.out (fun k e => Or.inl (by omega)))
  clear hx hR hF hBR
  refine hK.out _ _ (Hp.out _ HFB.out) (fun hHeld => ?_)
  clear hK K
  refine wpAnyH_take (i := 10) (v := ?v10) rfl (by kernel_rfl) (by kernel_rfl) (by kernel_rfl) (fun _ _ _ h => h) (Or.inl ⟨by rfl, ?hy10⟩) hHeld ?rest10
  case hy10 => (intro W hSw; (try dsimp only at hSw); obtain ⟨s1, s2⟩ := hSw; go_simp; all_goals (with_reducible rfl))
  change wpAnyH _ _ _ _ _ _ _ (Act.put _ (some 3) _) _
  simp only [Act.put, List.setIfInBounds_toArray, List.set_cons_zero, List.set_cons_succ]
  refine wpAnyH_done (by kernel_rfl) ?_ _
  by_cases hs : s < 256
  · have hsi : (s : Int) < 256 := by omega
    have E2 := E1.out
    rw [if_pos hs] at E2
    have A3 := hide (A2.out _ _ E2)
    clear E2 q0 q7
    go_wp2_with fail
    refine calls_args (put_c w1 lo R M B bs q most 2 last lf bk _ b2 f1 f2 ov out H1.out s (by have : out.length ≤ most := Ho.out; omega) _ ?full ?put) rfl
    case full => (intro hm w2 hF2; exact ⟨rfl, HQ.out.full _ w2 A3.out (by simp only; omega) (H1.out.md.fr hF2 (fun h => h)) (HF1.out.join (Fs.of hF2 H1.out.ltM))⟩)
    intro hm ov' w2 hO2 hF2 hg
    go_wp2
    exact HQ.out.put _ _ A3.out (by simp only; omega) ⟨lf, bk, _, b2, f1, f2, ov', hO2, ⟨K1.out.put hF2 hg, K2.out.put hF2 hg⟩, HX1.out.put hF2 hg, out_snoc Hb.out hs, by simp only [List.length_append, List.length_singleton]; omega⟩ (HF1.out.join (H1.out.frO hF2 hO2 hg))
  · have hsi : ¬ (s : Int) < 256 := by omega
    have E2 := E1.out
    rw [if_neg hs] at E2
    by_cases hs2 : s = 256
    · subst hs2
      rw [if_pos rfl] at E2
      have A3 := hide (A2.out _ _ E2)
      have q3 : w1.cell? ⟨M, 3, none⟩ = some (.int .i64 2) := cell_of H1.out.obj rfl
      have z3 := frozen_of (o := 3) H1.out.obj
      clear E2 q0 q7
      go_wp2
      exact HQ.out.go _ _ A3.out ⟨lf, bk, _, b2, f1, f2, ov, H1.out.turn (fr_set _ _ _ _) (heap_set _ H1.out.obj), trivial, HX1.out.keep (fr_set _ _ _ _) (fun k e => Or.inr (Or.inl e)), Hb.out, Ho.out⟩ (HF1.out.join (H1.out.frM (fr_set _ _ _ _)))
    · have hsj : ((s : Int) == 256) = false := beq_false_of_ne (by omega)
      have hsk : ¬ (s : Int) = 256 := by omega
      rw [if_neg hs2] at E2
      have HE2 := hide E2
      clear E2 q0 q7
      go_wp2_with fail
      refine calls_args (rlen_c _ lo R M B bs q s H1.out.mi (by omega) _ ⟨?ok2, ?no2⟩) rfl
      case no2 => (intro er w2 hx hF; exact ⟨rfl, HQ.out.fail er w2 (A.out er (HE2.out.trans (then_err hx))) (H1.out.md.fr hF H1.out.mi.ne) (HF1.out.join (H1.out.frB hF))⟩)
      intro n q2 w2 hx hR hF
      have hnb := rlen_le hx
      have E3 := hide (HE2.out.trans (then_ok hx))
      have H2 := hide (H1.out.next hR hF)
      have HF2 := hide (HF1.out.join (H1.out.frB hF))
      have hBR := HO.out.rd.ehi
      have HX2 := hide (HX1.out.keep hF (fun k e => Or.inl (by omega)))
      have K12 := hide (K1.out.keep hF (fun k e => Or.inl (by omega)))
      have K22 := hide (K2.out.keep hF (fun k e => Or.inl (by omega)))
      have q5 : w2.cell? ⟨M, 5, none⟩ = some (.int .i64 lf) := cell_of H2.out.obj rfl
      have z5 := frozen_of (o := 5) H2.out.obj
      clear hx hR hF
      go_wp2_with fail
      have H3 := hide (H2.out.turn (fr_set w2 M 5 (.int .i64 (n : Int))) (heap_set _ H2.out.obj))
      have HF3 := hide (HF2.out.join (H2.out.frM (fr_set w2 M 5 (.int .i64 (n : Int)))))
      have HX3 := hide (HX2.out.keep (fr_set w2 M 5 (.int .i64 (n : Int))) (fun k e => Or.inr (Or.inl e)))
      have K13 := hide (K12.out.keep (fr_set w2 M 5 (.int .i64 (n : Int))) (fun k e => Or.inr (Or.inl e)))
      have K23 := hide (K22.out.keep (fr_set w2 M 5 (.int .i64 (n : Int))) (fun k e => Or.inr (Or.inl e)))
      clear q5 z5 H2 HX2 K12 K22 HF2
      generalize w2.setCell ⟨M, 5, none⟩ (.int .i64 (n : Int)) = w3 at *
      obtain ⟨D, dlo, dhi, rfl, hRd, hD, hDM, hDo⟩ := K23.out
      obtain ⟨oa, oc, rfl⟩ := ownsRow_shape H3.out.own
      refine calls_args (rdist_c w3 lo R M B bs q2 H3.out.mi D dlo dhi dl (cell_of H3.out.obj rfl) hD hRd oa out.length oc (cell_of H3.out.obj rfl) _ ⟨?ok3, ?no3⟩) rfl
      case no3 => (intro er w4 hx hF; exact ⟨rfl, HQ.out.fail er w4 (A.out er (E3.out.trans (then_err hx))) (H3.out.md.fr hF H3.out.mi.ne) (HF3.out.join (H3.out.frB hF))⟩)
      intro d q3 w4 hx hR hF
      obtain ⟨hd1, hd2⟩ := rdist_le hx
      have A4 := hide (A2.out _ _ (E3.out.trans (then_ok hx)))
      have H4 := hide (H3.out.next hR hF)
      have HF4 := hide (HF3.out.join (H3.out.frB hF))
      have HX4 := hide (HX3.out.keep hF (fun k e => Or.inl (by omega)))
      have K14 := hide (K13.out.keep hF (fun k e => Or.inl (by omega)))
      have K24 := hide (K23.out.keep hF (fun k e => Or.inl (by omega)))
      have q6 : w4.cell? ⟨M, 6, none⟩ = some (.int .i64 bk) := cell_of H4.out.obj rfl
      have z6 := frozen_of (o := 6) H4.out.obj
      have q3 : w4.cell? ⟨M, 3, none⟩ = some (.int .i64 2) := cell_of H4.out.obj rfl
      have z3 := frozen_of (o := 3) H4.out.obj
      clear hx hR hF hD hDM hDo
      go_wp2
      have H5 := hide (H4.out.turn (fr_set w4 M 6 (.int .i64 (d : Int))) (heap_set _ H4.out.obj))
      have HF5 := hide (HF4.out.join (H4.out.frM (fr_set w4 M 6 (.int .i64 (d : Int)))))
      have HX5 := hide (HX4.out.keep (fr_set w4 M 6 (.int .i64 (d : Int))) (fun k e => Or.inr (Or.inl e)))
      have K15 := hide (K14.out.keep (fr_set w4 M 6 (.int .i64 (d : Int))) (fun k e => Or.inr (Or.inl e)))
      have K25 := hide (K24.out.keep (fr_set w4 M 6 (.int .i64 (d : Int))) (fun k e => Or.inr (Or.inl e)))
      clear q6 z6 H4 HX4 K14 K24 HF4 q3 z3
      generalize w4.setCell ⟨M, 6, none⟩ (.int .i64 (d : Int)) = w5 at *
      have H6 := H5.out.turn (plc' := 3) (fr_set w5 M 3 (.int .i64 3)) (heap_set (o := 3) (.int .i64 3) H5.out.obj)
      exact HQ.out.go _ _ A4.out ⟨(n : Int), (d : Int), _, _, f1, f2, _, H6, ⟨rfl, rfl, hnb.1, hnb.2, hd1, hd2, K15.out.keep (fr_set _ _ _ _) (fun k e => Or.inr (Or.inl e)), K25.out.keep (fr_set _ _ _ _) (fun k e => Or.inr (Or.inl e))⟩, HX5.out.keep (fr_set _ _ _ _) (fun k e => Or.inr (Or.inl e)), Hb.out, Ho.out⟩ (HF5.out.join (H5.out.frM (fr_set _ _ _ _)))

set_option maxHeartbeats 2000000 in
set_option maxRecDepth 100000 in
theorem rowByte_c (w : World) (lo R M B : Nat) (bs : List Nat) (most : Nat) (hmost : most ≤ 2147483648) (p : Nat) (last : Bool) (out : List Nat) (n d : Nat) (ll dl : List Int) (h : Mx w lo R M B bs most ⟨p, last, out, .row n d ll dl⟩) (u : Value) (Q : Ending → World → Prop)
    (hQ : AdvQ lo R M B bs most ⟨p, last, out, .row n d ll dl⟩ w (.bool true) (.bool false) u Q) : Calls Tryd.prog 42 #[.pointer (some ⟨M, 0, none⟩)] w Q := by
  obtain ⟨lf, bk, b1, b2, f1, f2, ov, hO, ⟨rfl, rfl, hn1, hn2, hd1, hd2, hc1, hc2⟩, hX, hb, ho⟩ := h
  simp only at hd2
  obtain ⟨oa, oc, rfl⟩ := ownsRow_shape hO.own
  obtain ⟨o, heo⟩ : ∃ o, o = out.length := ⟨_, rfl⟩
  have q11 : w.cell? ⟨M, 11, none⟩ = some (.slice oa out.length oc) := cell_of hO.obj rfl
  have q6 : w.cell? ⟨M, 6, none⟩ = some (.int .i64 (d : Int)) := cell_of hO.obj rfl
  have K1 := hide hc1
  have K2 := hide hc2
  have HO := hide hO
  have HX := hide hX
  have Hb := hide hb
  have Ho : Hid (out.length ≤ most) := ho
  have HQ := hide hQ
  obtain ⟨j, hj⟩ : ∃ j, j = out.length - d := ⟨_, rfl⟩
  have hjl : j < out.length := by omega
  obtain ⟨b, hbj⟩ : ∃ b, out[j]? = some b := ⟨_, List.getElem?_eq_getElem hjl⟩
  have hbb : b < 256 := hb b (List.mem_of_getElem? hbj)
  have hgd : out.getD (out.length - d) 0 = b := by rw [← hj, List.getD_eq_getElem?_getD, hbj]; rfl
  obtain ⟨ad, rfl, had⟩ : ∃ ad, oa = some ad ∧ w.cell? (ad.add j) = some (.int .u8 (b : Int)) := by
    rcases hO.own.2 with ⟨hv, e0⟩ | ⟨g, cap, cur, hv, hg, hh, hr⟩
    · simp only at e0; omega
    · cases hv
      refine ⟨⟨g, 0, none⟩, rfl, hO.own.cells (g := g) rfl j _ ?_⟩
      simp [cellsOf, hbj]
  have A : Hid (adv (leNum bs) (8 * bs.length) ⟨p, last, out, .row n d ll dl⟩ = .put ⟨p, last, out ++ [b], if n = 1 then .coded ll dl else .row (n - 1) d ll dl⟩) := by
    show adv _ _ _ = _
    rw [← hgd]
    rfl
  have hji : (o : Int) - (d : Int) = (j : Int) := by omega
  have hjo : (j : Int) < (o : Int) := by omega
  have hj0 : (0 : Int) ≤ (j : Int) := by omega
  have hwj : IntKind.i64.wrap (j : Int) = (j : Int) := wrap_i64_id _ (by omega) (by have : out.length ≤ most := ho; omega)
  have hob : o ≤ 2147483648 := by have : out.length ≤ most := ho; omega
  rw [← heo] at q11
  have Heo : Hid (o = out.length) := heo
  have Hd2 : Hid (d ≤ out.length) := hd2
  clear hO hX hb ho hQ hc1 hc2 hj hjl hbj hgd heo hd2
  go_enter Tryd.func42, Tryd.ntmps42
  go_wp2_with fail
  refine wp_region_L (S := fun w' => (w'.cell? ⟨M, 11, none⟩ = some (.slice (some ad) o oc) ∧ w'.cell? ⟨M, 6, none⟩ = some (.int .i64 (d : Int))) ∧ w'.cell? (ad.add j) = some (.int .u8 (b : Int))) 17 (by kernel_rfl) (by exact ⟨⟨q11, q6⟩, had⟩) (fun hHeld => ?_)
  refine wpAnyL_take [17] (i := 0) (v := ?v0) rfl (by kernel_rfl) (by kernel_rfl) (by kernel_rfl) (by kernel_rfl) (fun _ _ _ h => h) (Or.inl ⟨by rfl, ?hy0⟩) hHeld ?rest0
  case hy0 => (intro W hSw; (try dsimp only at hSw); obtain ⟨⟨s1, s2⟩, s3⟩ := hSw; go_simp; all_goals (with_reducible rfl))
  change wpAnyL _ _ _ _ _ _ _ _ (Act.put _ (some 3) _) _
  simp only [Act.put, List.setIfInBounds_toArray, List.set_cons_zero, List.set_cons_succ]
  refine wpAnyL_take [2, 3, 4, 15, 16, 17] (i := 1) (v := ?v1) rfl (by kernel_rfl) (by kernel_rfl) (by kernel_rfl) (by kernel_rfl) (fun _ _ _ h => h) (Or.inl ⟨by rfl, ?hy1⟩) hHeld ?rest1
  case hy1 => (intro W hSw; (try dsimp only at hSw); obtain ⟨⟨s1, s2⟩, s3⟩ := hSw; go_simp; all_goals (with_reducible rfl))
  change wpAnyL _ _ _ _ _ _ _ _ (Act.put _ (some 4) _) _
  simp only [Act.put, List.setIfInBounds_toArray, List.set_cons_zero, List.set_cons_succ]
  refine wpAnyL_take [6, 7, 8, 9, 14, 15, 16, 17] (i := 5) (v := ?v5) rfl (by kernel_rfl) (by kernel_rfl) (by kernel_rfl) (by kernel_rfl) (fun _ _ _ h => h) (Or.inl ⟨by rfl, ?hy5⟩) hHeld ?rest5
  case hy5 => (intro W hSw; (try dsimp only at hSw); obtain ⟨⟨s1, s2⟩, s3⟩ := hSw; go_simp; all_goals (with_reducible rfl))
  change wpAnyL _ _ _ _ _ _ _ _ (Act.put _ (some 8) _) _
  simp only [Act.put, List.setIfInBounds_toArray, List.set_cons_zero, List.set_cons_succ]
  refine wpAnyL_take [11, 12, 13, 14, 15, 16, 17] (i := 10) (v := ?v10) rfl (by kernel_rfl) (by kernel_rfl) (by kernel_rfl) (by kernel_rfl) (fun _ _ _ h => h) (Or.inl ⟨by rfl, ?hy10⟩) hHeld ?rest10
  case hy10 => (intro W hSw; (try dsimp only at hSw); obtain ⟨⟨s1, s2⟩, s3⟩ := hSw; go_simp; all_goals (with_reducible rfl))
  change wpAnyL _ _ _ _ _ _ _ _ (Act.put _ (some 13) _) _
  simp only [Act.put, List.setIfInBounds_toArray, List.set_cons_zero, List.set_cons_succ]
  refine wpAnyL_take [3, 4, 15, 16, 17] (i := 2) (v := ?v2) rfl (by kernel_rfl) (by kernel_rfl) (by kernel_rfl) (by kernel_rfl) (fun _ _ _ h => h) (Or.inl ⟨by rfl, ?hy2⟩) hHeld ?rest2
  case hy2 => (intro W hSw; (try dsimp only at hSw); obtain ⟨⟨s1, s2⟩, s3⟩ := hSw; go_simp; all_goals (with_reducible rfl))
  change wpAnyL _ _ _ _ _ _ _ _ (Act.put _ (some 5) _) _
  simp only [Act.put, List.setIfInBounds_toArray, List.set_cons_zero, List.set_cons_succ]
  refine wpAnyL_take [7, 8, 9, 14, 15, 16, 17] (i := 6) (v := ?v6) rfl (by kernel_rfl) (by kernel_rfl) (by kernel_rfl) (by kernel_rfl) (fun _ _ _ h => h) (Or.inl ⟨by rfl, ?hy6⟩) hHeld ?rest6
  case hy6 => (intro W hSw; (try dsimp only at hSw); obtain ⟨⟨s1, s2⟩, s3⟩ := hSw; go_simp; all_goals (with_reducible rfl))
  change wpAnyL _ _ _ _ _ _ _ _ (Act.put _ (some 9) _) _
  simp only [Act.put, List.setIfInBounds_toArray, List.set_cons_zero, List.set_cons_succ]
  refine wpAnyL_take [12, 13, 14, 15, 16, 17] (i := 11) (v := ?v11) rfl (by kernel_rfl) (by kernel_rfl) (by kernel_rfl) (by kernel_rfl) (fun _ _ _ h => h) (Or.inl ⟨by rfl, ?hy11⟩) hHeld ?rest11
  case hy11 => (intro W hSw; (try dsimp only at hSw); obtain ⟨⟨s1, s2⟩, s3⟩ := hSw; go_simp; all_goals (with_reducible rfl))
  change wpAnyL _ _ _ _ _ _ _ _ (Act.put _ (some 14) _) _
  simp only [Act.put, List.setIfInBounds_toArray, List.set_cons_zero, List.set_cons_succ]
  refine wpAnyL_take [4, 15, 16, 17] (i := 3) (v := ?v3) rfl (by kernel_rfl) (by kernel_rfl) (by kernel_rfl) (by kernel_rfl) (fun _ _ _ h => h) (Or.inl ⟨by rfl, ?hy3⟩) hHeld ?rest3
  case hy3 => (intro W hSw; (try dsimp only at hSw); obtain ⟨⟨s1, s2⟩, s3⟩ := hSw; go_simp; all_goals (with_reducible rfl))
  change wpAnyL _ _ _ _ _ _ _ _ (Act.put _ (some 6) _) _
  simp only [Act.put, List.setIfInBounds_toArray, List.set_cons_zero, List.set_cons_succ]
  refine wpAnyL_take [8, 9, 14, 15, 16, 17] (i := 7) (v := ?v7) rfl (by kernel_rfl) (by kernel_rfl) (by kernel_rfl) (by kernel_rfl) (fun _ _ _ h => h) (Or.inl ⟨by rfl, ?hy7⟩) hHeld ?rest7
  case hy7 => (intro W hSw; (try dsimp only at hSw); obtain ⟨⟨s1, s2⟩, s3⟩ := hSw; go_simp; all_goals (with_reducible rfl))
  change wpAnyL _ _ _ _ _ _ _ _ (Act.put _ (some 10) _) _
  simp only [Act.put, List.setIfInBounds_toArray, List.set_cons_zero, List.set_cons_succ]
  refine wpAnyL_take [13, 14, 15, 16, 17] (i := 12) (v := ?v12) rfl (by kernel_rfl) (by kernel_rfl) (by kernel_rfl) (by kernel_rfl) (fun _ _ _ h => h) (Or.inl ⟨by rfl, ?hy12⟩) hHeld ?rest12
  case hy12 => (intro W hSw; (try dsimp only at hSw); obtain ⟨⟨s1, s2⟩, s3⟩ := hSw; go_simp; all_goals (with_reducible rfl))
  change wpAnyL _ _ _ _ _ _ _ _ (Act.put _ (some 15) _) _
  simp only [Act.put, List.setIfInBounds_toArray, List.set_cons_zero, List.set_cons_succ]
  refine wpAnyL_take [15, 16, 17] (i := 4) (v := ?v4) rfl (by kernel_rfl) (by kernel_rfl) (by kernel_rfl) (by kernel_rfl) (fun _ _ _ h => h) (Or.inl ⟨by rfl, ?hy4⟩) hHeld ?rest4
  case hy4 => (intro W hSw; (try dsimp only at hSw); obtain ⟨⟨s1, s2⟩, s3⟩ := hSw; go_simp; all_goals (with_reducible rfl))
  change wpAnyL _ _ _ _ _ _ _ _ (Act.put _ (some 7) _) _
  simp only [Act.put, List.setIfInBounds_toArray, List.set_cons_zero, List.set_cons_succ]
  refine wpAnyL_take [9, 14, 15, 16, 17] (i := 8) (v := ?v8) rfl (by kernel_rfl) (by kernel_rfl) (by kernel_rfl) (by kernel_rfl) (fun _ _ _ h => h) (Or.inl ⟨by rfl, ?hy8⟩) hHeld ?rest8
  case hy8 => (intro W hSw; (try dsimp only at hSw); obtain ⟨⟨s1, s2⟩, s3⟩ := hSw; go_simp; all_goals (with_reducible rfl))
  change wpAnyL _ _ _ _ _ _ _ _ (Act.put _ (some 11) _) _
  simp only [Act.put, List.setIfInBounds_toArray, List.set_cons_zero, List.set_cons_succ]
  refine wpAnyL_take [14, 15, 16, 17] (i := 13) (v := ?v13) rfl (by kernel_rfl) (by kernel_rfl) (by kernel_rfl) (by kernel_rfl) (fun _ _ _ h => h) (Or.inl ⟨by rfl, ?hy13⟩) hHeld ?rest13
  case hy13 => (intro W hSw; (try dsimp only at hSw); obtain ⟨⟨s1, s2⟩, s3⟩ := hSw; go_simp; all_goals (with_reducible rfl))
  change wpAnyL _ _ _ _ _ _ _ _ (Act.put _ (some 16) _) _
  simp only [Act.put, List.setIfInBounds_toArray, List.set_cons_zero, List.set_cons_succ]
  refine wpAnyL_take [14, 15, 16, 17] (i := 9) (v := ?v9) rfl (by kernel_rfl) (by kernel_rfl) (by kernel_rfl) (by kernel_rfl) (fun _ _ _ h => h) (Or.inl ⟨by rfl, ?hy9⟩) hHeld ?rest9
  case hy9 => (intro W hSw; (try dsimp only at hSw); obtain ⟨⟨s1, s2⟩, s3⟩ := hSw; go_simp; all_goals (with_reducible rfl))
  change wpAnyL _ _ _ _ _ _ _ _ (Act.put _ (some 12) _) _
  simp only [Act.put, List.setIfInBounds_toArray, List.set_cons_zero, List.set_cons_succ]
  refine wpAnyL_take [15, 16, 17] (i := 14) (v := ?v14) rfl (by kernel_rfl) (by kernel_rfl) (by kernel_rfl) (by kernel_rfl) (fun _ _ _ h => h) (Or.inl ⟨by rfl, ?hy14⟩) hHeld ?rest14
  case hy14 => (intro W hSw; (try dsimp only at hSw); obtain ⟨⟨s1, s2⟩, s3⟩ := hSw; go_simp; all_goals (with_reducible rfl))
  change wpAnyL _ _ _ _ _ _ _ _ (Act.put _ (some 17) _) _
  simp only [Act.put, List.setIfInBounds_toArray, List.set_cons_zero, List.set_cons_succ]
  refine wpAnyL_take [16, 17] (i := 15) (v := ?v15) rfl (by kernel_rfl) (by kernel_rfl) (by kernel_rfl) (by kernel_rfl) (fun _ _ _ h => h) (Or.inl ⟨by rfl, ?hy15⟩) hHeld ?rest15
  case hy15 => (intro W hSw; (try dsimp only at hSw); obtain ⟨⟨s1, s2⟩, s3⟩ := hSw; go_simp; all_goals (with_reducible rfl))
  change wpAnyL _ _ _ _ _ _ _ _ (Act.put _ (some 18) _) _
  simp only [Act.put, List.setIfInBounds_toArray, List.set_cons_zero, List.set_cons_succ]
  refine wpAnyL_take [17] (i := 16) (v := ?v16) rfl (by kernel_rfl) (by kernel_rfl) (by kernel_rfl) (by kernel_rfl) (fun _ _ _ h => h) (Or.inl ⟨by rfl, ?hy16⟩) hHeld ?rest16
  case hy16 => (intro W hSw; (try dsimp only at hSw); obtain ⟨⟨s1, s2⟩, s3⟩ := hSw; go_simp; all_goals (with_reducible rfl))
  change wpAnyL _ _ _ _ _ _ _ _ (Act.put _ (some 19) _) _
  simp only [Act.put, List.setIfInBounds_toArray, List.set_cons_zero, List.set_cons_succ]
  refine wpAnyL_one (i := 17) (by kernel_rfl) rfl (fun K hK => ?_)
  try simp only [List.getElem_toArray, List.getElem_cons_succ, List.getElem_cons_zero]
  go_simp
  refine calls_args (put_c _ lo R M B bs p most 3 last n d b1 b2 f1 f2 _ out (HO.out.drewN _) b (by have : out.length ≤ most := Ho.out; omega) _ ?full ?put) rfl
  case full => (intro hm w2 hF2; exact ⟨rfl, HQ.out.full _ w2 A.out (by simp only; omega) ((HO.out.drewN _).md.fr hF2 (fun h => h)) ((Fs.of (Fr.of_drewN w 1) HO.out.ltM).join (Fs.of hF2 HO.out.ltM))⟩)
  intro hm ov' w2 hO2 hF2 hg
  have HF2 := hide ((Fs.of (M := M) (B := B) (Fr.of_drewN w 1) HO.out.ltM).join ((HO.out.drewN 1).frO hF2 hO2 hg))
  have HX2 := hide ((HX.out.keep (Fr.of_drewN w _) (fun _ h => h.elim)).put hF2 hg)
  have K12 := hide ((K1.out.keep (Fr.of_drewN w _) (fun _ h => h.elim)).put hF2 hg)
  have K22 := hide ((K2.out.keep (Fr.of_drewN w _) (fun _ h => h.elim)).put hF2 hg)
  have H2 := hide hO2
  have Hm := hide hm
  clear hO2 hF2 hg hm
  refine hK.out _ _ (fun h => absurd rfl h) (fun _ => ?_)
  clear hK K
  refine wpAnyL_done (by kernel_rfl) ?_ _
  have q5 : w2.cell? ⟨M, 5, none⟩ = some (.int .i64 (n : Int)) := cell_of H2.out.obj rfl
  have q3 : w2.cell? ⟨M, 3, none⟩ = some (.int .i64 3) := cell_of H2.out.obj rfl
  have z5 := frozen_of (o := 5) H2.out.obj
  have z3 := frozen_of (o := 3) H2.out.obj
  have He : Hid ((n : Int) - 1 = ((n - 1 : Nat) : Int)) := by show (n : Int) - 1 = ((n - 1 : Nat) : Int); omega
  have H3 := hide (H2.out.turn (fr_set w2 M 5 (.int .i64 ((n : Int) - 1))) (lf' := (n : Int) - 1) (heap_set (o := 5) _ H2.out.obj))
  have HF3 := hide (HF2.out.join (H2.out.frM (fr_set w2 M 5 (.int .i64 ((n : Int) - 1)))))
  have HX3 := hide (HX2.out.keep (fr_set w2 M 5 (.int .i64 ((n : Int) - 1))) (fun k e => Or.inr (Or.inl e)))
  have K13 := hide (K12.out.keep (fr_set w2 M 5 (.int .i64 ((n : Int) - 1))) (fun k e => Or.inr (Or.inl e)))
  have K23 := hide (K22.out.keep (fr_set w2 M 5 (.int .i64 ((n : Int) - 1))) (fun k e => Or.inr (Or.inl e)))
  have A1 := A.out
  have Hm' : out.length < most := by have := Hm.out; omega
  have Hl : (out ++ [b]).length ≤ most := by simp only [List.length_append, List.length_singleton]; omega
  by_cases hn : n = 1
  · subst hn
    rw [if_pos rfl] at A1
    have HA1 := hide A1
    have HHm := hide Hm'
    have HHl := hide Hl
    clear A1 Hm' Hl
    go_wp2
    have H4 := H3.out.turn (plc' := 2) (fr_set _ M 3 (.int .i64 2)) (heap_set (o := 3) (.int .i64 2) H3.out.obj)
    exact HQ.out.put _ _ HA1.out HHm.out ⟨_, _, _, _, f1, f2, _, H4, ⟨K13.out.keep (fr_set _ M 3 _) (fun k e => Or.inr (Or.inl e)), K23.out.keep (fr_set _ M 3 _) (fun k e => Or.inr (Or.inl e))⟩, HX3.out.keep (fr_set _ M 3 _) (fun k e => Or.inr (Or.inl e)), out_snoc Hb.out hbb, HHl.out⟩ (HF3.out.join (H3.out.frM (fr_set _ M 3 _)))
  · rw [if_neg hn] at A1
    have HA1 := hide A1
    have HHm := hide Hm'
    have HHl := hide Hl
    have hni : ((n : Int) - 1 == 0) = false := beq_false_of_ne (by omega)
    have hnj : ¬ (n : Int) - 1 = 0 := by omega
    have hnk : ¬ (n : Int) = 1 := by omega
    clear A1 Hm' Hl
    go_wp2
    exact HQ.out.put _ _ HA1.out HHm.out ⟨_, _, _, _, f1, f2, _, H3.out, ⟨He.out, rfl, by omega, by omega, hd1, by have := Hd2.out; simp only [List.length_append, List.length_singleton]; omega, K13.out, K23.out⟩, HX3.out, out_snoc Hb.out hbb, HHl.out⟩ HF3.out

set_option maxHeartbeats 2000000 in
set_option maxRecDepth 100000 in
theorem finish_c (w : World) (lo R M B : Nat) (bs : List Nat) (p : Nat) (mst plc : Int) (lst : Bool) (lf bk : Int) (b1 b2 f1 f2 ov : Value) (out : List Nat) (h : Mo w lo R M B bs p mst plc lst lf bk b1 b2 f1 f2 ov out) :
    Calls Tryd.prog 43 #[.pointer (some ⟨M, 0, none⟩)] w fun e w' => e = .returned (.tuple #[]) ∧ Mf w' M out ((p + 7) / 8) 0 ∧ Fs M B w w' := by
  have q0 : w.cell? ⟨M, 0, none⟩ = some (.pointer (some ⟨B, 0, none⟩)) := cell_of h.obj rfl
  have q1 : w.cell? ⟨M, 1, none⟩ = some (.int .i64 (bs.length : Int)) := cell_of h.obj rfl
  obtain ⟨oa, oc, rfl⟩ := ownsRow_shape h.own
  have q11 : w.cell? ⟨M, 11, none⟩ = some (.slice oa out.length oc) := cell_of h.obj rfl
  have hl := h.rd.elen
  have hp := h.rd.epos
  have H := hide h
  obtain ⟨n, hn⟩ : ∃ n, n = bs.length := ⟨_, rfl⟩
  obtain ⟨u, hu⟩ : ∃ u, u = (p + 7) / 8 := ⟨_, rfl⟩
  rw [← hn] at q1
  obtain ⟨v, hv⟩ : ∃ v : Nat, (8 * (n : Int) - (p : Int)).tdiv 8 = (v : Int) := ⟨((8 * (n : Int) - (p : Int)) / 8).toNat, by rw [Int.tdiv_eq_ediv_of_nonneg (by omega)]; omega⟩
  have hui : (n : Int) - (v : Int) = (u : Int) := by
    rw [← hv, Int.tdiv_eq_ediv_of_nonneg (by omega)]
    omega
  have hvb : v ≤ 2147483648 := by
    rw [Int.tdiv_eq_ediv_of_nonneg (by omega)] at hv
    omega
  have hwv : IntKind.i64.wrap (v : Int) = (v : Int) := wrap_i64_id _ (by omega) (by omega)
  have hwu : IntKind.i64.wrap (u : Int) = (u : Int) := wrap_i64_id _ (by omega) (by omega)
  have Hu := hide hu
  have Hl := hide (low_left (w.drewN 1) lo R B bs p _ _ (H.out.rd.drewN 1))
  rw [← hn] at Hl
  clear h hn hl hp hu
  go_enter Tryd.func43, Tryd.ntmps43
  refine wp_region_L (S := fun w' => (w'.cell? ⟨M, 11, none⟩ = some (.slice oa out.length oc) ∧ w'.cell? ⟨M, 1, none⟩ = some (.int .i64 (n : Int))) ∧ w'.cell? ⟨M, 0, none⟩ = some (.pointer (some ⟨B, 0, none⟩))) 18 (by kernel_rfl) (by exact ⟨⟨q11, q1⟩, q0⟩) (fun hHeld => ?_)
  refine wpAnyL_take [17, 18] (i := 0) (v := ?v0) rfl (by kernel_rfl) (by kernel_rfl) (by kernel_rfl) (by kernel_rfl) (fun _ _ _ h => h) (Or.inl ⟨by rfl, ?hy0⟩) hHeld ?rest0
  case hy0 => (intro W hSw; (try dsimp only at hSw); obtain ⟨⟨s1, s2⟩, s3⟩ := hSw; go_simp; all_goals (with_reducible rfl))
  change wpAnyL _ _ _ _ _ _ _ _ (Act.put _ (some 2) _) _
  simp only [Act.put, List.setIfInBounds_toArray, List.set_cons_zero, List.set_cons_succ]
  refine wpAnyL_take [2, 3, 4, 16, 18] (i := 1) (v := ?v1) rfl (by kernel_rfl) (by kernel_rfl) (by kernel_rfl) (by kernel_rfl) (fun _ _ _ h => h) (Or.inl ⟨by rfl, ?hy1⟩) hHeld ?rest1
  case hy1 => (intro W hSw; (try dsimp only at hSw); obtain ⟨⟨s1, s2⟩, s3⟩ := hSw; go_simp; all_goals (with_reducible rfl))
  change wpAnyL _ _ _ _ _ _ _ _ (Act.put _ (some 3) _) _
  simp only [Act.put, List.setIfInBounds_toArray, List.set_cons_zero, List.set_cons_succ]
  refine wpAnyL_take [6, 7, 8, 15, 16, 18] (i := 5) (v := ?v5) rfl (by kernel_rfl) (by kernel_rfl) (by kernel_rfl) (by kernel_rfl) (fun _ _ _ h => h) (Or.inl ⟨by rfl, ?hy5⟩) hHeld ?rest5
  case hy5 => (intro W hSw; (try dsimp only at hSw); obtain ⟨⟨s1, s2⟩, s3⟩ := hSw; go_simp; all_goals (with_reducible rfl))
  change wpAnyL _ _ _ _ _ _ _ _ (Act.put _ (some 7) _) _
  simp only [Act.put, List.setIfInBounds_toArray, List.set_cons_zero, List.set_cons_succ]
  refine wpAnyL_take [10, 11, 12, 13, 14, 15, 16, 18] (i := 9) (v := ?v9) rfl (by kernel_rfl) (by kernel_rfl) (by kernel_rfl) (by kernel_rfl) (fun _ _ _ h => h) (Or.inl ⟨by rfl, ?hy9⟩) hHeld ?rest9
  case hy9 => (intro W hSw; (try dsimp only at hSw); obtain ⟨⟨s1, s2⟩, s3⟩ := hSw; go_simp; all_goals (with_reducible rfl))
  change wpAnyL _ _ _ _ _ _ _ _ (Act.put _ (some 11) _) _
  simp only [Act.put, List.setIfInBounds_toArray, List.set_cons_zero, List.set_cons_succ]
  refine wpAnyL_take [3, 4, 16, 18] (i := 2) (v := ?v2) rfl (by kernel_rfl) (by kernel_rfl) (by kernel_rfl) (by kernel_rfl) (fun _ _ _ h => h) (Or.inl ⟨by rfl, ?hy2⟩) hHeld ?rest2
  case hy2 => (intro W hSw; (try dsimp only at hSw); obtain ⟨⟨s1, s2⟩, s3⟩ := hSw; go_simp; all_goals (with_reducible rfl))
  change wpAnyL _ _ _ _ _ _ _ _ (Act.put _ (some 4) _) _
  simp only [Act.put, List.setIfInBounds_toArray, List.set_cons_zero, List.set_cons_succ]
  refine wpAnyL_take [7, 8, 15, 16, 18] (i := 6) (v := ?v6) rfl (by kernel_rfl) (by kernel_rfl) (by kernel_rfl) (by kernel_rfl) (fun _ _ _ h => h) (Or.inl ⟨by rfl, ?hy6⟩) hHeld ?rest6
  case hy6 => (intro W hSw; (try dsimp only at hSw); obtain ⟨⟨s1, s2⟩, s3⟩ := hSw; go_simp; all_goals (with_reducible rfl))
  change wpAnyL _ _ _ _ _ _ _ _ (Act.put _ (some 8) _) _
  simp only [Act.put, List.setIfInBounds_toArray, List.set_cons_zero, List.set_cons_succ]
  refine wpAnyL_take [11, 12, 13, 14, 15, 16, 18] (i := 10) (v := ?v10) rfl (by kernel_rfl) (by kernel_rfl) (by kernel_rfl) (by kernel_rfl) (fun _ _ _ h => h) (Or.inl ⟨by rfl, ?hy10⟩) hHeld ?rest10
  case hy10 => (intro W hSw; (try dsimp only at hSw); obtain ⟨⟨s1, s2⟩, s3⟩ := hSw; go_simp; all_goals (with_reducible rfl))
  change wpAnyL _ _ _ _ _ _ _ _ (Act.put _ (some 12) _) _
  simp only [Act.put, List.setIfInBounds_toArray, List.set_cons_zero, List.set_cons_succ]
  refine wpAnyL_take [4, 16, 18] (i := 3) (v := ?v3) rfl (by kernel_rfl) (by kernel_rfl) (by kernel_rfl) (by kernel_rfl) (fun _ _ _ h => h) (Or.inl ⟨by rfl, ?hy3⟩) hHeld ?rest3
  case hy3 => (intro W hSw; (try dsimp only at hSw); obtain ⟨⟨s1, s2⟩, s3⟩ := hSw; go_simp; all_goals (with_reducible rfl))
  change wpAnyL _ _ _ _ _ _ _ _ (Act.put _ (some 5) _) _
  simp only [Act.put, List.setIfInBounds_toArray, List.set_cons_zero, List.set_cons_succ]
  refine wpAnyL_take [8, 15, 16, 18] (i := 7) (v := ?v7) rfl (by kernel_rfl) (by kernel_rfl) (by kernel_rfl) (by kernel_rfl) (fun _ _ _ h => h) (Or.inl ⟨by rfl, ?hy7⟩) hHeld ?rest7
  case hy7 => (intro W hSw; (try dsimp only at hSw); obtain ⟨⟨s1, s2⟩, s3⟩ := hSw; go_simp; all_goals (with_reducible rfl))
  change wpAnyL _ _ _ _ _ _ _ _ (Act.put _ (some 9) _) _
  simp only [Act.put, List.setIfInBounds_toArray, List.set_cons_zero, List.set_cons_succ]
  refine wpAnyL_take [12, 13, 14, 15, 16, 18] (i := 11) (v := ?v11) rfl (by kernel_rfl) (by kernel_rfl) (by kernel_rfl) (by kernel_rfl) (fun _ _ _ h => h) (Or.inl ⟨by rfl, ?hy11⟩) hHeld ?rest11
  case hy11 => (intro W hSw; (try dsimp only at hSw); obtain ⟨⟨s1, s2⟩, s3⟩ := hSw; go_simp; all_goals (with_reducible rfl))
  change wpAnyL _ _ _ _ _ _ _ _ (Act.put _ (some 13) _) _
  simp only [Act.put, List.setIfInBounds_toArray, List.set_cons_zero, List.set_cons_succ]
  refine wpAnyL_take [16, 18] (i := 4) (v := ?v4) rfl (by kernel_rfl) (by kernel_rfl) (by kernel_rfl) (by kernel_rfl) (fun _ _ _ h => h) (Or.inl ⟨by rfl, ?hy4⟩) hHeld ?rest4
  case hy4 => (intro W hSw; (try dsimp only at hSw); obtain ⟨⟨s1, s2⟩, s3⟩ := hSw; go_simp; all_goals (with_reducible rfl))
  change wpAnyL _ _ _ _ _ _ _ _ (Act.put _ (some 6) _) _
  simp only [Act.put, List.setIfInBounds_toArray, List.set_cons_zero, List.set_cons_succ]
  refine wpAnyL_take [15, 16, 18] (i := 8) (v := ?v8) rfl (by kernel_rfl) (by kernel_rfl) (by kernel_rfl) (by kernel_rfl) (fun _ _ _ h => h) (Or.inl ⟨by rfl, ?hy8⟩) hHeld ?rest8
  case hy8 => (intro W hSw; (try dsimp only at hSw); obtain ⟨⟨s1, s2⟩, s3⟩ := hSw; go_simp; all_goals (with_reducible rfl))
  change wpAnyL _ _ _ _ _ _ _ _ (Act.put _ (some 10) _) _
  simp only [Act.put, List.setIfInBounds_toArray, List.set_cons_zero, List.set_cons_succ]
  refine wpAnyL_take [13, 14, 15, 16, 18] (i := 12) (v := ?v12) rfl (by kernel_rfl) (by kernel_rfl) (by kernel_rfl) (by kernel_rfl) (fun _ _ _ h => h) (Or.inl ⟨by rfl, ?hy12⟩) hHeld ?rest12
  case hy12 => (intro W hSw; (try dsimp only at hSw); obtain ⟨⟨s1, s2⟩, s3⟩ := hSw; go_simp; all_goals (with_reducible rfl))
  change wpAnyL _ _ _ _ _ _ _ _ (Act.put _ (some 14) _) _
  simp only [Act.put, List.setIfInBounds_toArray, List.set_cons_zero, List.set_cons_succ]
  refine wpAnyL_one (i := 13) (by kernel_rfl) rfl (fun K hK => ?_)
  try simp only [List.getElem_toArray, List.getElem_cons_succ, List.getElem_cons_zero]
  go_simp
  refine Hl.out.mono ?_
  rintro e w1 ⟨rfl, k, rfl⟩
  refine hK.out _ _ (fun _ => ⟨⟨q11, q1⟩, q0⟩) (fun hHeld0 => ?_)
  have hHeld := hHeld0 (by decide)
  clear hHeld0
  clear hK K
  refine wpAnyL_take [15, 16, 18] (i := 14) (v := ?v14) rfl (by kernel_rfl) (by kernel_rfl) (by kernel_rfl) (by kernel_rfl) (fun _ _ _ h => h) (Or.inl ⟨by rfl, ?hy14⟩) hHeld ?rest14
  case hy14 => (intro W hSw; (try dsimp only at hSw); obtain ⟨⟨s1, s2⟩, s3⟩ := hSw; go_simp; all_goals (with_reducible rfl))
  change wpAnyL _ _ _ _ _ _ _ _ (Act.put _ (some 16) _) _
  simp only [Act.put, List.setIfInBounds_toArray, List.set_cons_zero, List.set_cons_succ]
  refine wpAnyL_take [16, 18] (i := 15) (v := ?v15) rfl (by kernel_rfl) (by kernel_rfl) (by kernel_rfl) (by kernel_rfl) (fun _ _ _ h => h) (Or.inl ⟨by rfl, ?hy15⟩) hHeld ?rest15
  case hy15 => (intro W hSw; (try dsimp only at hSw); obtain ⟨⟨s1, s2⟩, s3⟩ := hSw; go_simp; all_goals (with_reducible rfl))
  change wpAnyL _ _ _ _ _ _ _ _ (Act.put _ (some 17) _) _
  simp only [Act.put, List.setIfInBounds_toArray, List.set_cons_zero, List.set_cons_succ]
  refine wpAnyL_take [18] (i := 16) (v := ?v16) rfl (by kernel_rfl) (by kernel_rfl) (by kernel_rfl) (by kernel_rfl) (fun _ _ _ h => h) (Or.inl ⟨by rfl, ?hy16⟩) hHeld ?rest16
  case hy16 => (intro W hSw; (try dsimp only at hSw); obtain ⟨⟨s1, s2⟩, s3⟩ := hSw; go_simp; all_goals (with_reducible rfl))
  change wpAnyL _ _ _ _ _ _ _ _ (Act.put _ (some 18) _) _
  simp only [Act.put, List.setIfInBounds_toArray, List.set_cons_zero, List.set_cons_succ]
  refine wpAnyL_take [18] (i := 17) (v := ?v17) rfl (by kernel_rfl) (by kernel_rfl) (by kernel_rfl) (by kernel_rfl) (fun _ _ _ h => h) (Or.inl ⟨by rfl, ?hy17⟩) hHeld ?rest17
  case hy17 => (intro W hSw; (try dsimp only at hSw); obtain ⟨⟨s1, s2⟩, s3⟩ := hSw; go_simp; all_goals (with_reducible rfl))
  change wpAnyL _ _ _ _ _ _ _ _ (Act.put _ (some 19) _) _
  simp only [Act.put, List.setIfInBounds_toArray, List.set_cons_zero, List.set_cons_succ]
  refine wpAnyL_one (i := 18) (by kernel_rfl) rfl (fun K hK => ?_)
  try simp only [List.getElem_toArray, List.getElem_cons_succ, List.getElem_cons_zero]
  rw [if_pos (by rfl)]
  refine wp_store_row 68 (.tmp 19) (.tmp 18) rfl M 68 _ _ rfl rfl H.out.obj (by kernel_rfl) rfl (by simp [Value.oneCell']) ?_
  refine hK.out _ _ (fun h => absurd rfl h) (fun _ => ?_)
  clear hK K
  refine wpAnyL_done (by kernel_rfl) ?_ _
  go_end0
  have hM := H.out.ltM
  have fr : Fr (fun k => k = M) w (((w.drewN 1).drewN k).setRow M #[.pointer none, .int .i64 0, .int .i64 0, .int .i64 0, .bool false, .int .i64 0, .int .i64 0, .pointer none, .pointer none, .pointer none, .pointer none, .slice oa out.length oc, .int .i64 (u : Int), .int .i64 0, .bool true]) :=
    ⟨rfl, rfl, rfl, by simp, fun j _ hj => setRow_other _ _ _ _ hj⟩
  refine ⟨rfl, ⟨_, by rw [← Hu.out]; exact setRow_heap ((w.drewN 1).drewN k) M _ _ 68 _ H.out.obj, ⟨R, ownsRow_fr H.out.own fun j hj => fr.block j (H.out.own.lt j hj).2 (H.out.oM j hj)⟩, H.out.oM⟩, H.out.frM fr ((cell_of (setRow_heap ((w.drewN 1).drewN k) M _ _ 68 _ H.out.obj) rfl).trans q11.symm)⟩
end Go.Proofs.YtleeaofofofgmaaDoor
