/-
  Deflate: part 7 of what its laws need: Rg Rh Lg Lh Nk.
-/
import Derived.Test.YtmefhngmgfmhoaaDoorQz6
import Derived.Test.YtmefhngmgfmhoaaDoorQz4
import Derived.Test.YtmefhngmgfmhoaaDoorTie
import Derived.ProofKit
import Derived.LaidMore
import Derived.OpenShut
import Derived.Stop.Joined
/-
  The document's own codes of a block.
-/
namespace Go.Proofs.YtmefhngmgfmhoaaDoor
open Go.RowKit

theorem make19 (W : World) : (Instr.makeSlice 34 (.int .i64 19) (.int .i64 19)).run Tryd.prog W = .ok (.slice (some ⟨W.heap.size, 0, none⟩) 19 19) (W.alloc (.cells (cellsZ zero19).toArray 3)) := by
  obtain ⟨i0, hi, hz0, hz1, hz2⟩ := info_parts Tryd.info3
  have := run_make (P := Tryd.prog) W 34 3 i0 (.int .i64 0) Tryd.underlying34 hi hz0 .i64 .i64 19 19 (by omega) (Int.le_refl _) (by rw [hz2]; omega) (by omega)
  rw [hz1] at this
  rw [this]
  have e2 : (cellsZ zero19).toArray = (List.replicate 19 (Value.int .i64 0)).toArray := by rw [cellsZ, zero19, List.map_replicate]
  have e : madeCells (Value.int .i64 0).cells (Int.toNat 19 * 1) = (cellsZ zero19).toArray := by
    rw [e2]
    apply Array.ext
    · rw [size_madeCells]; rfl
    · intro i h1 h2
      have h3 : i % 1 = 0 := by omega
      simp only [List.getElem_toArray, List.getElem_replicate]
      simp [madeCells, Value.cells, h3]
  rw [e]
  rfl

theorem own_short {V L p : Nat} (h : ¬ p + 14 ≤ L) : own V L p = .error 2 := by
  show andThen (tkn 5) _ V L p = _
  by_cases h5 : p + 5 ≤ L
  · rw [then_ok (tkn_ok h5)]
    by_cases h10 : p + 5 + 5 ≤ L
    · rw [then_ok (tkn_ok h10), then_err (tkn_err (by omega))]
    · rw [then_err (tkn_err h10)]
  · rw [then_err (tkn_err h5)]

/-- What the loop over code lengths holds at a round. -/
structure Al (w wr : World) (lo R : Nat) (sv : Value) (bs : List Nat) (X : Except Nat (List Int × Nat)) (cl : List Int) (n : Nat) (acc : List Int) (q : Nat) (a : Option Addr) (c k : Nat) : Prop where
  kk : k = acc.length
  z : Rz wr lo R sv bs q
  fr : Fr (fun k => k = R) w wr
  own : wr.ownsRow w.heap.size 3 1 (.slice a k c) k (cellsZ acc)
  le : acc.length ≤ n
  eq : ∃ f, n < acc.length + f ∧ X = lens cl n f acc (leNum bs) (8 * bs.length) q
  good : fine acc

theorem Al.next {w wr w' : World} {lo R : Nat} {sv : Value} {bs : List Nat} {X : Except Nat (List Int × Nat)} {cl : List Int} {n : Nat} {acc : List Int} {q : Nat} {a : Option Addr} {c k : Nat} (hw : R < w.heap.size) (h : Al w wr lo R sv bs X cl n acc q a c k) {q' : Nat} (hr : Rf w' R sv bs q' false) (hF : Fr (fun k => k = R) wr w') :
    Rz w' lo R sv bs q' ∧ Fr (fun k => k = R) w w' ∧ w'.ownsRow w.heap.size 3 1 (.slice a k c) k (cellsZ acc) :=
  ⟨h.z.next hr hF, h.fr.join hF, ownsRow_fr h.own fun j hj => hF.block j (h.own.lt j hj).2 (fun e => by have := (h.own.lt j hj).1; omega)⟩

theorem al_next {w wr w' : World} {lo R : Nat} {sv : Value} {bs : List Nat} {acc : List Int} {q : Nat} {a : Option Addr} {c k : Nat} (hw : R < w.heap.size) (hz : Rz wr lo R sv bs q) (hfr : Fr (fun k => k = R) w wr) (hown : wr.ownsRow w.heap.size 3 1 (.slice a k c) k (cellsZ acc)) {q' : Nat} (hr : Rf w' R sv bs q' false) (hF : Fr (fun k => k = R) wr w') :
    Rz w' lo R sv bs q' ∧ Fr (fun k => k = R) w w' ∧ w'.ownsRow w.heap.size 3 1 (.slice a k c) k (cellsZ acc) :=
  ⟨hz.next hr hF, hfr.join hF, ownsRow_fr hown fun j hj => hF.block j (hown.lt j hj).2 (fun e => by have := (hown.lt j hj).1; omega)⟩

/-- Behind an append of a length. -/
theorem al_append {w wr w3 : World} {lo R : Nat} {sv : Value} {bs : List Nat} {acc : List Int} {q : Nat} {a : Option Addr} {c k g cap : Nat} {v : Int} {o : Obj} (hw : R < w.heap.size) (hlo : lo ≤ w.heap.size) (hz : Rz wr lo R sv bs q) (hF : Fr (fun k => k = R) w wr) (hown : wr.ownsRow w.heap.size 3 1 (.slice a k c) k (cellsZ acc))
    (hown3 : w3.ownsRow w.heap.size 3 1 (.slice (some ⟨g, 0, none⟩) (k + 1) cap) (k + 1) (cellsZ acc ++ [.int .i64 v])) (hgrow : (wr.alloc o).grownBy w3 (Value.slice a k c).ownBlock) :
    Rz w3 lo R sv bs q ∧ Fr (fun k => k = R) w w3 ∧ w3.ownsRow w.heap.size 3 1 (.slice (some ⟨g, 0, none⟩) (k + 1) cap) (k + 1) (cellsZ (acc ++ [v])) := by
  have f1 : Fr (fun j => (Value.slice a k c).ownBlock = some j) (wr.alloc o) w3 := ⟨hgrow.os, hgrow.tape, hgrow.output, hgrow.size, fun k hk hn => hgrow.block k hk (fun e => hn e.symm)⟩
  have f2 : Fr (fun j => (Value.slice a k c).ownBlock = some j) wr w3 := ((Fr.of_alloc wr o).trans f1).mono fun k _ h => h.elim (fun x => x.elim) id
  refine ⟨hz.keep f2 (fun j hj => ?_), (hF.trans f2).mono fun j hj h => ?_, by rw [← cellsZ_snoc]; exact hown3⟩
  · have := (hown.lt j hj).1; omega
  · rcases h with h | h
    · exact h
    · have := (hown.lt j h).1; omega

set_option maxHeartbeats 4000000 in
set_option maxRecDepth 100000 in
theorem rdynamic_c (w : World) (lo R : Nat) (sv : Value) (bs : List Nat) (p : Nat) (h : Rz w lo R sv bs p) (Q : Ending → World → Prop)
    (hno : ∀ (er : Nat) w', er ≠ 0 → own (leNum bs) (8 * bs.length) p = .error er → Fr (fun k => k = R) w w' → Q (.returned (.tuple #[.pointer none, .pointer none, .int .i64 (er : Int)])) w')
    (hok : ∀ ll dl q A B l1 h1 l2 h2 w', own (leNum bs) (8 * bs.length) p = .ok ((ll, dl), q) → Rc w' l1 h1 A ll → Rc w' l2 h2 B dl → w.heap.size ≤ l1 → w.heap.size ≤ l2 → Rz w' lo R sv bs q → Fr (fun k => k = R) w w' → Q (.returned (.tuple #[.pointer (some ⟨A, 0, none⟩), .pointer (some ⟨B, 0, none⟩), .int .i64 0])) w') :
    Calls Tryd.prog 23 #[.pointer (some ⟨R, 0, none⟩)] w Q := by
  obtain ⟨i0, hi, hz0, hz1, hz2⟩ := info_parts Tryd.info3
  have hRw := h.lt
  have hlow := h.slo
  have hl := h.rf.elen
  have hmk := make19
  have H := hide h
  have Hno := hide hno
  have Hok := hide hok
  have E : Hid (own (leNum bs) (8 * bs.length) p = andThen (tkn 5) (fun a => andThen (tkn 5) fun b => andThen (tkn 4) fun c => ownB a b c) (leNum bs) (8 * bs.length) p) := rfl
  have hp0 := h.rf.epos
  clear h hno hok
  go_enter Tryd.func23, Tryd.ntmps23
  go_wp2_with fail
  refine (ref_left w R sv bs p false H.out.rf).mono ?_
  rintro e w1 ⟨rfl, k, rfl⟩
  have H1 := hide (H.out.keep (Fr.of_drewN w k) (fun _ h => h.elim))
  have F1 := hide (Fr.none (S := fun j => j = R) (w := w) k)
  generalize w.drewN k = w1 at *
  by_cases h14 : p + 14 ≤ 8 * bs.length
  · have q14 : ¬ 8 * (bs.length : Int) - (p : Int) < 14 := by omega
    go_wp2_with fail
    refine rtakes w1 lo R sv bs p 5 H1.out (by omega) _ ⟨?ok1, ?no1⟩
    case no1 => (intro w2 hx; rw [tkn_ok (by omega)] at hx; cases hx)
    intro a p1 w2 hx hr hF
    have hab : a < 32 := tkn_lt hx
    have hp1 := (tkn_inv hx).2.2
    have E1 := hide (E.out.trans (then_ok hx))
    have H2 := hide (H1.out.next hr hF)
    have F2 := hide (F1.out.join hF)
    clear hx hr hF
    go_wp2_with fail
    refine rtakes w2 lo R sv bs p1 5 H2.out (by omega) _ ⟨?ok2, ?no2⟩
    case no2 => (intro w3 hx; rw [tkn_ok (by omega)] at hx; cases hx)
    intro b p2 w3 hx hr hF
    have hbb : b < 32 := tkn_lt hx
    have hp2 := (tkn_inv hx).2.2
    have E2 := hide (E1.out.trans (then_ok hx))
    have H3 := hide (H2.out.next hr hF)
    have F3 := hide (F2.out.join hF)
    clear hx hr hF
    go_wp2_with fail
    refine rtakes w3 lo R sv bs p2 4 H3.out (by omega) _ ⟨?ok3, ?no3⟩
    case no3 => (intro w4 hx; rw [tkn_ok (by omega)] at hx; cases hx)
    intro c p3 w4 hx hr hF
    have hcb : c < 16 := tkn_lt hx
    have E3 := hide (E2.out.trans (then_ok hx))
    have H4 := hide (H3.out.next hr hF)
    have F4 := hide (F3.out.join hF)
    clear hx hr hF hp1 hp2
    obtain ⟨n1, hn1⟩ : ∃ n1, n1 = 257 + a := ⟨_, rfl⟩
    obtain ⟨n2, hn2⟩ : ∃ n2, n2 = 1 + b := ⟨_, rfl⟩
    obtain ⟨N, hN⟩ : ∃ N, N = 4 + c := ⟨_, rfl⟩
    have e1 : (a : Int) + 257 = (n1 : Int) := by omega
    have e2 : (b : Int) + 1 = (n2 : Int) := by omega
    have e3 : (c : Int) + 4 = (N : Int) := by omega
    have E4 := E3.out
    unfold ownB at E4
    rw [← hn1, ← hn2, ← hN] at E4
    by_cases hbad : 286 < n1 ∨ 30 < n2
    · rw [if_pos hbad] at E4
      have X := hide (Hno.out 4 w4 (by omega) E4 F4.out)
      clear E4 hn1 hn2 hN
      rcases (show 286 < n1 ∨ (n1 ≤ 286 ∧ 30 < n2) by omega) with hc | ⟨hc1, hc2⟩
      · have k1 : (286 : Int) < n1 := by omega
        go_wp2
        go_ret3
        exact X.out
      · have k1 : ¬ (286 : Int) < n1 := by omega
        have k2 : (30 : Int) < n2 := by omega
        go_wp2
        go_ret3
        exact X.out
    · rw [if_neg hbad] at E4
      have HE4 := hide E4
      have k1 : ¬ (286 : Int) < n1 := by omega
      have k2 : ¬ (30 : Int) < n2 := by omega
      have hn1b : 257 ≤ n1 ∧ n1 ≤ 286 := by omega
      have hn2b : 1 ≤ n2 ∧ n2 ≤ 30 := by omega
      have hNb : N ≤ 19 := by omega
      clear E4 hn1 hn2 hN hbad
      go_wp2
      obtain ⟨O, hO⟩ : ∃ O, O = w4.heap.size := ⟨_, rfl⟩
      obtain ⟨w5, hw5⟩ : ∃ w5, w5 = (w4.alloc (.cells #[.int .i64 16, .int .i64 17, .int .i64 18, .int .i64 0, .int .i64 8, .int .i64 7, .int .i64 9, .int .i64 6, .int .i64 10, .int .i64 5, .int .i64 11, .int .i64 4, .int .i64 12, .int .i64 3, .int .i64 13, .int .i64 2, .int .i64 14, .int .i64 1, .int .i64 15] 3)).alloc (.cells (cellsZ zero19).toArray 3) := ⟨_, rfl⟩
      have f5 : Fr (fun _ => False) w4 w5 := by rw [hw5]; exact (Fr.of_alloc _ _).join (Fr.of_alloc _ _)
      have g5 : w5.heap[O + 1]? = some (.cells (cellsZ zero19).toArray 3 (0, 0)) := by rw [hw5]; exact heap_alloc_at (by rw [size_alloc, hO])
      have o5 : w5.heap[O]? = some (.cells (cellsZ (order.map fun (n : Nat) => (n : Int))).toArray 3 (0, 0)) := by
        rw [hw5, (Fr.of_alloc (w4.alloc (.cells #[.int .i64 16, .int .i64 17, .int .i64 18, .int .i64 0, .int .i64 8, .int .i64 7, .int .i64 9, .int .i64 6, .int .i64 10, .int .i64 5, .int .i64 11, .int .i64 4, .int .i64 12, .int .i64 3, .int .i64 13, .int .i64 2, .int .i64 14, .int .i64 1, .int .i64 15] 3)) (.cells (cellsZ zero19).toArray 3)).block O (by rw [size_alloc]; omega) (fun h => h)]
        exact heap_alloc_at hO
      rw [← hw5, ← hO]
      have H5 := hide (H4.out.keep f5 (fun _ h => h.elim))
      have F5 := hide (F4.out.join (Fl0 f5))
      have hOw : w.heap.size ≤ O := by rw [hO]; exact F4.out.size
      obtain ⟨X, hX⟩ : ∃ X, X = told N 0 zero19 (leNum bs) (8 * bs.length) p3 := ⟨_, rfl⟩
      have HX := hide hX
      have Ho5 := hide o5
      have Hg5 := hide g5
      clear hw5 hO f5 g5 o5 hX
      obtain ⟨G, hG⟩ : ∃ G, G = O + 1 := ⟨_, rfl⟩
      rw [← hG] at Hg5 ⊢
      have hOG : O < G := by omega
      clear hG
      go_loopw [13, 14, 15] (fun iv _ _ wr => ∃ (i : Nat) (cl : List Int) (q : Nat), i ≤ N ∧ iv = .int .i64 (i : Int) ∧ Hid (Rz wr lo R sv bs q) ∧ Hid (Fr (fun k => k = R) w wr) ∧ Hid (wr.heap[G]? = some (.cells (cellsZ cl).toArray 3 (0, 0))) ∧ Hid (wr.heap[O]? = some (.cells (cellsZ (order.map fun (n : Nat) => (n : Int))).toArray 3 (0, 0))) ∧ Hid (cl.length = 19) ∧ Hid (fine cl) ∧ Hid (X = told (N - i) i cl (leNum bs) (8 * bs.length) q)) (fun iv _ _ _ => N - (intOf iv).toNat)
      case atStart => exact ⟨0, zero19, p3, Nat.zero_le _, rfl, H5.out, F5.out, Hg5.out, Ho5.out, rfl, fine_zero, HX.out⟩
      case round =>
        obtain ⟨i, cl, q, hi1, rfl, T1, T2, T3, T4, T5, T6, T7⟩ := hrel
        by_cases hlt : i < N
        · have hlti : (i : Int) < (N : Int) := by omega
          have hi19 : (i : Int) < 19 := by omega
          have E0 : Hid (X = andThen (tkn 3) (fun x => told (N - (i + 1)) (i + 1) (cl.set (order.getD i 0) (x : Int))) (leNum bs) (8 * bs.length) q) := by
            show X = _
            rw [T7.out, show N - i = (N - (i + 1)) + 1 by omega]
            rfl
          obtain ⟨j, hj⟩ : ∃ j, j = order.getD i 0 := ⟨_, rfl⟩
          have hj19 : j < 19 := by rw [hj]; exact order_lt i
          have hji : (j : Int) < 19 := by omega
          rw [← hj] at E0
          have qo : ∀ w', Fr (fun k => k = R) wr w' → w'.cell? ⟨O, i, none⟩ = some (.int .i64 (j : Int)) ∧ w'.heap[G]? = some (.cells (cellsZ cl).toArray 3 (0, 0)) := by
            intro w' hF
            refine ⟨cell_of (by rw [hF.block O (lt_of T4.out) (by omega)]; exact T4.out) ?_, by rw [hF.block G (lt_of T3.out) (by omega)]; exact T3.out⟩
            have hio : i < order.length := by show i < 19; omega
            rw [hj]
            simp [cellsZ, List.getD_eq_getElem?_getD, List.getElem?_eq_getElem hio]
          have Qo := hide qo
          clear hj qo
          go_wp2_with fail
          refine rtakes wr lo R sv bs q 3 T1.out (by omega) _ ⟨?ok4, ?no4⟩
          case no4 =>
            intro w6 hx hF
            have X2 := hide (Hno.out 2 w6 (by omega) (HE4.out.trans (then_err (HX.out.symm.trans (E0.out.trans (then_err hx))))) (T2.out.join hF))
            clear hx hF
            go_wp2
            go_ret3
            exact X2.out
          intro x q2 w6 hx hr hF
          have hxb : x < 8 := tkn_lt hx
          have E1' := hide (E0.out.trans (then_ok hx))
          have U1 := hide (T1.out.next hr hF)
          have U2 := hide (T2.out.join hF)
          obtain ⟨qO, hob⟩ := Qo.out w6 hF
          have hl19 := T5.out
          have cG : w6.cell? ⟨G, j, none⟩ = some (.int .i64 (at0 cl j)) := cell_of hob (by simp [cellsZ, at0, List.getElem?_eq_getElem (show j < cl.length by omega)])
          have zG := frozen_of (o := j) hob
          have Hob := hide hob
          have V4 : Hid (w6.heap[O]? = some (.cells (cellsZ (order.map fun (n : Nat) => (n : Int))).toArray 3 (0, 0))) := (hF.block O (lt_of T4.out) (by omega)).trans T4.out
          clear hx hr hF hob
          go_wp2
          go_roundw
          case rel =>
            have fs := fr_set w6 G j (.int .i64 (x : Int))
            refine ⟨i + 1, cl.set j (x : Int), q2, by omega, by go_num, U1.out.keep fs (fun k e => by omega), (U2.out.trans fs).mono fun k hk e => by omega, ?_, (fs.block O (lt_of V4.out) (by omega)).trans V4.out, ?_, fine_set T6.out (by omega), E1'.out⟩
            · show _ = _
              rw [heap_set _ Hob.out]
              simp [cellsZ, List.map_set]
            · show (cl.set j (x : Int)).length = 19
              simp [hl19]
          case measure => simp [intOf]; omega
        · have hlti : ¬ (i : Int) < (N : Int) := by omega
          have hie : i = N := by omega
          subst hie
          have E0 : Hid (told i 0 zero19 (leNum bs) (8 * bs.length) p3 = .ok (cl, q)) := by
            show _ = _
            rw [← HX.out, T7.out, Nat.sub_self]
            rfl
          have hl19 := T5.out
          have hLies : Hid (LiesI wr (some ⟨G, 0, none⟩) cl) := RowAt.lies T3.out
          clear hlt
          go_wp2_with fail
          refine calls_args (refNew_c (some ⟨G, 0, none⟩) 19 cl wr hLies.out (by omega) _ ?b1 ?n1 ?y1) (by rw [hl19])
          case b1 => (intro hb; exact absurd ⟨by omega, T6.out⟩ hb)
          case n1 =>
            intro _ hn w6 hF
            have X2 := hide (Hno.out 4 w6 (by omega) (HE4.out.trans ((then_ok E0.out).trans (by rw [if_neg hn]; rfl))) (T2.out.join (Fl0 hF)))
            clear hF
            go_wp2
            go_ret3
            exact X2.out
          intro _ hcok w6 CM hC hF
          have E5 := HE4.out.trans (then_ok E0.out)
          rw [if_pos hcok] at E5
          have HE5 := hide E5
          have hwz := T2.out.size
          have F6 := hide (T2.out.join (Fl0 hF))
          have A0 : Hid (Al w6 w6 lo R sv bs (lens cl (n1 + n2) (n1 + n2 + 1) [] (leNum bs) (8 * bs.length) q) cl (n1 + n2) [] q none 0 0) := ⟨rfl, T1.out.keep hF (fun _ h => h.elim), Fr.refl _ _, World.ownsRow_nil _ _ _ _, Nat.zero_le _, ⟨n1 + n2 + 1, by simp, rfl⟩, fun i hi => absurd hi (Nat.not_lt_zero _)⟩
          obtain ⟨Y, hY⟩ : ∃ Y, Y = lens cl (n1 + n2) (n1 + n2 + 1) [] (leNum bs) (8 * bs.length) q := ⟨_, rfl⟩
          have HY := hide hY
          rw [← hY] at A0
          have HC := hide hC
          obtain ⟨clo, hclo⟩ : ∃ clo, clo = wr.heap.size := ⟨_, rfl⟩
          rw [← hclo] at HC
          have hRc : R < clo := by have := T1.out.lt; omega
          have hwc : w.heap.size ≤ clo := by omega
          obtain ⟨nn, hnn⟩ : ∃ nn, nn = n1 + n2 := ⟨_, rfl⟩
          have hnni : (n1 : Int) + (n2 : Int) = (nn : Int) := by omega
          have hnb : nn ≤ 400 := by omega
          rw [← hnn] at A0
          have Hnn := hide hnn
          have hC6 := hC.esz
          clear E5 hC hF hY hnn hclo
          have hR6 : R < w6.heap.size := A0.out.z.lt
          have hlow6 : lo ≤ w6.heap.size := A0.out.z.slo
          have hw6 : w.heap.size ≤ w6.heap.size := F6.out.size
          go_wp2
          go_loopw [18, 19, 20, 21, 22, 23, 24, 25, 26] (fun v _ _ _ _ _ _ _ _ wr => ∃ (acc : List Int) (q : Nat) (a : Option Addr) (c k : Nat), v = .slice a k c ∧ Hid (Al w6 wr lo R sv bs Y cl nn acc q a c k)) (fun v _ _ _ _ _ _ _ _ _ => nn - lenOf v)
          case atStart => exact ⟨[], q, none, 0, 0, rfl, A0⟩
          case round =>
            obtain ⟨acc, q7, a, c, k, rfl, HA⟩ := hrel
            have Hk : Hid (k = acc.length) := HA.out.kk
            have hkn : k ≤ nn := by have := Hk.out; have := HA.out.le; omega
            obtain ⟨f, hf, hYf⟩ := HA.out.eq
            have Hgood := hide HA.out.good
            by_cases hlt : k < nn
            · have hlti : (k : Int) < (nn : Int) := by omega
              obtain ⟨f', rfl⟩ : ∃ f', f = f' + 1 := ⟨f - 1, by have := Hk.out; omega⟩
              have E6 : Hid (Y = andThen (tk cl) (fun s => andThen (rep s acc) fun vt => if nn < acc.length + vt.2 then bad 4 else lens cl nn f' (acc ++ List.replicate vt.2 vt.1)) (leNum bs) (8 * bs.length) q7) := by
                show Y = _
                rw [hYf]
                simp only [lens]
                rw [if_neg (by have := Hk.out; omega)]
              have Hf : Hid (nn < acc.length + (f' + 1)) := hf
              have Hc7 := hide (HC.out.keep HA.out.fr (fun j h1 h2 e => by omega))
              clear hf hYf
              go_wp2_with fail
              refine rwords wr lo R sv bs q7 HA.out.z CM clo _ cl Hc7.out (Or.inr hRc) _ ⟨?ok5, ?no5⟩
              case no5 =>
                intro er w7 hx hF
                have her : er ≠ 0 := (Ne0.tk cl).ne hx
                have hei : ((er : Int) == 0) = false := beq_false_of_ne (by omega)
                have hej : ¬ (er : Int) = 0 := by omega
                have X2 := hide (Hno.out er w7 her (HE5.out.trans (then_err (HY.out.symm.trans (E6.out.trans (then_err hx))))) (F6.out.join (HA.out.fr.join hF)))
                clear hx hF
                go_wp2
                go_ret3
                exact X2.out
              intro s q9 w7 hx hr hF
              have hs19 : s < 19 := by have := tk_lt hx (by omega); omega
              obtain ⟨B1', B2', B3'⟩ := HA.out.next hR6 hr hF
              have E7 := hide (E6.out.trans (then_ok hx))
              have B1 := hide B1'
              have B2 := hide B2'
              have B3 := hide B3'
              clear hx hr hF B1' B2' B3' HA E6 Hc7
              by_cases h16 : s < 16
              · have h16i : (s : Int) < 16 := by omega
                have E8 : Hid (Y = lens cl nn f' (acc ++ List.replicate 1 (s : Int)) (leNum bs) (8 * bs.length) q9) := by
                  show _ = _
                  rw [E7.out]
                  unfold rep
                  rw [if_neg (by omega), if_neg (by omega), if_neg (by omega)]
                  show (if nn < acc.length + 1 then bad 4 else lens cl nn f' (acc ++ List.replicate 1 (s : Int))) (leNum bs) (8 * bs.length) q9 = _
                  rw [if_neg (by have := Hk.out; omega)]
                have hsz := B2.out.size
                go_wp2_with (at_builtin; go_must (refine wpList_append_lies _ rfl _ _ 34 rfl w6.heap.size 3 i0 (.int .i64 0) 1 8 Tryd.underlying34 hi hz0 hz1 hz2 rfl (by decide) (.slice a k c) k (cellsZ acc) rfl (B3.out.alloc _) ⟨w7.heap.size, 0, none⟩ 1 1 [.int .i64 (s : Int)] rfl rfl (cell_one_new _ _ _) (fun x hx => by simp at hx; subst hx; rfl) (by decide) (by unfold maxLen; omega) (by omega) (by simp; omega) (w7.heap.size + 1) (by simp) ?_); intro g cap w9 hown9 hgrow hat hlt9)
                obtain ⟨J1, J2, J3⟩ := al_append hR6 hlow6 B1.out B2.out B3.out hown9 hgrow
                have A2 : Hid (Al w6 w9 lo R sv bs Y cl nn (acc ++ [(s : Int)]) q9 (some ⟨g, 0, none⟩) cap (k + 1)) := by
                  have e1 := Hk.out
                  refine ⟨by simp; omega, J1, J2, J3, by simp; omega, ⟨f', by have := Hf.out; simp; omega, E8.out⟩, fine_rep 1 Hgood.out (by omega)⟩
                clear J1 J2 J3 hown9 hgrow hat hlt9
                go_roundw
                case rel => exact ⟨_, q9, some ⟨g, 0, none⟩, cap, k + 1, rfl, A2⟩
                case measure => simp [lenOf]; omega
              · have h16i : ¬ (s : Int) < 16 := by omega
                rcases (by omega : s = 16 ∨ s = 17 ∨ s = 18) with rfl | rfl | rfl
                · by_cases hk0 : k = 0
                  · subst hk0
                    have hacc : acc.length = 0 := Hk.out.symm
                    have E8 : Hid (Y = andThen (andThen (tkn 2) fun x => if acc.length = 0 then bad 4 else ret (at0 acc (acc.length - 1), 3 + x)) (fun vt => if nn < acc.length + vt.2 then bad 4 else lens cl nn f' (acc ++ List.replicate vt.2 vt.1)) (leNum bs) (8 * bs.length) q9) := E7.out
                    go_wp2_with fail
                    refine rtakes w7 lo R sv bs q9 2 B1.out (by omega) _ ⟨?ok6, ?no6⟩
                    case no6 =>
                      intro w8 hx hF
                      have X2 := hide (Hno.out 2 w8 (by omega) (HE5.out.trans (then_err (HY.out.symm.trans (E8.out.trans (then_err (then_err hx)))))) (F6.out.join (B2.out.join hF)))
                      clear hx hF
                      go_wp2
                      go_ret3
                      exact X2.out
                    intro x q8 w8 hx hr hF
                    have E9 : Y = .error 4 := by
                      rw [E8.out]
                      simp only [andThen, hx]
                      rw [if_pos hacc]
                      rfl
                    have X2 := hide (Hno.out 4 w8 (by omega) (HE5.out.trans (then_err (HY.out.symm.trans E9))) (F6.out.join (B2.out.join hF)))
                    clear hx hr hF E9
                    go_wp2
                    go_ret3
                    exact X2.out
                  · have hacc : ¬ acc.length = 0 := by have := Hk.out; omega
                    obtain ⟨v, hv⟩ : ∃ v, v = at0 acc (acc.length - 1) := ⟨_, rfl⟩
                    have hvr : 0 ≤ v ∧ v ≤ 15 := by rw [hv]; exact Hgood.out _ (by omega)
                    have E8 : Hid (Y = andThen (andThen (tkn 2) fun x => if acc.length = 0 then bad 4 else ret (v, 3 + x)) (fun vt => if nn < acc.length + vt.2 then bad 4 else lens cl nn f' (acc ++ List.replicate vt.2 vt.1)) (leNum bs) (8 * bs.length) q9) := by rw [hv]; exact E7.out
                    have E8' : Hid (Y = andThen (andThen (tkn 2) fun x => ret (v, 3 + x)) (fun vt => if nn < acc.length + vt.2 then bad 4 else lens cl nn f' (acc ++ List.replicate vt.2 vt.1)) (leNum bs) (8 * bs.length) q9) := by
                      show _ = _
                      rw [E8.out]
                      simp only [if_neg hacc]
                    clear E8
                    obtain ⟨E8, _⟩ : ∃ e : Hid (Y = andThen (andThen (tkn 2) fun x => ret (v, 3 + x)) (fun vt => if nn < acc.length + vt.2 then bad 4 else lens cl nn f' (acc ++ List.replicate vt.2 vt.1)) (leNum bs) (8 * bs.length) q9), True := ⟨E8', trivial⟩
                    obtain ⟨m, hm⟩ : ∃ m, k = m + 1 := ⟨k - 1, by omega⟩
                    obtain ⟨ad, rfl, hcell⟩ : ∃ ad, a = some ad ∧ w7.cell? (ad.add m) = some (.int .i64 v) := by
                      obtain ⟨ad, e1, e2⟩ := own_lies B3.out (acc.length - 1) (by omega)
                      refine ⟨ad, e1, ?_⟩
                      have hk1 := Hk.out
                      rw [show m = acc.length - 1 by omega, hv]
                      exact e2
                    have hk0i : (0 : Int) < (k : Int) := by omega
                    have hk0j : ((k : Int) == 0) = false := beq_false_of_ne (by omega)
                    have hk0l : ¬ (k : Int) = 0 := by omega
                    have hkm : (k : Int) - 1 = (m : Int) := by omega
                    have hmk : (m : Int) < (k : Int) := by omega
                    clear hv hm E8'
                    go_wp2_with fail
                    refine rtakes w7 lo R sv bs q9 2 B1.out (by omega) _ ⟨?ok7, ?no7⟩
                    case no7 =>
                      intro w8 hx hF
                      have X2 := hide (Hno.out 2 w8 (by omega) (HE5.out.trans (then_err (HY.out.symm.trans (E8.out.trans (then_err (then_err hx)))))) (F6.out.join (B2.out.join hF)))
                      clear hx hF
                      go_wp2
                      go_ret3
                      exact X2.out
                    intro x q8 w8 hx hr hF
                    have hxb : x < 4 := tkn_lt hx
                    obtain ⟨D1, D2, D3⟩ := al_next hR6 B1.out B2.out B3.out hr hF
                    have E9 : Hid (Y = (if nn < acc.length + (3 + x) then bad 4 else lens cl nn f' (acc ++ List.replicate (3 + x) v)) (leNum bs) (8 * bs.length) q8) := by
                      show _ = _
                      rw [E8.out]
                      simp only [andThen, hx]
                      rfl
                    have C1 := hide D1
                    have C2 := hide D2
                    have C3 := hide D3
                    clear hx hr hF D1 D2 D3
                    obtain ⟨t, ht⟩ : ∃ t, t = 3 + x := ⟨_, rfl⟩
                    have hti : (3 : Int) + (x : Int) = (t : Int) := by omega
                    have htb : 1 ≤ t ∧ t ≤ 200 := by omega
                    rw [← ht] at E9
                    have hsum : (k : Int) + 3 + (x : Int) = (k : Int) + (t : Int) := by omega
                    clear ht
                    by_cases hbig : nn < k + t
                    · have hbi : (nn : Int) < (k : Int) + (t : Int) := by omega
                      have hbj : (nn : Int) < (k : Int) + 3 + (x : Int) := by omega
                      have EA := E9.out
                      rw [if_pos (by rw [← Hk.out]; exact hbig)] at EA
                      have X2 := hide (Hno.out 4 w8 (by omega) (HE5.out.trans (then_err (HY.out.symm.trans EA))) (F6.out.join C2.out))
                      clear EA
                      go_wp2
                      go_ret3
                      exact X2.out
                    · have hbi : ¬ (nn : Int) < (k : Int) + (t : Int) := by omega
                      have hbj : ¬ (nn : Int) < (k : Int) + 3 + (x : Int) := by omega
                      have EA := E9.out
                      rw [if_neg (by rw [← Hk.out]; exact hbig)] at EA
                      have HEA := hide EA
                      clear EA
                      go_wp2
                      go_loopw [18, 26] (fun lv iv wq => ∃ (i : Nat) (a' : Option Addr) (c' k' : Nat), i ≤ t ∧ iv = .int .i64 (i : Int) ∧ lv = .slice a' k' c' ∧ Hid (k' = k + i) ∧ Hid (Rz wq lo R sv bs q8) ∧ Hid (Fr (fun k => k = R) w6 wq) ∧ Hid (wq.ownsRow w6.heap.size 3 1 (.slice a' k' c') k' (cellsZ (acc ++ List.replicate i v)))) (fun _ iv _ => t - (intOf iv).toNat)
                      case atStart => exact ⟨0, some ad, c, k, Nat.zero_le _, rfl, rfl, rfl, C1.out, C2.out, hide (by simpa using C3.out)⟩
                      case round =>
                        obtain ⟨i, a', c', k', hi1, rfl, rfl, I0, I1, I2, I3⟩ := hrel
                        have hk' : k' ≤ 800 := by have := I0.out; omega
                        by_cases hlt : i < t
                        · have hlti : (i : Int) < (t : Int) := by omega
                          have hltj : (i : Int) < 3 + (x : Int) := by omega
                          have hsz := I2.out.size
                          go_wp2_with (at_builtin; go_must (refine wpList_append_lies _ rfl _ _ 34 rfl w6.heap.size 3 i0 (.int .i64 0) 1 8 Tryd.underlying34 hi hz0 hz1 hz2 rfl (by decide) (.slice a' k' c') k' (cellsZ (acc ++ List.replicate i v)) rfl (I3.out.alloc _) ⟨wr.heap.size, 0, none⟩ 1 1 [.int .i64 v] rfl rfl (cell_one_new _ _ _) (fun x hx => by simp at hx; subst hx; rfl) (by decide) (by unfold maxLen; omega) (by omega) (by simp; omega) (wr.heap.size + 1) (by simp) ?_); intro g cap w9 hown9 hgrow hat hlt9)
                          obtain ⟨J1, J2, J3⟩ := al_append hR6 hlow6 I1.out I2.out I3.out hown9 hgrow
                          rw [rep_snoc] at J3
                          have K1 := hide J1
                          have K2 := hide J2
                          have K3 := hide J3
                          clear J1 J2 J3 hown9 hgrow hat hlt9
                          go_roundw
                          case rel => exact ⟨i + 1, some ⟨g, 0, none⟩, cap, k' + 1, by omega, by go_num, rfl, (by have := I0.out; show k' + 1 = k + (i + 1); omega), K1.out, K2.out, K3.out⟩
                          case measure => simp [intOf]; omega
                        · have hlti : ¬ (i : Int) < (t : Int) := by omega
                          have hltj : ¬ (i : Int) < 3 + (x : Int) := by omega
                          have hie : i = t := by omega
                          subst hie
                          have A2 : Hid (Al w6 wr lo R sv bs Y cl nn (acc ++ List.replicate i v) q8 a' c' k') := by
                            have e0 := I0.out
                            have e1 := Hk.out
                            refine ⟨by simp; omega, I1.out, I2.out, I3.out, by simp; omega, ⟨f', by have := Hf.out; simp; omega, HEA.out⟩, fine_rep i Hgood.out hvr⟩
                          go_wp2
                          go_roundw
                          case rel => exact ⟨_, q8, a', c', k', rfl, A2⟩
                          case measure => have := I0.out; simp [lenOf]; omega
                · have E8 : Hid (Y = andThen (andThen (tkn 3) fun x => ret ((0 : Int), 3 + x)) (fun vt => if nn < acc.length + vt.2 then bad 4 else lens cl nn f' (acc ++ List.replicate vt.2 vt.1)) (leNum bs) (8 * bs.length) q9) := E7.out
                  go_wp2_with fail
                  refine rtakes w7 lo R sv bs q9 3 B1.out (by omega) _ ⟨?ok8, ?no8⟩
                  case no8 =>
                    intro w8 hx hF
                    have X2 := hide (Hno.out 2 w8 (by omega) (HE5.out.trans (then_err (HY.out.symm.trans (E8.out.trans (then_err (then_err hx)))))) (F6.out.join (B2.out.join hF)))
                    clear hx hF
                    go_wp2
                    go_ret3
                    exact X2.out
                  intro x q8 w8 hx hr hF
                  have hxb : x < 8 := tkn_lt hx
                  obtain ⟨D1, D2, D3⟩ := al_next hR6 B1.out B2.out B3.out hr hF
                  have E9 : Hid (Y = (if nn < acc.length + (3 + x) then bad 4 else lens cl nn f' (acc ++ List.replicate (3 + x) (0 : Int))) (leNum bs) (8 * bs.length) q8) := by
                    show _ = _
                    rw [E8.out]
                    simp only [andThen, hx]
                    rfl
                  have C1 := hide D1
                  have C2 := hide D2
                  have C3 := hide D3
                  clear hx hr hF D1 D2 D3
                  obtain ⟨t, ht⟩ : ∃ t, t = 3 + x := ⟨_, rfl⟩
                  have hti : (3 : Int) + (x : Int) = (t : Int) := by omega
                  have htb : 1 ≤ t ∧ t ≤ 200 := by omega
                  rw [← ht] at E9
                  have hsum : (k : Int) + 3 + (x : Int) = (k : Int) + (t : Int) := by omega
                  clear ht
                  by_cases hbig : nn < k + t
                  · have hbi : (nn : Int) < (k : Int) + (t : Int) := by omega
                    have hbj : (nn : Int) < (k : Int) + 3 + (x : Int) := by omega
                    have EA := E9.out
                    rw [if_pos (by rw [← Hk.out]; exact hbig)] at EA
                    have X2 := hide (Hno.out 4 w8 (by omega) (HE5.out.trans (then_err (HY.out.symm.trans EA))) (F6.out.join C2.out))
                    clear EA
                    go_wp2
                    go_ret3
                    exact X2.out
                  · have hbi : ¬ (nn : Int) < (k : Int) + (t : Int) := by omega
                    have hbj : ¬ (nn : Int) < (k : Int) + 3 + (x : Int) := by omega
                    have EA := E9.out
                    rw [if_neg (by rw [← Hk.out]; exact hbig)] at EA
                    have HEA := hide EA
                    clear EA
                    go_wp2
                    go_loopw [18, 26] (fun lv iv wq => ∃ (i : Nat) (a' : Option Addr) (c' k' : Nat), i ≤ t ∧ iv = .int .i64 (i : Int) ∧ lv = .slice a' k' c' ∧ Hid (k' = k + i) ∧ Hid (Rz wq lo R sv bs q8) ∧ Hid (Fr (fun k => k = R) w6 wq) ∧ Hid (wq.ownsRow w6.heap.size 3 1 (.slice a' k' c') k' (cellsZ (acc ++ List.replicate i (0 : Int))))) (fun _ iv _ => t - (intOf iv).toNat)
                    case atStart => exact ⟨0, a, c, k, Nat.zero_le _, rfl, rfl, rfl, C1.out, C2.out, hide (by simpa using C3.out)⟩
                    case round =>
                      obtain ⟨i, a', c', k', hi1, rfl, rfl, I0, I1, I2, I3⟩ := hrel
                      have hk' : k' ≤ 800 := by have := I0.out; omega
                      by_cases hlt : i < t
                      · have hlti : (i : Int) < (t : Int) := by omega
                        have hltj : (i : Int) < 3 + (x : Int) := by omega
                        have hsz := I2.out.size
                        go_wp2_with (at_builtin; go_must (refine wpList_append_lies _ rfl _ _ 34 rfl w6.heap.size 3 i0 (.int .i64 0) 1 8 Tryd.underlying34 hi hz0 hz1 hz2 rfl (by decide) (.slice a' k' c') k' (cellsZ (acc ++ List.replicate i (0 : Int))) rfl (I3.out.alloc _) ⟨wr.heap.size, 0, none⟩ 1 1 [.int .i64 (0 : Int)] rfl rfl (cell_one_new _ _ _) (fun x hx => by simp at hx; subst hx; rfl) (by decide) (by unfold maxLen; omega) (by omega) (by simp; omega) (wr.heap.size + 1) (by simp) ?_); intro g cap w9 hown9 hgrow hat hlt9)
                        obtain ⟨J1, J2, J3⟩ := al_append hR6 hlow6 I1.out I2.out I3.out hown9 hgrow
                        rw [rep_snoc] at J3
                        have K1 := hide J1
                        have K2 := hide J2
                        have K3 := hide J3
                        clear J1 J2 J3 hown9 hgrow hat hlt9
                        go_roundw
                        case rel => exact ⟨i + 1, some ⟨g, 0, none⟩, cap, k' + 1, by omega, by go_num, rfl, (by have := I0.out; show k' + 1 = k + (i + 1); omega), K1.out, K2.out, K3.out⟩
                        case measure => simp [intOf]; omega
                      · have hlti : ¬ (i : Int) < (t : Int) := by omega
                        have hltj : ¬ (i : Int) < 3 + (x : Int) := by omega
                        have hie : i = t := by omega
                        subst hie
                        have A2 : Hid (Al w6 wr lo R sv bs Y cl nn (acc ++ List.replicate i (0 : Int)) q8 a' c' k') := by
                          have e0 := I0.out
                          have e1 := Hk.out
                          refine ⟨by simp; omega, I1.out, I2.out, I3.out, by simp; omega, ⟨f', by have := Hf.out; simp; omega, HEA.out⟩, fine_rep i Hgood.out (by omega)⟩
                        go_wp2
                        go_roundw
                        case rel => exact ⟨_, q8, a', c', k', rfl, A2⟩
                        case measure => have := I0.out; simp [lenOf]; omega
                · have E8 : Hid (Y = andThen (andThen (tkn 7) fun x => ret ((0 : Int), 11 + x)) (fun vt => if nn < acc.length + vt.2 then bad 4 else lens cl nn f' (acc ++ List.replicate vt.2 vt.1)) (leNum bs) (8 * bs.length) q9) := E7.out
                  go_wp2_with fail
                  refine rtakes w7 lo R sv bs q9 7 B1.out (by omega) _ ⟨?ok9, ?no9⟩
                  case no9 =>
                    intro w8 hx hF
                    have X2 := hide (Hno.out 2 w8 (by omega) (HE5.out.trans (then_err (HY.out.symm.trans (E8.out.trans (then_err (then_err hx)))))) (F6.out.join (B2.out.join hF)))
                    clear hx hF
                    go_wp2
                    go_ret3
                    exact X2.out
                  intro x q8 w8 hx hr hF
                  have hxb : x < 128 := tkn_lt hx
                  obtain ⟨D1, D2, D3⟩ := al_next hR6 B1.out B2.out B3.out hr hF
                  have E9 : Hid (Y = (if nn < acc.length + (11 + x) then bad 4 else lens cl nn f' (acc ++ List.replicate (11 + x) (0 : Int))) (leNum bs) (8 * bs.length) q8) := by
                    show _ = _
                    rw [E8.out]
                    simp only [andThen, hx]
                    rfl
                  have C1 := hide D1
                  have C2 := hide D2
                  have C3 := hide D3
                  clear hx hr hF D1 D2 D3
                  obtain ⟨t, ht⟩ : ∃ t, t = 11 + x := ⟨_, rfl⟩
                  have hti : (11 : Int) + (x : Int) = (t : Int) := by omega
                  have htb : 1 ≤ t ∧ t ≤ 200 := by omega
                  rw [← ht] at E9
                  have hsum : (k : Int) + 11 + (x : Int) = (k : Int) + (t : Int) := by omega
                  clear ht
                  by_cases hbig : nn < k + t
                  · have hbi : (nn : Int) < (k : Int) + (t : Int) := by omega
                    have hbj : (nn : Int) < (k : Int) + 11 + (x : Int) := by omega
                    have EA := E9.out
                    rw [if_pos (by rw [← Hk.out]; exact hbig)] at EA
                    have X2 := hide (Hno.out 4 w8 (by omega) (HE5.out.trans (then_err (HY.out.symm.trans EA))) (F6.out.join C2.out))
                    clear EA
                    go_wp2
                    go_ret3
                    exact X2.out
                  · have hbi : ¬ (nn : Int) < (k : Int) + (t : Int) := by omega
                    have hbj : ¬ (nn : Int) < (k : Int) + 11 + (x : Int) := by omega
                    have EA := E9.out
                    rw [if_neg (by rw [← Hk.out]; exact hbig)] at EA
                    have HEA := hide EA
                    clear EA
                    go_wp2
                    go_loopw [18, 26] (fun lv iv wq => ∃ (i : Nat) (a' : Option Addr) (c' k' : Nat), i ≤ t ∧ iv = .int .i64 (i : Int) ∧ lv = .slice a' k' c' ∧ Hid (k' = k + i) ∧ Hid (Rz wq lo R sv bs q8) ∧ Hid (Fr (fun k => k = R) w6 wq) ∧ Hid (wq.ownsRow w6.heap.size 3 1 (.slice a' k' c') k' (cellsZ (acc ++ List.replicate i (0 : Int))))) (fun _ iv _ => t - (intOf iv).toNat)
                    case atStart => exact ⟨0, a, c, k, Nat.zero_le _, rfl, rfl, rfl, C1.out, C2.out, hide (by simpa using C3.out)⟩
                    case round =>
                      obtain ⟨i, a', c', k', hi1, rfl, rfl, I0, I1, I2, I3⟩ := hrel
                      have hk' : k' ≤ 800 := by have := I0.out; omega
                      by_cases hlt : i < t
                      · have hlti : (i : Int) < (t : Int) := by omega
                        have hltj : (i : Int) < 11 + (x : Int) := by omega
                        have hsz := I2.out.size
                        go_wp2_with (at_builtin; go_must (refine wpList_append_lies _ rfl _ _ 34 rfl w6.heap.size 3 i0 (.int .i64 0) 1 8 Tryd.underlying34 hi hz0 hz1 hz2 rfl (by decide) (.slice a' k' c') k' (cellsZ (acc ++ List.replicate i (0 : Int))) rfl (I3.out.alloc _) ⟨wr.heap.size, 0, none⟩ 1 1 [.int .i64 (0 : Int)] rfl rfl (cell_one_new _ _ _) (fun x hx => by simp at hx; subst hx; rfl) (by decide) (by unfold maxLen; omega) (by omega) (by simp; omega) (wr.heap.size + 1) (by simp) ?_); intro g cap w9 hown9 hgrow hat hlt9)
                        obtain ⟨J1, J2, J3⟩ := al_append hR6 hlow6 I1.out I2.out I3.out hown9 hgrow
                        rw [rep_snoc] at J3
                        have K1 := hide J1
                        have K2 := hide J2
                        have K3 := hide J3
                        clear J1 J2 J3 hown9 hgrow hat hlt9
                        go_roundw
                        case rel => exact ⟨i + 1, some ⟨g, 0, none⟩, cap, k' + 1, by omega, by go_num, rfl, (by have := I0.out; show k' + 1 = k + (i + 1); omega), K1.out, K2.out, K3.out⟩
                        case measure => simp [intOf]; omega
                      · have hlti : ¬ (i : Int) < (t : Int) := by omega
                        have hltj : ¬ (i : Int) < 11 + (x : Int) := by omega
                        have hie : i = t := by omega
                        subst hie
                        have A2 : Hid (Al w6 wr lo R sv bs Y cl nn (acc ++ List.replicate i (0 : Int)) q8 a' c' k') := by
                          have e0 := I0.out
                          have e1 := Hk.out
                          refine ⟨by simp; omega, I1.out, I2.out, I3.out, by simp; omega, ⟨f', by have := Hf.out; simp; omega, HEA.out⟩, fine_rep i Hgood.out (by omega)⟩
                        go_wp2
                        go_roundw
                        case rel => exact ⟨_, q8, a', c', k', rfl, A2⟩
                        case measure => have := I0.out; simp [lenOf]; omega
            · have hlti : ¬ (k : Int) < (nn : Int) := by omega
              have hke : k = nn := by omega
              have Hll : Hid (acc.length = nn) := by
                have := Hk.out
                show acc.length = nn
                omega
              have EY : Y = .ok (acc, q7) := by
                obtain ⟨f', rfl⟩ : ∃ f', f = f' + 1 := ⟨f - 1, by have := Hll.out; omega⟩
                rw [hYf]
                simp only [lens]
                rw [if_pos (by have := Hll.out; omega)]
                rfl
              have E6 := hide (HE5.out.trans (then_ok (HY.out.symm.trans EY)))
              have HL0 : Hid (LiesI wr a acc) := own_lies HA.out.own
              obtain ⟨g, hag, hcap⟩ : ∃ g, a = some ⟨g, 0, none⟩ ∧ k ≤ c := by
                have h := HA.out.own
                rcases h.2 with ⟨hv, e0⟩ | ⟨g, cap, cur, hv, hg, hh, hr⟩
                · have h1 := h.1
                  have := Hll.out
                  simp [cellsZ] at h1
                  exfalso
                  cases hv
                  omega
                · cases hv
                  have h1 := h.1
                  exact ⟨g, rfl, hr.1⟩
              subst hag
              have hl256 : wr.cell? ⟨g, 256, none⟩ = some (.int .i64 (at0 acc 256)) := by
                obtain ⟨ad, e, hc⟩ := HL0.out 256 (by have := Hll.out; have := Hnn.out; omega)
                cases e
                rw [add_none, Nat.zero_add] at hc
                exact hc
              have hk256 : (256 : Int) < (k : Int) := by have := Hnn.out; omega
              have hn1c : (n1 : Int) ≤ (c : Int) := by have := Hnn.out; omega
              have hn1k : (n1 : Int) ≤ (k : Int) := by have := Hnn.out; omega
              have hkc : (k : Int) ≤ (c : Int) := by omega
              have F7 := hide (F6.out.join HA.out.fr)
              have HZ := hide HA.out.z
              have hs7 := HA.out.fr.size
              clear EY hf hYf
              by_cases hz : at0 acc 256 = 0
              · have X2 := hide (Hno.out 4 wr (by omega) (E6.out.trans (by rw [if_neg (fun h => h.2.2 hz)]; rfl)) F7.out)
                rw [hz] at hl256
                clear hz
                go_wp2
                go_ret3
                exact X2.out
              · obtain ⟨z, hzz⟩ : ∃ z, z = at0 acc 256 := ⟨_, rfl⟩
                have Hz := hide hz
                rw [← hzz] at hl256 hz
                have hzi : (z == 0) = false := beq_false_of_ne hz
                clear hzz
                have ek1 : (acc.take n1).length = n1 := len_take (by have := Hll.out; have := Hnn.out; omega)
                have ek2 : (acc.drop n1).length = nn - n1 := by have := Hll.out; simp; omega
                have Ek1 := hide ek1
                have Ek2 := hide ek2
                clear ek1 ek2
                go_wp2_with fail
                refine calls_args (refNew_c (some ⟨g, 0, none⟩) c (acc.take n1) wr (lies_take n1 HL0.out) (by rw [Ek1.out]; omega) _ ?b3 ?n3 ?y3) (by rw [Ek1.out])
                case b3 => (intro hb; exact absurd (good_take Hgood.out (by omega)) hb)
                case n3 =>
                  intro _ hn w7 hF
                  have HL7 := hide (HL0.out.fr hF)
                  have F8 := hide (F7.out.join (Fl0 hF))
                  clear hF
                  go_wp2_with fail
                  refine calls_args (refNew_c (some ⟨g, n1, none⟩) (c - n1) (acc.drop n1) w7 (lies_drop n1 HL7.out) (by rw [Ek2.out]; omega) _ ?b4 ?n4 ?y4) (by rw [Ek2.out]; try rfl)
                  case b4 => (intro hb; exact absurd (good_drop Hgood.out (by have := Hll.out; omega)) hb)
                  case n4 =>
                    intro _ hn2 w8 hF
                    have X2 := hide (Hno.out 4 w8 (by omega) (E6.out.trans (by rw [if_neg (fun h => hn h.1)]; rfl)) (F8.out.join (Fl0 hF)))
                    clear hF
                    go_wp2
                    go_ret3
                    exact X2.out
                  case y4 =>
                    intro _ hn2 w8 B _ hF
                    have X2 := hide (Hno.out 4 w8 (by omega) (E6.out.trans (by rw [if_neg (fun h => hn h.1)]; rfl)) (F8.out.join (Fl0 hF)))
                    clear hF
                    go_wp2
                    go_ret3
                    exact X2.out
                case y3 =>
                  intro _ hok1 w7 A hC1 hF
                  have HL7 := hide (HL0.out.fr hF)
                  have F8 := hide (F7.out.join (Fl0 hF))
                  have HZ7 := hide (HZ.out.keep hF (fun _ h => h.elim))
                  have HC1 := hide hC1
                  have hs8 := hF.size
                  clear hF hC1
                  go_wp2_with fail
                  refine calls_args (refNew_c (some ⟨g, n1, none⟩) (c - n1) (acc.drop n1) w7 (lies_drop n1 HL7.out) (by rw [Ek2.out]; omega) _ ?b5 ?n5 ?y5) (by rw [Ek2.out]; try rfl)
                  case b5 => (intro hb; exact absurd (good_drop Hgood.out (by have := Hll.out; omega)) hb)
                  case n5 =>
                    intro _ hn2 w8 hF
                    have X2 := hide (Hno.out 4 w8 (by omega) (E6.out.trans (by rw [if_neg (fun h => hn2 h.2.1)]; rfl)) (F8.out.join (Fl0 hF)))
                    clear hF
                    go_wp2
                    go_ret3
                    exact X2.out
                  case y5 =>
                    intro _ hok2 w8 B hC2 hF
                    have X2 := hide (Hok.out (acc.take n1) (acc.drop n1) q7 A B _ _ _ _ w8 (E6.out.trans (by rw [if_pos ⟨hok1, hok2, Hz.out⟩]; rfl)) (HC1.out.keep hF (fun _ _ _ h => h)) hC2 (by omega) (by omega) (HZ7.out.keep hF (fun _ h => h.elim)) (F8.out.join (Fl0 hF)))
                    clear hF hC2
                    go_wp2
                    go_ret3
                    exact X2.out
  · have q14 : 8 * (bs.length : Int) - (p : Int) < 14 := by omega
    have X := hide (Hno.out 2 w1 (by omega) (own_short h14) F1.out)
    go_wp2
    go_ret3
    exact X.out
end Go.Proofs.YtmefhngmgfmhoaaDoor

/-
  The document's own Inflate.
-/
namespace Go.Proofs.YtmefhngmgfmhoaaDoor
open Go.RowKit

theorem head_of {V L p l q1 k q2 : Nat} (h1 : tkn 1 V L p = .ok (l, q1)) (h2 : tkn 2 V L q1 = .ok (k, q2)) : head V L p = andThen (kindOf k) (fun pl => ret (decide (l = 1), pl)) V L q2 := (then_ok h1).trans (then_ok h2)

theorem head_short {V L p : Nat} (h : ¬ p + 3 ≤ L) : head V L p = .error 2 := by
  show andThen (tkn 1) _ V L p = _
  by_cases h1 : p + 1 ≤ L
  · rw [then_ok (tkn_ok h1), then_err (tkn_err (by omega))]
  · rw [then_err (tkn_err h1)]

theorem ahead_fail {V L most p er : Nat} {out : List Nat} (h : head V L p = .error er) : Runs V L most ⟨p, false, out, .ahead⟩ (.error er) := .fail (by simp [adv, h])
theorem ahead_go {V L most p q : Nat} {b : Bool} {pl : Pl} {out : List Nat} {r : Except Nat (List Nat × Nat)} (h : head V L p = .ok ((b, pl), q)) (hr : Runs V L most ⟨q, b, out, pl⟩ r) : Runs V L most ⟨p, false, out, .ahead⟩ r := .go (by simp [adv, h]) hr

theorem cw_of2 {w4 w5 : World} {lo R : Nat} {sv : Value} {bs : List Nat} {m LM DM : Nat} {ll dl : List Int} {q : Nat} {out : List Nat} {a : Option Addr} {c l1 h1 l2 h2 : Nat} (hz : Rz w5 lo R sv bs q) (ho : Ro w4 lo R a c out) (hC1 : Rc w5 l1 h1 LM ll) (hC2 : Rc w5 l2 h2 DM dl) (e1 : w4.heap.size ≤ l1) (e2 : w4.heap.size ≤ l2) (hR : R < w4.heap.size) (hF : Fr (fun k => k = R) w4 w5) (hle : out.length ≤ m) :
    Cw w5 w5 lo R sv bs m LM DM ll dl q out a c out.length :=
  ⟨rfl, hz, ho.next hF, ⟨l1, h1, hC1, Or.inr (by omega), fun g hg => Or.inr (by have := (ho.own.lt g hg).2; omega)⟩, ⟨l2, h2, hC2, Or.inr (by omega), fun g hg => Or.inr (by have := (ho.own.lt g hg).2; omega)⟩, hle, Fr.refl _ _⟩

theorem cw_of {w4 w5 : World} {lo R : Nat} {sv : Value} {bs : List Nat} {m LM DM : Nat} {ll dl : List Int} {q : Nat} {out : List Nat} {a : Option Addr} {c l1 h1 l2 h2 : Nat} (hz : Rz w4 lo R sv bs q) (ho : Ro w4 lo R a c out) (hC1 : Rc w5 l1 h1 LM ll) (hC2 : Rc w5 l2 h2 DM dl) (e1 : w4.heap.size ≤ l1) (e2 : w4.heap.size ≤ l2) (hF : Fr (fun _ => False) w4 w5) (hle : out.length ≤ m) :
    Cw w5 w5 lo R sv bs m LM DM ll dl q out a c out.length :=
  cw_of2 (hz.keep hF (fun _ h => h.elim)) ho hC1 hC2 e1 e2 hz.lt (hF.mono fun _ _ h => h.elim) hle

/-- What the loop over blocks holds at a round. -/
structure Ri (w wr : World) (R : Nat) (sv : Value) (bs : List Nat) (most : Nat) (out : List Nat) (p : Nat) (a : Option Addr) (c N : Nat) : Prop where
  n : N = out.length
  z : Rz wr w.heap.size R sv bs p
  o : Ro wr w.heap.size R a c out
  le : out.length ≤ most
  fl : Fl w.heap.size w wr
  run : ∀ r, Runs (leNum bs) (8 * bs.length) most ⟨p, false, out, .ahead⟩ r → Runs (leNum bs) (8 * bs.length) most init r

theorem rNe_stored : Ne0 storedHead := .andThen .algn fun _ => .andThen (.tkn _) fun _ => .andThen (.tkn _) fun _ => .ite (.ret _) (.bad (by omega))

/-- What Inflate answers. -/
def Ra1 (w : World) (bs : List Nat) (most : Int) (e : Ending) (w' : World) : Prop :=
  ∃ r a c, AllOk bs most r ∧ e = .returned (.tuple #[.slice a (outOf r).length c, .int .i64 (usedOf r : Int), .int .i64 (errOf r : Int)]) ∧ Lies w' (.slice a (outOf r).length c) (outOf r) ∧ Fr (fun _ => False) w w'

theorem fl_none {w w' : World} (h : Fl w.heap.size w w') : Fr (fun _ => False) w w' := h.mono fun k hk h2 => by omega

theorem at7 (p : Nat) : Int.tdiv ((p : Int) + 7) 8 = (((p + 7) / 8 : Nat) : Int) := by
  rw [Int.tdiv_eq_ediv_of_nonneg (by omega)]
  omega

set_option maxHeartbeats 4000000 in
set_option maxRecDepth 100000 in
theorem rInflate_c (sv : Value) (bs : List Nat) (most : Int) (w : World) (h : Lies w sv bs) (hlt : ∀ b ∈ bs, b < 256) (hlen : bs.length ≤ 2147483648) (hm : most ≤ 2147480000) :
    Calls Tryd.prog 12 #[sv, .int .i64 most] w (Ra1 w bs most) := by
  obtain ⟨sa, sn, sc, hs⟩ : ∃ a n c, sv = .slice a n c := by
    rcases h with ⟨rfl, _⟩ | ⟨ad, c, rfl, _⟩
    · exact ⟨none, 0, 0, rfl⟩
    · exact ⟨some ad, _, c, rfl⟩
  by_cases hneg : most < 0
  · have X2 : Hid (Ra1 w bs most (.returned (.tuple #[.slice none 0 0, .int .i64 0, .int .i64 1])) w) := ⟨.error 1, none, 0, Or.inl ⟨hneg, rfl⟩, rfl, Or.inl ⟨rfl, rfl⟩, Fr.refl _ _⟩
    subst hs
    clear h hlt
    go_enter Tryd.func12, Tryd.ntmps12
    go_wp2
    go_ret3
    exact X2.out
  obtain ⟨m, rfl⟩ : ∃ m : Nat, most = (m : Int) := ⟨most.toNat, by omega⟩
  obtain ⟨R, hR⟩ : ∃ R, R = w.heap.size := ⟨_, rfl⟩
  obtain ⟨w1, hw1⟩ : ∃ w1, w1 = (w.alloc (.cells #[sv, .int .i64 0, .bool false, .bool false] 48)).alloc (.cells #[] 5) := ⟨_, rfl⟩
  have f1 : Fr (fun _ => False) w w1 := by rw [hw1]; exact (Fr.of_alloc _ _).join (Fr.of_alloc _ _)
  have hob : w1.heap[R]? = some (.cells #[sv, .int .i64 0, .bool false, .bool false] 48 (0, 0)) := by
    rw [hw1, (Fr.of_alloc (w.alloc (.cells #[sv, .int .i64 0, .bool false, .bool false] 48)) (.cells #[] 5)).block R (by rw [size_alloc]; omega) (fun h => h)]
    exact heap_alloc_at hR
  have hoo : w1.heap[R + 1]? = some (.cells #[] 5 (0, 0)) := by rw [hw1]; exact heap_alloc_at (by rw [size_alloc, hR])
  have hsb : bs ≠ [] → ∀ ad n c, sv = .slice (some ad) n c → ad.block < w.heap.size := by
    intro hne ad n c he
    rcases h with ⟨_, rfl⟩ | ⟨ad', c', e', hc⟩
    · exact absurd rfl hne
    · have hpos : 0 < bs.length := List.length_pos_iff.2 hne
      have hc0 := hc 0 (.int .u8 ((bs[0] : Nat) : Int)) (by simp [cellsOf, List.getElem?_eq_getElem hpos])
      rw [e'] at he
      cases he
      exact cell_lt hc0
  have Z1 : Rz w1 w.heap.size R sv bs 0 := ⟨⟨⟨false, hob⟩, lies_fr h f1, fun hne ad n c e => by have := hsb hne ad n c e; omega, Nat.zero_le _, hlt, hlen⟩, by omega, hsb, f1.size⟩
  have O1 : Ro w1 w.heap.size R (some ⟨R + 1, 0, none⟩) 0 [] := by
    refine ⟨⟨rfl, Or.inr ⟨R + 1, 0, #[], rfl, by omega, hoo, Nat.le_refl _, by unfold maxLen; omega, rfl, rfl⟩⟩, ?_⟩
    intro g hg
    have : R + 1 = g := by simpa [Value.ownBlock] using hg
    omega
  have I1 : Hid (Ri w w1 R sv bs m [] 0 (some ⟨R + 1, 0, none⟩) 0 0) := ⟨rfl, Z1, O1, Nat.zero_le _, Fl0 f1, fun _ h => h⟩
  have Hfail : ∀ (er : Nat) w', er ≠ 0 → Runs (leNum bs) (8 * bs.length) m init (.error er) → Fl w.heap.size w w' → Ra1 w bs m (.returned (.tuple #[.slice none 0 0, .int .i64 0, .int .i64 (er : Int)])) w' :=
    fun er w' _ hr hF => ⟨.error er, none, 0, Or.inr ⟨by omega, hr⟩, rfl, Or.inl ⟨rfl, rfl⟩, fl_none hF⟩
  have Hdone : ∀ w' out' p' a' c', Rz w' w.heap.size R sv bs p' → Ro w' w.heap.size R a' c' out' → out'.length ≤ m → Fl w.heap.size w w' → (∀ r, Runs (leNum bs) (8 * bs.length) m ⟨p', true, out', .ahead⟩ r → Runs (leNum bs) (8 * bs.length) m init r) →
      ∀ k, Ra1 w bs m (.returned (.tuple #[.slice a' out'.length c', .int .i64 (Int.tdiv ((p' : Int) + 7) 8), .int .i64 0])) (w'.drewN k) :=
    fun w' out' p' a' c' _ ho _ hF hr k => ⟨.ok (out', p'), a', c', Or.inr ⟨by omega, hr _ (.done (by simp [adv]))⟩, by rw [at7]; rfl, lies_own (ho.fr (Fr.of_drewN w' k)).own, fl_none (hF.join (Fl0 (Fr.of_drewN w' k)))⟩
  have HH := hide (And.intro Hfail Hdone)
  have hRw : R < w1.heap.size := lt_of hob
  clear Z1 O1 f1 hob hoo hsb h hlt
  subst hs
  go_enter Tryd.func12, Tryd.ntmps12
  clear Hfail Hdone
  go_wp2
  rw [← hR, ← hw1]
  have HR := hide hR
  clear hw1 hR
  go_loopw [8, 9, 10, 11, 12, 13, 14, 15, 16, 17, 18] (fun v _ _ _ _ _ _ _ _ _ _ wr => ∃ (out : List Nat) (p : Nat) (a : Option Addr) (c N : Nat), v = .slice a N c ∧ Hid (Ri w wr R (.slice sa sn sc) bs m out p a c N)) (fun _ _ _ _ _ _ _ _ _ _ _ wr => 8 * bs.length - cellI wr R 1)
  case atStart => exact ⟨[], 0, some ⟨R + 1, 0, none⟩, 0, 0, rfl, I1⟩
  case round =>
    obtain ⟨out, p, a, c, N, rfl, J⟩ := hrel
    obtain ⟨Hfail, Hdone⟩ := HH.out
    have hN : N = out.length := J.out.n
    subst hN
    have Hm0 : Hid (cellI wr R 1 = p) := by
      obtain ⟨sh, ho⟩ := J.out.z.rf.eobj
      show cellI wr R 1 = p
      unfold cellI
      rw [cell_of (o := 1) ho rfl]
      rfl
    have hp0 := J.out.z.rf.epos
    go_wp2_with fail
    refine (ref_left wr R _ bs p false J.out.z.rf).mono ?_
    rintro e w2 ⟨rfl, k, rfl⟩
    have Z2 := hide (J.out.z.keep (Fr.of_drewN wr k) (fun _ h => h.elim))
    have O2 := hide (J.out.o.fr (Fr.of_drewN wr k))
    have F2 := hide (J.out.fl.join (Fl0 (Fr.of_drewN wr k)))
    generalize wr.drewN k = w2 at *
    by_cases h3 : p + 3 ≤ 8 * bs.length
    case neg =>
      have q3 : 8 * (bs.length : Int) - (p : Int) < 3 := by omega
      have X2 := hide (Hfail 2 w2 (by omega) (J.out.run _ (ahead_fail (head_short h3))) F2.out)
      skip
      go_wp2
      go_ret3
      exact X2.out
    have q3 : ¬ 8 * (bs.length : Int) - (p : Int) < 3 := by omega
    go_wp2_with fail
    refine rtakes w2 w.heap.size R _ bs p 1 Z2.out (by omega) _ ⟨?ok1, ?no1⟩
    case no1 => (intro w3 hx; rw [tkn_ok (by omega)] at hx; cases hx)
    intro l p1 w3 hx1 hr hF
    have hl2 : l < 2 := tkn_lt hx1
    have hl01 : l = 1 ∨ l = 0 := by omega
    have hp1 := (tkn_inv hx1).2.2
    have Hx1 := hide hx1
    have Z3 := hide (Z2.out.next hr hF)
    have O3 := hide (O2.out.next hF)
    have F3 := hide (F2.out.join (Z2.out.low hF))
    clear hx1 hr hF
    go_wp2_with fail
    refine rtakes w3 w.heap.size R _ bs p1 2 Z3.out (by omega) _ ⟨?ok2, ?no2⟩
    case no2 => (intro w4 hx; rw [tkn_ok (by omega)] at hx; cases hx)
    intro kd p2 w4 hx2 hr hF
    have hk4 : kd < 4 := tkn_lt hx2
    have hp2 := (tkn_inv hx2).2.2
    have Hd := hide (head_of Hx1.out hx2)
    have Z4 := hide (Z3.out.next hr hF)
    have O4 := hide (O3.out.next hF)
    have F4 := hide (F3.out.join (Z3.out.low hF))
    clear hx2 hr hF
    rcases (by omega : kd = 0 ∨ kd = 1 ∨ kd = 2 ∨ kd = 3) with rfl | rfl | rfl | rfl
    · have HK : Hid (head (leNum bs) (8 * bs.length) p = andThen (andThen storedHead fun n => ret (.stored n)) (fun pl => ret (decide (l = 1), pl)) (leNum bs) (8 * bs.length) p2) := Hd.out
      go_wp2_with fail
      refine calls_args (rstored_c w4 w.heap.size R _ bs p2 Z4.out a c out O4.out m (by omega) J.out.le _ ?no0 ?ok0 ?err0) rfl
      case no0 =>
        intro er w5 hx hF
        have her : er ≠ 0 := rNe_stored.ne hx
        have hei : ((er : Int) == 0) = false := beq_false_of_ne (by omega)
        have hej : ¬ (er : Int) = 0 := by omega
        have X2 := hide (Hfail er w5 her (J.out.run _ (ahead_fail (HK.out.trans (then_err (then_err hx))))) (F4.out.join hF))
        clear hx hF
        go_wp2
        go_ret3
        exact X2.out
      case err0 =>
        intro n q er w5 hx her hall hF
        have hei : ((er : Int) == 0) = false := beq_false_of_ne (by omega)
        have hej : ¬ (er : Int) = 0 := by omega
        have X2 := hide (Hfail er w5 her (J.out.run _ (ahead_go (HK.out.trans (then_ok (then_ok hx))) (hall _))) (F4.out.join hF))
        clear hx hF hall
        go_wp2
        go_ret3
        exact X2.out
      case ok0 =>
        intro n q a' c' out' p' w5 hx hz ho hle hrun hF
        have K1 := hide hz
        have K2 := hide ho
        have K3 := hide hle
        have K4 := hide (F4.out.join hF)
        have K5 : Hid (∀ r, Runs (leNum bs) (8 * bs.length) m ⟨p', decide (l = 1), out', .ahead⟩ r → Runs (leNum bs) (8 * bs.length) m init r) := fun r hr => J.out.run r (ahead_go (HK.out.trans (then_ok (then_ok hx))) (hrun _ r hr))
        have hmono : p2 ≤ p' := Nat.le_trans (Gd.storedHead.mono hx) (Runs.pos_le (s := ⟨q, true, out, .stored n⟩) (hrun true _ (.done (by simp [adv]))))
        clear hx hz ho hle hrun hF
        have hp8 := K1.out.rf.epos
        have hpl := K1.out.rf.elen
        have hq1 : w5.cell? ⟨R, 1, none⟩ = some (.int .i64 (p' : Int)) := by
          obtain ⟨sh, ho⟩ := K1.out.rf.eobj
          exact cell_of ho rfl
        rcases hl01 with rfl | rfl
        · have X2 := hide (Hdone w5 out' p' a' c' K1.out K2.out K3.out K4.out (fun r h => K5.out r h))
          go_wp2
          go_quiet (fail)
          go_wp2
          go_ret3
          exact X2.out _
        · have hm2 : cellI w5 R 1 = p' := by unfold cellI; rw [hq1]; rfl
          go_wp2
          go_roundw
          case rel => exact ⟨out', p', a', c', out'.length, rfl, ⟨rfl, K1.out, K2.out, K3.out, K4.out, K5.out⟩⟩
          case measure => rw [hm2, Hm0.out]; omega
    · have HK : Hid (head (leNum bs) (8 * bs.length) p = .ok ((decide (l = 1), .coded fixL fixD), p2)) := Hd.out
      go_wp2_with fail
      refine (rfixed_c w4).mono ?_
      rintro e w5 ⟨LM, DM, l1, h1, l2, h2, rfl, hC1, hC2, e1, e2, hF⟩
      have HC : Hid (Cw w5 w5 w.heap.size R (.slice sa sn sc) bs m LM DM fixL fixD p2 out a c out.length) := cw_of Z4.out O4.out hC1 hC2 e1 e2 hF J.out.le
      have F5 := hide (F4.out.join (Fl0 hF))
      clear hC1 hC2 e1 e2 hF
      go_wp2_with fail
      refine rcoded_c w5 w.heap.size R _ bs m (by omega) LM DM fixL fixD p2 out a c out.length HC.out _ ?okF ?errF
      case errF =>
        intro er w6 her hall hF
        have hei : ((er : Int) == 0) = false := beq_false_of_ne (by omega)
        have hej : ¬ (er : Int) = 0 := by omega
        have X2 := hide (Hfail er w6 her (J.out.run _ (ahead_go HK.out (hall _))) (F5.out.join hF))
        clear hF hall
        go_wp2
        go_ret3
        exact X2.out
      case okF =>
        intro a' c' N' out' p' w6 hC hrun
        have hn' := hC.n
        subst hn'
        have K1 := hide hC.z
        have K2 := hide hC.o
        have K3 := hide hC.le
        have K4 := hide (F5.out.join hC.fl)
        have K5 : Hid (∀ r, Runs (leNum bs) (8 * bs.length) m ⟨p', decide (l = 1), out', .ahead⟩ r → Runs (leNum bs) (8 * bs.length) m init r) := fun r hr => J.out.run r (ahead_go HK.out (hrun _ r hr))
        have hmono : p2 ≤ p' := Runs.pos_le (s := ⟨p2, true, out, .coded fixL fixD⟩) (hrun true _ (.done (by simp [adv])))
        clear hC hrun
        have hp8 := K1.out.rf.epos
        have hpl := K1.out.rf.elen
        have hq1 : w6.cell? ⟨R, 1, none⟩ = some (.int .i64 (p' : Int)) := by
          obtain ⟨sh, ho⟩ := K1.out.rf.eobj
          exact cell_of ho rfl
        rcases hl01 with rfl | rfl
        · have X2 := hide (Hdone w6 out' p' a' c' K1.out K2.out K3.out K4.out (fun r h => K5.out r h))
          go_wp2
          go_quiet (fail)
          go_wp2
          go_ret3
          exact X2.out _
        · have hm2 : cellI w6 R 1 = p' := by unfold cellI; rw [hq1]; rfl
          go_wp2
          go_roundw
          case rel => exact ⟨out', p', a', c', out'.length, rfl, ⟨rfl, K1.out, K2.out, K3.out, K4.out, K5.out⟩⟩
          case measure => rw [hm2, Hm0.out]; omega
    · have HK : Hid (head (leNum bs) (8 * bs.length) p = andThen (andThen own fun c => ret (.coded c.1 c.2)) (fun pl => ret (decide (l = 1), pl)) (leNum bs) (8 * bs.length) p2) := Hd.out
      go_wp2_with fail
      refine rdynamic_c w4 w.heap.size R _ bs p2 Z4.out _ ?noD ?okD
      case noD =>
        intro er w5 her hx hF
        have hei : ((er : Int) == 0) = false := beq_false_of_ne (by omega)
        have hej : ¬ (er : Int) = 0 := by omega
        have X2 := hide (Hfail er w5 her (J.out.run _ (ahead_fail (HK.out.trans (then_err (then_err hx))))) (F4.out.join (Z4.out.low hF)))
        clear hx hF
        go_wp2
        go_ret3
        exact X2.out
      case okD =>
      intro ll dl q LM DM l1 h1 l2 h2 w5 hx hC1 hC2 e1 e2 hz hF
      have HC : Hid (Cw w5 w5 w.heap.size R (.slice sa sn sc) bs m LM DM ll dl q out a c out.length) := cw_of2 hz O4.out hC1 hC2 e1 e2 Z4.out.lt hF J.out.le
      have F5 := hide (F4.out.join (Z4.out.low hF))
      have Hx := hide hx
      have hq := Gd.own.mono hx
      clear hC1 hC2 e1 e2 hF hz hx
      go_wp2_with fail
      refine rcoded_c w5 w.heap.size R _ bs m (by omega) LM DM ll dl q out a c out.length HC.out _ ?okE ?errE
      case errE =>
        intro er w6 her hall hF
        have hei : ((er : Int) == 0) = false := beq_false_of_ne (by omega)
        have hej : ¬ (er : Int) = 0 := by omega
        have X2 := hide (Hfail er w6 her (J.out.run _ (ahead_go (HK.out.trans (then_ok (then_ok Hx.out))) (hall _))) (F5.out.join hF))
        clear hF hall
        go_wp2
        go_ret3
        exact X2.out
      case okE =>
        intro a' c' N' out' p' w6 hC hrun
        have hn' := hC.n
        subst hn'
        have K1 := hide hC.z
        have K2 := hide hC.o
        have K3 := hide hC.le
        have K4 := hide (F5.out.join hC.fl)
        have K5 : Hid (∀ r, Runs (leNum bs) (8 * bs.length) m ⟨p', decide (l = 1), out', .ahead⟩ r → Runs (leNum bs) (8 * bs.length) m init r) := fun r hr => J.out.run r (ahead_go (HK.out.trans (then_ok (then_ok Hx.out))) (hrun _ r hr))
        have hmono : p2 ≤ p' := Nat.le_trans hq (Runs.pos_le (s := ⟨q, true, out, .coded ll dl⟩) (hrun true _ (.done (by simp [adv]))))
        clear hC hrun
        have hp8 := K1.out.rf.epos
        have hpl := K1.out.rf.elen
        have hq1 : w6.cell? ⟨R, 1, none⟩ = some (.int .i64 (p' : Int)) := by
          obtain ⟨sh, ho⟩ := K1.out.rf.eobj
          exact cell_of ho rfl
        rcases hl01 with rfl | rfl
        · have X2 := hide (Hdone w6 out' p' a' c' K1.out K2.out K3.out K4.out (fun r h => K5.out r h))
          go_wp2
          go_quiet (fail)
          go_wp2
          go_ret3
          exact X2.out _
        · have hm2 : cellI w6 R 1 = p' := by unfold cellI; rw [hq1]; rfl
          go_wp2
          go_roundw
          case rel => exact ⟨out', p', a', c', out'.length, rfl, ⟨rfl, K1.out, K2.out, K3.out, K4.out, K5.out⟩⟩
          case measure => rw [hm2, Hm0.out]; omega
    · have HK : Hid (head (leNum bs) (8 * bs.length) p = .error 4) := Hd.out
      have X2 := hide (Hfail 4 w4 (by omega) (J.out.run _ (ahead_fail HK.out)) F4.out)
      skip
      go_wp2
      go_ret3
      exact X2.out
end Go.Proofs.YtmefhngmgfmhoaaDoor

/-
  A stream is read as its bytes; a row of one byte is made small.
-/
namespace Go.Proofs.YtmefhngmgfmhoaaDoor
open Go.RowKit

theorem leNum_app (a b : List Nat) : leNum (a ++ b) = leNum a + leNum b * 2 ^ (8 * a.length) := by
  induction a with
  | nil => simp [leNum]
  | cons x a ih =>
    rw [List.cons_append]
    simp only [leNum, ih, List.length_cons]
    rw [show 8 * (a.length + 1) = 8 * a.length + 8 by omega, Nat.pow_add]
    have : (2 : Nat) ^ 8 = 256 := by decide
    rw [this]
    generalize 2 ^ (8 * a.length) = P
    rw [Nat.mul_add, ← Nat.mul_assoc, Nat.mul_comm 256 (leNum b), Nat.mul_assoc, Nat.mul_comm 256 P, ← Nat.add_assoc]

theorem inf_ok {bs os : List Nat} (hb : ∀ b ∈ bs, b < 256) (h : Stream bs os) (more : List Nat) (m : Nat) (hm : bs.length ≤ m) : ∃ r, AllOk (os ++ more) (m : Int) r ∧ outOf r = bs ∧ usedOf r = os.length ∧ errOf r = 0 := by
  obtain ⟨t, tok, tb, tl⟩ := h.reads hb
  have hp : t.p ≤ 8 * os.length := by have := tb.len; omega
  have hof : t.of (leNum (os ++ more)) (8 * (os ++ more).length) := by
    refine ⟨?_, by rw [List.length_append]; omega⟩
    rw [leNum_app, tb.num]
    have e : 2 ^ (8 * os.length) = 2 ^ t.p * 2 ^ (8 * os.length - t.p) := by rw [← Nat.pow_add]; congr 1; omega
    rw [e, Nat.mul_comm (2 ^ t.p), ← Nat.mul_assoc, Nat.add_mul_mod_self_right]
    exact Nat.mod_eq_of_lt tok
  have hd : Runs (leNum (os ++ more)) (8 * (os ++ more).length) m ⟨t.p, true, bs, .ahead⟩ (.ok (bs, t.p)) := Runs.done rfl
  have := tl _ _ m _ hof hm hd
  exact ⟨.ok (bs, t.p), Or.inr ⟨by omega, by rw [Int.toNat_natCast]; exact this⟩, rfl, tb.len.symm, rfl⟩

theorem inflate_at {bs os : List Nat} (hb : ∀ b ∈ bs, b < 256) (h : Stream bs os) (more : List Nat) (sv : Value) (m : Nat) (w : World) (hl : Lies w sv (os ++ more)) (hlt : ∀ b ∈ os ++ more, b < 256) (hlen : (os ++ more).length ≤ 2147483648) (hm : bs.length ≤ m) (hm2 : m ≤ 2147480000) :
    Calls Tryd.prog 12 #[sv, .int .i64 (m : Int)] w fun e w' => ∃ a c, e = .returned (.tuple #[.slice a bs.length c, .int .i64 (os.length : Int), .int .i64 0]) ∧ Lies w' (.slice a bs.length c) bs ∧ Fr (fun _ => False) w w' := by
  obtain ⟨r, r1, r2, r3, r4⟩ := inf_ok hb h more m hm
  refine (rInflate_c sv (os ++ more) m w hl hlt hlen (by omega)).mono ?_
  rintro e w' ⟨r', a, c, h1, h2, h3, h4⟩
  obtain rfl := h1.det r1
  rw [r2] at h2 h3
  rw [r3, r4] at h2
  exact ⟨a, c, h2, h3, h4⟩

theorem Stream.bytes {bs os : List Nat} (h : Stream bs os) : ∀ b ∈ os, b < 256 := by
  obtain ⟨s, t', r, e, f, g⟩ := h
  exact g.bytes

section
variable {n b : Nat}

theorem rep_at (i : Nat) (h : i < n) : (List.replicate n b).getD i 0 = b := by
  rw [List.getD_eq_getElem?_getD, List.getElem?_replicate, if_pos h]
  rfl

theorem rep_take_at (E i : Nat) (h : i < n) (he : i < E) : ((List.replicate n b).take E).getD i 0 = b := by
  rw [List.getD_eq_getElem?_getD, List.getElem?_take_of_lt he, List.getElem?_replicate, if_pos h]
  rfl

theorem alike_all (bs : List Nat) : ∀ (m one other : Nat), (∀ k, k < m → bs.getD (one + k) 0 = bs.getD (other + k) 0) → alikeN bs one other m = m := by
  intro m
  induction m with
  | zero => intro one other _; rfl
  | succ m ih =>
    intro one other h
    simp only [alikeN]
    rw [if_pos (by have := h 0 (by omega); rwa [Nat.add_zero, Nat.add_zero] at this), ih (one + 1) (other + 1) (fun k hk => by
      have := h (k + 1) (by omega)
      rw [show one + 1 + k = one + (k + 1) by omega, show other + 1 + k = other + (k + 1) by omega]
      exact this)]

theorem find_row {E k told : Nat} {nw od : List Nat} (hE : E ≤ n) (h1 : 1 ≤ told) (h3 : told + 3 ≤ E) (hn : nw.getD (keyf k b b b) 0 = told) : findP ((List.replicate n b).take E) nw od k told = (min 258 (E - told), 1) := by
  have hl : ((List.replicate n b).take E).length = E := by rw [List.length_take, List.length_replicate]; omega
  unfold findP
  rw [hl, if_neg (by omega), rep_take_at E told (by omega) (by omega), rep_take_at E (told + 1) (by omega) (by omega), rep_take_at E (told + 2) (by omega) (by omega), hn]
  obtain ⟨m, hm⟩ : ∃ m, m = min 258 (E - told) := ⟨_, rfl⟩
  rw [← hm]
  have ha : alikeN ((List.replicate n b).take E) (told - 1) told m = m := alike_all _ m _ _ (fun j hj => by rw [rep_take_at E _ (by omega) (by omega), rep_take_at E _ (by omega) (by omega)])
  rw [findA, if_pos ⟨by omega, by omega, by omega⟩, ha, if_pos ⟨by omega, by omega⟩, findA, if_neg (by omega), show told + 1 - told = 1 by omega]

theorem adds_len (bs : List Nat) (k at' : Nat) (nw od : List Nat) (i : Nat) : (adds bs k at' nw od i).1.length = nw.length := by
  induction i with
  | zero => rfl
  | succ i ih =>
    show (addN bs _ k _).length = _
    unfold addN
    split
    · exact ih
    · rw [List.length_set]; exact ih

theorem adds_last (k told adv : Nat) (nw od : List Nat) (hl : nw.length = 2 ^ k) (ha : 1 ≤ adv) (h : told + adv + 2 ≤ n) : (adds (List.replicate n b) k told nw od adv).1.getD (keyf k b b b) 0 = told + adv := by
  obtain ⟨i, rfl⟩ : ∃ i, adv = i + 1 := ⟨adv - 1, by omega⟩
  show (addN (List.replicate n b) (adds (List.replicate n b) k told nw od i).1 k (told + i)).getD _ 0 = _
  unfold addN
  rw [List.length_replicate, if_neg (by omega), rep_at _ (by omega), rep_at _ (by omega), rep_at _ (by omega)]
  rw [List.getD_eq_getElem?_getD, List.getElem?_set_self (by rw [adds_len, hl]; exact keyf_lt k b b b)]
  show told + i + 1 = _
  omega

/-- What holds of each place that is reached in a row of one byte. -/
structure Sml (n b : Nat) (s : Ms) : Prop where
  len : s.nw.length = 2 ^ kOf (List.replicate n b)
  key : 1 ≤ s.told → s.told + 2 ≤ n → s.nw.getD (keyf (kOf (List.replicate n b)) b b b) 0 = s.told
  cnt : 258 * s.ps.length ≤ (s.told - s.begin) + 258 + 258 * (2 - min 2 (endOf (List.replicate n b) s.begin - s.told))
  bits : ∃ q, s.begin = 65535 * q ∧ s.t.p ≤ 12400 * q

theorem Sml.tell {s : Ms} (h : Sml n b s) (hI : Inv (List.replicate n b) s) (hlt : s.told < n) (h6 : s.told < s.begin + 65535) : Sml n b (tellF (List.replicate n b) s) := by
  have hE : endOf (List.replicate n b) s.begin = min (s.begin + 65535) n := by unfold endOf; rw [List.length_replicate]
  have hbt := hI.bt
  have hcnt := h.cnt
  have hpl := hI.cnt
  have hadv1 : 1 ≤ advOf (List.replicate n b) s.nw s.od (kOf (List.replicate n b)) s.begin s.told := by unfold advOf; omega
  have hadv : (1 ≤ s.told ∧ s.told + 3 ≤ endOf (List.replicate n b) s.begin ∧ advOf (List.replicate n b) s.nw s.od (kOf (List.replicate n b)) s.begin s.told = min 258 (endOf (List.replicate n b) s.begin - s.told)) ∨ s.told = 0 ∨ (endOf (List.replicate n b) s.begin < s.told + 3) := by
    by_cases h0 : s.told = 0
    · exact Or.inr (Or.inl h0)
    · by_cases h3 : s.told + 3 ≤ endOf (List.replicate n b) s.begin
      · refine Or.inl ⟨by omega, h3, ?_⟩
        unfold advOf rowOf
        rw [find_row (by omega) (by omega) h3 (h.key (by omega) (by omega))]
        show max (min 258 _) 1 = _
        omega
      · exact Or.inr (Or.inr (by omega))
  refine ⟨(adds_len _ _ _ _ _ _).trans h.len, fun _ h2 => adds_last _ _ _ _ _ h.len hadv1 h2, ?_, h.bits⟩
  show 258 * (s.ps ++ [_]).length ≤ (s.told + advOf (List.replicate n b) s.nw s.od (kOf (List.replicate n b)) s.begin s.told - s.begin) + 258 + 258 * (2 - min 2 (endOf (List.replicate n b) s.begin - (s.told + advOf (List.replicate n b) s.nw s.od (kOf (List.replicate n b)) s.begin s.told)))
  rw [List.length_append, List.length_singleton]
  generalize advOf (List.replicate n b) s.nw s.od (kOf (List.replicate n b)) s.begin s.told = adv at hadv hadv1 ⊢
  rw [hE] at hadv hcnt ⊢
  rcases hadv with ⟨a1, a2, a3⟩ | a1 | a1
  · omega
  · have : s.ps.length = 0 := by omega
    omega
  · omega

theorem fixed_p {ps : List Pc} {out : List Nat} (hm : mays ps out) (t : Bt) (last : Bool) : (putFixed t last ps).p ≤ t.p + 48 * ps.length + 18 := by
  have h1 := puts_p fixL_cok.good fixD_cok.good ps hm (putHead t last 1)
  have h2 := putHead_p t last 1
  have h3 := wn_le fixL_cok.good 256
  have h4 : (putFixed t last ps).p = (puts fixL fixD ps (putHead t last 1)).p + wn fixL 256 := rfl
  omega

theorem Sml.ends {s : Ms} (h : Sml n b s) (hb : b < 256) (hI : Inv (List.replicate n b) s) {last : Bool} {t' : Bt} (he : EndR (List.replicate n b) s last t') : 258 * t'.p ≤ 258 * s.t.p + 48 * (s.told - s.begin + 774) + 4644 := by
  obtain ⟨oL, oD, oC, hc, et⟩ := he
  have hbt := hI.bt
  have htl := hI.tl
  have h6 := hI.t6
  have hrl : (((List.replicate n b).take s.told).drop s.begin).length = s.told - s.begin := by
    rw [List.length_drop, List.length_take]
    omega
  have h1 := block_fixed hI.ok last (raw := ((List.replicate n b).take s.told).drop s.begin) (by omega) (fun x hx => by rw [(List.mem_replicate.1 (List.mem_of_mem_take (List.mem_of_mem_drop hx))).2]; exact hb) hI.may hc
  rw [← et] at h1
  have h2 := fixed_p hI.may s.t last
  have h3 := h.cnt
  omega

theorem Sml.next {s s' : Ms} (h : Sml n b s) (hb : b < 256) (hI : Inv (List.replicate n b) s) (hlt : s.told < n) (hn : Nx (List.replicate n b) s s') : Sml n b s' := by
  have hB : ∀ x ∈ List.replicate n b, x < 256 := fun x hx => by rw [(List.mem_replicate.1 hx).2]; exact hb
  rcases hn with ⟨h1, rfl⟩ | ⟨h1, t', he, rfl⟩
  · exact h.tell hI hlt (by have := hI.t6; omega)
  · have hc := hI.cut hB h1 he
    have he2 := h.ends hb hI he
    obtain ⟨q, q1, q2⟩ := h.bits
    refine Sml.tell ⟨h.len, h.key, ?_, q + 1, ?_, ?_⟩ hc hlt (by show s.told < s.told + 65535; omega)
    · show 258 * 0 ≤ _; omega
    · show s.told = _; omega
    · show t'.p ≤ _; omega

theorem Rch.sml {s : Ms} (hb : b < 256) (h : Rch (List.replicate n b) s) : Sml n b s := by
  have hB : ∀ x ∈ List.replicate n b, x < 256 := fun x hx => by rw [(List.mem_replicate.1 hx).2]; exact hb
  induction h with
  | start => exact ⟨List.length_replicate, fun h => absurd h (by show ¬ 1 ≤ 0; omega), by show 258 * 0 ≤ _; omega, 0, rfl, Nat.le_refl _⟩
  | step r hlt hn ih => exact ih.next hb (r.inv hB) (by rw [List.length_replicate] at hlt; exact hlt) hn

/-- A row of one byte is made small. -/
theorem Stream.small {os : List Nat} (hb : b < 256) (hn : 1000 ≤ n) (hn2 : n ≤ 100000) (h : Stream (List.replicate n b) os) : os.length ≤ n / 10 + 64 := by
  have hB : ∀ x ∈ List.replicate n b, x < 256 := fun x hx => by rw [(List.mem_replicate.1 hx).2]; exact hb
  obtain ⟨s, t', r, e, f, g⟩ := h
  rw [List.length_replicate] at e
  have h1 := (r.sml hb).ends hb (r.inv hB) f
  obtain ⟨q, q1, q2⟩ := (r.sml hb).bits
  have h2 := g.len
  have h3 := (r.inv hB).bt
  omega
end
end Go.Proofs.YtmefhngmgfmhoaaDoor

/-
  What each law asks first; the law on too many bytes.
-/
namespace Go.Proofs.YtmefhngmgfmhoaaDoor
open Go.RowKit

theorem Tryd.info5' : (Tryd.prog.info? 5).map (fun i => (i.zero, i.size, i.bytes)) = some (some (.int .u8 0), 1, 1) := by kernel_rfl

theorem makeB (n : Nat) (hn : n ≤ 5000000) : ∀ W : World, (Instr.makeSlice 23 (.int .i64 (n : Int)) (.int .i64 (n : Int))).run Tryd.prog W = .ok (.slice (some ⟨W.heap.size, 0, none⟩) n n) (W.alloc (.cells (cellsOf (List.replicate n 0)).toArray 5)) := by
  obtain ⟨i0, hi, hz0, hz1, hz2⟩ := info_parts Tryd.info5'
  intro W
  have := run_make (P := Tryd.prog) W 23 5 i0 (.int .u8 0) Tryd.underlying23 hi hz0 .i64 .i64 n n (by omega) (Int.le_refl _) (by rw [hz2]; omega) (by omega)
  rw [hz1] at this
  have e : madeCells (Value.int .u8 0).cells (n * 1) = (cellsOf (List.replicate n 0)).toArray := by
    apply Array.ext'
    rw [Nat.mul_one]
    show (madeCells #[.int .u8 0] n).toList = _
    rw [toList_madeCells_one]
    simp [cellsOf]
  rw [← e]
  simpa using this

theorem lies_made (w : World) (bs : List Nat) (c : Nat) : Lies (w.alloc (.cells (cellsOf bs).toArray 5)) (.slice (some ⟨w.heap.size, 0, none⟩) bs.length c) bs :=
  Or.inr ⟨⟨w.heap.size, 0, none⟩, c, rfl, fun j u hu => by
    rw [add_none, Nat.zero_add]
    exact cell_of (heap_alloc_at rfl) (by simpa using hu)⟩

set_option maxHeartbeats 1600000 in
set_option maxRecDepth 100000 in
theorem awake_c (w : World) (hg : Gw w) : Calls Tryd.prog 9 #[] w fun e w' => e = .returned (.bool true) ∧ Fr (fun _ => False) w w' := by
  have hmk := makeB 2000 (by omega)
  have hlm := lies_made w (List.replicate 2000 0) 2000
  rw [List.length_replicate] at hlm
  obtain ⟨zs, hzs⟩ : ∃ zs, zs = (cellsOf (List.replicate 2000 0)).toArray := ⟨_, rfl⟩
  rw [← hzs] at hmk hlm
  have hmk2 : ∀ W : World, (Instr.makeSlice 23 (.int .i64 2000) (.int .i64 2000)).run Tryd.prog W = .ok (.slice (some ⟨W.heap.size, 0, none⟩) 2000 2000) (W.alloc (.cells zs 5)) := hmk
  have hB : ∀ x ∈ List.replicate 2000 0, x < 256 := fun x hx => by rw [(List.mem_replicate.1 hx).2]; decide
  obtain ⟨w1, hw1⟩ : ∃ w1, w1 = w.alloc (.cells zs 5) := ⟨_, rfl⟩
  have hF1 : Fr (fun _ => False) w w1 := by rw [hw1]; exact Fr.of_alloc _ _
  rw [← hw1] at hlm
  have Hall := hide (all_c (some ⟨w.heap.size, 0, none⟩) 2000 2000 (List.replicate 2000 0) w1 hlm List.length_replicate.symm (by omega) hB (hg.fr hF1).gl)
  have HB := hide hB
  have HF1 := hide hF1
  have Hw1 := hide hw1
  clear hmk hlm hzs hB hF1 hw1 hg
  go_enter Tryd.func9, Tryd.ntmps9
  go_wp2_with fail
  rw [← Hw1.out]
  refine (calls_args Hall.out (by rfl)).mono ?_
  rintro e w2 ⟨os, ra, rc, hS, rfl, hown, hF2⟩
  have hsm := hS.small (by decide) (by omega) (by omega)
  have hL2 := own_lies5 hown
  have hby := hS.bytes
  obtain ⟨L, hL⟩ : ∃ L, L = os.length := ⟨_, rfl⟩
  have Hinf := hide (inflate_at HB.out hS [] (.slice ra os.length rc) 2000 w2 (by rw [List.append_nil]; exact hL2) (by rw [List.append_nil]; exact hby) (by rw [List.append_nil]; omega) (by rw [List.length_replicate]; omega) (by omega))
  rw [List.length_replicate, ← hL] at Hinf
  rw [← hL] at hsm ⊢
  have HF2 := hide (HF1.out.join hF2)
  have hLi : (L : Int) ≤ 264 := by omega
  clear hS hown hF2 hL2 hby hL hmk2
  go_wp2_with fail
  refine (calls_args Hinf.out (by rfl)).mono ?_
  rintro e w3 ⟨a3, c3, rfl, _, hF3⟩
  have HF3 := hide (HF2.out.join hF3)
  clear hF3
  have Hm := hide (most_c 0 w3 (by decide))
  go_wp2_with fail
  refine (calls_args Hm.out (by rfl)).mono ?_
  rintro e w4 ⟨rfl, rfl⟩
  have e5 : ((mostF (0 : Int).toNat : Nat) : Int) = 5 := rfl
  rw [e5]
  go_wp2
  go_ret
  exact ⟨rfl, HF3.out⟩
end Go.Proofs.YtmefhngmgfmhoaaDoor

/-
  Rows of arguments; what the program's laid variable gives.
-/
namespace Go.Proofs.YtmefhngmgfmhoaaDoor
open Go.ChangeShapes Go.WideShapes Go.ChangeAt Go.RowKit

theorem own' : ownKnob Tryd.prog.godebug = none := by kernel_rfl
theorem laidOut : laidOutB Tryd.prog = true := by kernel_rfl
theorem gOrd : Tryd.prog.globalNamed "engraver/deflate.lengthOrder" = some 0 := by kernel_rfl
theorem tOrd : (Tryd.prog.globals[0]?).map (·.type) = some 120 := by kernel_rfl

abbrev laidL {H : Type} : List (String × DataW H) := [("engraver/deflate.lengthOrder", Rows.laid_engraver_deflate_lengthOrder)]

theorem door_met (os : Os) (args : Array Value) : laidMetH Tryd.prog laidL ((World.doorLaid Tryd.prog 400 os).forCall (fun _ _ => 0) ⟨#[], args, []⟩).memory :=
  laidMetH_of_parts3 (fuel := 8) (laidMet_of_run' 8 (by kernel_rfl) (by kernel_rfl)) (by kernel_rfl) (by kernel_rfl)

theorem of_laid {W : World} (h : laidMetH Tryd.prog laidL W) : Gw W := by
  rw [MakeChecks.laidMetH_plain _ _ _ (by kernel_rfl)] at h
  obtain ⟨ps, ⟨g0, t0, cs0, f0, p0, q0, hg0, ht0, hv0, hd0, _, _⟩, _, _⟩ := h
  obtain rfl := Option.some.inj (gOrd.symm.trans hg0)
  obtain rfl := Option.some.inj (tOrd.symm.trans ht0)
  obtain ⟨xs, m1, rfl, hx1, hlen, hn3, hel⟩ := DataW.trod_array Tryd.underlying120 hd0
  have c3 : Tryd.prog.cellsOf 3 = 1 := by kernel_rfl
  simp only [Prod.mk.injEq] at hx1
  have key : ∀ i, i < 19 → W.cell? ⟨0, i, none⟩ = some (.int .i64 ((order.getD i 0 : Nat) : Int)) := by
    intro i hi
    have h1 := hel i hi
    obtain ⟨y, hy⟩ : ∃ y, xs[i]? = some y := ⟨_, List.getElem?_eq_getElem (by omega)⟩
    rw [hy] at h1
    obtain ⟨k, e1, e2, _⟩ := DataW.trod_int Tryd.underlying3 h1
    rw [c3, Nat.mul_one] at e1
    have hm : (xs.map fun x => x.fst)[i]? = some (.lit (.int .i64 k)) := by
      rw [List.getElem?_map, hy, e2]
      rfl
    have hl : ∃ l : List (DataW Unit), Rows.laid_engraver_deflate_lengthOrder = DataW.agg l ∧ l[i]? = some (.lit (.int .i64 ((order.getD i 0 : Nat) : Int))) := by
      refine ⟨_, rfl, ?_⟩
      have all : ∀ j : Fin 19, (order.map fun (n : Nat) => (DataW.lit (.int .i64 (n : Int)) : DataW Unit))[j.1]? = some (.lit (.int .i64 ((order.getD j.1 0 : Nat) : Int))) := by
        intro j
        have hj : j.1 < order.length := j.2
        rw [List.getElem?_map, List.getElem?_eq_getElem hj, List.getD_eq_getElem?_getD, List.getElem?_eq_getElem hj]
        rfl
      exact all ⟨i, hi⟩
    obtain ⟨l, hl1, hl2⟩ := hl
    rw [hl1] at hx1
    have hll : l = xs.map fun x => x.fst := by simpa using hx1.1
    rw [hll, hm] at hl2
    have hk : k = ((order.getD i 0 : Nat) : Int) := by simpa using hl2
    have hv := World.var?_cell hg0 hv0 i
    rw [hv]
    have : cs0.toList[i]? = some (.int .i64 k) := by
      have h2 : (List.take 1 (List.drop i cs0.toList))[0]? = some (.int .i64 k) := by rw [e1]; rfl
      rw [List.getElem?_take, if_pos (by decide), List.getElem?_drop] at h2
      exact h2
    rw [← Array.getElem?_toList, this, hk]
  exact ⟨key, cell_lt (key 0 (by decide))⟩
/-- A slice of integers that came in: nil, or a row of 'cap' cells of which the first 'len' are its elements. -/
def IsRow (k : IntKind) (w : World) (a : Option Addr) (len cap : Nat) (zs : List Int) : Prop :=
  (a = none ∧ len = 0 ∧ cap = 0 ∧ zs = []) ∨
  ∃ x, a = some x ∧ len ≤ cap ∧ cap ≤ maxLen ∧ zs.length = cap ∧ (∀ i, i < zs.length → w.cell? (x.add i) = some (.int k (zs.getD i 0))) ∧ ∀ n ∈ zs, (Lit.int k n).wf = true

theorem IsRow.len {k : IntKind} {w : World} {a : Option Addr} {len cap : Nat} {zs : List Int} (h : IsRow k w a len cap zs) : (zs.take len).length = len := by
  rcases h with ⟨_, rfl, _, rfl⟩ | ⟨x, rfl, hl, _, hz, _⟩
  · rfl
  · simp; omega

theorem IsRow.ints {w : World} {a : Option Addr} {len cap : Nat} {zs : List Int} (h : IsRow .i64 w a len cap zs) : LiesI w a (zs.take len) := by
  intro j hj
  rcases h with ⟨rfl, rfl, rfl, rfl⟩ | ⟨x, rfl, hl, hm, hzl, hc, hw⟩
  · simp at hj
  · refine ⟨x, rfl, ?_⟩
    simp only [List.length_take] at hj
    rw [hc j (by omega)]
    simp only [at0, List.getD_eq_getElem?_getD, List.getElem?_take, if_pos (show j < len by omega)]

theorem IsRow.big {k : IntKind} {w : World} {a : Option Addr} {len cap : Nat} {zs : List Int} (h : IsRow k w a len cap zs) : len ≤ maxLen := by
  rcases h with ⟨_, rfl, _, rfl⟩ | ⟨x, rfl, hl, hm, _⟩
  · exact Nat.zero_le _
  · omega

/-- The bytes of such a row. -/
def bytesOf (len : Nat) (zs : List Int) : List Nat := (zs.take len).map Int.toNat

theorem wf_u8 {n : Int} (h : (Lit.int .u8 n).wf = true) : 0 ≤ n ∧ n < 256 := by
  have := bounds_u8 h
  omega

theorem IsRow.bytes {w : World} {a : Option Addr} {len cap : Nat} {zs : List Int} (h : IsRow .u8 w a len cap zs) :
    (bytesOf len zs).length = len ∧ (∀ b ∈ bytesOf len zs, b < 256) ∧ Lies w (.slice a (bytesOf len zs).length cap) (bytesOf len zs) ∧ ((bytesOf len zs) ≠ [] → ∀ ad, a = some ad → ad.block < w.heap.size) := by
  have hlen : (bytesOf len zs).length = len := by simp only [bytesOf, List.length_map]; exact h.len
  refine ⟨hlen, ?_, ?_, ?_⟩
  · intro b hb
    simp only [bytesOf, List.mem_map] at hb
    obtain ⟨z, hz, rfl⟩ := hb
    rcases h with ⟨_, rfl, _, rfl⟩ | ⟨x, rfl, hl, _, hzl, hc, hw⟩
    · simp at hz
    · have := wf_u8 (hw z (List.mem_of_mem_take hz))
      omega
  · rcases h with ⟨rfl, rfl, rfl, rfl⟩ | ⟨x, rfl, hl, hm, hzl, hc, hw⟩
    · exact Or.inl ⟨rfl, rfl⟩
    · refine Or.inr ⟨x, cap, rfl, fun j u hu => ?_⟩
      simp only [cellsOf, bytesOf, List.map_map, List.getElem?_map, Option.map_eq_some_iff] at hu
      obtain ⟨z, hz, rfl⟩ := hu
      rw [List.getElem?_take] at hz
      split at hz
      · have hj : j < zs.length := by
          rcases Nat.lt_or_ge j zs.length with h | h
          · exact h
          · rw [List.getElem?_eq_none h] at hz; cases hz
        have := hw z (List.mem_of_getElem? hz)
        rw [hc j hj, List.getD_eq_getElem?_getD, hz]
        have := wf_u8 this
        simp; omega
      · cases hz
  · intro hne ad e
    rcases h with ⟨rfl, rfl, rfl, rfl⟩ | ⟨x, rfl, hl, hm, hzl, hc, hw⟩
    · cases e
    · cases e
      have hpos : 0 < len := by rw [← hlen]; exact List.length_pos_iff.2 hne
      have := World.block_lt_of_cell? _ _ (hc 0 (by omega))
      simpa [Addr.add] using this
end Go.Proofs.YtmefhngmgfmhoaaDoor
