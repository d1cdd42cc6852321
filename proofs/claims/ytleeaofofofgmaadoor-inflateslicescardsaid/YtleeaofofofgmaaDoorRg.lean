/-
  The document's own codes of a block.
-/
import Derived.Test.YtleeaofofofgmaaDoorRe
namespace Go.Proofs.YtleeaofofofgmaaDoor
open Go.RowKit

theorem make19 (W : World) : (Instr.makeSlice 30 (.int .i64 19) (.int .i64 19)).run Tryd.prog W = .ok (.slice (some ⟨W.heap.size, 0, none⟩) 19 19) (W.alloc (.cells (cellsZ zero19).toArray 3)) := by
  obtain ⟨i0, hi, hz0, hz1, hz2⟩ := info_parts Tryd.info3
  have := run_make (P := Tryd.prog) W 30 3 i0 (.int .i64 0) Tryd.underlying30 hi hz0 .i64 .i64 19 19 (by omega) (Int.le_refl _) (by rw [hz2]; omega) (by omega)
  rw [hz1] at this
  rw [this]
  have e2 : (cellsZ zero19).toArray = (List.replicate 19 (Value.int .i64 0)).toArray := by rw [cellsZ, zero19, List.map_replicate]
  have e : madeCells (Value.int .i64 0).cells (Int.toNat 19 * 1) = (cellsZ zero19).toArray := by
    rw [e2]
    apply Array.ext
    · rw [size_madeCells]; rfl
    · intro i h1 h2
      have h3 : i % 1 = 0 := by omega
      simp only [List.getElem_toArray, List.getElem_replicate]
      simp [madeCells, Value.cells, h3]
  rw [e]
  rfl

theorem own_short {V L p : Nat} (h : ¬ p + 14 ≤ L) : own V L p = .error 2 := by
  show andThen (tkn 5) _ V L p = _
  by_cases h5 : p + 5 ≤ L
  · rw [then_ok (tkn_ok h5)]
    by_cases h10 : p + 5 + 5 ≤ L
    · rw [then_ok (tkn_ok h10), then_err (tkn_err (by omega))]
    · rw [then_err (tkn_err h10)]
  · rw [then_err (tkn_err h5)]

/-- What the loop over code lengths holds at a round. -/
structure Al (w wr : World) (lo R : Nat) (sv : Value) (bs : List Nat) (X : Except Nat (List Int × Nat)) (cl : List Int) (n : Nat) (acc : List Int) (q : Nat) (a : Option Addr) (c k : Nat) : Prop where
  kk : k = acc.length
  z : Rz wr lo R sv bs q
  fr : Fr (fun k => k = R) w wr
  own : wr.ownsRow w.heap.size 3 1 (.slice a k c) k (cellsZ acc)
  le : acc.length ≤ n
  eq : ∃ f, n < acc.length + f ∧ X = lens cl n f acc (leNum bs) (8 * bs.length) q
  good : fine acc

theorem Al.next {w wr w' : World} {lo R : Nat} {sv : Value} {bs : List Nat} {X : Except Nat (List Int × Nat)} {cl : List Int} {n : Nat} {acc : List Int} {q : Nat} {a : Option Addr} {c k : Nat} (hw : R < w.heap.size) (h : Al w wr lo R sv bs X cl n acc q a c k) {q' : Nat} (hr : Rf w' R sv bs q' false) (hF : Fr (fun k => k = R) wr w') :
    Rz w' lo R sv bs q' ∧ Fr (fun k => k = R) w w' ∧ w'.ownsRow w.heap.size 3 1 (.slice a k c) k (cellsZ acc) :=
  ⟨h.z.next hr hF, h.fr.join hF, ownsRow_fr h.own fun j hj => hF.block j (h.own.lt j hj).2 (fun e => by have := (h.own.lt j hj).1; omega)⟩

theorem al_next {w wr w' : World} {lo R : Nat} {sv : Value} {bs : List Nat} {acc : List Int} {q : Nat} {a : Option Addr} {c k : Nat} (hw : R < w.heap.size) (hz : Rz wr lo R sv bs q) (hfr : Fr (fun k => k = R) w wr) (hown : wr.ownsRow w.heap.size 3 1 (.slice a k c) k (cellsZ acc)) {q' : Nat} (hr : Rf w' R sv bs q' false) (hF : Fr (fun k => k = R) wr w') :
    Rz w' lo R sv bs q' ∧ Fr (fun k => k = R) w w' ∧ w'.ownsRow w.heap.size 3 1 (.slice a k c) k (cellsZ acc) :=
  ⟨hz.next hr hF, hfr.join hF, ownsRow_fr hown fun j hj => hF.block j (hown.lt j hj).2 (fun e => by have := (hown.lt j hj).1; omega)⟩

/-- Behind an append of a length. -/
theorem al_append {w wr w3 : World} {lo R : Nat} {sv : Value} {bs : List Nat} {acc : List Int} {q : Nat} {a : Option Addr} {c k g cap : Nat} {v : Int} {o : Obj} (hw : R < w.heap.size) (hlo : lo ≤ w.heap.size) (hz : Rz wr lo R sv bs q) (hF : Fr (fun k => k = R) w wr) (hown : wr.ownsRow w.heap.size 3 1 (.slice a k c) k (cellsZ acc))
    (hown3 : w3.ownsRow w.heap.size 3 1 (.slice (some ⟨g, 0, none⟩) (k + 1) cap) (k + 1) (cellsZ acc ++ [.int .i64 v])) (hgrow : (wr.alloc o).grownBy w3 (Value.slice a k c).ownBlock) :
    Rz w3 lo R sv bs q ∧ Fr (fun k => k = R) w w3 ∧ w3.ownsRow w.heap.size 3 1 (.slice (some ⟨g, 0, none⟩) (k + 1) cap) (k + 1) (cellsZ (acc ++ [v])) := by
  have f1 : Fr (fun j => (Value.slice a k c).ownBlock = some j) (wr.alloc o) w3 := ⟨hgrow.os, hgrow.tape, hgrow.output, hgrow.size, fun k hk hn => hgrow.block k hk (fun e => hn e.symm)⟩
  have f2 : Fr (fun j => (Value.slice a k c).ownBlock = some j) wr w3 := ((Fr.of_alloc wr o).trans f1).mono fun k _ h => h.elim (fun x => x.elim) id
  refine ⟨hz.keep f2 (fun j hj => ?_), (hF.trans f2).mono fun j hj h => ?_, by rw [← cellsZ_snoc]; exact hown3⟩
  · have := (hown.lt j hj).1; omega
  · rcases h with h | h
    · exact h
    · have := (hown.lt j h).1; omega

set_option maxHeartbeats 4000000 in
set_option maxRecDepth 100000 in
theorem rdynamic_c (w : World) (lo R : Nat) (sv : Value) (bs : List Nat) (p : Nat) (h : Rz w lo R sv bs p) (Q : Ending → World → Prop)
    (hno : ∀ (er : Nat) w', er ≠ 0 → own (leNum bs) (8 * bs.length) p = .error er → Fr (fun k => k = R) w w' → Q (.returned (.tuple #[.pointer none, .pointer none, .int .i64 (er : Int)])) w')
    (hok : ∀ ll dl q A B l1 h1 l2 h2 w', own (leNum bs) (8 * bs.length) p = .ok ((ll, dl), q) → Rc w' l1 h1 A ll → Rc w' l2 h2 B dl → w.heap.size ≤ l1 → w.heap.size ≤ l2 → Rz w' lo R sv bs q → Fr (fun k => k = R) w w' → Q (.returned (.tuple #[.pointer (some ⟨A, 0, none⟩), .pointer (some ⟨B, 0, none⟩), .int .i64 0])) w') :
    Calls Tryd.prog 27 #[.pointer (some ⟨R, 0, none⟩)] w Q := by
  obtain ⟨i0, hi, hz0, hz1, hz2⟩ := info_parts Tryd.info3
  have hRw := h.lt
  have hlow := h.slo
  have hl := h.rf.elen
  have hmk := make19
  have H := hide h
  have Hno := hide hno
  have Hok := hide hok
  have E : Hid (own (leNum bs) (8 * bs.length) p = andThen (tkn 5) (fun a => andThen (tkn 5) fun b => andThen (tkn 4) fun c => ownB a b c) (leNum bs) (8 * bs.length) p) := rfl
  have hp0 := h.rf.epos
  clear h hno hok
  go_enter Tryd.func27, Tryd.ntmps27
  go_wp2_with fail
  refine (ref_left w R sv bs p false H.out.rf).mono ?_
  rintro e w1 ⟨rfl, k, rfl⟩
  have H1 := hide (H.out.keep (Fr.of_drewN w k) (fun _ h => h.elim))
  have F1 := hide (Fr.none (S := fun j => j = R) (w := w) k)
  generalize w.drewN k = w1 at *
  by_cases h14 : p + 14 ≤ 8 * bs.length
  · have q14 : ¬ 8 * (bs.length : Int) - (p : Int) < 14 := by omega
    go_wp2_with fail
    refine rtakes w1 lo R sv bs p 5 H1.out (by omega) _ ⟨?ok1, ?no1⟩
    case no1 => (intro w2 hx; rw [tkn_ok (by omega)] at hx; cases hx)
    intro a p1 w2 hx hr hF
    have hab : a < 32 := tkn_lt hx
    have hp1 := (tkn_inv hx).2.2
    have E1 := hide (E.out.trans (then_ok hx))
    have H2 := hide (H1.out.next hr hF)
    have F2 := hide (F1.out.join hF)
    clear hx hr hF
    go_wp2_with fail
    refine rtakes w2 lo R sv bs p1 5 H2.out (by omega) _ ⟨?ok2, ?no2⟩
    case no2 => (intro w3 hx; rw [tkn_ok (by omega)] at hx; cases hx)
    intro b p2 w3 hx hr hF
    have hbb : b < 32 := tkn_lt hx
    have hp2 := (tkn_inv hx).2.2
    have E2 := hide (E1.out.trans (then_ok hx))
    have H3 := hide (H2.out.next hr hF)
    have F3 := hide (F2.out.join hF)
    clear hx hr hF
    go_wp2_with fail
    refine rtakes w3 lo R sv bs p2 4 H3.out (by omega) _ ⟨?ok3, ?no3⟩
    case no3 => (intro w4 hx; rw [tkn_ok (by omega)] at hx; cases hx)
    intro c p3 w4 hx hr hF
    have hcb : c < 16 := tkn_lt hx
    have E3 := hide (E2.out.trans (then_ok hx))
    have H4 := hide (H3.out.next hr hF)
    have F4 := hide (F3.out.join hF)
    clear hx hr hF hp1 hp2
    obtain ⟨n1, hn1⟩ : ∃ n1, n1 = 257 + a := ⟨_, rfl⟩
    obtain ⟨n2, hn2⟩ : ∃ n2, n2 = 1 + b := ⟨_, rfl⟩
    obtain ⟨N, hN⟩ : ∃ N, N = 4 + c := ⟨_, rfl⟩
    have e1 : (a : Int) + 257 = (n1 : Int) := by omega
    have e2 : (b : Int) + 1 = (n2 : Int) := by omega
    have e3 : (c : Int) + 4 = (N : Int) := by omega
    have E4 := E3.out
    unfold ownB at E4
    rw [← hn1, ← hn2, ← hN] at E4
    by_cases hbad : 286 < n1 ∨ 30 < n2
    · rw [if_pos hbad] at E4
      have X := hide (Hno.out 4 w4 (by omega) E4 F4.out)
      clear E4 hn1 hn2 hN
      rcases (show 286 < n1 ∨ (n1 ≤ 286 ∧ 30 < n2) by omega) with hc | ⟨hc1, hc2⟩
      · have k1 : (286 : Int) < n1 := by omega
        go_wp2
        go_ret3
        exact X.out
      · have k1 : ¬ (286 : Int) < n1 := by omega
        have k2 : (30 : Int) < n2 := by omega
        go_wp2
        go_ret3
        exact X.out
    · rw [if_neg hbad] at E4
      have HE4 := hide E4
      have k1 : ¬ (286 : Int) < n1 := by omega
      have k2 : ¬ (30 : Int) < n2 := by omega
      have hn1b : 257 ≤ n1 ∧ n1 ≤ 286 := by omega
      have hn2b : 1 ≤ n2 ∧ n2 ≤ 30 := by omega
      have hNb : N ≤ 19 := by omega
      clear E4 hn1 hn2 hN hbad
      go_wp2
      obtain ⟨O, hO⟩ : ∃ O, O = w4.heap.size := ⟨_, rfl⟩
      obtain ⟨w5, hw5⟩ : ∃ w5, w5 = (w4.alloc (.cells #[.int .i64 16, .int .i64 17, .int .i64 18, .int .i64 0, .int .i64 8, .int .i64 7, .int .i64 9, .int .i64 6, .int .i64 10, .int .i64 5, .int .i64 11, .int .i64 4, .int .i64 12, .int .i64 3, .int .i64 13, .int .i64 2, .int .i64 14, .int .i64 1, .int .i64 15] 3)).alloc (.cells (cellsZ zero19).toArray 3) := ⟨_, rfl⟩
      have f5 : Fr (fun _ => False) w4 w5 := by rw [hw5]; exact (Fr.of_alloc _ _).join (Fr.of_alloc _ _)
      have g5 : w5.heap[O + 1]? = some (.cells (cellsZ zero19).toArray 3 (0, 0)) := by rw [hw5]; exact heap_alloc_at (by rw [size_alloc, hO])
      have o5 : w5.heap[O]? = some (.cells (cellsZ (order.map fun (n : Nat) => (n : Int))).toArray 3 (0, 0)) := by
        rw [hw5, (Fr.of_alloc (w4.alloc (.cells #[.int .i64 16, .int .i64 17, .int .i64 18, .int .i64 0, .int .i64 8, .int .i64 7, .int .i64 9, .int .i64 6, .int .i64 10, .int .i64 5, .int .i64 11, .int .i64 4, .int .i64 12, .int .i64 3, .int .i64 13, .int .i64 2, .int .i64 14, .int .i64 1, .int .i64 15] 3)) (.cells (cellsZ zero19).toArray 3)).block O (by rw [size_alloc]; omega) (fun h => h)]
        exact heap_alloc_at hO
      rw [← hw5, ← hO]
      have H5 := hide (H4.out.keep f5 (fun _ h => h.elim))
      have F5 := hide (F4.out.join (Fl0 f5))
      have hOw : w.heap.size ≤ O := by rw [hO]; exact F4.out.size
      obtain ⟨X, hX⟩ : ∃ X, X = told N 0 zero19 (leNum bs) (8 * bs.length) p3 := ⟨_, rfl⟩
      have HX := hide hX
      have Ho5 := hide o5
      have Hg5 := hide g5
      clear hw5 hO f5 g5 o5 hX
      obtain ⟨G, hG⟩ : ∃ G, G = O + 1 := ⟨_, rfl⟩
      rw [← hG] at Hg5 ⊢
      have hOG : O < G := by omega
      clear hG
      go_loopw [13, 14, 15] (fun iv _ _ wr => ∃ (i : Nat) (cl : List Int) (q : Nat), i ≤ N ∧ iv = .int .i64 (i : Int) ∧ Hid (Rz wr lo R sv bs q) ∧ Hid (Fr (fun k => k = R) w wr) ∧ Hid (wr.heap[G]? = some (.cells (cellsZ cl).toArray 3 (0, 0))) ∧ Hid (wr.heap[O]? = some (.cells (cellsZ (order.map fun (n : Nat) => (n : Int))).toArray 3 (0, 0))) ∧ Hid (cl.length = 19) ∧ Hid (fine cl) ∧ Hid (X = told (N - i) i cl (leNum bs) (8 * bs.length) q)) (fun iv _ _ _ => N - (intOf iv).toNat)
      case atStart => exact ⟨0, zero19, p3, Nat.zero_le _, rfl, H5.out, F5.out, Hg5.out, Ho5.out, rfl, fine_zero, HX.out⟩
      case round =>
        obtain ⟨i, cl, q, hi1, rfl, T1, T2, T3, T4, T5, T6, T7⟩ := hrel
        by_cases hlt : i < N
        · have hlti : (i : Int) < (N : Int) := by omega
          have hi19 : (i : Int) < 19 := by omega
          have E0 : Hid (X = andThen (tkn 3) (fun x => told (N - (i + 1)) (i + 1) (cl.set (order.getD i 0) (x : Int))) (leNum bs) (8 * bs.length) q) := by
            show X = _
            rw [T7.out, show N - i = (N - (i + 1)) + 1 by omega]
            rfl
          obtain ⟨j, hj⟩ : ∃ j, j = order.getD i 0 := ⟨_, rfl⟩
          have hj19 : j < 19 := by rw [hj]; exact order_lt i
          have hji : (j : Int) < 19 := by omega
          rw [← hj] at E0
          have qo : ∀ w', Fr (fun k => k = R) wr w' → w'.cell? ⟨O, i, none⟩ = some (.int .i64 (j : Int)) ∧ w'.heap[G]? = some (.cells (cellsZ cl).toArray 3 (0, 0)) := by
            intro w' hF
            refine ⟨cell_of (by rw [hF.block O (lt_of T4.out) (by omega)]; exact T4.out) ?_, by rw [hF.block G (lt_of T3.out) (by omega)]; exact T3.out⟩
            have hio : i < order.length := by show i < 19; omega
            rw [hj]
            simp [cellsZ, List.getD_eq_getElem?_getD, List.getElem?_eq_getElem hio]
          have Qo := hide qo
          clear hj qo
          go_wp2_with fail
          refine rtakes wr lo R sv bs q 3 T1.out (by omega) _ ⟨?ok4, ?no4⟩
          case no4 =>
            intro w6 hx hF
            have X2 := hide (Hno.out 2 w6 (by omega) (HE4.out.trans (then_err (HX.out.symm.trans (E0.out.trans (then_err hx))))) (T2.out.join hF))
            clear hx hF
            go_wp2
            go_ret3
            exact X2.out
          intro x q2 w6 hx hr hF
          have hxb : x < 8 := tkn_lt hx
          have E1' := hide (E0.out.trans (then_ok hx))
          have U1 := hide (T1.out.next hr hF)
          have U2 := hide (T2.out.join hF)
          obtain ⟨qO, hob⟩ := Qo.out w6 hF
          have hl19 := T5.out
          have cG : w6.cell? ⟨G, j, none⟩ = some (.int .i64 (at0 cl j)) := cell_of hob (by simp [cellsZ, at0, List.getElem?_eq_getElem (show j < cl.length by omega)])
          have zG := frozen_of (o := j) hob
          have Hob := hide hob
          have V4 : Hid (w6.heap[O]? = some (.cells (cellsZ (order.map fun (n : Nat) => (n : Int))).toArray 3 (0, 0))) := (hF.block O (lt_of T4.out) (by omega)).trans T4.out
          clear hx hr hF hob
          go_wp2
          go_roundw
          case rel =>
            have fs := fr_set w6 G j (.int .i64 (x : Int))
            refine ⟨i + 1, cl.set j (x : Int), q2, by omega, by go_num, U1.out.keep fs (fun k e => by omega), (U2.out.trans fs).mono fun k hk e => by omega, ?_, (fs.block O (lt_of V4.out) (by omega)).trans V4.out, ?_, fine_set T6.out (by omega), E1'.out⟩
            · show _ = _
              rw [heap_set _ Hob.out]
              simp [cellsZ, List.map_set]
            · show (cl.set j (x : Int)).length = 19
              simp [hl19]
          case measure => simp [intOf]; omega
        · have hlti : ¬ (i : Int) < (N : Int) := by omega
          have hie : i = N := by omega
          subst hie
          have E0 : Hid (told i 0 zero19 (leNum bs) (8 * bs.length) p3 = .ok (cl, q)) := by
            show _ = _
            rw [← HX.out, T7.out, Nat.sub_self]
            rfl
          have hl19 := T5.out
          have hLies : Hid (LiesI wr (some ⟨G, 0, none⟩) cl) := RowAt.lies T3.out
          clear hlt
          go_wp2_with fail
          refine calls_args (refNew_c (some ⟨G, 0, none⟩) 19 cl wr hLies.out (by omega) _ ?b1 ?n1 ?y1) (by rw [hl19])
          case b1 => (intro hb; exact absurd ⟨by omega, T6.out⟩ hb)
          case n1 =>
            intro _ hn w6 hF
            have X2 := hide (Hno.out 4 w6 (by omega) (HE4.out.trans ((then_ok E0.out).trans (by rw [if_neg hn]; rfl))) (T2.out.join (Fl0 hF)))
            clear hF
            go_wp2
            go_ret3
            exact X2.out
          intro _ hcok w6 CM hC hF
          have E5 := HE4.out.trans (then_ok E0.out)
          rw [if_pos hcok] at E5
          have HE5 := hide E5
          have hwz := T2.out.size
          have F6 := hide (T2.out.join (Fl0 hF))
          have A0 : Hid (Al w6 w6 lo R sv bs (lens cl (n1 + n2) (n1 + n2 + 1) [] (leNum bs) (8 * bs.length) q) cl (n1 + n2) [] q none 0 0) := ⟨rfl, T1.out.keep hF (fun _ h => h.elim), Fr.refl _ _, World.ownsRow_nil _ _ _ _, Nat.zero_le _, ⟨n1 + n2 + 1, by simp, rfl⟩, fun i hi => absurd hi (Nat.not_lt_zero _)⟩
          obtain ⟨Y, hY⟩ : ∃ Y, Y = lens cl (n1 + n2) (n1 + n2 + 1) [] (leNum bs) (8 * bs.length) q := ⟨_, rfl⟩
          have HY := hide hY
          rw [← hY] at A0
          have HC := hide hC
          obtain ⟨clo, hclo⟩ : ∃ clo, clo = wr.heap.size := ⟨_, rfl⟩
          rw [← hclo] at HC
          have hRc : R < clo := by have := T1.out.lt; omega
          have hwc : w.heap.size ≤ clo := by omega
          obtain ⟨nn, hnn⟩ : ∃ nn, nn = n1 + n2 := ⟨_, rfl⟩
          have hnni : (n1 : Int) + (n2 : Int) = (nn : Int) := by omega
          have hnb : nn ≤ 400 := by omega
          rw [← hnn] at A0
          have Hnn := hide hnn
          have hC6 := hC.esz
          clear E5 hC hF hY hnn hclo
          have hR6 : R < w6.heap.size := A0.out.z.lt
          have hlow6 : lo ≤ w6.heap.size := A0.out.z.slo
          have hw6 : w.heap.size ≤ w6.heap.size := F6.out.size
          go_wp2
          go_loopw [18, 19, 20, 21, 22, 23, 24, 25, 26] (fun v _ _ _ _ _ _ _ _ wr => ∃ (acc : List Int) (q : Nat) (a : Option Addr) (c k : Nat), v = .slice a k c ∧ Hid (Al w6 wr lo R sv bs Y cl nn acc q a c k)) (fun v _ _ _ _ _ _ _ _ _ => nn - lenOf v)
          case atStart => exact ⟨[], q, none, 0, 0, rfl, A0⟩
          case round =>
            obtain ⟨acc, q7, a, c, k, rfl, HA⟩ := hrel
            have Hk : Hid (k = acc.length) := HA.out.kk
            have hkn : k ≤ nn := by have := Hk.out; have := HA.out.le; omega
            obtain ⟨f, hf, hYf⟩ := HA.out.eq
            have Hgood := hide HA.out.good
            by_cases hlt : k < nn
            · have hlti : (k : Int) < (nn : Int) := by omega
              obtain ⟨f', rfl⟩ : ∃ f', f = f' + 1 := ⟨f - 1, by have := Hk.out; omega⟩
              have E6 : Hid (Y = andThen (tk cl) (fun s => andThen (rep s acc) fun vt => if nn < acc.length + vt.2 then bad 4 else lens cl nn f' (acc ++ List.replicate vt.2 vt.1)) (leNum bs) (8 * bs.length) q7) := by
                show Y = _
                rw [hYf]
                simp only [lens]
                rw [if_neg (by have := Hk.out; omega)]
              have Hf : Hid (nn < acc.length + (f' + 1)) := hf
              have Hc7 := hide (HC.out.keep HA.out.fr (fun j h1 h2 e => by omega))
              clear hf hYf
              go_wp2_with fail
              refine rwords wr lo R sv bs q7 HA.out.z CM clo _ cl Hc7.out (Or.inr hRc) _ ⟨?ok5, ?no5⟩
              case no5 =>
                intro er w7 hx hF
                have her : er ≠ 0 := (Ne0.tk cl).ne hx
                have hei : ((er : Int) == 0) = false := beq_false_of_ne (by omega)
                have hej : ¬ (er : Int) = 0 := by omega
                have X2 := hide (Hno.out er w7 her (HE5.out.trans (then_err (HY.out.symm.trans (E6.out.trans (then_err hx))))) (F6.out.join (HA.out.fr.join hF)))
                clear hx hF
                go_wp2
                go_ret3
                exact X2.out
              intro s q9 w7 hx hr hF
              have hs19 : s < 19 := by have := tk_lt hx (by omega); omega
              obtain ⟨B1', B2', B3'⟩ := HA.out.next hR6 hr hF
              have E7 := hide (E6.out.trans (then_ok hx))
              have B1 := hide B1'
              have B2 := hide B2'
              have B3 := hide B3'
              clear hx hr hF B1' B2' B3' HA E6 Hc7
              by_cases h16 : s < 16
              · have h16i : (s : Int) < 16 := by omega
                have E8 : Hid (Y = lens cl nn f' (acc ++ List.replicate 1 (s : Int)) (leNum bs) (8 * bs.length) q9) := by
                  show _ = _
                  rw [E7.out]
                  unfold rep
                  rw [if_neg (by omega), if_neg (by omega), if_neg (by omega)]
                  show (if nn < acc.length + 1 then bad 4 else lens cl nn f' (acc ++ List.replicate 1 (s : Int))) (leNum bs) (8 * bs.length) q9 = _
                  rw [if_neg (by have := Hk.out; omega)]
                have hsz := B2.out.size
                go_wp2_with (at_builtin; go_must (refine wpList_append_lies _ rfl _ _ 30 rfl w6.heap.size 3 i0 (.int .i64 0) 1 8 Tryd.underlying30 hi hz0 hz1 hz2 rfl (by decide) (.slice a k c) k (cellsZ acc) rfl (B3.out.alloc _) ⟨w7.heap.size, 0, none⟩ 1 1 [.int .i64 (s : Int)] rfl rfl (cell_one_new _ _ _) (fun x hx => by simp at hx; subst hx; rfl) (by decide) (by unfold maxLen; omega) (by omega) (by simp; omega) (w7.heap.size + 1) (by simp) ?_); intro g cap w9 hown9 hgrow hat hlt9)
                obtain ⟨J1, J2, J3⟩ := al_append hR6 hlow6 B1.out B2.out B3.out hown9 hgrow
                have A2 : Hid (Al w6 w9 lo R sv bs Y cl nn (acc ++ [(s : Int)]) q9 (some ⟨g, 0, none⟩) cap (k + 1)) := by
                  have e1 := Hk.out
                  refine ⟨by simp; omega, J1, J2, J3, by simp; omega, ⟨f', by have := Hf.out; simp; omega, E8.out⟩, fine_rep 1 Hgood.out (by omega)⟩
                clear J1 J2 J3 hown9 hgrow hat hlt9
                go_roundw
                case rel => exact ⟨_, q9, some ⟨g, 0, none⟩, cap, k + 1, rfl, A2⟩
                case measure => simp [lenOf]; omega
              · have h16i : ¬ (s : Int) < 16 := by omega
                rcases (by omega : s = 16 ∨ s = 17 ∨ s = 18) with rfl | rfl | rfl
                · by_cases hk0 : k = 0
                  · subst hk0
                    have hacc : acc.length = 0 := Hk.out.symm
                    have E8 : Hid (Y = andThen (andThen (tkn 2) fun x => if acc.length = 0 then bad 4 else ret (at0 acc (acc.length - 1), 3 + x)) (fun vt => if nn < acc.length + vt.2 then bad 4 else lens cl nn f' (acc ++ List.replicate vt.2 vt.1)) (leNum bs) (8 * bs.length) q9) := E7.out
                    go_wp2_with fail
                    refine rtakes w7 lo R sv bs q9 2 B1.out (by omega) _ ⟨?ok6, ?no6⟩
                    case no6 =>
                      intro w8 hx hF
                      have X2 := hide (Hno.out 2 w8 (by omega) (HE5.out.trans (then_err (HY.out.symm.trans (E8.out.trans (then_err (then_err hx)))))) (F6.out.join (B2.out.join hF)))
                      clear hx hF
                      go_wp2
                      go_ret3
                      exact X2.out
                    intro x q8 w8 hx hr hF
                    have E9 : Y = .error 4 := by
                      rw [E8.out]
                      simp only [andThen, hx]
                      rw [if_pos hacc]
                      rfl
                    have X2 := hide (Hno.out 4 w8 (by omega) (HE5.out.trans (then_err (HY.out.symm.trans E9))) (F6.out.join (B2.out.join hF)))
                    clear hx hr hF E9
                    go_wp2
                    go_ret3
                    exact X2.out
                  · have hacc : ¬ acc.length = 0 := by have := Hk.out; omega
                    obtain ⟨v, hv⟩ : ∃ v, v = at0 acc (acc.length - 1) := ⟨_, rfl⟩
                    have hvr : 0 ≤ v ∧ v ≤ 15 := by rw [hv]; exact Hgood.out _ (by omega)
                    have E8 : Hid (Y = andThen (andThen (tkn 2) fun x => if acc.length = 0 then bad 4 else ret (v, 3 + x)) (fun vt => if nn < acc.length + vt.2 then bad 4 else lens cl nn f' (acc ++ List.replicate vt.2 vt.1)) (leNum bs) (8 * bs.length) q9) := by rw [hv]; exact E7.out
                    have E8' : Hid (Y = andThen (andThen (tkn 2) fun x => ret (v, 3 + x)) (fun vt => if nn < acc.length + vt.2 then bad 4 else lens cl nn f' (acc ++ List.replicate vt.2 vt.1)) (leNum bs) (8 * bs.length) q9) := by
                      show _ = _
                      rw [E8.out]
                      simp only [if_neg hacc]
                    clear E8
                    obtain ⟨E8, _⟩ : ∃ e : Hid (Y = andThen (andThen (tkn 2) fun x => ret (v, 3 + x)) (fun vt => if nn < acc.length + vt.2 then bad 4 else lens cl nn f' (acc ++ List.replicate vt.2 vt.1)) (leNum bs) (8 * bs.length) q9), True := ⟨E8', trivial⟩
                    obtain ⟨m, hm⟩ : ∃ m, k = m + 1 := ⟨k - 1, by omega⟩
                    obtain ⟨ad, rfl, hcell⟩ : ∃ ad, a = some ad ∧ w7.cell? (ad.add m) = some (.int .i64 v) := by
                      obtain ⟨ad, e1, e2⟩ := own_lies B3.out (acc.length - 1) (by omega)
                      refine ⟨ad, e1, ?_⟩
                      have hk1 := Hk.out
                      rw [show m = acc.length - 1 by omega, hv]
                      exact e2
                    have hk0i : (0 : Int) < (k : Int) := by omega
                    have hk0j : ((k : Int) == 0) = false := beq_false_of_ne (by omega)
                    have hk0l : ¬ (k : Int) = 0 := by omega
                    have hkm : (k : Int) - 1 = (m : Int) := by omega
                    have hmk : (m : Int) < (k : Int) := by omega
                    clear hv hm E8'
                    go_wp2_with fail
                    refine rtakes w7 lo R sv bs q9 2 B1.out (by omega) _ ⟨?ok7, ?no7⟩
                    case no7 =>
                      intro w8 hx hF
                      have X2 := hide (Hno.out 2 w8 (by omega) (HE5.out.trans (then_err (HY.out.symm.trans (E8.out.trans (then_err (then_err hx)))))) (F6.out.join (B2.out.join hF)))
                      clear hx hF
                      go_wp2
                      go_ret3
                      exact X2.out
                    intro x q8 w8 hx hr hF
                    have hxb : x < 4 := tkn_lt hx
                    obtain ⟨D1, D2, D3⟩ := al_next hR6 B1.out B2.out B3.out hr hF
                    have E9 : Hid (Y = (if nn < acc.length + (3 + x) then bad 4 else lens cl nn f' (acc ++ List.replicate (3 + x) v)) (leNum bs) (8 * bs.length) q8) := by
                      show _ = _
                      rw [E8.out]
                      simp only [andThen, hx]
                      rfl
                    have C1 := hide D1
                    have C2 := hide D2
                    have C3 := hide D3
                    clear hx hr hF D1 D2 D3
                    obtain ⟨t, ht⟩ : ∃ t, t = 3 + x := ⟨_, rfl⟩
                    have hti : (3 : Int) + (x : Int) = (t : Int) := by omega
                    have htb : 1 ≤ t ∧ t ≤ 200 := by omega
                    rw [← ht] at E9
                    have hsum : (k : Int) + 3 + (x : Int) = (k : Int) + (t : Int) := by omega
                    clear ht
                    by_cases hbig : nn < k + t
                    · have hbi : (nn : Int) < (k : Int) + (t : Int) := by omega
                      have hbj : (nn : Int) < (k : Int) + 3 + (x : Int) := by omega
                      have EA := E9.out
                      rw [if_pos (by rw [← Hk.out]; exact hbig)] at EA
                      have X2 := hide (Hno.out 4 w8 (by omega) (HE5.out.trans (then_err (HY.out.symm.trans EA))) (F6.out.join C2.out))
                      clear EA
                      go_wp2
                      go_ret3
                      exact X2.out
                    · have hbi : ¬ (nn : Int) < (k : Int) + (t : Int) := by omega
                      have hbj : ¬ (nn : Int) < (k : Int) + 3 + (x : Int) := by omega
                      have EA := E9.out
                      rw [if_neg (by rw [← Hk.out]; exact hbig)] at EA
                      have HEA := hide EA
                      clear EA
                      go_wp2
                      go_loopw [18, 26] (fun lv iv wq => ∃ (i : Nat) (a' : Option Addr) (c' k' : Nat), i ≤ t ∧ iv = .int .i64 (i : Int) ∧ lv = .slice a' k' c' ∧ Hid (k' = k + i) ∧ Hid (Rz wq lo R sv bs q8) ∧ Hid (Fr (fun k => k = R) w6 wq) ∧ Hid (wq.ownsRow w6.heap.size 3 1 (.slice a' k' c') k' (cellsZ (acc ++ List.replicate i v)))) (fun _ iv _ => t - (intOf iv).toNat)
                      case atStart => exact ⟨0, some ad, c, k, Nat.zero_le _, rfl, rfl, rfl, C1.out, C2.out, hide (by simpa using C3.out)⟩
                      case round =>
                        obtain ⟨i, a', c', k', hi1, rfl, rfl, I0, I1, I2, I3⟩ := hrel
                        have hk' : k' ≤ 800 := by have := I0.out; omega
                        by_cases hlt : i < t
                        · have hlti : (i : Int) < (t : Int) := by omega
                          have hltj : (i : Int) < 3 + (x : Int) := by omega
                          have hsz := I2.out.size
                          go_wp2_with (at_builtin; go_must (refine wpList_append_lies _ rfl _ _ 30 rfl w6.heap.size 3 i0 (.int .i64 0) 1 8 Tryd.underlying30 hi hz0 hz1 hz2 rfl (by decide) (.slice a' k' c') k' (cellsZ (acc ++ List.replicate i v)) rfl (I3.out.alloc _) ⟨wr.heap.size, 0, none⟩ 1 1 [.int .i64 v] rfl rfl (cell_one_new _ _ _) (fun x hx => by simp at hx; subst hx; rfl) (by decide) (by unfold maxLen; omega) (by omega) (by simp; omega) (wr.heap.size + 1) (by simp) ?_); intro g cap w9 hown9 hgrow hat hlt9)
                          obtain ⟨J1, J2, J3⟩ := al_append hR6 hlow6 I1.out I2.out I3.out hown9 hgrow
                          rw [rep_snoc] at J3
                          have K1 := hide J1
                          have K2 := hide J2
                          have K3 := hide J3
                          clear J1 J2 J3 hown9 hgrow hat hlt9
                          go_roundw
                          case rel => exact ⟨i + 1, some ⟨g, 0, none⟩, cap, k' + 1, by omega, by go_num, rfl, (by have := I0.out; show k' + 1 = k + (i + 1); omega), K1.out, K2.out, K3.out⟩
                          case measure => simp [intOf]; omega
                        · have hlti : ¬ (i : Int) < (t : Int) := by omega
                          have hltj : ¬ (i : Int) < 3 + (x : Int) := by omega
                          have hie : i = t := by omega
                          subst hie
                          have A2 : Hid (Al w6 wr lo R sv bs Y cl nn (acc ++ List.replicate i v) q8 a' c' k') := by
                            have e0 := I0.out
                            have e1 := Hk.out
                            refine ⟨by simp; omega, I1.out, I2.out, I3.out, by simp; omega, ⟨f', by have := Hf.out; simp; omega, HEA.out⟩, fine_rep i Hgood.out hvr⟩
                          go_wp2
                          go_roundw
                          case rel => exact ⟨_, q8, a', c', k', rfl, A2⟩
                          case measure => have := I0.out; simp [lenOf]; omega
                · have E8 : Hid (Y = andThen (andThen (tkn 3) fun x => ret ((0 : Int), 3 + x)) (fun vt => if nn < acc.length + vt.2 then bad 4 else lens cl nn f' (acc ++ List.replicate vt.2 vt.1)) (leNum bs) (8 * bs.length) q9) := E7.out
                  go_wp2_with fail
                  refine rtakes w7 lo R sv bs q9 3 B1.out (by omega) _ ⟨?ok8, ?no8⟩
                  case no8 =>
                    intro w8 hx hF
                    have X2 := hide (Hno.out 2 w8 (by omega) (HE5.out.trans (then_err (HY.out.symm.trans (E8.out.trans (then_err (then_err hx)))))) (F6.out.join (B2.out.join hF)))
                    clear hx hF
                    go_wp2
                    go_ret3
                    exact X2.out
                  intro x q8 w8 hx hr hF
                  have hxb : x < 8 := tkn_lt hx
                  obtain ⟨D1, D2, D3⟩ := al_next hR6 B1.out B2.out B3.out hr hF
                  have E9 : Hid (Y = (if nn < acc.length + (3 + x) then bad 4 else lens cl nn f' (acc ++ List.replicate (3 + x) (0 : Int))) (leNum bs) (8 * bs.length) q8) := by
                    show _ = _
                    rw [E8.out]
                    simp only [andThen, hx]
                    rfl
                  have C1 := hide D1
                  have C2 := hide D2
                  have C3 := hide D3
                  clear hx hr hF D1 D2 D3
                  obtain ⟨t, ht⟩ : ∃ t, t = 3 + x := ⟨_, rfl⟩
                  have hti : (3 : Int) + (x : Int) = (t : Int) := by omega
                  have htb : 1 ≤ t ∧ t ≤ 200 := by omega
                  rw [← ht] at E9
                  have hsum : (k : Int) + 3 + (x : Int) = (k : Int) + (t : Int) := by omega
                  clear ht
                  by_cases hbig : nn < k + t
                  · have hbi : (nn : Int) < (k : Int) + (t : Int) := by omega
                    have hbj : (nn : Int) < (k : Int) + 3 + (x : Int) := by omega
                    have EA := E9.out
                    rw [if_pos (by rw [← Hk.out]; exact hbig)] at EA
                    have X2 := hide (Hno.out 4 w8 (by omega) (HE5.out.trans (then_err (HY.out.symm.trans EA))) (F6.out.join C2.out))
                    clear EA
                    go_wp2
                    go_ret3
                    exact X2.out
                  · have hbi : ¬ (nn : Int) < (k : Int) + (t : Int) := by omega
                    have hbj : ¬ (nn : Int) < (k : Int) + 3 + (x : Int) := by omega
                    have EA := E9.out
                    rw [if_neg (by rw [← Hk.out]; exact hbig)] at EA
                    have HEA := hide EA
                    clear EA
                    go_wp2
                    go_loopw [18, 26] (fun lv iv wq => ∃ (i : Nat) (a' : Option Addr) (c' k' : Nat), i ≤ t ∧ iv = .int .i64 (i : Int) ∧ lv = .slice a' k' c' ∧ Hid (k' = k + i) ∧ Hid (Rz wq lo R sv bs q8) ∧ Hid (Fr (fun k => k = R) w6 wq) ∧ Hid (wq.ownsRow w6.heap.size 3 1 (.slice a' k' c') k' (cellsZ (acc ++ List.replicate i (0 : Int))))) (fun _ iv _ => t - (intOf iv).toNat)
                    case atStart => exact ⟨0, a, c, k, Nat.zero_le _, rfl, rfl, rfl, C1.out, C2.out, hide (by simpa using C3.out)⟩
                    case round =>
                      obtain ⟨i, a', c', k', hi1, rfl, rfl, I0, I1, I2, I3⟩ := hrel
                      have hk' : k' ≤ 800 := by have := I0.out; omega
                      by_cases hlt : i < t
                      · have hlti : (i : Int) < (t : Int) := by omega
                        have hltj : (i : Int) < 3 + (x : Int) := by omega
                        have hsz := I2.out.size
                        go_wp2_with (at_builtin; go_must (refine wpList_append_lies _ rfl _ _ 30 rfl w6.heap.size 3 i0 (.int .i64 0) 1 8 Tryd.underlying30 hi hz0 hz1 hz2 rfl (by decide) (.slice a' k' c') k' (cellsZ (acc ++ List.replicate i (0 : Int))) rfl (I3.out.alloc _) ⟨wr.heap.size, 0, none⟩ 1 1 [.int .i64 (0 : Int)] rfl rfl (cell_one_new _ _ _) (fun x hx => by simp at hx; subst hx; rfl) (by decide) (by unfold maxLen; omega) (by omega) (by simp; omega) (wr.heap.size + 1) (by simp) ?_); intro g cap w9 hown9 hgrow hat hlt9)
                        obtain ⟨J1, J2, J3⟩ := al_append hR6 hlow6 I1.out I2.out I3.out hown9 hgrow
                        rw [rep_snoc] at J3
                        have K1 := hide J1
                        have K2 := hide J2
                        have K3 := hide J3
                        clear J1 J2 J3 hown9 hgrow hat hlt9
                        go_roundw
                        case rel => exact ⟨i + 1, some ⟨g, 0, none⟩, cap, k' + 1, by omega, by go_num, rfl, (by have := I0.out; show k' + 1 = k + (i + 1); omega), K1.out, K2.out, K3.out⟩
                        case measure => simp [intOf]; omega
                      · have hlti : ¬ (i : Int) < (t : Int) := by omega
                        have hltj : ¬ (i : Int) < 3 + (x : Int) := by omega
                        have hie : i = t := by omega
                        subst hie
                        have A2 : Hid (Al w6 wr lo R sv bs Y cl nn (acc ++ List.replicate i (0 : Int)) q8 a' c' k') := by
                          have e0 := I0.out
                          have e1 := Hk.out
                          refine ⟨by simp; omega, I1.out, I2.out, I3.out, by simp; omega, ⟨f', by have := Hf.out; simp; omega, HEA.out⟩, fine_rep i Hgood.out (by omega)⟩
                        go_wp2
                        go_roundw
                        case rel => exact ⟨_, q8, a', c', k', rfl, A2⟩
                        case measure => have := I0.out; simp [lenOf]; omega
                · have E8 : Hid (Y = andThen (andThen (tkn 7) fun x => ret ((0 : Int), 11 + x)) (fun vt => if nn < acc.length + vt.2 then bad 4 else lens cl nn f' (acc ++ List.replicate vt.2 vt.1)) (leNum bs) (8 * bs.length) q9) := E7.out
                  go_wp2_with fail
                  refine rtakes w7 lo R sv bs q9 7 B1.out (by omega) _ ⟨?ok9, ?no9⟩
                  case no9 =>
                    intro w8 hx hF
                    have X2 := hide (Hno.out 2 w8 (by omega) (HE5.out.trans (then_err (HY.out.symm.trans (E8.out.trans (then_err (then_err hx)))))) (F6.out.join (B2.out.join hF)))
                    clear hx hF
                    go_wp2
                    go_ret3
                    exact X2.out
                  intro x q8 w8 hx hr hF
                  have hxb : x < 128 := tkn_lt hx
                  obtain ⟨D1, D2, D3⟩ := al_next hR6 B1.out B2.out B3.out hr hF
                  have E9 : Hid (Y = (if nn < acc.length + (11 + x) then bad 4 else lens cl nn f' (acc ++ List.replicate (11 + x) (0 : Int))) (leNum bs) (8 * bs.length) q8) := by
                    show _ = _
                    rw [E8.out]
                    simp only [andThen, hx]
                    rfl
                  have C1 := hide D1
                  have C2 := hide D2
                  have C3 := hide D3
                  clear hx hr hF D1 D2 D3
                  obtain ⟨t, ht⟩ : ∃ t, t = 11 + x := ⟨_, rfl⟩
                  have hti : (11 : Int) + (x : Int) = (t : Int) := by omega
                  have htb : 1 ≤ t ∧ t ≤ 200 := by omega
                  rw [← ht] at E9
                  have hsum : (k : Int) + 11 + (x : Int) = (k : Int) + (t : Int) := by omega
                  clear ht
                  by_cases hbig : nn < k + t
                  · have hbi : (nn : Int) < (k : Int) + (t : Int) := by omega
                    have hbj : (nn : Int) < (k : Int) + 11 + (x : Int) := by omega
                    have EA := E9.out
                    rw [if_pos (by rw [← Hk.out]; exact hbig)] at EA
                    have X2 := hide (Hno.out 4 w8 (by omega) (HE5.out.trans (then_err (HY.out.symm.trans EA))) (F6.out.join C2.out))
                    clear EA
                    go_wp2
                    go_ret3
                    exact X2.out
                  · have hbi : ¬ (nn : Int) < (k : Int) + (t : Int) := by omega
                    have hbj : ¬ (nn : Int) < (k : Int) + 11 + (x : Int) := by omega
                    have EA := E9.out
                    rw [if_neg (by rw [← Hk.out]; exact hbig)] at EA
                    have HEA := hide EA
                    clear EA
                    go_wp2
                    go_loopw [18, 26] (fun lv iv wq => ∃ (i : Nat) (a' : Option Addr) (c' k' : Nat), i ≤ t ∧ iv = .int .i64 (i : Int) ∧ lv = .slice a' k' c' ∧ Hid (k' = k + i) ∧ Hid (Rz wq lo R sv bs q8) ∧ Hid (Fr (fun k => k = R) w6 wq) ∧ Hid (wq.ownsRow w6.heap.size 3 1 (.slice a' k' c') k' (cellsZ (acc ++ List.replicate i (0 : Int))))) (fun _ iv _ => t - (intOf iv).toNat)
                    case atStart => exact ⟨0, a, c, k, Nat.zero_le _, rfl, rfl, rfl, C1.out, C2.out, hide (by simpa using C3.out)⟩
                    case round =>
                      obtain ⟨i, a', c', k', hi1, rfl, rfl, I0, I1, I2, I3⟩ := hrel
                      have hk' : k' ≤ 800 := by have := I0.out; omega
                      by_cases hlt : i < t
                      · have hlti : (i : Int) < (t : Int) := by omega
                        have hltj : (i : Int) < 11 + (x : Int) := by omega
                        have hsz := I2.out.size
                        go_wp2_with (at_builtin; go_must (refine wpList_append_lies _ rfl _ _ 30 rfl w6.heap.size 3 i0 (.int .i64 0) 1 8 Tryd.underlying30 hi hz0 hz1 hz2 rfl (by decide) (.slice a' k' c') k' (cellsZ (acc ++ List.replicate i (0 : Int))) rfl (I3.out.alloc _) ⟨wr.heap.size, 0, none⟩ 1 1 [.int .i64 (0 : Int)] rfl rfl (cell_one_new _ _ _) (fun x hx => by simp at hx; subst hx; rfl) (by decide) (by unfold maxLen; omega) (by omega) (by simp; omega) (wr.heap.size + 1) (by simp) ?_); intro g cap w9 hown9 hgrow hat hlt9)
                        obtain ⟨J1, J2, J3⟩ := al_append hR6 hlow6 I1.out I2.out I3.out hown9 hgrow
                        rw [rep_snoc] at J3
                        have K1 := hide J1
                        have K2 := hide J2
                        have K3 := hide J3
                        clear J1 J2 J3 hown9 hgrow hat hlt9
                        go_roundw
                        case rel => exact ⟨i + 1, some ⟨g, 0, none⟩, cap, k' + 1, by omega, by go_num, rfl, (by have := I0.out; show k' + 1 = k + (i + 1); omega), K1.out, K2.out, K3.out⟩
                        case measure => simp [intOf]; omega
                      · have hlti : ¬ (i : Int) < (t : Int) := by omega
                        have hltj : ¬ (i : Int) < 11 + (x : Int) := by omega
                        have hie : i = t := by omega
                        subst hie
                        have A2 : Hid (Al w6 wr lo R sv bs Y cl nn (acc ++ List.replicate i (0 : Int)) q8 a' c' k') := by
                          have e0 := I0.out
                          have e1 := Hk.out
                          refine ⟨by simp; omega, I1.out, I2.out, I3.out, by simp; omega, ⟨f', by have := Hf.out; simp; omega, HEA.out⟩, fine_rep i Hgood.out (by omega)⟩
                        go_wp2
                        go_roundw
                        case rel => exact ⟨_, q8, a', c', k', rfl, A2⟩
                        case measure => have := I0.out; simp [lenOf]; omega
            · have hlti : ¬ (k : Int) < (nn : Int) := by omega
              have hke : k = nn := by omega
              have Hll : Hid (acc.length = nn) := by
                have := Hk.out
                show acc.length = nn
                omega
              have EY : Y = .ok (acc, q7) := by
                obtain ⟨f', rfl⟩ : ∃ f', f = f' + 1 := ⟨f - 1, by have := Hll.out; omega⟩
                rw [hYf]
                simp only [lens]
                rw [if_pos (by have := Hll.out; omega)]
                rfl
              have E6 := hide (HE5.out.trans (then_ok (HY.out.symm.trans EY)))
              have HL0 : Hid (LiesI wr a acc) := own_lies HA.out.own
              obtain ⟨g, hag, hcap⟩ : ∃ g, a = some ⟨g, 0, none⟩ ∧ k ≤ c := by
                have h := HA.out.own
                rcases h.2 with ⟨hv, e0⟩ | ⟨g, cap, cur, hv, hg, hh, hr⟩
                · have h1 := h.1
                  have := Hll.out
                  simp [cellsZ] at h1
                  exfalso
                  cases hv
                  omega
                · cases hv
                  have h1 := h.1
                  exact ⟨g, rfl, hr.1⟩
              subst hag
              have hl256 : wr.cell? ⟨g, 256, none⟩ = some (.int .i64 (at0 acc 256)) := by
                obtain ⟨ad, e, hc⟩ := HL0.out 256 (by have := Hll.out; have := Hnn.out; omega)
                cases e
                rw [add_none, Nat.zero_add] at hc
                exact hc
              have hk256 : (256 : Int) < (k : Int) := by have := Hnn.out; omega
              have hn1c : (n1 : Int) ≤ (c : Int) := by have := Hnn.out; omega
              have hn1k : (n1 : Int) ≤ (k : Int) := by have := Hnn.out; omega
              have hkc : (k : Int) ≤ (c : Int) := by omega
              have F7 := hide (F6.out.join HA.out.fr)
              have HZ := hide HA.out.z
              have hs7 := HA.out.fr.size
              clear EY hf hYf
              by_cases hz : at0 acc 256 = 0
              · have X2 := hide (Hno.out 4 wr (by omega) (E6.out.trans (by rw [if_neg (fun h => h.2.2 hz)]; rfl)) F7.out)
                rw [hz] at hl256
                clear hz
                go_wp2
                go_ret3
                exact X2.out
              · obtain ⟨z, hzz⟩ : ∃ z, z = at0 acc 256 := ⟨_, rfl⟩
                have Hz := hide hz
                rw [← hzz] at hl256 hz
                have hzi : (z == 0) = false := beq_false_of_ne hz
                clear hzz
                have ek1 : (acc.take n1).length = n1 := len_take (by have := Hll.out; have := Hnn.out; omega)
                have ek2 : (acc.drop n1).length = nn - n1 := by have := Hll.out; simp; omega
                have Ek1 := hide ek1
                have Ek2 := hide ek2
                clear ek1 ek2
                go_wp2_with fail
                refine calls_args (refNew_c (some ⟨g, 0, none⟩) c (acc.take n1) wr (lies_take n1 HL0.out) (by rw [Ek1.out]; omega) _ ?b3 ?n3 ?y3) (by rw [Ek1.out])
                case b3 => (intro hb; exact absurd (good_take Hgood.out (by omega)) hb)
                case n3 =>
                  intro _ hn w7 hF
                  have HL7 := hide (HL0.out.fr hF)
                  have F8 := hide (F7.out.join (Fl0 hF))
                  clear hF
                  go_wp2_with fail
                  refine calls_args (refNew_c (some ⟨g, n1, none⟩) (c - n1) (acc.drop n1) w7 (lies_drop n1 HL7.out) (by rw [Ek2.out]; omega) _ ?b4 ?n4 ?y4) (by rw [Ek2.out]; try rfl)
                  case b4 => (intro hb; exact absurd (good_drop Hgood.out (by have := Hll.out; omega)) hb)
                  case n4 =>
                    intro _ hn2 w8 hF
                    have X2 := hide (Hno.out 4 w8 (by omega) (E6.out.trans (by rw [if_neg (fun h => hn h.1)]; rfl)) (F8.out.join (Fl0 hF)))
                    clear hF
                    go_wp2
                    go_ret3
                    exact X2.out
                  case y4 =>
                    intro _ hn2 w8 B _ hF
                    have X2 := hide (Hno.out 4 w8 (by omega) (E6.out.trans (by rw [if_neg (fun h => hn h.1)]; rfl)) (F8.out.join (Fl0 hF)))
                    clear hF
                    go_wp2
                    go_ret3
                    exact X2.out
                case y3 =>
                  intro _ hok1 w7 A hC1 hF
                  have HL7 := hide (HL0.out.fr hF)
                  have F8 := hide (F7.out.join (Fl0 hF))
                  have HZ7 := hide (HZ.out.keep hF (fun _ h => h.elim))
                  have HC1 := hide hC1
                  have hs8 := hF.size
                  clear hF hC1
                  go_wp2_with fail
                  refine calls_args (refNew_c (some ⟨g, n1, none⟩) (c - n1) (acc.drop n1) w7 (lies_drop n1 HL7.out) (by rw [Ek2.out]; omega) _ ?b5 ?n5 ?y5) (by rw [Ek2.out]; try rfl)
                  case b5 => (intro hb; exact absurd (good_drop Hgood.out (by have := Hll.out; omega)) hb)
                  case n5 =>
                    intro _ hn2 w8 hF
                    have X2 := hide (Hno.out 4 w8 (by omega) (E6.out.trans (by rw [if_neg (fun h => hn2 h.2.1)]; rfl)) (F8.out.join (Fl0 hF)))
                    clear hF
                    go_wp2
                    go_ret3
                    exact X2.out
                  case y5 =>
                    intro _ hok2 w8 B hC2 hF
                    have X2 := hide (Hok.out (acc.take n1) (acc.drop n1) q7 A B _ _ _ _ w8 (E6.out.trans (by rw [if_pos ⟨hok1, hok2, Hz.out⟩]; rfl)) (HC1.out.keep hF (fun _ _ _ h => h)) hC2 (by omega) (by omega) (HZ7.out.keep hF (fun _ h => h.elim)) (F8.out.join (Fl0 hF)))
                    clear hF hC2
                    go_wp2
                    go_ret3
                    exact X2.out
  · have q14 : 8 * (bs.length : Int) - (p : Int) < 14 := by omega
    have X := hide (Hno.out 2 w1 (by omega) (own_short h14) F1.out)
    go_wp2
    go_ret3
    exact X.out
end Go.Proofs.YtleeaofofofgmaaDoor
