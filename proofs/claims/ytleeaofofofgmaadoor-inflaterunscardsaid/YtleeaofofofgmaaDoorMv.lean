/-
  The contract of a block's head.
-/
import Derived.Test.YtleeaofofofgmaaDoorMu
namespace Go.Proofs.YtleeaofofofgmaaDoor
open Go.RowKit

theorem code_new {w w' : World} {R M C lo1 hi1 : Nat} {ov : Value} {ls : List Int} (hC : Cd w' lo1 hi1 C ls) (hl : w.heap.size ≤ lo1) (hR : R ≤ w.heap.size) (hM : M < w.heap.size) (ho : ∀ g, ov.ownBlock = some g → g < w.heap.size) : CodeAt w' R M ov (.pointer (some ⟨C, 0, none⟩)) ls :=
  ⟨C, lo1, hi1, rfl, by omega, hC, Or.inl (by omega), fun g hg => Or.inl (by have := ho g hg; omega)⟩

theorem not_low {w : World} {lo R M B : Nat} {bs : List Nat} {p : Nat} {mst plc : Int} {lst : Bool} {lf bk : Int} {b1 b2 f1 f2 ov : Value} {out : List Nat} (h : Mo w lo R M B bs p mst plc lst lf bk b1 b2 f1 f2 ov out) (hlo : 0 < lo) : ¬ Sm M B w 0 := fun e => by
  have := h.rd.elo; have := h.rd.ehi; have := h.hM
  have e0 : w.cell? ⟨M, 11, none⟩ = some ov := cell_of h.obj rfl
  rcases e with e | e | ⟨v, e1, e2⟩
  · omega
  · omega
  · rw [e0] at e1
    cases e1
    have := (h.own.lt 0 e2).1; omega

set_option maxHeartbeats 2000000 in
set_option maxRecDepth 100000 in
theorem begin_c (w : World) (lo R M B : Nat) (bs : List Nat) (most : Nat) (hg : Gl w) (hlo : 0 < lo) (p : Nat) (out : List Nat) (h : Mx w lo R M B bs most ⟨p, false, out, .ahead⟩) (u v : Value) (Q : Ending → World → Prop)
    (hQ : AdvQ lo R M B bs most ⟨p, false, out, .ahead⟩ w u (.tuple #[]) v Q) : Calls Tryd.prog 44 #[.pointer (some ⟨M, 0, none⟩)] w Q := by
  obtain ⟨lf, bk, b1, b2, f1, f2, ov, hO, _, hX, hb, ho⟩ := h
  have q0 : w.cell? ⟨M, 0, none⟩ = some (.pointer (some ⟨B, 0, none⟩)) := cell_of hO.obj rfl
  have HO := hide hO
  have HX := hide hX
  have Hb := hide hb
  have Ho : Hid (out.length ≤ most) := ho
  have HQ := hide hQ
  have HG := hide hg
  have hB0 : 0 < B := by have := hO.rd.elo; omega
  have hM0 : 0 < M := by have := hO.rd.elo; have := hO.rd.ehi; have := hO.hM; omega
  have A : Hid (∀ er, head (leNum bs) (8 * bs.length) p = .error er → adv (leNum bs) (8 * bs.length) ⟨p, false, out, .ahead⟩ = .fail er) := by
    intro er h
    simp [adv, h]
  have A2 : Hid (∀ y q, head (leNum bs) (8 * bs.length) p = .ok (y, q) → adv (leNum bs) (8 * bs.length) ⟨p, false, out, .ahead⟩ = .go ⟨q, y.1, out, y.2⟩) := by
    intro y q h
    simp [adv, h]
  have E : Hid (head (leNum bs) (8 * bs.length) p = andThen (tkn 1) (fun l => andThen (tkn 2) fun k => andThen (kindOf k) fun pl => ret (decide (l = 1), pl)) (leNum bs) (8 * bs.length) p) := rfl
  clear hO hX hb ho hQ hg
  go_enter Tryd.func44, Tryd.ntmps44
  go_wp2_with fail
  refine calls_args (low_reads _ lo R B bs p 1 HO.out.rd (by omega) _ ⟨?ok1, ?no1⟩) rfl
  case no1 => (intro er w1 hx hF; exact ⟨rfl, HQ.out.fail er w1 (A.out er (E.out.trans (then_err hx))) (HO.out.md.fr hF HO.out.mi.ne) (HO.out.frB hF)⟩)
  intro l p1 w1 hx hR hF
  have hl2 : l < 2 := tkn_lt hx
  have E1 := hide (E.out.trans (then_ok hx))
  have H1 := hide (HO.out.next hR hF)
  have HF1 := hide (HO.out.frB hF)
  have hBR := HO.out.rd.ehi
  have HX1 := hide (HX.out.keep hF (fun k e => Or.inl (by omega)))
  obtain ⟨lb, hlb⟩ : ∃ lb, lb = decide (l = 1) := ⟨_, rfl⟩
  have hlb1 : ((l : Int) == 1) = lb := by
    rw [hlb]
    rcases (by omega : l = 0 ∨ l = 1) with rfl | rfl <;> rfl
  have hlb2 : decide ((l : Int) = 1) = lb := by
    rw [hlb]
    rcases (by omega : l = 0 ∨ l = 1) with rfl | rfl <;> rfl
  have Hlb := hide hlb
  have q4 : w1.cell? ⟨M, 4, none⟩ = some (.bool false) := cell_of H1.out.obj rfl
  have z4 := frozen_of (o := 4) H1.out.obj
  have q0 : w1.cell? ⟨M, 0, none⟩ = some (.pointer (some ⟨B, 0, none⟩)) := cell_of H1.out.obj rfl
  clear hx hR hF hlb
  go_wp2_with fail
  have H2 := hide (H1.out.turn (lst' := lb) (fr_set w1 M 4 (.bool lb)) (heap_set (o := 4) _ H1.out.obj))
  have HF2 := hide (HF1.out.join (H1.out.frM (fr_set w1 M 4 (.bool lb))))
  have HX2 := hide (HX1.out.keep (fr_set w1 M 4 (.bool lb)) (fun k e => Or.inr (Or.inl e)))
  clear q4 z4 q0 HF1 HX1 H1
  generalize w1.setCell ⟨M, 4, none⟩ (.bool lb) = w2 at *
  refine calls_args (low_reads w2 lo R B bs p1 2 H2.out.rd (by omega) _ ⟨?ok2, ?no2⟩) rfl
  case no2 => (intro er w3 hx hF; exact ⟨rfl, HQ.out.fail er w3 (A.out er (E1.out.trans (then_err hx))) (H2.out.md.fr hF H2.out.mi.ne) (HF2.out.join (H2.out.frB hF))⟩)
  intro k p2 w3 hx hR hF
  have hk4 : k < 4 := tkn_lt hx
  have E2 := hide (E1.out.trans (then_ok hx))
  have H3 := hide (H2.out.next hR hF)
  have HF3 := hide (HF2.out.join (H2.out.frB hF))
  have HX3 := hide (HX2.out.keep hF (fun k e => Or.inl (by omega)))
  clear hx hR hF
  rcases (by omega : k = 0 ∨ k = 1 ∨ k = 2 ∨ k = 3) with rfl | rfl | rfl | rfl
  · have E3 : Hid (head (leNum bs) (8 * bs.length) p = andThen (andThen storedHead fun n => ret (.stored n)) (fun pl => ret (decide (l = 1), pl)) (leNum bs) (8 * bs.length) p2) := E2.out
    go_wp2_with fail
    refine calls_args (storedHead_c w3 lo R M B bs p2 H3.out.mi _ ⟨?ok3, ?no3⟩) rfl
    case no3 => (intro er w4 hx hF; exact ⟨rfl, HQ.out.fail er w4 (A.out er (E3.out.trans (then_err (then_err hx)))) (H3.out.md.fr hF H3.out.mi.ne) (HF3.out.join (H3.out.frB hF))⟩)
    intro n p3 w4 hx hR hF
    have hn : n ≤ 65535 := storedHead_le hx
    have A3 := hide (A2.out _ _ (E3.out.trans (then_ok (then_ok hx))))
    have H4 := hide (H3.out.next hR hF)
    have HF4 := hide (HF3.out.join (H3.out.frB hF))
    have HX4 := hide (HX3.out.keep hF (fun k e => Or.inl (by omega)))
    have q5 : w4.cell? ⟨M, 5, none⟩ = some (.int .i64 lf) := cell_of H4.out.obj rfl
    have z5 := frozen_of (o := 5) H4.out.obj
    have q3 : w4.cell? ⟨M, 3, none⟩ = some (.int .i64 0) := cell_of H4.out.obj rfl
    have z3 := frozen_of (o := 3) H4.out.obj
    clear hx hR hF
    go_wp2
    go_end0
    have f5 : Fr (fun k => k = M) w4 ((w4.setCell ⟨M, 5, none⟩ (.int .i64 (n : Int))).setCell ⟨M, 3, none⟩ (.int .i64 1)) := (fr_set w4 M 5 _).join (fr_set _ M 3 _)
    have H5 := H4.out.turn (plc' := 1) (lf' := (n : Int)) f5 (heap_set (o := 3) _ (heap_set (o := 5) _ H4.out.obj))
    rw [← Hlb.out] at A3
    exact HQ.out.go _ _ A3.out ⟨(n : Int), bk, b1, b2, f1, f2, ov, H5, ⟨rfl, hn⟩, HX4.out.keep f5 (fun k e => Or.inr (Or.inl e)), Hb.out, Ho.out⟩ (HF4.out.join (H4.out.frM f5))
  · have A3 := hide (A2.out _ _ (E2.out : head (leNum bs) (8 * bs.length) p = .ok ((decide (l = 1), .coded fixL fixD), p2)))
    go_wp2_with fail
    refine fixed_c w3 lo R M B bs p2 most _ lb lf bk b1 b2 f1 f2 ov out H3.out HX3.out _ ?_
    intro c1 c2 w4 hO4 hc1 hc2 hF
    have H4 := hide hO4
    have K1 := hide hc1
    have K2 := hide hc2
    have HF4 := hide (HF3.out.join (H3.out.frM hF ((cell_of (o := 11) hO4.obj rfl).trans (cell_of (o := 11) H3.out.obj rfl).symm)))
    have q7 : w4.cell? ⟨M, 7, none⟩ = some b1 := cell_of hO4.obj rfl
    have q8 : w4.cell? ⟨M, 8, none⟩ = some b2 := cell_of hO4.obj rfl
    have z7 := frozen_of (o := 7) hO4.obj
    have z8 := frozen_of (o := 8) hO4.obj
    have q3 : w4.cell? ⟨M, 3, none⟩ = some (.int .i64 0) := cell_of hO4.obj rfl
    have z3 := frozen_of (o := 3) hO4.obj
    obtain ⟨C1, _, _, rfl, _⟩ := hc1
    obtain ⟨C2, _, _, rfl, _⟩ := hc2
    clear hO4 hF
    go_wp2
    go_end0
    have f5 : Fr (fun k => k = M) w4 (((w4.setCell ⟨M, 7, none⟩ (.pointer (some ⟨C1, 0, none⟩))).setCell ⟨M, 8, none⟩ (.pointer (some ⟨C2, 0, none⟩))).setCell ⟨M, 3, none⟩ (.int .i64 2)) := ((fr_set w4 M 7 _).join (fr_set _ M 8 _)).join (fr_set _ M 3 _)
    have H5 := H4.out.turn (plc' := 2) (b1' := .pointer (some ⟨C1, 0, none⟩)) (b2' := .pointer (some ⟨C2, 0, none⟩)) f5 (heap_set (o := 3) _ (heap_set (o := 8) _ (heap_set (o := 7) _ H4.out.obj)))
    rw [← Hlb.out] at A3
    exact HQ.out.go _ _ A3.out ⟨lf, bk, _, _, _, _, ov, H5, ⟨K1.out.keep f5 (fun k e => Or.inr (Or.inl e)), K2.out.keep f5 (fun k e => Or.inr (Or.inl e))⟩, Or.inr ⟨K1.out.keep f5 (fun k e => Or.inr (Or.inl e)), K2.out.keep f5 (fun k e => Or.inr (Or.inl e))⟩, Hb.out, Ho.out⟩ (HF4.out.join (H4.out.frM f5))
  · have E3 : Hid (head (leNum bs) (8 * bs.length) p = andThen (andThen own fun c => ret (.coded c.1 c.2)) (fun pl => ret (decide (l = 1), pl)) (leNum bs) (8 * bs.length) p2) := E2.out
    go_wp2_with fail
    refine own_c w3 lo R M B bs p2 H3.out.mi (HG.out.keep HF3.out.fr (not_low HO.out hlo)) hlo _ ?okk ?noo
    case noo => (intro er w4 hx hF; exact ⟨rfl, HQ.out.fail er w4 (A.out er (E3.out.trans (then_err (then_err hx)))) (H3.out.md.fr hF H3.out.mi.ne) (HF3.out.join (H3.out.frB hF))⟩)
    intro ll dl p3 w4 C1 C2 lo1 hi1 lo2 hi2 hx hl1 hl2' hC1 hC2 hR hF
    have A3 := hide (A2.out _ _ (E3.out.trans (then_ok (then_ok hx))))
    have H4 := hide (H3.out.next hR hF)
    have HF4 := hide (HF3.out.join (H3.out.frB hF))
    have HX4 := hide (HX3.out.keep hF (fun k e => Or.inl (by omega)))
    have hRs : R ≤ w3.heap.size := Nat.le_trans H3.out.hM (Nat.le_of_lt H3.out.ltM)
    have K1 := hide (code_new (ov := ov) hC1 hl1 hRs H3.out.ltM (fun g hg => (H3.out.own.lt g hg).2))
    have K2 := hide (code_new (ov := ov) hC2 hl2' hRs H3.out.ltM (fun g hg => (H3.out.own.lt g hg).2))
    have q7 : w4.cell? ⟨M, 7, none⟩ = some b1 := cell_of H4.out.obj rfl
    have q8 : w4.cell? ⟨M, 8, none⟩ = some b2 := cell_of H4.out.obj rfl
    have z7 := frozen_of (o := 7) H4.out.obj
    have z8 := frozen_of (o := 8) H4.out.obj
    have q3 : w4.cell? ⟨M, 3, none⟩ = some (.int .i64 0) := cell_of H4.out.obj rfl
    have z3 := frozen_of (o := 3) H4.out.obj
    clear hx hR hF hC1 hC2 hl1 hl2'
    go_wp2
    go_end0
    have f5 : Fr (fun k => k = M) w4 (((w4.setCell ⟨M, 7, none⟩ (.pointer (some ⟨C1, 0, none⟩))).setCell ⟨M, 8, none⟩ (.pointer (some ⟨C2, 0, none⟩))).setCell ⟨M, 3, none⟩ (.int .i64 2)) := ((fr_set w4 M 7 _).join (fr_set _ M 8 _)).join (fr_set _ M 3 _)
    have H5 := H4.out.turn (plc' := 2) (b1' := .pointer (some ⟨C1, 0, none⟩)) (b2' := .pointer (some ⟨C2, 0, none⟩)) f5 (heap_set (o := 3) _ (heap_set (o := 8) _ (heap_set (o := 7) _ H4.out.obj)))
    rw [← Hlb.out] at A3
    exact HQ.out.go _ _ A3.out ⟨lf, bk, _, _, _, _, ov, H5, ⟨K1.out.keep f5 (fun k e => Or.inr (Or.inl e)), K2.out.keep f5 (fun k e => Or.inr (Or.inl e))⟩, HX4.out.keep f5 (fun k e => Or.inr (Or.inl e)), Hb.out, Ho.out⟩ (HF4.out.join (H4.out.frM f5))
  · have A3 := hide (A.out 4 (E2.out : head (leNum bs) (8 * bs.length) p = .error 4))
    go_wp2
    exact ⟨rfl, HQ.out.fail 4 _ A3.out H3.out.md HF3.out⟩
end Go.Proofs.YtleeaofofofgmaaDoor
