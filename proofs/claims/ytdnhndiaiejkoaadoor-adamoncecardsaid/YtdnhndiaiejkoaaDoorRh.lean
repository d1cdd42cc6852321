/-
  adam: the law's same.
-/
import Derived.Test.YtdnhndiaiejkoaaDoorRb
import Derived.BigQuiet
namespace Go.Proofs.YtdnhndiaiejkoaaDoor
open Go.RowKit
set_option linter.unusedVariables false

def inW (n : Int) : Prop := -9223372036854775808 ≤ n ∧ n < 9223372036854775808
structure Pz.ok (q : Pz) : Prop where
  x : inW q.x
  y : inW q.y
  dx : inW q.dx
  dy : inW q.dy
  w : inW q.w
  h : inW q.h
theorem wf64 (n : Int) (h : inW n) : (Lit.int .i64 n).wf = true := by
  obtain ⟨h1, h2⟩ := h
  simp [Lit.wf, IntKind.min, IntKind.max, IntKind.signed, IntKind.bits]
  omega

set_option maxRecDepth 100000 in
theorem lits_six (a b c d e f : Int) (h0 : inW a) (h1 : inW b) (h2 : inW c) (h3 : inW d) (h4 : inW e) (h5 : inW f) : Tryd.prog.keyLits 3 40 [.int .i64 a, .int .i64 b, .int .i64 c, .int .i64 d, .int .i64 e, .int .i64 f] = some [.int .i64 a, .int .i64 b, .int .i64 c, .int .i64 d, .int .i64 e, .int .i64 f] := by
  have u40 := Tryd.underlying40
  have u3 := Tryd.underlying3
  have c3 : Tryd.prog.cellsOf 3 = 1 := by kernel_rfl
  have c40 : Tryd.prog.cellsOf 40 = 6 := by kernel_rfl
  have one : ∀ n : Int, inW n → Tryd.prog.keyLits 2 3 [.int .i64 n] = some [.int .i64 n] := fun n hn => by
    unfold Program.keyLits
    rw [u3]
    simp [wf64 n hn]
  unfold Program.keyLits
  rw [u40]
  simp [c3, c40, one a h0, one b h1, one c h2, one d h3, one e h4, one f h5]

set_option maxRecDepth 100000 in
theorem eq_six (q : Pz) (h : q.ok) (w : World) : (Op.equalIn 10000 40 (.agg q.arr) (.agg q.arr)).run Tryd.prog w = .ok true w := by
  have hl := lits_six q.x q.y q.dx q.dy q.w q.h h.x h.y h.dx h.dy h.w h.h
  obtain ⟨r, h1, h2⟩ := run_equalIn_deep (P := Tryd.prog) 9998 2 40 (by kernel_rfl) w 3 3 (.agg q.arr) (.agg q.arr) _ _ (by kernel_rfl) (by kernel_rfl) hl hl
  rw [h1, h2.2 rfl]
set_option maxRecDepth 100000 in
theorem lits_six2 (a b c d e f : Int) (h0 : inW a) (h1 : inW b) (h2 : inW c) (h3 : inW d) (h4 : inW e) (h5 : inW f) : Tryd.prog.keyLits 3 32 [.int .i64 a, .int .i64 b, .int .i64 c, .int .i64 d, .int .i64 e, .int .i64 f] = some [.int .i64 a, .int .i64 b, .int .i64 c, .int .i64 d, .int .i64 e, .int .i64 f] := by
  have u40 := Tryd.underlying32
  have u3 := Tryd.underlying3
  have c3 : Tryd.prog.cellsOf 3 = 1 := by kernel_rfl
  have c40 : Tryd.prog.cellsOf 32 = 6 := by kernel_rfl
  have one : ∀ n : Int, inW n → Tryd.prog.keyLits 2 3 [.int .i64 n] = some [.int .i64 n] := fun n hn => by
    unfold Program.keyLits
    rw [u3]
    simp [wf64 n hn]
  unfold Program.keyLits
  rw [u40]
  simp [c3, c40, one a h0, one b h1, one c h2, one d h3, one e h4, one f h5]

set_option maxRecDepth 100000 in
theorem eq_six2 (q : Pz) (h : q.ok) (w : World) : (Op.equalIn 10000 32 (.agg q.arr) (.agg q.arr)).run Tryd.prog w = .ok true w := by
  have hl := lits_six2 q.x q.y q.dx q.dy q.w q.h h.x h.y h.dx h.dy h.w h.h
  obtain ⟨r, h1, h2⟩ := run_equalIn_deep (P := Tryd.prog) 9998 2 32 (by kernel_rfl) w 3 3 (.agg q.arr) (.agg q.arr) _ _ (by kernel_rfl) (by kernel_rfl) hl hl
  rw [h1, h2.2 rfl]

set_option maxHeartbeats 1600000 in
theorem same_c (a b : Option Addr) (c c2 : Nat) (l : List Pz) (w : World) (ha : LiesP w a l) (hb : LiesP w b l) (hlen : l.length ≤ 100000) (hok : ∀ k, k < l.length → (l.getD k default).ok) :
    Calls Tryd.prog 8 #[.slice a l.length c, .slice b l.length c2] w fun e w' => e = .returned (.bool true) ∧ Fr (fun _ => False) w w' := by
  have Ha := hide ha
  have Hb := hide hb
  have Hok := hide hok
  clear ha hb hok
  go_enter Tryd.func8, Tryd.ntmps8
  go_wp2
  go_loopw [5] (fun iv wr => ∃ (k : Nat), k ≤ l.length ∧ iv = .int .i64 k ∧ Hid (Fr (fun _ => False) w wr)) (fun iv _ => l.length - (intOf iv).toNat)
  case atStart => exact ⟨0, by omega, rfl, Fr.refl _ _⟩
  case round =>
    obtain ⟨k, hkl, rfl, HF⟩ := hrel
    by_cases hlt : k < l.length
    · obtain ⟨g, o, rfl, hA⟩ := Ha.out k hlt
      obtain ⟨g2, o2, rfl, hA2⟩ := Hb.out k hlt
      have h0 : (0 : Int) ≤ (k : Int) := by omega
      have h1 : (k : Int) < (l.length : Int) := by omega
      have hE := eq_six (l.getD k default) (Hok.out k hlt)
      generalize l.getD k default = q at *
      obtain ⟨x, y, dx, dy, pw, ph⟩ := q
      obtain ⟨d0, d1, d2, d3, d4, d5⟩ := hA
      obtain ⟨e0, e1, e2, e3, e4, e5⟩ := hA2
      simp only [Pz.arr] at d0 d1 d2 d3 d4 d5 e0 e1 e2 e3 e4 e5 hE
      go_upto_region 6 with fail
      refine wp_region_held_drew (S := fun W' => Fr (fun _ => False) w W') (by kernel_rfl) (by exact HF.out.join (Fr.drew1 _ wr)) (fun hHeld => ?_)
      refine wpAnyH_take (i := 0) (v := ?v0) rfl (by kernel_rfl) (by kernel_rfl) (by kernel_rfl) (fun _ _ _ h => h) (Or.inl ⟨by rfl, ?hy0⟩) hHeld ?rest0
      case hy0 => (intro W hSw; (try dsimp only at hSw); have z0 := hSw.cell0 d0; have z1 := hSw.cell0 d1; have z2 := hSw.cell0 d2; have z3 := hSw.cell0 d3; have z4 := hSw.cell0 d4; have z5 := hSw.cell0 d5; have y0 := hSw.cell0 e0; have y1 := hSw.cell0 e1; have y2 := hSw.cell0 e2; have y3 := hSw.cell0 e3; have y4 := hSw.cell0 e4; have y5 := hSw.cell0 e5; go_simp; all_goals (with_reducible rfl))
      change wpAnyH _ _ _ _ _ _ _ (Act.put _ (some 17) _) _
      simp only [Act.put, List.setIfInBounds_toArray, List.set_cons_zero, List.set_cons_succ]
      refine wpAnyH_take (i := 1) (v := ?v1) rfl (by kernel_rfl) (by kernel_rfl) (by kernel_rfl) (fun _ _ _ h => h) (Or.inl ⟨by rfl, ?hy1⟩) hHeld ?rest1
      case hy1 => (intro W hSw; (try dsimp only at hSw); have z0 := hSw.cell0 d0; have z1 := hSw.cell0 d1; have z2 := hSw.cell0 d2; have z3 := hSw.cell0 d3; have z4 := hSw.cell0 d4; have z5 := hSw.cell0 d5; have y0 := hSw.cell0 e0; have y1 := hSw.cell0 e1; have y2 := hSw.cell0 e2; have y3 := hSw.cell0 e3; have y4 := hSw.cell0 e4; have y5 := hSw.cell0 e5; go_simp; all_goals (with_reducible rfl))
      change wpAnyH _ _ _ _ _ _ _ (Act.put _ (some 18) _) _
      simp only [Act.put, List.setIfInBounds_toArray, List.set_cons_zero, List.set_cons_succ]
      refine wpAnyH_take (i := 4) (v := ?v4) rfl (by kernel_rfl) (by kernel_rfl) (by kernel_rfl) (fun _ _ _ h => h) (Or.inl ⟨by rfl, ?hy4⟩) hHeld ?rest4
      case hy4 => (intro W hSw; (try dsimp only at hSw); have z0 := hSw.cell0 d0; have z1 := hSw.cell0 d1; have z2 := hSw.cell0 d2; have z3 := hSw.cell0 d3; have z4 := hSw.cell0 d4; have z5 := hSw.cell0 d5; have y0 := hSw.cell0 e0; have y1 := hSw.cell0 e1; have y2 := hSw.cell0 e2; have y3 := hSw.cell0 e3; have y4 := hSw.cell0 e4; have y5 := hSw.cell0 e5; go_simp; all_goals (with_reducible rfl))
      change wpAnyH _ _ _ _ _ _ _ (Act.put _ (some 21) _) _
      simp only [Act.put, List.setIfInBounds_toArray, List.set_cons_zero, List.set_cons_succ]
      refine wpAnyH_take (i := 5) (v := ?v5) rfl (by kernel_rfl) (by kernel_rfl) (by kernel_rfl) (fun _ _ _ h => h) (Or.inl ⟨by rfl, ?hy5⟩) hHeld ?rest5
      case hy5 => (intro W hSw; (try dsimp only at hSw); have z0 := hSw.cell0 d0; have z1 := hSw.cell0 d1; have z2 := hSw.cell0 d2; have z3 := hSw.cell0 d3; have z4 := hSw.cell0 d4; have z5 := hSw.cell0 d5; have y0 := hSw.cell0 e0; have y1 := hSw.cell0 e1; have y2 := hSw.cell0 e2; have y3 := hSw.cell0 e3; have y4 := hSw.cell0 e4; have y5 := hSw.cell0 e5; go_simp; all_goals (with_reducible rfl))
      change wpAnyH _ _ _ _ _ _ _ (Act.put _ (some 22) _) _
      simp only [Act.put, List.setIfInBounds_toArray, List.set_cons_zero, List.set_cons_succ]
      refine wpAnyH_take (i := 2) (v := ?v2) rfl (by kernel_rfl) (by kernel_rfl) (by kernel_rfl) (fun _ _ _ h => h) (Or.inl ⟨by rfl, ?hy2⟩) hHeld ?rest2
      case hy2 => (intro W hSw; (try dsimp only at hSw); have z0 := hSw.cell0 d0; have z1 := hSw.cell0 d1; have z2 := hSw.cell0 d2; have z3 := hSw.cell0 d3; have z4 := hSw.cell0 d4; have z5 := hSw.cell0 d5; have y0 := hSw.cell0 e0; have y1 := hSw.cell0 e1; have y2 := hSw.cell0 e2; have y3 := hSw.cell0 e3; have y4 := hSw.cell0 e4; have y5 := hSw.cell0 e5; go_simp; all_goals (with_reducible rfl))
      change wpAnyH _ _ _ _ _ _ _ (Act.put _ (some 19) _) _
      simp only [Act.put, List.setIfInBounds_toArray, List.set_cons_zero, List.set_cons_succ]
      refine wpAnyH_take (i := 6) (v := ?v6) rfl (by kernel_rfl) (by kernel_rfl) (by kernel_rfl) (fun _ _ _ h => h) (Or.inl ⟨by rfl, ?hy6⟩) hHeld ?rest6
      case hy6 => (intro W hSw; (try dsimp only at hSw); have z0 := hSw.cell0 d0; have z1 := hSw.cell0 d1; have z2 := hSw.cell0 d2; have z3 := hSw.cell0 d3; have z4 := hSw.cell0 d4; have z5 := hSw.cell0 d5; have y0 := hSw.cell0 e0; have y1 := hSw.cell0 e1; have y2 := hSw.cell0 e2; have y3 := hSw.cell0 e3; have y4 := hSw.cell0 e4; have y5 := hSw.cell0 e5; go_simp; all_goals (with_reducible rfl))
      change wpAnyH _ _ _ _ _ _ _ (Act.put _ (some 23) _) _
      simp only [Act.put, List.setIfInBounds_toArray, List.set_cons_zero, List.set_cons_succ]
      refine wpAnyH_take (i := 3) (v := ?v3) rfl (by kernel_rfl) (by kernel_rfl) (by kernel_rfl) (fun _ _ _ h => h) (Or.inl ⟨by rfl, ?hy3⟩) hHeld ?rest3
      case hy3 => (intro W hSw; (try dsimp only at hSw); have z0 := hSw.cell0 d0; have z1 := hSw.cell0 d1; have z2 := hSw.cell0 d2; have z3 := hSw.cell0 d3; have z4 := hSw.cell0 d4; have z5 := hSw.cell0 d5; have y0 := hSw.cell0 e0; have y1 := hSw.cell0 e1; have y2 := hSw.cell0 e2; have y3 := hSw.cell0 e3; have y4 := hSw.cell0 e4; have y5 := hSw.cell0 e5; go_simp; all_goals (with_reducible rfl))
      change wpAnyH _ _ _ _ _ _ _ (Act.put _ (some 20) _) _
      simp only [Act.put, List.setIfInBounds_toArray, List.set_cons_zero, List.set_cons_succ]
      refine wpAnyH_take (i := 7) (v := ?v7) rfl (by kernel_rfl) (by kernel_rfl) (by kernel_rfl) (fun _ _ _ h => h) (Or.inl ⟨by rfl, ?hy7⟩) hHeld ?rest7
      case hy7 => (intro W hSw; (try dsimp only at hSw); have z0 := hSw.cell0 d0; have z1 := hSw.cell0 d1; have z2 := hSw.cell0 d2; have z3 := hSw.cell0 d3; have z4 := hSw.cell0 d4; have z5 := hSw.cell0 d5; have y0 := hSw.cell0 e0; have y1 := hSw.cell0 e1; have y2 := hSw.cell0 e2; have y3 := hSw.cell0 e3; have y4 := hSw.cell0 e4; have y5 := hSw.cell0 e5; go_simp; all_goals (with_reducible rfl))
      change wpAnyH _ _ _ _ _ _ _ (Act.put _ (some 24) _) _
      simp only [Act.put, List.setIfInBounds_toArray, List.set_cons_zero, List.set_cons_succ]
      refine wpAnyH_take (i := 8) (v := ?v8) rfl (by kernel_rfl) (by kernel_rfl) (by kernel_rfl) (fun _ _ _ h => h) (Or.inl ⟨by rfl, ?hy8⟩) hHeld ?rest8
      case hy8 => (intro W hSw; (try dsimp only at hSw); have z0 := hSw.cell0 d0; have z1 := hSw.cell0 d1; have z2 := hSw.cell0 d2; have z3 := hSw.cell0 d3; have z4 := hSw.cell0 d4; have z5 := hSw.cell0 d5; have y0 := hSw.cell0 e0; have y1 := hSw.cell0 e1; have y2 := hSw.cell0 e2; have y3 := hSw.cell0 e3; have y4 := hSw.cell0 e4; have y5 := hSw.cell0 e5; go_simp; all_goals (with_reducible rfl))
      change wpAnyH _ _ _ _ _ _ _ (Act.put _ (some 25) _) _
      simp only [Act.put, List.setIfInBounds_toArray, List.set_cons_zero, List.set_cons_succ]
      refine wpAnyH_done (by kernel_rfl) ?_ _
      have HF2 := hide hHeld
      clear HF hHeld
      go_wp2
      go_roundw
      case rel => exact ⟨k + 1, hlt, by go_num, HF2.out⟩
      case measure => simp [intOf]; omega
    · have hke : k = l.length := by omega
      subst hke
      go_wp2
      go_ret
      exact ⟨rfl, HF.out⟩
end Go.Proofs.YtdnhndiaiejkoaaDoor
