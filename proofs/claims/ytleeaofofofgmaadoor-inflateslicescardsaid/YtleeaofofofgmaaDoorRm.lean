/-
  A slice of the machine turns its own blocks alone.
-/
import Derived.Test.YtleeaofofofgmaaDoorRn
namespace Go.Proofs.YtleeaofofofgmaaDoor
open Go.RowKit

/-- From w to w' a machine's own blocks alone have turned; while it is not done it says which they are now. -/
structure Sf (M B : Nat) (w w' : World) : Prop where
  fr : Fr (Sm M B w) w w'
  on : w'.cell? ⟨M, 14, none⟩ = some (.bool false) → Fs M B w w'

theorem Sf.of {M B : Nat} {w w' : World} (h : Fs M B w w') : Sf M B w w' := ⟨h.fr, fun _ => h⟩

set_option maxHeartbeats 2000000 in
set_option maxRecDepth 100000 in
theorem slice_s (w : World) (lo R M B : Nat) (bs : List Nat) (most : Nat) (hmost : most ≤ 2147483648) (hg : Gl w) (hlo : 0 < lo) (s0 : St) (h : Mx w lo R M B bs most s0) (n0 : Int) (hn0 : n0 ≤ 9223372036854775807) (hn1 : -9223372036854775808 ≤ n0) :
    Calls Tryd.prog 29 #[.pointer (some ⟨M, 0, none⟩), .int .i64 n0] w fun e w' => e = .returned (.tuple #[]) ∧ Sf M B w w' ∧ Sl lo R M B bs most s0 n0 w' := by
  obtain ⟨P, hP⟩ : ∃ P, P = w.heap.size := ⟨_, rfl⟩
  have fr0 := Fr.of_alloc w (.cells #[.pointer (some ⟨M, 0, none⟩)] 31)
  have hMP : M < P := by rw [hP]; exact h.md.2.2.1
  have hloM := h.md.2.1
  have HMw := hide h.md.2.2.1
  have hPobj : (w.alloc (.cells #[.pointer (some ⟨M, 0, none⟩)] 31)).heap[P]? = some (.cells #[.pointer (some ⟨M, 0, none⟩)] 31 (0, 0)) := heap_alloc_at hP
  have H0 := hide (h.fr fr0)
  have HG := hide (hg.keep fr0 (fun h => h))
  have HPobj := hide hPobj
  have HP := hide hP
  have Hfr0 := hide fr0
  have HPS : Hid (¬ Sm M B (w.alloc (.cells #[.pointer (some ⟨M, 0, none⟩)] 31)) P) := h.notP fr0 (by omega)
  have hmf : ∀ (fn : Fn) (first cap : Array Value) (w : World), (Instr.makeFunc fn first cap).run Tryd.prog w = .ok (.func fn first cap) w := fun _ _ _ _ => rfl
  clear h hg fr0 hPobj
  go_enter_defers Tryd.func29, Tryd.ntmps29
  go_wp2
  rw [← hP]
  clear hP
  generalize w.alloc (.cells #[.pointer (some ⟨M, 0, none⟩)] 31) = w1 at *
  go_loopw [1] (fun nv wr => ∃ n : Int, nv = .int .i64 n ∧ Sq lo R M B bs most s0 n0 w1 wr n) (fun _ wr => muW (8 * bs.length) M B wr)
  case atStart => exact ⟨n0, rfl, .on s0 H0.out (fun _ h => h) (Or.inl rfl) (by omega) (by omega) (Fs.of (Fr.refl _ _) H0.out.md.2.2.1)⟩
  case round =>
    obtain ⟨n, rfl, hS⟩ := hrel
    have hPw : ∀ w', Fs M B w1 w' → w'.heap[P]? = some (.cells #[.pointer (some ⟨M, 0, none⟩)] 31 (0, 0)) := by
      intro w' hF
      rw [hF.fr.block P (lt_of HPobj.out) (HPS.out)]
      exact HPobj.out
    have HPw := hide hPw
    clear hPw
    cases hS with
    | fin r hr hM h0 hF =>
      have qP : wr.cell? ⟨P, 0, none⟩ = some (.pointer (some ⟨M, 0, none⟩)) := cell_of (HPw.out wr hF) rfl
      have q14 : wr.cell? ⟨M, 14, none⟩ = some (.bool true) := by
        cases r with
        | ok x => exact Mf.cell14 hM
        | error e => exact Mf.cell14 hM
      have HR := hide hr
      have HM := hide hM
      have HF := hide hF
      clear hr hM hF
      have HE := hide (Sl.fin (lo := lo) (R := R) (B := B) (bs := bs) (most := most) (s0 := s0) r HR.out HM.out h0)
      by_cases hn : 0 < n
      · go_wp2
        refine leaves_cons (f := 37) (args := #[.pointer (some ⟨P, 0, none⟩)]) (by simp) (by simp [go_sem]) ?_
        refine (catch_idle ⟨P, 0, none⟩ _).mono ?_
        rintro e u' w'' ⟨rfl, rfl, rfl⟩
        simp [Leaves, settle, results, Tryd.results29]
        exact ⟨.of ((Fs.of Hfr0.out HMw.out).join HF.out), HE.out⟩
      · go_wp2
        refine leaves_cons (f := 37) (args := #[.pointer (some ⟨P, 0, none⟩)]) (by simp) (by simp [go_sem]) ?_
        refine (catch_idle ⟨P, 0, none⟩ _).mono ?_
        rintro e u' w'' ⟨rfl, rfl, rfl⟩
        simp [Leaves, settle, results, Tryd.results29]
        exact ⟨.of ((Fs.of Hfr0.out HMw.out).join HF.out), HE.out⟩
    | on s h hr hn1' hle hn2' hF =>
      have qP : wr.cell? ⟨P, 0, none⟩ = some (.pointer (some ⟨M, 0, none⟩)) := cell_of (HPw.out wr hF) rfl
      have q14 := h.md.2.2.2
      have HX := hide h
      have HR := hide hr
      have HF := hide hF
      have HGr := hide (HG.out.keep hF.fr (H0.out.notlow hlo))
      clear h hr hF
      by_cases hn : 0 < n
      · have hn0p : 0 < n0 := by omega
        have hmu := hide (HX.out.mu (8 * bs.length))
        go_wp2_with fail
        refine advance_c wr lo R M B bs most hmost HGr.out hlo s HX.out _ ⟨?f1, ?f2, ?f3, ?f4, ?f5⟩
        case f1 =>
          intro er w2 h1 h2 h3
          refine leaves_cons (f := 37) (args := #[.pointer (some ⟨P, 0, none⟩)]) (by simp) (by simp [go_sem]) ?_
          refine (catch_panicking P M er [] w2 (cell_of (HPw.out w2 (HF.out.join h3)) rfl) (by omega) h2).mono ?_
          rintro e u' w3 ⟨rfl, rfl, hM3, hF3⟩
          simp [Leaves, settle, results, Tryd.results29]
          exact ⟨⟨((((Fs.of Hfr0.out HMw.out).join (HF.out.join h3)).fr).trans hF3).mono (fun k _ e => e.elim id (fun e => Or.inr (Or.inl e))), fun h => by rw [Mf.cell14 hM3] at h; cases h⟩, .fin (.error er) (HR.out _ (.fail h1)) hM3 hn0p⟩
        case f2 =>
          intro s' w2 h1 hfull h2 h3
          refine leaves_cons (f := 37) (args := #[.pointer (some ⟨P, 0, none⟩)]) (by simp) (by simp [go_sem]) ?_
          refine (catch_panicking P M 6 [] w2 (cell_of (HPw.out w2 (HF.out.join h3)) rfl) (by omega) h2).mono ?_
          rintro e u' w3 ⟨rfl, rfl, hM3, hF3⟩
          simp [Leaves, settle, results, Tryd.results29]
          exact ⟨⟨((((Fs.of Hfr0.out HMw.out).join (HF.out.join h3)).fr).trans hF3).mono (fun k _ e => e.elim id (fun e => Or.inr (Or.inl e))), fun h => by rw [Mf.cell14 hM3] at h; cases h⟩, .fin (.error 6) (HR.out _ (.full h1 hfull)) hM3 hn0p⟩
        case f3 =>
          intro s' w2 h1 hfull h2 h3
          have hlen := adv_put_out h1
          have hdec := adv_mu (Or.inr h1) (by omega) HX.out.pos HX.out.row h2.row
          have HS : Hid (Sq lo R M B bs most s0 n0 w1 w2 (n - 1)) := .on s' h2 (fun r hr => HR.out r (.put h1 hfull hr)) (Or.inr ⟨by omega, hn0p⟩) (by omega) (by omega) (HF.out.join h3)
          have Hdec : Hid (muW (8 * bs.length) M B w2 < muW (8 * bs.length) M B wr) := by
            show _ < _
            rw [h2.mu, hmu.out]
            exact hdec
          clear h1 h2 h3 hlen hdec hfull
          go_wp2
          go_roundw
          case rel => exact ⟨n - 1, rfl, HS.out⟩
          case measure => exact Hdec.out
        case f4 =>
          intro s' w2 h1 h2 h3
          have hlen := adv_go_out h1
          have hdec := adv_mu (Or.inl h1) (by omega) HX.out.pos HX.out.row h2.row
          have HS : Hid (Sq lo R M B bs most s0 n0 w1 w2 n) := .on s' h2 (fun r hr => HR.out r (.go h1 hr)) (Or.inr ⟨by omega, hn0p⟩) (by omega) (by rw [hlen]; omega) (HF.out.join h3)
          have Hdec : Hid (muW (8 * bs.length) M B w2 < muW (8 * bs.length) M B wr) := by
            show _ < _
            rw [h2.mu, hmu.out]
            exact hdec
          clear h1 h2 h3 hlen hdec
          go_wp2
          go_roundw
          case rel => exact ⟨n, rfl, HS.out⟩
          case measure => exact Hdec.out
        case f5 =>
          intro w2 h1 h2 h3
          have HS : Hid (Sq lo R M B bs most s0 n0 w1 w2 n) := .fin (.ok (s.out, s.p)) (HR.out _ (.done h1)) h2 hn0p (HF.out.join h3)
          have Hdec : Hid (muW (8 * bs.length) M B w2 < muW (8 * bs.length) M B wr) := by
            show _ < _
            rw [hmu.out]
            have e : muW (8 * bs.length) M B w2 = 0 := by
              unfold muW
              rw [Mf.cell14 h2]
            rw [e]
            unfold muS
            omega
          clear h1 h2 h3
          go_wp2
          go_roundw
          case rel => exact ⟨n, rfl, HS.out⟩
          case measure => exact Hdec.out
      · have HE : Hid (Sl lo R M B bs most s0 n0 wr) := .on s HX.out HR.out (fun _ => by omega) (fun _ => by omega)
        go_wp2
        refine leaves_cons (f := 37) (args := #[.pointer (some ⟨P, 0, none⟩)]) (by simp) (by simp [go_sem]) ?_
        refine (catch_idle ⟨P, 0, none⟩ _).mono ?_
        rintro e u' w'' ⟨rfl, rfl, rfl⟩
        simp [Leaves, settle, results, Tryd.results29]
        exact ⟨.of ((Fs.of Hfr0.out HMw.out).join HF.out), HE.out⟩

set_option maxHeartbeats 400000 in
theorem step_s (w : World) (lo R M B : Nat) (bs : List Nat) (most : Nat) (hmost : most ≤ 2147483648) (hg : Gl w) (hlo : 0 < lo) (s0 : St) (h : Mx w lo R M B bs most s0) (n0 : Int) (hn0 : n0 ≤ 9223372036854775807) (hn1 : -9223372036854775808 ≤ n0) :
    Calls Tryd.prog 15 #[.pointer (some ⟨M, 0, none⟩), .int .i64 n0] w fun e w' => ∃ b, e = .returned (.bool b) ∧ w'.cell? ⟨M, 14, none⟩ = some (.bool b) ∧ Sf M B w w' ∧ Sl lo R M B bs most s0 n0 w' := by
  have q14 := h.md.2.2.2
  have H := hide (slice_s w lo R M B bs most hmost hg hlo s0 h n0 hn0 hn1)
  clear h hg
  go_enter Tryd.func15, Tryd.ntmps15
  go_wp2_with fail
  refine H.out.mono ?_
  rintro e w1 ⟨rfl, hF, hS⟩
  have hb : ∃ b, w1.cell? ⟨M, 14, none⟩ = some (.bool b) := by
    cases hS with
    | on s h _ _ _ => exact ⟨false, h.md.2.2.2⟩
    | fin r _ h _ => exact ⟨true, h.mf.cell14⟩
  obtain ⟨b, hb⟩ := hb
  have HF := hide hF
  have HS := hide hS
  clear hF hS
  go_wp2
  go_ret
  exact ⟨b, rfl, hb, HF.out, HS.out⟩
end Go.Proofs.YtleeaofofofgmaaDoor
