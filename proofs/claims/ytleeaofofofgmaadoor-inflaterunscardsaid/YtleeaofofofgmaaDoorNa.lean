/-
  The contract of a slice.
-/
import Derived.Test.YtleeaofofofgmaaDoorMz
namespace Go.Proofs.YtleeaofofofgmaaDoor
open Go.RowKit

/-- What a slice of n bytes comes to from state s0 on. -/
inductive Sl (lo R M B : Nat) (bs : List Nat) (most : Nat) (s0 : St) (n0 : Int) (w' : World) : Prop
  | on (s : St) (h : Mx w' lo R M B bs most s) (hr : ∀ r, Runs (leNum bs) (8 * bs.length) most s r → Runs (leNum bs) (8 * bs.length) most s0 r) (h0 : n0 ≤ 0 → s.out.length = s0.out.length) (h1 : 0 ≤ n0 → (s.out.length : Int) = s0.out.length + n0)
  | fin (r : Except Nat (List Nat × Nat)) (hr : Runs (leNum bs) (8 * bs.length) most s0 r) (h : Mr w' M r) (h0 : 0 < n0)

theorem Gl.fl {w w' : World} {lo : Nat} (h : Gl w) (hF : Fl lo w w') (hlo : 0 < lo) : Gl w' := h.keep hF (by omega)

theorem Mx.fr {w w' : World} {lo R M B : Nat} {bs : List Nat} {most : Nat} {s : St} (h : Mx w lo R M B bs most s) (hF : Fr (fun _ => False) w w') : Mx w' lo R M B bs most s := by
  obtain ⟨lf, bk, b1, b2, f1, f2, ov, hO, hP, hX, hb, ho⟩ := h
  refine ⟨lf, bk, b1, b2, f1, f2, ov, hO.keep hF (fun _ _ h => h), ?_, hX.keep hF (fun _ h => h.elim), hb, ho⟩
  cases hpl : s.pl with
  | ahead => exact trivial
  | stored n => rw [hpl] at hP; exact hP
  | coded a b => rw [hpl] at hP; exact ⟨hP.1.keep hF (fun _ h => h.elim), hP.2.keep hF (fun _ h => h.elim)⟩
  | row n d a b =>
    rw [hpl] at hP
    exact ⟨hP.1, hP.2.1, hP.2.2.1, hP.2.2.2.1, hP.2.2.2.2.1, hP.2.2.2.2.2.1, hP.2.2.2.2.2.2.1.keep hF (fun _ h => h.elim), hP.2.2.2.2.2.2.2.keep hF (fun _ h => h.elim)⟩

theorem Mx.md {w : World} {lo R M B : Nat} {bs : List Nat} {most : Nat} {s : St} (h : Mx w lo R M B bs most s) : Md w M ∧ lo ≤ M ∧ M < w.heap.size ∧ w.cell? ⟨M, 14, none⟩ = some (.bool false) := by
  obtain ⟨lf, bk, b1, b2, f1, f2, ov, hO, hP, hX, hb, ho⟩ := h
  exact ⟨hO.md, by have := hO.rd.elo; have := hO.rd.ehi; have := hO.hM; omega, hO.ltM, cell_of hO.obj rfl⟩

theorem Mx.notP {w w1 : World} {lo R M B : Nat} {bs : List Nat} {most : Nat} {s : St} (h : Mx w lo R M B bs most s) (hF : Fr (fun _ => False) w w1) {P : Nat} (hP : w.heap.size ≤ P) : ¬ Sm M B w1 P := by
  obtain ⟨lf, bk, b1, b2, f1, f2, ov, hO, _⟩ := h
  have h1 := hO.rd.ehi
  have h2 := hO.hM
  have h3 := hO.ltM
  have e0 : w1.cell? ⟨M, 11, none⟩ = some ov := by rw [cell_blk (a := ⟨M, 11, none⟩) (hF.block M h3 (fun h => h))]; exact cell_of hO.obj rfl
  rintro (e | e | ⟨v, e1, e2⟩)
  · omega
  · omega
  · rw [e0] at e1
    cases e1
    have := (hO.own.lt P e2).2
    omega

theorem Mx.low {w w' : World} {lo R M B : Nat} {bs : List Nat} {most : Nat} {s : St} (h : Mx w lo R M B bs most s) (hF : Fs M B w w') : Fl lo w w' := by
  obtain ⟨lf, bk, b1, b2, f1, f2, ov, hO, _⟩ := h
  exact hO.low hF
theorem Mx.notlow {w : World} {lo R M B : Nat} {bs : List Nat} {most : Nat} {s : St} (h : Mx w lo R M B bs most s) (hlo : 0 < lo) : ¬ Sm M B w 0 := by
  obtain ⟨lf, bk, b1, b2, f1, f2, ov, hO, _⟩ := h
  exact not_low hO hlo

theorem Mf.cell14 {w : World} {M : Nat} {out : List Nat} {u er : Nat} (h : Mf w M out u er) : w.cell? ⟨M, 14, none⟩ = some (.bool true) := by
  obtain ⟨ov, h1, _⟩ := h.obj
  exact cell_of h1 rfl

/-- What the loop of a slice holds at a round: n more bytes are asked for. -/
inductive Sq (lo R M B : Nat) (bs : List Nat) (most : Nat) (s0 : St) (n0 : Int) (w1 wr : World) (n : Int) : Prop
  | on (s : St) (h : Mx wr lo R M B bs most s) (hr : ∀ r, Runs (leNum bs) (8 * bs.length) most s r → Runs (leNum bs) (8 * bs.length) most s0 r) (hn : n = n0 ∨ (0 ≤ n ∧ 0 < n0)) (hle : n ≤ n0) (h1 : (s.out.length : Int) + n = s0.out.length + n0) (hF : Fs M B w1 wr)
  | fin (r : Except Nat (List Nat × Nat)) (hr : Runs (leNum bs) (8 * bs.length) most s0 r) (h : Mr wr M r) (h0 : 0 < n0) (hF : Fs M B w1 wr)

set_option maxHeartbeats 2000000 in
set_option maxRecDepth 100000 in
theorem slice_c (w : World) (lo R M B : Nat) (bs : List Nat) (most : Nat) (hmost : most ≤ 2147483648) (hg : Gl w) (hlo : 0 < lo) (s0 : St) (h : Mx w lo R M B bs most s0) (n0 : Int) (hn0 : n0 ≤ 9223372036854775807) (hn1 : -9223372036854775808 ≤ n0) :
    Calls Tryd.prog 29 #[.pointer (some ⟨M, 0, none⟩), .int .i64 n0] w fun e w' => e = .returned (.tuple #[]) ∧ Fl lo w w' ∧ Sl lo R M B bs most s0 n0 w' := by
  obtain ⟨P, hP⟩ : ∃ P, P = w.heap.size := ⟨_, rfl⟩
  have fr0 := Fr.of_alloc w (.cells #[.pointer (some ⟨M, 0, none⟩)] 31)
  have hMP : M < P := by rw [hP]; exact h.md.2.2.1
  have hloM := h.md.2.1
  have hPobj : (w.alloc (.cells #[.pointer (some ⟨M, 0, none⟩)] 31)).heap[P]? = some (.cells #[.pointer (some ⟨M, 0, none⟩)] 31 (0, 0)) := heap_alloc_at hP
  have H0 := hide (h.fr fr0)
  have HG := hide (hg.keep fr0 (fun h => h))
  have HPobj := hide hPobj
  have HP := hide hP
  have Hfr0 := hide fr0
  have HPS : Hid (¬ Sm M B (w.alloc (.cells #[.pointer (some ⟨M, 0, none⟩)] 31)) P) := h.notP fr0 (by omega)
  have hmf : ∀ (fn : Fn) (first cap : Array Value) (w : World), (Instr.makeFunc fn first cap).run Tryd.prog w = .ok (.func fn first cap) w := fun _ _ _ _ => rfl
  clear h hg fr0 hPobj
  go_enter_defers Tryd.func29, Tryd.ntmps29
  go_wp2
  rw [← hP]
  clear hP
  generalize w.alloc (.cells #[.pointer (some ⟨M, 0, none⟩)] 31) = w1 at *
  go_loopw [1] (fun nv wr => ∃ n : Int, nv = .int .i64 n ∧ Sq lo R M B bs most s0 n0 w1 wr n) (fun _ wr => muW (8 * bs.length) M B wr)
  case atStart => exact ⟨n0, rfl, .on s0 H0.out (fun _ h => h) (Or.inl rfl) (by omega) (by omega) (Fs.of (Fr.refl _ _) H0.out.md.2.2.1)⟩
  case round =>
    obtain ⟨n, rfl, hS⟩ := hrel
    have hPw : ∀ w', Fs M B w1 w' → w'.heap[P]? = some (.cells #[.pointer (some ⟨M, 0, none⟩)] 31 (0, 0)) := by
      intro w' hF
      rw [hF.fr.block P (lt_of HPobj.out) (HPS.out)]
      exact HPobj.out
    have HPw := hide hPw
    clear hPw
    cases hS with
    | fin r hr hM h0 hF =>
      have qP : wr.cell? ⟨P, 0, none⟩ = some (.pointer (some ⟨M, 0, none⟩)) := cell_of (HPw.out wr hF) rfl
      have q14 : wr.cell? ⟨M, 14, none⟩ = some (.bool true) := by
        cases r with
        | ok x => exact Mf.cell14 hM
        | error e => exact Mf.cell14 hM
      have HR := hide hr
      have HM := hide hM
      have HF := hide hF
      clear hr hM hF
      have HE := hide (Sl.fin (lo := lo) (R := R) (B := B) (bs := bs) (most := most) (s0 := s0) r HR.out HM.out h0)
      by_cases hn : 0 < n
      · go_wp2
        refine leaves_cons (f := 37) (args := #[.pointer (some ⟨P, 0, none⟩)]) (by simp) (by simp [go_sem]) ?_
        refine (catch_idle ⟨P, 0, none⟩ _).mono ?_
        rintro e u' w'' ⟨rfl, rfl, rfl⟩
        simp [Leaves, settle, results, Tryd.results29]
        exact ⟨(Fl0 Hfr0.out).join (H0.out.low HF.out), HE.out⟩
      · go_wp2
        refine leaves_cons (f := 37) (args := #[.pointer (some ⟨P, 0, none⟩)]) (by simp) (by simp [go_sem]) ?_
        refine (catch_idle ⟨P, 0, none⟩ _).mono ?_
        rintro e u' w'' ⟨rfl, rfl, rfl⟩
        simp [Leaves, settle, results, Tryd.results29]
        exact ⟨(Fl0 Hfr0.out).join (H0.out.low HF.out), HE.out⟩
    | on s h hr hn1' hle hn2' hF =>
      have qP : wr.cell? ⟨P, 0, none⟩ = some (.pointer (some ⟨M, 0, none⟩)) := cell_of (HPw.out wr hF) rfl
      have q14 := h.md.2.2.2
      have HX := hide h
      have HR := hide hr
      have HF := hide hF
      have HGr := hide (HG.out.keep hF.fr (H0.out.notlow hlo))
      clear h hr hF
      by_cases hn : 0 < n
      · have hn0p : 0 < n0 := by omega
        have hmu := hide (HX.out.mu (8 * bs.length))
        go_wp2_with fail
        refine advance_c wr lo R M B bs most hmost HGr.out hlo s HX.out _ ⟨?f1, ?f2, ?f3, ?f4, ?f5⟩
        case f1 =>
          intro er w2 h1 h2 h3
          refine leaves_cons (f := 37) (args := #[.pointer (some ⟨P, 0, none⟩)]) (by simp) (by simp [go_sem]) ?_
          refine (catch_panicking P M er [] w2 (cell_of (HPw.out w2 (HF.out.join h3)) rfl) (by omega) h2).mono ?_
          rintro e u' w3 ⟨rfl, rfl, hM3, hF3⟩
          simp [Leaves, settle, results, Tryd.results29]
          exact ⟨((Fl0 Hfr0.out).join (H0.out.low (HF.out.join h3))).join (hF3.mono fun k _ e => by omega), .fin (.error er) (HR.out _ (.fail h1)) hM3 hn0p⟩
        case f2 =>
          intro s' w2 h1 hfull h2 h3
          refine leaves_cons (f := 37) (args := #[.pointer (some ⟨P, 0, none⟩)]) (by simp) (by simp [go_sem]) ?_
          refine (catch_panicking P M 6 [] w2 (cell_of (HPw.out w2 (HF.out.join h3)) rfl) (by omega) h2).mono ?_
          rintro e u' w3 ⟨rfl, rfl, hM3, hF3⟩
          simp [Leaves, settle, results, Tryd.results29]
          exact ⟨((Fl0 Hfr0.out).join (H0.out.low (HF.out.join h3))).join (hF3.mono fun k _ e => by omega), .fin (.error 6) (HR.out _ (.full h1 hfull)) hM3 hn0p⟩
        case f3 =>
          intro s' w2 h1 hfull h2 h3
          have hlen := adv_put_out h1
          have hdec := adv_mu (Or.inr h1) (by omega) HX.out.pos HX.out.row h2.row
          have HS : Hid (Sq lo R M B bs most s0 n0 w1 w2 (n - 1)) := .on s' h2 (fun r hr => HR.out r (.put h1 hfull hr)) (Or.inr ⟨by omega, hn0p⟩) (by omega) (by omega) (HF.out.join h3)
          have Hdec : Hid (muW (8 * bs.length) M B w2 < muW (8 * bs.length) M B wr) := by
            show _ < _
            rw [h2.mu, hmu.out]
            exact hdec
          clear h1 h2 h3 hlen hdec hfull
          go_wp2
          go_roundw
          case rel => exact ⟨n - 1, rfl, HS.out⟩
          case measure => exact Hdec.out
        case f4 =>
          intro s' w2 h1 h2 h3
          have hlen := adv_go_out h1
          have hdec := adv_mu (Or.inl h1) (by omega) HX.out.pos HX.out.row h2.row
          have HS : Hid (Sq lo R M B bs most s0 n0 w1 w2 n) := .on s' h2 (fun r hr => HR.out r (.go h1 hr)) (Or.inr ⟨by omega, hn0p⟩) (by omega) (by rw [hlen]; omega) (HF.out.join h3)
          have Hdec : Hid (muW (8 * bs.length) M B w2 < muW (8 * bs.length) M B wr) := by
            show _ < _
            rw [h2.mu, hmu.out]
            exact hdec
          clear h1 h2 h3 hlen hdec
          go_wp2
          go_roundw
          case rel => exact ⟨n, rfl, HS.out⟩
          case measure => exact Hdec.out
        case f5 =>
          intro w2 h1 h2 h3
          have HS : Hid (Sq lo R M B bs most s0 n0 w1 w2 n) := .fin (.ok (s.out, s.p)) (HR.out _ (.done h1)) h2 hn0p (HF.out.join h3)
          have Hdec : Hid (muW (8 * bs.length) M B w2 < muW (8 * bs.length) M B wr) := by
            show _ < _
            rw [hmu.out]
            have e : muW (8 * bs.length) M B w2 = 0 := by
              unfold muW
              rw [Mf.cell14 h2]
            rw [e]
            unfold muS
            omega
          clear h1 h2 h3
          go_wp2
          go_roundw
          case rel => exact ⟨n, rfl, HS.out⟩
          case measure => exact Hdec.out
      · have HE : Hid (Sl lo R M B bs most s0 n0 wr) := .on s HX.out HR.out (fun _ => by omega) (fun _ => by omega)
        go_wp2
        refine leaves_cons (f := 37) (args := #[.pointer (some ⟨P, 0, none⟩)]) (by simp) (by simp [go_sem]) ?_
        refine (catch_idle ⟨P, 0, none⟩ _).mono ?_
        rintro e u' w'' ⟨rfl, rfl, rfl⟩
        simp [Leaves, settle, results, Tryd.results29]
        exact ⟨(Fl0 Hfr0.out).join (H0.out.low HF.out), HE.out⟩
end Go.Proofs.YtleeaofofofgmaaDoor
