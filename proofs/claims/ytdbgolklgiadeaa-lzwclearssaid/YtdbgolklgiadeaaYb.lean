/-
  lzw: Step.
-/
import Derived.Test.YtdbgolklgiadeaaYa
namespace Go.Proofs.Ytdbgolklgiadeaa
open Go.RowKit

/-- What Out tells. -/
def outZ : Except Nat (List Nat) → List Nat
  | .ok o => o
  | .error _ => []
/-- What Err tells. -/
def errZ : Except Nat (List Nat) → Nat
  | .ok _ => 0
  | .error e => e

/-- A Reader that is done. -/
structure Rdn (w : World) (M : Nat) (r : Except Nat (List Nat)) : Prop where
  obj : ∃ ov, w.heap[M]? = some (.cells (dcells ov (errZ r)).toArray 71 (0, 0)) ∧ OwnB w (M + 1) ov (outZ r)

theorem Rdn.cells {w : World} {M : Nat} {r : Except Nat (List Nat)} (h : Rdn w M r) : w.cell? ⟨M, 13, none⟩ = some (.bool true) ∧ w.cell? ⟨M, 12, none⟩ = some (.int .i64 ((errZ r : Nat) : Int)) := by
  obtain ⟨ov, h1, _⟩ := h.obj
  exact ⟨cell_of h1 rfl, cell_of h1 rfl⟩

def cellI (w : World) (b o : Nat) : Nat := match w.cell? ⟨b, o, none⟩ with
  | some (.int _ x) => x.toNat
  | _ => 0

/-- How far it is from the end. -/
def muR (L most M B : Nat) (w : World) : Nat := match w.cell? ⟨M, 13, none⟩ with
  | some (.bool true) => 0
  | _ => (L + 12 - cellI w B 1) * (most + 2) + cellI w M 10 + 1

theorem Rdn.muE {w : World} {M : Nat} {r : Except Nat (List Nat)} (h : Rdn w M r) (L most B : Nat) : muR L most M B w = 0 := by
  unfold muR
  rw [h.cells.1]

theorem Rx.muE {w : World} {lo M B : Nat} {bs : List Nat} {k most : Nat} {q : Rq} {ra : Option Addr} {rc : Nat} {oa : Option Addr} {oc : Nat} (h : Rx w lo M B bs k most q ra rc oa oc) (L : Nat) : muR L most M B w = mu L most q + 1 := by
  have h13 : w.cell? ⟨M, 13, none⟩ = some (.bool false) := cell_of h.obj rfl
  have h10 : w.cell? ⟨M, 10, none⟩ = some (.int .i64 (q.lt : Int)) := cell_of h.obj rfl
  obtain ⟨v, h1, _⟩ := h.rd.eobj
  have hp : w.cell? ⟨B, 1, none⟩ = some (.int .i64 (q.p : Int)) := cell_of h1 rfl
  unfold muR cellI mu
  rw [h13, h10, hp]
  simp

/-- What a Step comes to. -/
inductive Rs (lo M B : Nat) (bs : List Nat) (k most : Nat) (rv ov : Value) (r : Except Nat (List Nat)) (w : World) (len0 : Nat) (n0 n : Int) (w' : World) : Prop where
  | on (q : Rq) (ra : Option Addr) (rc : Nat) (oa : Option Addr) (oc : Nat) (h : Rx w' lo M B bs k most q ra rc oa oc) (hok : Rok k most q) (hr : MRuns (leNum bs) (8 * bs.length) k most q r) (g1 : Grown w rv (.slice ra q.rs.length rc)) (g2 : Grown w ov (.slice oa q.out.length oc))
      (F : Fr (fun j => j = B ∨ Rmine M rv ov j) w w') (hn : (q.out.length : Int) + n = len0 + n0) (hn0 : 0 ≤ n ∨ n = n0) (hle : n ≤ n0) (hs : n0 ≤ 0 → w' = w)
  | fin (h : Rdn w' M r) (F : Fr (fun j => j = B ∨ Rmine M rv ov j) w w') (hn : 0 < n0)

/-- Frames one behind another. -/
theorem Grown.frame {w w1 w2 : World} {M B : Nat} {rv ov rv1 ov1 : Value} (g1 : Grown w rv rv1) (g2 : Grown w ov ov1) (F : Fr (fun j => j = B ∨ Rmine M rv ov j) w w1) (F1 : Fr (fun j => j = B ∨ Rmine M rv1 ov1 j) w1 w2) : Fr (fun j => j = B ∨ Rmine M rv ov j) w w2 := by
  refine (F.trans F1).mono fun j hj e => ?_
  rcases e with e | e | e | e | e
  · exact e
  · exact Or.inl e
  · exact Or.inr (Or.inl e)
  · rcases g1 with g | g
    · exact Or.inr (Or.inr (Or.inl (by rw [← g]; exact e)))
    · have := g j e
      omega
  · rcases g2 with g | g
    · exact Or.inr (Or.inr (Or.inr (by rw [← g]; exact e)))
    · have := g j e
      omega

theorem advq_mu {V L k most : Nat} {q q' : Rq} (hk : 2 ≤ k ∧ k ≤ 8) (h : Rok k most q) (hq : advq V L k most q = .go q' ∨ advq V L k most q = .put q') : Rok k most q' ∧ mu L most q' < mu L most q := advq_on hk h q' hq

theorem advq_len {V L k most : Nat} {q q' : Rq} : (advq V L k most q = .go q' → q'.out.length = q.out.length) ∧ (advq V L k most q = .put q' → q'.out.length = q.out.length + 1) := by
  have hput : ∀ (b : Nat) (q1 q2 : Rq), putq most b q1 = .put q2 → q2.out.length = q1.out.length + 1 := by
    intro b q1 q2 h
    unfold putq at h
    split at h
    · cases h
    · injection h with h
      subst h
      simp
  have hput2 : ∀ (b : Nat) (q1 q2 : Rq), putq most b q1 ≠ .go q2 := by
    intro b q1 q2 h
    unfold putq at h
    split at h <;> cases h
  have hmk : ∀ (q1 : Rq), (mkq k q1).out = q1.out := fun q1 => by rw [mkq_eq]
  constructor
  · intro h
    unfold advq at h
    split at h
    · exact absurd h (hput2 _ _ _)
    split at h
    · cases h
    unfold tkq at h
    split at h
    · injection h with h; subst h; rfl
    split at h
    · cases h
    split at h
    · exact absurd h (hput2 _ _ _)
    split at h
    · cases h
    · injection h with h
      subst h
      show (mkq k _).out.length = _
      rw [hmk]
  · intro h
    unfold advq at h
    split at h
    · have := hput _ _ _ h
      exact this
    split at h
    · cases h
    unfold tkq at h
    split at h
    · cases h
    split at h
    · cases h
    split at h
    · have := hput _ _ _ h
      rw [this]
      show (mkq k _).out.length + 1 = _
      rw [hmk]
    split at h <;> cases h

/-- What Step answers. -/
structure Stp (lo M B : Nat) (bs : List Nat) (k most : Nat) (rv ov : Value) (r : Except Nat (List Nat)) (w : World) (len0 : Nat) (n0 : Int) (e : Ending) (w' : World) : Prop where
  it : ∃ b n, e = .returned (.bool b) ∧ w'.cell? ⟨M, 13, none⟩ = some (.bool b) ∧ (b = false → n ≤ 0) ∧ Rs lo M B bs k most rv ov r w len0 n0 n w'

set_option maxHeartbeats 3200000 in
set_option maxRecDepth 100000 in
/-- The contract of Step, of a Reader at work. -/
theorem step_c (w : World) (lo M B : Nat) (bs : List Nat) (k most : Nat) (q0 : Rq) (ra0 : Option Addr) (rc0 : Nat) (oa0 : Option Addr) (oc0 : Nat) (r : Except Nat (List Nat)) (hk : 2 ≤ k ∧ k ≤ 8) (hm : most ≤ 999990)
    (h : Rx w lo M B bs k most q0 ra0 rc0 oa0 oc0) (hok : Rok k most q0) (hr : MRuns (leNum bs) (8 * bs.length) k most q0 r) (n0 : Int) (hn0 : n0 ≤ 9223372036854775807) (hn1 : -9223372036854775808 ≤ n0) :
    Calls Try.prog 16 #[.pointer (some ⟨M, 0, none⟩), .int .i64 n0] w fun e w' => Stp lo M B bs k most (.slice ra0 q0.rs.length rc0) (.slice oa0 q0.out.length oc0) r w q0.out.length n0 e w' := by
  obtain ⟨rv, hrv⟩ : ∃ rv, rv = Value.slice ra0 q0.rs.length rc0 := ⟨_, rfl⟩
  obtain ⟨ov, hov⟩ : ∃ ov, ov = Value.slice oa0 q0.out.length oc0 := ⟨_, rfl⟩
  obtain ⟨len0, hl0⟩ : ∃ len0, len0 = q0.out.length := ⟨_, rfl⟩
  have HS0 := hide (Rs.on (n0 := n0) (n := n0) (w := w) (rv := rv) (ov := ov) (len0 := len0) q0 ra0 rc0 oa0 oc0 h hok hr (Or.inl (by rw [hrv])) (Or.inl (by rw [hov])) (Fr.refl _ _) (by rw [hl0]) (Or.inr rfl) (Int.le_refl _) (fun _ => rfl))
  rw [← hrv, ← hov, ← hl0]
  clear h hok hr hrv hov hl0
  go_enter Try.func16, Try.ntmps16
  go_wp2
  go_loopw [1] (fun nv wr => ∃ n : Int, nv = .int .i64 n ∧ Rs lo M B bs k most rv ov r w len0 n0 n wr) (fun _ wr => muR (8 * bs.length) most M B wr)
  case atStart => exact ⟨n0, rfl, HS0.out⟩
  case round =>
    obtain ⟨n, rfl, hS⟩ := hrel
    cases hS with
    | fin hM hF h0 =>
      have q13 := hM.cells.1
      have HM := hide hM
      have HF := hide hF
      clear hM hF
      by_cases hn : 0 < n
      · go_wp2
        go_ret
        exact ⟨true, 0, rfl, HM.out.cells.1, (fun e => by cases e), .fin HM.out HF.out h0⟩
      · go_wp2
        go_ret
        exact ⟨true, 0, rfl, HM.out.cells.1, (fun e => by cases e), .fin HM.out HF.out h0⟩
    | on q ra rc oa oc h hok hr g1 g2 hF hnn hn2 hle hs =>
      have q13 : wr.cell? ⟨M, 13, none⟩ = some (.bool false) := cell_of h.obj rfl
      by_cases hn : 0 < n
      · have hn3 : n ≤ 9223372036854775807 := by omega
        have hn0p : 0 < n0 := by omega
        have HA := hide (advance_c lo M B bs k most q ra rc oa oc wr hk h (hok.bd hm))
        have hmu := hide (h.muE (8 * bs.length))
        have HX := hide h
        have HO := hide hok
        have HR := hide hr
        have HG1 := hide g1
        have HG2 := hide g2
        have HF := hide hF
        clear h hok hr g1 g2 hF hs
        have HN := hide (And.intro hnn hn2)
        clear hnn hn2
        go_wp2_with fail
        refine HA.out.mono ?_
        rintro e w1 hA
        cases hq : advq (leNum bs) (8 * bs.length) k most q with
        | fail er =>
          rw [hq] at hA
          obtain ⟨rfl, ho, hF1⟩ := hA
          have er0 := HR.out.of_fail hq
          have hD : Rdn w1 M r := by
            rw [er0]
            exact ⟨_, ho, World.ownsRow_nil _ _ _ _⟩
          have HS := hide (Rs.fin (lo := lo) (bs := bs) (k := k) (most := most) (len0 := len0) (n := n) (n0 := n0) hD (HG1.out.frame HG2.out HF.out hF1) hn0p)
          have Hdec : Hid (muR (8 * bs.length) most M B w1 < muR (8 * bs.length) most M B wr) := by
            show _ < _
            rw [hD.muE, hmu.out]
            omega
          clear ho hF1 hD hq er0
          go_wp2
          go_roundw
          case rel => exact ⟨n, rfl, HS.out⟩
          case measure => exact Hdec.out
        | fin =>
          rw [hq] at hA
          obtain ⟨rfl, ho, how, hF1⟩ := hA
          have er0 := HR.out.of_fin hq
          have hD : Rdn w1 M r := by
            rw [er0]
            exact ⟨_, ho, how⟩
          have HS := hide (Rs.fin (lo := lo) (bs := bs) (k := k) (most := most) (len0 := len0) (n := n) (n0 := n0) hD (HG1.out.frame HG2.out HF.out hF1) hn0p)
          have Hdec : Hid (muR (8 * bs.length) most M B w1 < muR (8 * bs.length) most M B wr) := by
            show _ < _
            rw [hD.muE, hmu.out]
            omega
          clear ho hF1 hD hq er0 how
          go_wp2
          go_roundw
          case rel => exact ⟨n, rfl, HS.out⟩
          case measure => exact Hdec.out
        | go q' =>
          rw [hq] at hA
          obtain ⟨rfl, ⟨ra', rc', oa', oc', hx, g3, g4⟩, hF1⟩ := hA
          obtain ⟨hok', hdec⟩ := advq_mu hk HO.out (Or.inl hq)
          have hlen := advq_len.1 hq
          have HS := hide (Rs.on (w := w) (rv := rv) (ov := ov) (len0 := len0) (n := n) (n0 := n0) q' ra' rc' oa' oc' hx hok' (HR.out.of_go hq) (HG1.out.trans g3 HF.out.size) (HG2.out.trans g4 HF.out.size) (HG1.out.frame HG2.out HF.out hF1) (by rw [hlen]; exact HN.out.1) HN.out.2 hle (fun e => by omega))
          have Hdec : Hid (muR (8 * bs.length) most M B w1 < muR (8 * bs.length) most M B wr) := by
            show _ < _
            rw [hx.muE, hmu.out]
            omega
          clear hF1 hx g3 g4 hq hok' hdec hlen
          go_wp2
          go_roundw
          case rel => exact ⟨n, rfl, HS.out⟩
          case measure => exact Hdec.out
        | put q' =>
          rw [hq] at hA
          obtain ⟨rfl, ⟨ra', rc', oa', oc', hx, g3, g4⟩, hF1⟩ := hA
          obtain ⟨hok', hdec⟩ := advq_mu hk HO.out (Or.inr hq)
          have hlen := advq_len.2 hq
          have HS := hide (Rs.on (w := w) (rv := rv) (ov := ov) (len0 := len0) (n := n - 1) (n0 := n0) q' ra' rc' oa' oc' hx hok' (HR.out.of_put hq) (HG1.out.trans g3 HF.out.size) (HG2.out.trans g4 HF.out.size) (HG1.out.frame HG2.out HF.out hF1) (by rw [hlen]; have := HN.out.1; omega) (Or.inl (by omega)) (by omega) (fun e => by omega))
          have Hdec : Hid (muR (8 * bs.length) most M B w1 < muR (8 * bs.length) most M B wr) := by
            show _ < _
            rw [hx.muE, hmu.out]
            omega
          clear hF1 hx g3 g4 hq hok' hdec hlen
          go_wp2
          go_roundw
          case rel => exact ⟨n - 1, rfl, HS.out⟩
          case measure => exact Hdec.out
      · have HS := hide (Rs.on (w := w) (rv := rv) (ov := ov) (len0 := len0) (n := n) (n0 := n0) q ra rc oa oc h hok hr g1 g2 hF hnn hn2 hle hs)
        clear h hok hr g1 g2 hF hs hnn hn2
        have q13' := hide q13
        go_wp2
        go_ret
        exact ⟨false, n, rfl, q13'.out, (fun _ => by omega), HS.out⟩

set_option maxRecDepth 100000 in
/-- Step of a Reader that is done. -/
theorem step_done (M : Nat) (n0 : Int) (w : World) (h : w.cell? ⟨M, 13, none⟩ = some (.bool true)) :
    Calls Try.prog 16 #[.pointer (some ⟨M, 0, none⟩), .int .i64 n0] w fun e w' => e = .returned (.bool true) ∧ w = w' := by
  go_enter Try.func16, Try.ntmps16
  go_wp2
  go_loopw [1] (fun nv wr => nv = .int .i64 n0 ∧ wr = w) (fun _ _ => 0)
  case atStart => exact ⟨rfl, rfl⟩
  case round =>
    obtain ⟨rfl, rfl⟩ := hrel
    by_cases hn : 0 < n0
    · go_wp2
      go_ret
      exact ⟨rfl, rfl⟩
    · go_wp2
      go_ret
      exact ⟨rfl, rfl⟩
end Go.Proofs.Ytdbgolklgiadeaa
