/-
  raster: Same of both.
-/
import Derived.Test.YthdilabmajaehaaSe
import Derived.Shelf.SlicesE.Equal
import Derived.Ground.SlgnProg
namespace Go.Proofs
open Go.Shelf

end Go.Proofs
namespace Go.Proofs.Ythdilabmajaehaa
open Go.RowKit

/-- Numbers as integers. -/
def ints (px : List Nat) : List Int := px.map fun x => ((x : Nat) : Int)

theorem ints_length (px : List Nat) : (ints px).length = px.length := by simp [ints]
theorem ints_get {px : List Nat} {j : Nat} (hj : j < px.length) : (ints px)[j]! = ((px.getD j 0 : Nat) : Int) := by
  simp [ints, hj, List.getD_eq_getElem?_getD]

theorem allEq_ints : ∀ (l m : List Nat), Go.Lib.allEq (fun x y : Int => x == y) (ints l) (ints m) = decide (l = m)
  | [], [] => rfl
  | [], y :: ys => rfl
  | x :: xs, [] => rfl
  | x :: xs, y :: ys => by
    show (((x : Nat) : Int) == ((y : Nat) : Int) && Go.Lib.allEq (fun x y : Int => x == y) (ints xs) (ints ys)) = _
    rw [allEq_ints xs ys]
    by_cases h1 : x = y
    · subst h1
      by_cases h2 : xs = ys
      · simp [h2]
      · simp [h2]
    · have : ((x : Nat) : Int) ≠ ((y : Nat) : Int) := fun e => h1 (by omega)
      simp [h1, this]

/-- Whether two rasters are the same. -/
def sameB (W H : Int) (n : Nat) (px : List Nat) (W2 H2 : Int) (m : Nat) (qx : List Nat) : Bool := mayB W H n && (mayB W2 H2 m && (decide (W = W2) && (decide (H = H2) && decide (px = qx))))

theorem mayB_pos {W H : Int} {n : Nat} (h : mayB W H n = true) : 0 < n ∧ n ≤ 65536 := by
  obtain ⟨hs, hn⟩ := mayB_true h
  obtain ⟨h1, h2, h3, h4, h5⟩ := size_ok hs
  have e4 : 4 * W * H = 4 * (W * H) := Int.mul_assoc _ _ _
  have : 1 * 1 ≤ W * H := Int.mul_le_mul h1 h3 (by omega) (by omega)
  omega

set_option maxHeartbeats 200000 in
set_option maxRecDepth 100000 in
theorem rsame_c (W H : Int) (a : Option Addr) (n c : Nat) (px : List Nat) (W2 H2 : Int) (a2 : Option Addr) (m d : Nat) (qx : List Nat) (w : World) (h1 : Lies w a px) (hp : px.length = n) (h2 : Lies w a2 qx) (hq : qx.length = m) :
    Calls Try.prog 33 #[rasV W H a n c, rasV W2 H2 a2 m d] w fun e w' => e = .returned (.bool (sameB W H n px W2 H2 m qx)) ∧ Fr (fun _ => False) w w' := by
  obtain ⟨w1, hw1⟩ : ∃ w1, w1 = (w.alloc (.cells #[.int .i64 W, .int .i64 H, .slice a n c] 24)).alloc (.cells #[.int .i64 W2, .int .i64 H2, .slice a2 m d] 24) := ⟨_, rfl⟩
  have hba : w1.heap[w.heap.size]? = some (.cells #[.int .i64 W, .int .i64 H, .slice a n c] 24 (0, 0)) := by rw [hw1]; exact (Below.heap_alloc _ _ _ (by simp)).trans (heap_alloc_at rfl)
  have hbb : w1.heap[w.heap.size + 1]? = some (.cells #[.int .i64 W2, .int .i64 H2, .slice a2 m d] 24 (0, 0)) := by rw [hw1]; exact heap_alloc_at (by simp)
  have hF : Fr (fun _ => False) w w1 := by rw [hw1]; exact (Fr.of_alloc _ _).join (Fr.of_alloc _ _)
  have HM := hide (rmay_c W H a n c w1)
  have HM2 := hide (fun w => rmay_c W2 H2 a2 m d w)
  have Ha := hide hba
  have Hb := hide hbb
  have HF := hide hF
  have Hw1 := hide hw1
  have Hl1 := hide (And.intro h1 hp)
  have Hl2 := hide (And.intro h2 hq)
  unfold sameB
  clear hba hbb hF hw1 h1 h2 hp hq
  cases hm : mayB W H n with
  | false =>
    rw [hm] at HM
    go_enter Try.func33, Try.ntmps33
    go_wp2_with fail
    rw [← Hw1.out]
    refine HM.out.mono ?_
    rintro e w2 ⟨rfl, hF2⟩
    go_wp2_with fail
    go_ret
    exact ⟨rfl, HF.out.join hF2⟩
  | true =>
  rw [hm] at HM
  cases hm2 : mayB W2 H2 m with
  | false =>
    rw [hm2] at HM2
    go_enter Try.func33, Try.ntmps33
    go_wp2_with fail
    rw [← Hw1.out]
    refine HM.out.mono ?_
    rintro e w2 ⟨rfl, hF2⟩
    have hb2 := cells_at Hb.out hF2 (fun e => e)
    have k0 := cell_of (o := 0) hb2 rfl
    have k1 := cell_of (o := 1) hb2 rfl
    have k2 := cell_of (o := 2) hb2 rfl
    have Ha2 := hide (cells_at Ha.out hF2 (fun e => e))
    have Hb2 := hide hb2
    have HF2 := hide (HF.out.join hF2)
    clear hb2 hF2
    go_wp2_with fail
    refine (HM2.out w2).mono ?_
    rintro e w3 ⟨rfl, hF3⟩
    clear k0 k1 k2
    have hb3 := cells_at Hb2.out hF3 (fun e => e)
    have ha3 := cells_at Ha2.out hF3 (fun e => e)
    have k0 := cell_of (o := 0) hb3 rfl
    have k1 := cell_of (o := 1) hb3 rfl
    have k2 := cell_of (o := 2) hb3 rfl
    have l0 := cell_of (o := 0) ha3 rfl
    have l1 := cell_of (o := 1) ha3 rfl
    have l2 := cell_of (o := 2) ha3 rfl
    have HF3 := hide (HF2.out.join hF3)
    have Ha3 := hide ha3
    have Hb3 := hide hb3
    clear hb3 ha3 hF3
    go_wp2_with fail
    go_ret
    exact ⟨rfl, HF3.out⟩
  | true =>
  rw [hm2] at HM2
  obtain ⟨hn0, hnb⟩ := mayB_pos hm
  obtain ⟨hs1, hn1⟩ := mayB_true hm
  obtain ⟨hs2, hn2⟩ := mayB_true hm2
  by_cases hW : W = W2
  case neg =>
    have e1 : decide (W = W2) = false := decide_eq_false hW
    have e2 : (W == W2) = false := beq_false_of_ne hW
    rw [e1]
    clear e1 hs1 hs2 hn1 hn2 hm hm2
    go_enter Try.func33, Try.ntmps33
    go_wp2_with fail
    rw [← Hw1.out]
    refine HM.out.mono ?_
    rintro e w2 ⟨rfl, hF2⟩
    have hb2 := cells_at Hb.out hF2 (fun e => e)
    have k0 := cell_of (o := 0) hb2 rfl
    have k1 := cell_of (o := 1) hb2 rfl
    have k2 := cell_of (o := 2) hb2 rfl
    have Ha2 := hide (cells_at Ha.out hF2 (fun e => e))
    have Hb2 := hide hb2
    have HF2 := hide (HF.out.join hF2)
    clear hb2 hF2
    go_wp2_with fail
    refine (HM2.out w2).mono ?_
    rintro e w3 ⟨rfl, hF3⟩
    clear k0 k1 k2
    have hb3 := cells_at Hb2.out hF3 (fun e => e)
    have ha3 := cells_at Ha2.out hF3 (fun e => e)
    have k0 := cell_of (o := 0) hb3 rfl
    have k1 := cell_of (o := 1) hb3 rfl
    have k2 := cell_of (o := 2) hb3 rfl
    have l0 := cell_of (o := 0) ha3 rfl
    have l1 := cell_of (o := 1) ha3 rfl
    have l2 := cell_of (o := 2) ha3 rfl
    have HF3 := hide (HF2.out.join hF3)
    have Ha3 := hide ha3
    have Hb3 := hide hb3
    clear hb3 ha3 hF3
    go_wp2_with fail
    go_ret
    exact ⟨rfl, HF3.out⟩
  by_cases hH : H = H2
  case neg =>
    have e1 : decide (H = H2) = false := decide_eq_false hH
    have e2 : (H == H2) = false := beq_false_of_ne hH
    subst hW
    have e3 : decide (W = W) = true := decide_eq_true rfl
    have e4 : (W == W) = true := beq_self_eq_true _
    rw [e1, e3]
    clear e1 e3 hs1 hs2 hn1 hn2 hm hm2
    go_enter Try.func33, Try.ntmps33
    go_wp2_with fail
    rw [← Hw1.out]
    refine HM.out.mono ?_
    rintro e w2 ⟨rfl, hF2⟩
    have hb2 := cells_at Hb.out hF2 (fun e => e)
    have k0 := cell_of (o := 0) hb2 rfl
    have k1 := cell_of (o := 1) hb2 rfl
    have k2 := cell_of (o := 2) hb2 rfl
    have Ha2 := hide (cells_at Ha.out hF2 (fun e => e))
    have Hb2 := hide hb2
    have HF2 := hide (HF.out.join hF2)
    clear hb2 hF2
    go_wp2_with fail
    refine (HM2.out w2).mono ?_
    rintro e w3 ⟨rfl, hF3⟩
    clear k0 k1 k2
    have hb3 := cells_at Hb2.out hF3 (fun e => e)
    have ha3 := cells_at Ha2.out hF3 (fun e => e)
    have k0 := cell_of (o := 0) hb3 rfl
    have k1 := cell_of (o := 1) hb3 rfl
    have k2 := cell_of (o := 2) hb3 rfl
    have l0 := cell_of (o := 0) ha3 rfl
    have l1 := cell_of (o := 1) ha3 rfl
    have l2 := cell_of (o := 2) ha3 rfl
    have HF3 := hide (HF2.out.join hF3)
    have Ha3 := hide ha3
    have Hb3 := hide hb3
    clear hb3 ha3 hF3
    go_wp2_with fail
    go_ret
    exact ⟨rfl, HF3.out⟩
  subst hW
  subst hH
  have hmn : m = n := by omega
  subst hmn
  obtain ⟨b1, o1, rfl, _⟩ := Hl1.out.1.form (by rw [Hl1.out.2]; exact hn0)
  obtain ⟨b2, o2, rfl, _⟩ := Hl2.out.1.form (by rw [Hl2.out.2]; exact hn0)
  have eW : decide (W = W) = true := decide_eq_true rfl
  have eH : decide (H = H) = true := decide_eq_true rfl
  have bW : (W == W) = true := beq_self_eq_true _
  have bH : (H == H) = true := beq_self_eq_true _
  rw [eW, eH]
  obtain ⟨R, hR⟩ : ∃ R, R = decide (px = qx) := ⟨_, rfl⟩
  rw [← hR]
  have HR := hide hR
  clear eW eH hs1 hs2 hn1 hn2 hm hm2 hR
  go_enter Try.func33, Try.ntmps33
  go_wp2_with fail
  rw [← Hw1.out]
  refine HM.out.mono ?_
  rintro e w2 ⟨rfl, hF2⟩
  have hb2 := cells_at Hb.out hF2 (fun e => e)
  have k0 := cell_of (o := 0) hb2 rfl
  have k1 := cell_of (o := 1) hb2 rfl
  have k2 := cell_of (o := 2) hb2 rfl
  have Ha2 := hide (cells_at Ha.out hF2 (fun e => e))
  have Hb2 := hide hb2
  have HF2 := hide (HF.out.join hF2)
  clear hb2 hF2
  go_wp2_with fail
  refine (HM2.out w2).mono ?_
  rintro e w3 ⟨rfl, hF3⟩
  clear k0 k1 k2
  have hb3 := cells_at Hb2.out hF3 (fun e => e)
  have ha3 := cells_at Ha2.out hF3 (fun e => e)
  have k0 := cell_of (o := 0) hb3 rfl
  have k1 := cell_of (o := 1) hb3 rfl
  have k2 := cell_of (o := 2) hb3 rfl
  have l0 := cell_of (o := 0) ha3 rfl
  have l1 := cell_of (o := 1) ha3 rfl
  have l2 := cell_of (o := 2) ha3 rfl
  have HF3 := hide (HF2.out.join hF3)
  have Ha3 := hide ha3
  have Hb3 := hide hb3
  clear hb3 ha3 hF3
  have hmi : (m : Int) ≤ 65536 := by omega
  go_wp2_with fail
  clear k0 k1 k2 l0 l1 l2
  go_loopw [5] (fun iv wr => ∃ i : Nat, iv = .int .i64 (i : Int) ∧ i ≤ m ∧ Hid (∀ j, j < i → px.getD j 0 = qx.getD j 0) ∧ Hid (Fr (fun _ => False) w3 wr)) (fun iv _ => m - (intOf iv).toNat)
  case atStart => exact ⟨0, rfl, Nat.zero_le _, (fun j hj => absurd hj (Nat.not_lt_zero _)), Fr.refl _ _⟩
  case round =>
    obtain ⟨i, rfl, hi, HE, HFr⟩ := hrel
    have ha4 := cells_at Ha3.out HFr.out (fun e => e)
    have hb4 := cells_at Hb3.out HFr.out (fun e => e)
    have k2 := cell_of (o := 2) hb4 rfl
    have l2 := cell_of (o := 2) ha4 rfl
    clear ha4 hb4
    by_cases hlt : i < m
    · have hlti : (i : Int) < (m : Int) := by omega
      have HL1 := Hl1.out.1.keep0 (HF3.out.join HFr.out)
      have HL2 := Hl2.out.1.keep0 (HF3.out.join HFr.out)
      have c1 := HL1.cell (j := i) (by rw [Hl1.out.2]; exact hlt)
      have c2 := HL2.cell (j := i) (by rw [Hl2.out.2]; exact hlt)
      obtain ⟨x, hx⟩ : ∃ x, x = px.getD i 0 := ⟨_, rfl⟩
      obtain ⟨y, hy⟩ : ∃ y, y = qx.getD i 0 := ⟨_, rfl⟩
      rw [← hx] at c1
      rw [← hy] at c2
      have Hx := hide hx
      have Hy := hide hy
      clear hx hy HL1 HL2
      by_cases hxy : x = y
      · have hne : ((x : Int) == (y : Int)) = true := by rw [hxy]; exact beq_self_eq_true _
        go_wp2_with fail
        go_quiet (fail)
        have HFq := hide (HFr.out.join ((Fr.of_drewN wr nq).mono fun _ _ h => h.elim))
        generalize wr.drewN nq = w5 at HFq ⊢
        go_wp2_with fail
        go_roundw
        case rel =>
          refine ⟨i + 1, by go_num, by omega, fun j hj => ?_, HFq.out⟩
          by_cases e : j = i
          · rw [e, ← Hx.out, ← Hy.out, hxy]
          · exact HE.out j (by omega)
        case measure => simp [intOf]; omega
      · have hne : ((x : Int) == (y : Int)) = false := beq_false_of_ne (fun e => hxy (by omega))
        have e0 : R = false := by
          rw [HR.out]
          refine decide_eq_false fun e => hxy ?_
          rw [Hx.out, Hy.out, e]
        subst e0
        go_wp2_with fail
        go_quiet (fail)
        have HFq := hide (HFr.out.join ((Fr.of_drewN wr nq).mono fun _ _ h => h.elim))
        generalize wr.drewN nq = w5 at HFq ⊢
        go_wp2_with fail
        go_ret
        exact ⟨rfl, HF3.out.join HFq.out⟩
    · have hlti : ¬ (i : Int) < (m : Int) := by omega
      have e0 : R = true := by
        rw [HR.out]
        refine decide_eq_true (List.ext_getElem? fun j => ?_)
        have e1 := Hl1.out.2
        have e2 := Hl2.out.2
        by_cases hj : j < m
        · have := HE.out j (by omega)
          rw [List.getD_eq_getElem?_getD, List.getD_eq_getElem?_getD, List.getElem?_eq_getElem (by omega), List.getElem?_eq_getElem (by omega)] at this
          rw [List.getElem?_eq_getElem (by omega), List.getElem?_eq_getElem (by omega)]
          exact congrArg some this
        · rw [List.getElem?_eq_none (by omega), List.getElem?_eq_none (by omega)]
      subst e0
      go_wp2_with fail
      go_ret
      exact ⟨rfl, HF3.out.join HFr.out⟩
end Go.Proofs.Ythdilabmajaehaa
