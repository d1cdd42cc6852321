/-
  depth: Fits.
-/
import Derived.Test.YthdilabmajaehaaWe
import Derived.Test.YthdilabmajaehaaVb
namespace Go.Proofs.Ythdilabmajaehaa
open Go.RowKit

/-- Whether a GIF can hold these m pixels. -/
def fitsG (px : List Nat) (m : Nat) : Bool := allE px && (opqAll m px && decide ((uniq px m).length ≤ 256))
/-- Whether a format can. -/
def fitsV (f : Int) (px : List Nat) (m : Nat) : Bool := if f = 1 then true else if f = 2 then fitsG px m else if f = 3 then allE px else false

set_option maxHeartbeats 400000 in
set_option maxRecDepth 100000 in
theorem fits_no (W H f : Int) (a : Option Addr) (n c : Nat) (w : World) (hmay : mayB W H n = false) :
    Calls Try.prog 21 #[rasV W H a n c, .int .i64 f] w fun e w' => Fr (fun _ => False) w w' ∧ e = .returned (.bool false) := by
  obtain ⟨w1, hw1⟩ : ∃ w1, w1 = w.alloc (.cells #[.int .i64 W, .int .i64 H, .slice a n c] 24) := ⟨_, rfl⟩
  have hF1 : Fr (fun _ => False) w w1 := by rw [hw1]; exact Fr.of_alloc _ _
  have HM := hide (may_c W H a n c w1)
  rw [hmay] at HM
  have HF1 := hide hF1
  have Hw1 := hide hw1
  clear hF1 hw1 hmay
  go_enter Try.func21, Try.ntmps21
  go_wp2_with fail
  rw [← Hw1.out]
  refine HM.out.mono ?_
  rintro e w2 ⟨rfl, hF2⟩
  have HF2 := hide (HF1.out.join hF2)
  clear hF2
  go_wp2_with fail
  go_ret
  exact ⟨HF2.out, rfl⟩

set_option maxHeartbeats 800000 in
set_option maxRecDepth 100000 in
theorem fits_yes (W H f : Int) (a : Option Addr) (n c m : Nat) (px : List Nat) (w : World) (hl : Lies w a px) (hp : px.length = n) (hc : n ≤ c) (hmay : mayB W H n = true) (hm : (m : Int) = W * H) :
    Calls Try.prog 21 #[rasV W H a n c, .int .i64 f] w fun e w' => Fr (fun _ => False) w w' ∧ e = .returned (.bool (fitsV f px m)) := by
  obtain ⟨m', hm', hnm, hmb, hm1⟩ := may_nums hmay
  obtain rfl : m = m' := Int.ofNat.inj (hm.trans hm'.symm)
  obtain ⟨g, o, rfl, hgl⟩ := hl.form (by rw [hp]; omega)
  obtain ⟨w1, hw1⟩ : ∃ w1, w1 = w.alloc (.cells #[.int .i64 W, .int .i64 H, .slice (some ⟨g, o, none⟩) n c] 24) := ⟨_, rfl⟩
  have hb1 : w1.heap[w.heap.size]? = some (.cells #[.int .i64 W, .int .i64 H, .slice (some ⟨g, o, none⟩) n c] 24 (0, 0)) := by rw [hw1]; exact heap_alloc_at rfl
  have hF1 : Fr (fun _ => False) w w1 := by rw [hw1]; exact Fr.of_alloc _ _
  have HM := hide (may_c W H (some ⟨g, o, none⟩) n c w1)
  rw [hmay] at HM
  have HAE := hide fun (w2 : World) (h : Lies w2 (some ⟨g, o, none⟩) px) => allEight_c W H g o n c px w2 h hp (by omega)
  have HOP := hide fun (w2 : World) (h : Lies w2 (some ⟨g, o, none⟩) px) => opaque_c W H g o n c m px w2 h hp hnm (by omega) hc
  have HFW : Hid (∀ (w2 : World) (h : Lies w2 (some ⟨g, o, none⟩) px), Calls Try.prog 48 #[rasV W H (some ⟨g, o, none⟩) n c] w2 fun e w' => e = .returned (.bool (decide ((uniq px m).length ≤ 256))) ∧ Fr (fun _ => False) w2 w') := fun w2 h => (fewColours_c W H _ n c m px w2 h hp hmay hm).mono fun e w' ⟨hF, D, hD, hDm, he⟩ => ⟨by rw [he, uniq_count h.1 hnm hD hDm], hF⟩
  have HL := hide (hl.keep0 hF1)
  have Hb1 := hide hb1
  have HF1 := hide hF1
  have Hw1 := hide hw1
  obtain ⟨V, hV⟩ : ∃ V, V = fitsV f px m := ⟨_, rfl⟩
  rw [← hV]
  clear hl hp hc hmay hm hm' hnm hmb hm1 hgl hb1 hF1 hw1
  have HV := hide hV
  clear hV
  go_enter Try.func21, Try.ntmps21
  go_wp2_with fail
  rw [← Hw1.out]
  refine HM.out.mono ?_
  rintro e w2 ⟨rfl, hF2⟩
  have hb2 := cells_at Hb1.out hF2 (fun e => e)
  have HF2 := hide (HF1.out.join hF2)
  have HL2 := hide (HL.out.keep0 hF2)
  have Hb2 := hide hb2
  have k0 := cell_of (o := 0) hb2 rfl
  have k1 := cell_of (o := 1) hb2 rfl
  have k2 := cell_of (o := 2) hb2 rfl
  have HA2 := hide (HAE.out w2 HL2.out)
  clear hF2 hb2
  by_cases f1 : f = 1
  · go_wp2_with fail
    go_ret
    exact ⟨HF2.out, by rw [show V = true by rw [HV.out]; unfold fitsV; rw [if_pos f1]]; rfl⟩
  by_cases f2 : f = 2
  · have HV2 : Hid (V = (allE px && (opqAll m px && decide ((uniq px m).length ≤ 256)))) := by show _ = _; rw [HV.out]; unfold fitsV; rw [if_neg f1, if_pos f2]; rfl
    clear HV
    generalize allE px = A at HA2 HV2
    subst f2
    clear f1
    go_wp2_with fail
    refine HA2.out.mono ?_
    rintro e w3 ⟨rfl, hF3⟩
    have HF3 := hide (HF2.out.join hF3)
    cases A with
    | false =>
      clear hF3 k0 k1 k2
      go_wp2_with fail
      go_ret
      exact ⟨HF3.out, by rw [HV2.out]; rfl⟩
    | true =>
      have hb3 := cells_at Hb2.out hF3 (fun e => e)
      have HL3 := hide (HL2.out.keep0 hF3)
      have Hb3 := hide hb3
      clear k0 k1 k2
      have k0 := cell_of (o := 0) hb3 rfl
      have k1 := cell_of (o := 1) hb3 rfl
      have k2 := cell_of (o := 2) hb3 rfl
      have HA3 := hide (HOP.out w3 HL3.out)
      generalize opqAll m px = O at HA3 HV2
      clear hF3 hb3
      go_wp2_with fail
      refine HA3.out.mono ?_
      rintro e w4 ⟨rfl, hF4⟩
      have HF4 := hide (HF3.out.join hF4)
      cases O with
      | false =>
        clear hF4 k0 k1 k2
        go_wp2_with fail
        go_ret
        exact ⟨HF4.out, by rw [HV2.out]; rfl⟩
      | true =>
        have hb4 := cells_at Hb3.out hF4 (fun e => e)
        clear k0 k1 k2
        have k0 := cell_of (o := 0) hb4 rfl
        have k1 := cell_of (o := 1) hb4 rfl
        have k2 := cell_of (o := 2) hb4 rfl
        have HA4 := hide (HFW.out w4 (HL3.out.keep0 hF4))
        generalize decide ((uniq px m).length ≤ 256) = Z at HA4 HV2
        clear hF4 hb4
        go_wp2_with fail
        refine HA4.out.mono ?_
        rintro e w5 ⟨rfl, hF5⟩
        have HF5 := hide (HF4.out.join hF5)
        clear hF5
        go_wp2_with fail
        go_ret
        exact ⟨HF5.out, by rw [HV2.out]; rfl⟩
  by_cases f3 : f = 3
  · have HV2 : Hid (V = allE px) := by show _ = _; rw [HV.out]; unfold fitsV; rw [if_neg f1, if_neg f2, if_pos f3]
    clear HV
    subst f3
    clear f1 f2
    go_wp2_with fail
    refine HA2.out.mono ?_
    rintro e w3 ⟨rfl, hF3⟩
    have HF3 := hide (HF2.out.join hF3)
    clear hF3 k0 k1 k2
    go_wp2_with fail
    go_ret
    exact ⟨HF3.out, by rw [HV2.out]; rfl⟩
  · go_wp2_with fail
    go_ret
    exact ⟨HF2.out, by rw [show V = false by rw [HV.out]; unfold fitsV; rw [if_neg f1, if_neg f2, if_neg f3]]; rfl⟩
end Go.Proofs.Ythdilabmajaehaa
