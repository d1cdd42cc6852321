/-
  chunk: order, asked.
-/
import Derived.Test.YtflapcaaaipoeaaCe
namespace Go.Proofs.Ytflapcaaaipoeaa
open Go.RowKit
set_option linter.unusedVariables false

/-- The IDATs are one behind the other. -/
def pictB (l : List Ck) : Bool := decide (0 < (plc l sIdat l.length).1) && decide (((plc l sIdat l.length).1 : Int) = (plc l sIdat l.length).2.2 - (plc l sIdat l.length).2.1 + 1)
/-- One PLTE, one tRNS, ahead of the IDATs. -/
def coloursB (l : List Ck) : Bool := decide ((plc l sPlte l.length).1 ≤ 1) && decide ((plc l sPlte l.length).2.1 < (plc l sIdat l.length).2.1) && decide ((plc l sTrns l.length).1 ≤ 1) && decide ((plc l sTrns l.length).2.1 < (plc l sIdat l.length).2.1) && (decide ((plc l sTrns l.length).1 = 0) || decide ((plc l sPlte l.length).2.1 < (plc l sTrns l.length).2.1))

set_option maxHeartbeats 800000 in
theorem isOnePicture_c (a : Option Addr) (c : Nat) (l : List Ck) (w : World) (hl : LiesC w a l) (hlen : l.length ≤ 281474976710656) :
    Calls Try.prog 32 #[.slice a l.length c] w fun e w' => e = .returned (.bool (pictB l)) ∧ Fr (fun _ => False) w w' := by
  have HP := hide (placesOf_c a c l sIdat w hl hlen)
  have hb := plc_le l sIdat l.length
  have HG : Hid (pictB l = (decide (0 < (plc l sIdat l.length).1) && decide (((plc l sIdat l.length).1 : Int) = (plc l sIdat l.length).2.2 - (plc l sIdat l.length).2.1 + 1))) := rfl
  clear hl
  generalize plc l sIdat l.length = p at *
  obtain ⟨x, y, z⟩ := p
  simp only [] at hb HG
  obtain ⟨hb1, hb2, hb3, hb4, hb5⟩ := hb
  go_enter Try.func32, Try.ntmps32
  go_wp2_with fail
  refine HP.out.mono ?_
  rintro e w1 ⟨rfl, hf1⟩
  have Hf1 := hide hf1
  clear hf1
  unfold plcV
  simp only []
  by_cases h0 : 0 < x
  · have HN : Hid (pictB l = ((x : Int) == z - y + 1)) := by
      show _ = _
      rw [HG.out]
      simp only [h0, decide_true, Bool.true_and]
      rw [Bool.eq_iff_iff]; simp
    clear HG
    go_wp2
    go_ret
    exact ⟨by rw [HN.out]; rfl, Hf1.out.join (Fr.of_alloc _ _)⟩
  · have HN : Hid (pictB l = false) := by
      show _ = _
      rw [HG.out]
      simp only [h0, decide_false, Bool.false_and]
    clear HG
    go_wp2
    go_ret
    exact ⟨by rw [HN.out]; rfl, Hf1.out.join (Fr.of_alloc _ _)⟩

set_option maxHeartbeats 1600000 in
theorem areColoursAhead_c (a : Option Addr) (c : Nat) (l : List Ck) (w : World) (hl : LiesC w a l) (hlen : l.length ≤ 281474976710656) :
    Calls Try.prog 33 #[.slice a l.length c] w fun e w' => e = .returned (.bool (coloursB l)) ∧ Fr (fun _ => False) w w' := by
  have Hl := hide hl
  have HP := hide (fun w hl => placesOf_c a c l sPlte w hl hlen)
  have HQ := hide (fun w hl => placesOf_c a c l sTrns w hl hlen)
  have HR := hide (fun w hl => placesOf_c a c l sIdat w hl hlen)
  have hb1 := plc_le l sPlte l.length
  have hb2 := plc_le l sTrns l.length
  have hb3 := plc_le l sIdat l.length
  have HG : Hid (coloursB l = (decide ((plc l sPlte l.length).1 ≤ 1) && decide ((plc l sPlte l.length).2.1 < (plc l sIdat l.length).2.1) && decide ((plc l sTrns l.length).1 ≤ 1) && decide ((plc l sTrns l.length).2.1 < (plc l sIdat l.length).2.1) && (decide ((plc l sTrns l.length).1 = 0) || decide ((plc l sPlte l.length).2.1 < (plc l sTrns l.length).2.1)))) := rfl
  clear hl
  generalize plc l sPlte l.length = p at *
  generalize plc l sTrns l.length = q at *
  generalize plc l sIdat l.length = r at *
  obtain ⟨x1, y1, z1⟩ := p
  obtain ⟨x2, y2, z2⟩ := q
  obtain ⟨x3, y3, z3⟩ := r
  simp only [] at hb1 hb2 hb3 HG
  have hq1 : decide ((x1 : Int) ≤ 1) = decide (x1 ≤ 1) := by simp; omega
  have hq2 : decide ((x2 : Int) ≤ 1) = decide (x2 ≤ 1) := by simp; omega
  have hq3 : ((x2 : Int) == 0) = decide (x2 = 0) := by rw [Bool.eq_iff_iff]; simp
  clear hb1 hb2 hb3
  go_enter Try.func33, Try.ntmps33
  go_wp2_with fail
  refine (HP.out _ Hl.out).mono ?_
  rintro e w1 ⟨rfl, hf1⟩
  have Hf1 := hide hf1
  clear hf1
  go_wp2_with fail
  refine (HQ.out _ (Hl.out.keep Hf1.out (fun _ _ h => h))).mono ?_
  rintro e w2 ⟨rfl, hf2⟩
  have Hf2 := hide (Hf1.out.join hf2)
  clear hf2
  go_wp2_with fail
  refine (HR.out _ (Hl.out.keep Hf2.out (fun _ _ h => h))).mono ?_
  rintro e w3 ⟨rfl, hf3⟩
  have Hf3 := hide (Hf2.out.join hf3)
  clear hf3 Hf1 Hf2 Hl HP HQ HR
  unfold plcV
  simp only []
  generalize decide (x1 ≤ 1) = t1 at *
  generalize ht2 : decide (y1 < y3) = t2 at *
  generalize decide (x2 ≤ 1) = t3 at *
  generalize ht4 : decide (y2 < y3) = t4 at *
  generalize decide (x2 = 0) = t5 at *
  generalize ht6 : decide (y1 < y2) = t6 at *
  have fin : Fr (fun _ => False) w (((w3.alloc (.cells #[.int .i64 x1, .int .i64 y1, .int .i64 z1] 73)).alloc (.cells #[.int .i64 x2, .int .i64 y2, .int .i64 z2] 73)).alloc (.cells #[.int .i64 x3, .int .i64 y3, .int .i64 z3] 73)) := ((Hf3.out.join (Fr.of_alloc _ _)).join (Fr.of_alloc _ _)).join (Fr.of_alloc _ _)
  have Fin := hide fin
  clear fin
  cases t1
  · go_wp2
    go_ret
    exact ⟨by rw [HG.out]; rfl, Fin.out⟩
  · cases t2
    · go_wp2
      go_ret
      exact ⟨by rw [HG.out]; rfl, Fin.out⟩
    · cases t3
      · go_wp2
        go_ret
        exact ⟨by rw [HG.out]; rfl, Fin.out⟩
      · cases t4
        · go_wp2
          go_ret
          exact ⟨by rw [HG.out]; rfl, Fin.out⟩
        · cases t5
          · go_wp2
            go_ret
            exact ⟨by rw [HG.out]; simp [← ht6], Fin.out⟩
          · go_wp2
            go_ret
            exact ⟨by rw [HG.out]; rfl, Fin.out⟩

/-- Are they in the order of a PNG file? -/
def orderB (l : List Ck) : Bool := knownB l && framedB l && pictB l && coloursB l
def orderE (l : List Ck) : Int := if orderB l then 0 else 4

set_option maxHeartbeats 1600000 in
theorem order_c (a : Option Addr) (c : Nat) (l : List Ck) (w : World) (hl : LiesC w a l) (hlen : l.length ≤ 281474976710656) (hc : l.length ≤ c) :
    Calls Try.prog 16 #[.slice a l.length c] w fun e w' => e = .returned (.int .i64 (orderE l)) ∧ Fr (fun _ => False) w w' := by
  have Hl := hide hl
  have H1 := hide (fun w hl => areKnown_c a c l w hl hlen)
  have H2 := hide (fun w hl => areFramed_c a c l w hl hlen hc)
  have H3 := hide (fun w hl => isOnePicture_c a c l w hl hlen)
  have H4 := hide (fun w hl => areColoursAhead_c a c l w hl hlen)
  have HG : Hid (orderE l = if (knownB l && framedB l && pictB l && coloursB l) = true then 0 else 4) := rfl
  clear hl
  generalize knownB l = t1 at *
  generalize framedB l = t2 at *
  generalize pictB l = t3 at *
  generalize coloursB l = t4 at *
  go_enter Try.func16, Try.ntmps16
  go_wp2_with fail
  refine (H1.out _ Hl.out).mono ?_
  rintro e w1 ⟨rfl, hf1⟩
  have Hf1 := hide hf1
  clear hf1
  cases t1
  · go_wp2
    go_ret
    exact ⟨by rw [HG.out]; rfl, Hf1.out⟩
  · go_wp2_with fail
    refine (H2.out _ (Hl.out.keep Hf1.out (fun _ _ h => h))).mono ?_
    rintro e w2 ⟨rfl, hf2⟩
    have Hf2 := hide (Hf1.out.join hf2)
    clear hf2
    cases t2
    · go_wp2
      go_ret
      exact ⟨by rw [HG.out]; rfl, Hf2.out⟩
    · go_wp2_with fail
      refine (H3.out _ (Hl.out.keep Hf2.out (fun _ _ h => h))).mono ?_
      rintro e w3 ⟨rfl, hf3⟩
      have Hf3 := hide (Hf2.out.join hf3)
      clear hf3
      cases t3
      · go_wp2
        go_ret
        exact ⟨by rw [HG.out]; rfl, Hf3.out⟩
      · go_wp2_with fail
        refine (H4.out _ (Hl.out.keep Hf3.out (fun _ _ h => h))).mono ?_
        rintro e w4 ⟨rfl, hf4⟩
        have Hf4 := hide (Hf3.out.join hf4)
        clear hf4
        cases t4
        · go_wp2
          go_ret
          exact ⟨by rw [HG.out]; rfl, Hf4.out⟩
        · go_wp2
          go_ret
          exact ⟨by rw [HG.out]; rfl, Hf4.out⟩
end Go.Proofs.Ytflapcaaaipoeaa
