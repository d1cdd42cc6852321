/-
  chunk: order, its four questions.
-/
import Derived.Test.YtflapcaaaipoeaaCd
namespace Go.Proofs.Ytflapcaaaipoeaa
open Go.RowKit
set_option linter.unusedVariables false

/-- How much data the i-th has. -/
def lenAt (l : List Ck) (i : Nat) : Nat := (l.getD i default).2.length
/-- IHDR first, of 13 bytes, IEND last, empty; no others. -/
def framedB (l : List Ck) : Bool := decide (plc l sHead l.length = (1, 0, 0)) && decide (lenAt l 0 = 13) && decide (plc l sIend l.length = (1, (l.length : Int) - 1, (l.length : Int) - 1)) && decide (lenAt l (l.length - 1) = 0)

theorem three_cases (x : Nat) (y z p q : Int) : (x, y, z) = ((1, p, q) : Nat × Int × Int) ∨ (¬ (x : Int) = 1 ∨ (x = 1 ∧ ¬ y = p) ∨ (x = 1 ∧ y = p ∧ ¬ z = q)) ∧ ¬ (x, y, z) = ((1, p, q) : Nat × Int × Int) := by
  by_cases h : (x, y, z) = ((1, p, q) : Nat × Int × Int)
  · exact .inl h
  · refine .inr ⟨?_, h⟩
    simp only [Prod.mk.injEq, not_and] at h
    by_cases h1 : x = 1
    · by_cases h2 : y = p
      · exact .inr (.inr ⟨h1, h2, h h1 h2⟩)
      · exact .inr (.inl ⟨h1, h2⟩)
    · exact .inl (by omega)

set_option maxHeartbeats 800000 in
theorem areFramed_c (a : Option Addr) (c : Nat) (l : List Ck) (w : World) (hl : LiesC w a l) (hlen : l.length ≤ 281474976710656) (hc : l.length ≤ c) :
    Calls Try.prog 31 #[.slice a l.length c] w fun e w' => e = .returned (.bool (framedB l)) ∧ Fr (fun _ => False) w w' := by
  have Hl := hide hl
  have HP := hide (fun w hl => placesOf_c a c l sHead w hl hlen)
  have HQ := hide (fun w hl => placesOf_c a c l sIend w hl hlen)
  have hb1 := hide (plc_le l sHead l.length)
  have hb2 := hide (plc_le l sIend l.length)
  clear hl
  obtain ⟨⟨x, y, z⟩, hp⟩ : ∃ p, p = plc l sHead l.length := ⟨_, rfl⟩
  obtain ⟨⟨x2, y2, z2⟩, hp2⟩ : ∃ p, p = plc l sIend l.length := ⟨_, rfl⟩
  have HG : Hid (framedB l = (decide ((x, y, z) = ((1, 0, 0) : Nat × Int × Int)) && decide (lenAt l 0 = 13) && decide ((x2, y2, z2) = ((1, (l.length : Int) - 1, (l.length : Int) - 1) : Nat × Int × Int)) && decide (lenAt l (l.length - 1) = 0))) := by
    show _ = _
    unfold framedB
    rw [← hp, ← hp2]
  rw [← hp] at HP hb1
  rw [← hp2] at HQ hb2
  clear hp hp2
  go_enter Try.func31, Try.ntmps31
  go_wp2_with fail
  refine (HP.out _ Hl.out).mono ?_
  rintro e w1 ⟨rfl, hf1⟩
  rcases three_cases x y z 0 0 with h1 | ⟨h1, hn⟩
  · simp only [Prod.mk.injEq] at h1
    obtain ⟨rfl, rfl, rfl⟩ := h1
    have hpos : 0 < l.length := hb1.out.1
    obtain ⟨b, o, d, cap, rfl, hck⟩ := Hl.out 0 hpos
    have hc2 := cell_fr hf1 hck.data (fun h => h)
    rw [Nat.zero_mul, Nat.add_zero] at hc2
    have HL0 : Hid (lenAt l 0 = (l.getD 0 default).2.length) := rfl
    have hlb := hck.len
    clear hck
    generalize (l.getD 0 default).2.length = n at *
    have Hf1 := hide hf1
    have hl1 := hide (Hl.out.keep hf1 (fun _ _ h => h))
    clear hf1 hb1
    unfold plcV
    by_cases h13 : n = 13
    · subst h13
      go_wp2_with fail
      refine (HQ.out _ hl1.out).mono ?_
      rintro e w2 ⟨rfl, hf2⟩
      obtain ⟨m, hm⟩ : ∃ m, l.length = m + 1 := ⟨l.length - 1, by omega⟩
      have em : (l.length : Int) - 1 = (m : Int) := by omega
      have hml : m < l.length := by omega
      have em2 : l.length - 1 = m := by omega
      have HM := hide em
      rw [em, em2] at HG
      rw [em]
      clear hm em em2
      unfold plcV
      rcases three_cases x2 y2 z2 m m with h1 | ⟨h1, hn⟩
      · simp only [Prod.mk.injEq] at h1
        obtain ⟨rfl, rfl, rfl⟩ := h1
        obtain ⟨b', o', d', cap', e', hck⟩ := Hl.out m hml
        obtain ⟨rfl, rfl⟩ : b' = b ∧ o' = o := by
          have := Option.some.inj e'
          simp only [Addr.mk.injEq] at this
          exact ⟨this.1.symm, this.2.1.symm⟩
        have hc3 := cell_fr (Hf1.out.join hf2) hck.data (fun h => h)
        have HLm : Hid (lenAt l m = (l.getD m default).2.length) := rfl
        have hlb2 := hck.len
        clear hck e'
        generalize (l.getD m default).2.length = n2 at *
        have h0 : (0 : Int) ≤ (m : Int) := by omega
        have h1 : (m : Int) < (l.length : Int) := by omega
        have Hf2 := hide (Hf1.out.join hf2)
        clear hf2 hb2
        by_cases hz : n2 = 0
        · subst hz
          have HN : Hid (framedB l = true) := by
            show _ = _
            rw [HG.out]
            simp [HL0.out, HLm.out]
          clear HG HL0 HLm
          go_wp2
          go_ret
          exact ⟨by rw [HN.out]; rfl, Hf2.out⟩
        · have hzn : ((n2 : Int) == 0) = false := by simpa using hz
          have HN : Hid (framedB l = false) := by
            show _ = _
            rw [HG.out]
            simp [HLm.out, hz]
          clear HG HL0 HLm hz
          go_wp2
          go_ret
          exact ⟨by rw [HN.out]; rfl, Hf2.out⟩
      · have HN : Hid (framedB l = false) := by
          show _ = _
          rw [HG.out]
          simp [hn]
        clear HG hn
        have Hf2 := hide (Hf1.out.join hf2)
        clear hf2
        rcases h1 with h1 | ⟨rfl, h1⟩ | ⟨rfl, rfl, h1⟩
        all_goals
          go_wp2
          go_ret
          exact ⟨by rw [HN.out]; rfl, Hf2.out⟩
    · have h13n : ¬ (n : Int) = 13 := by omega
      have HN : Hid (framedB l = false) := by
        show _ = _
        rw [HG.out]
        simp [HL0.out, h13]
      clear h13 HG
      go_wp2
      go_ret
      exact ⟨by rw [HN.out]; rfl, Hf1.out⟩
  · have HN : Hid (framedB l = false) := by
      show _ = _
      rw [HG.out]
      simp [hn]
    clear HG hn
    have Hf1 := hide hf1
    clear hf1
    unfold plcV
    rcases h1 with h1 | ⟨rfl, h1⟩ | ⟨rfl, rfl, h1⟩
    all_goals
      go_wp2
      go_ret
      exact ⟨by rw [HN.out]; rfl, Hf1.out⟩
end Go.Proofs.Ytflapcaaaipoeaa
