/-
  HuffCodes.
-/
import Derived.Test.YtlkidddbndkfiaaHg
namespace Go.Proofs.Ytlkidddbndkfiaa
open Go.RowKit

/-- What Word answers, of any number. -/
def wordA (ls : List Int) (i : Int) : Int := if 0 ≤ i ∧ i < ls.length ∧ 0 < at0 ls i.toNat then (wd ls i.toNat : Nat) else 0
def wordN (ls : List Int) (i : Int) : Int := if 0 ≤ i ∧ i < ls.length then at0 ls i.toNat else 0
def wordB (ls : List Int) (i : Int) : Bool := decide (0 ≤ i ∧ i < ls.length ∧ 0 < at0 ls i.toNat)

theorem word_c (lo hi B : Nat) (i : Int) (ls : List Int) (w : World) (h : Cd w lo hi B ls) :
    Calls Try.prog 12 #[.pointer (some ⟨B, 0, none⟩), .int .i64 i] w fun e w' => e = .returned (.tuple #[.int .i64 (wordA ls i), .int .i64 (wordN ls i), .bool (wordB ls i)]) ∧ Fr (fun _ => False) w w' := by
  by_cases hi : 0 ≤ i ∧ i < ls.length
  · obtain ⟨k, rfl⟩ : ∃ k : Nat, i = (k : Int) := ⟨i.toNat, by omega⟩
    have hk : k < ls.length := by omega
    refine (word_in lo _ B k ls w h hk).mono ?_
    rintro e w' ⟨rfl, hF⟩
    refine ⟨ret_word ?_ ?_ ?_, hF⟩
    · unfold wordA; simp [hk]
    · unfold wordN; simp [hk]
    · unfold wordB; simp [hk]
  · refine (word_out lo _ B i ls w h (by omega)).mono ?_
    rintro e w' ⟨rfl, hF⟩
    refine ⟨ret_word ?_ ?_ ?_, hF⟩
    · unfold wordA; rw [if_neg (by omega)]
    · unfold wordN; rw [if_neg hi]
    · unfold wordB; symm; rw [decide_eq_false_iff_not]; omega
theorem rword_c (lo hi B : Nat) (i : Int) (ls : List Int) (w : World) (h : Rc w lo hi B ls) :
    Calls Try.prog 13 #[.pointer (some ⟨B, 0, none⟩), .int .i64 i] w fun e w' => e = .returned (.tuple #[.int .i64 (wordA ls i), .int .i64 (wordN ls i), .bool (wordB ls i)]) ∧ w = w' := by
  by_cases hi : 0 ≤ i ∧ i < ls.length ∧ 0 < at0 ls i.toNat
  · obtain ⟨k, rfl⟩ : ∃ k : Nat, i = (k : Int) := ⟨i.toNat, by omega⟩
    have hk : k < ls.length := by omega
    have hz : 0 < at0 ls k := by simpa using hi.2.2
    refine (rword_in lo _ B k ls w h hk (by omega)).mono ?_
    rintro e w' ⟨rfl, hF⟩
    refine ⟨ret_word ?_ ?_ ?_, hF⟩
    · unfold wordA; simp [hk, hz]
    · unfold wordN; simp [hk]
    · unfold wordB; simp [hk, hz]
  · refine (rword_none lo _ B i ls w h ?_).mono ?_
    · by_cases h0 : i < 0 ∨ (ls.length : Int) ≤ i
      · exact Or.inl h0
      · refine Or.inr ⟨by omega, ?_⟩
        have := h.egood.2 i.toNat (by omega)
        omega
    · rintro e w' ⟨rfl, hF⟩
      refine ⟨ret_word ?_ ?_ ?_, hF⟩
      · unfold wordA; rw [if_neg hi]
      · unfold wordN
        split
        · next h1 =>
          have := h.egood.2 i.toNat (by omega)
          omega
        · rfl
      · unfold wordB; symm; rw [decide_eq_false_iff_not]; exact hi

set_option maxHeartbeats 400000 in
theorem codes_long (a : Option Addr) (len c : Nat) (w : World) (h : (400 : Int) < (len : Int)) :
    Calls Try.prog 3 #[.slice a len c] w fun e w' => e = .returned (.bool true) ∧ Fr (fun _ => False) w w' := by
  go_enter Try.func3, Try.ntmps3
  go_wp2_with fail
  refine (awake_c w).mono ?_
  rintro e w1 ⟨rfl, hF⟩
  go_wp2
  go_ret
  exact ⟨rfl, hF⟩

theorem refNew_bad (a : Option Addr) (c : Nat) (ls : List Int) (w : World) (hl : LiesI w a ls) (hg : ¬ good ls) :
    Calls Try.prog 11 #[.slice a ls.length c] w fun e w' => e = .returned (.tuple #[.pointer none, .int .i64 1]) ∧ Fr (fun _ => False) w w' := by
  by_cases h : ls.length ≤ 320
  · exact refNew_c a c ls w hl h _ (fun _ _ hF => ⟨rfl, hF⟩) (fun h => absurd h hg) (fun h => absurd h hg)
  · exact (refNew_big a c ls w (by omega)).mono fun e w' ⟨he, hw⟩ => ⟨he, hw ▸ Fr.refl _ _⟩
theorem refNew_form (a : Option Addr) (c : Nat) (ls : List Int) (w : World) (hl : LiesI w a ls) (hg : good ls) (hok : ¬ codeOk ls) :
    Calls Try.prog 11 #[.slice a ls.length c] w fun e w' => e = .returned (.tuple #[.pointer none, .int .i64 4]) ∧ Fr (fun _ => False) w w' :=
  refNew_c a c ls w hl hg.1 _ (fun h => absurd hg h) (fun _ _ _ hF => ⟨rfl, hF⟩) (fun _ h => absurd h hok)
theorem refNew_ok (a : Option Addr) (c : Nat) (ls : List Int) (w : World) (hl : LiesI w a ls) (hg : good ls) (hok : codeOk ls) :
    Calls Try.prog 11 #[.slice a ls.length c] w fun e w' => ∃ B, e = .returned (.tuple #[.pointer (some ⟨B, 0, none⟩), .int .i64 0]) ∧ Rc w' w.heap.size w'.heap.size B ls ∧ Fr (fun _ => False) w w' :=
  refNew_c a c ls w hl hg.1 _ (fun h => absurd hg h) (fun _ h => absurd hok h) (fun _ _ _ B hC hF => ⟨B, rfl, hC, hF⟩)

set_option maxHeartbeats 800000 in
theorem codes_no (a : Option Addr) (c : Nat) (ls : List Int) (w : World) (hl : LiesI w a ls) (hlen : ls.length ≤ 400) (hno : ¬ (good ls ∧ codeOk ls)) :
    Calls Try.prog 3 #[.slice a ls.length c] w fun e w' => e = .returned (.bool true) ∧ Fr (fun _ => False) w w' := by
  have hnew : ∃ x : Int, (x = 1 ∨ x = 4) ∧ (∀ W, LiesI W a ls → Calls Try.prog 10 #[.slice a ls.length c] W fun e w' => e = .returned (.tuple #[.pointer none, .int .i64 x]) ∧ Fr (fun _ => False) W w') ∧ (∀ W, LiesI W a ls → Calls Try.prog 11 #[.slice a ls.length c] W fun e w' => e = .returned (.tuple #[.pointer none, .int .i64 x]) ∧ Fr (fun _ => False) W w') := by
    by_cases hg : good ls
    · have hok : ¬ codeOk ls := fun h => hno ⟨hg, h⟩
      exact ⟨4, Or.inr rfl, fun W h => new_form a c ls W h hg hok, fun W h => refNew_form a c ls W h hg hok⟩
    · exact ⟨1, Or.inl rfl, fun W h => (new_arg a c ls W h (by omega) hg).mono fun e w' ⟨he, hw⟩ => ⟨he, hw ▸ Fr.refl _ _⟩, fun W h => refNew_bad a c ls W h hg⟩
  obtain ⟨x, hx, h1, h2⟩ := hnew
  have hx0 : (x == 0) = false := beq_false_of_ne (by omega)
  have hx1 : (x != 0) = true := by simp [bne, hx0]
  have Hl := hide hl
  have H1 := hide h1
  have H2 := hide h2
  clear hl hno h1 h2 hx
  go_enter Try.func3, Try.ntmps3
  go_wp2_with fail
  refine (awake_c w).mono ?_
  rintro e w1 ⟨rfl, hF1⟩
  have HF1 := hide hF1
  clear hF1
  go_wp2_with fail
  refine (H1.out w1 (Hl.out.keep HF1.out (fun _ _ _ h => h))).mono ?_
  rintro e w2 ⟨rfl, hF2⟩
  have HF2 := hide (HF1.out.join hF2)
  clear hF2
  go_wp2_with fail
  refine (H2.out w2 (Hl.out.keep HF2.out (fun _ _ _ h => h))).mono ?_
  rintro e w3 ⟨rfl, hF3⟩
  have HF3 := hide (HF2.out.join hF3)
  clear hF3
  go_wp2
  go_ret
  exact ⟨rfl, HF3.out⟩

set_option maxHeartbeats 1600000 in
set_option maxRecDepth 100000 in
theorem codes_yes (a : Option Addr) (c : Nat) (ls : List Int) (w : World) (hl : LiesI w a ls) (hg : good ls) (hok : codeOk ls) :
    Calls Try.prog 3 #[.slice a ls.length c] w fun e w' => e = .returned (.bool true) ∧ Fr (fun _ => False) w w' := by
  have h320 := hg.1
  have Hl := hide hl
  have Hg := hide hg
  have Hok := hide hok
  clear hl hg hok
  go_enter Try.func3, Try.ntmps3
  go_wp2_with fail
  refine (awake_c w).mono ?_
  rintro e w1 ⟨rfl, hF1⟩
  have HF1 := hide hF1
  clear hF1
  go_wp2_with fail
  refine (new_ok a c ls w1 (Hl.out.keep HF1.out (fun _ _ _ h => h)) Hg.out Hok.out).mono ?_
  rintro e w2 ⟨C, rfl, hC, hF2⟩
  have HC := hide hC
  have HF2 := hide (HF1.out.join hF2)
  clear hF2 hC
  go_wp2_with fail
  refine (refNew_ok a c ls w2 (Hl.out.keep HF2.out (fun _ _ _ h => h)) Hg.out Hok.out).mono ?_
  rintro e w3 ⟨M, rfl, hM, hF3⟩
  have HM := hide hM
  have HC3 := hide (HC.out.keep hF3 (fun _ _ _ h => h))
  have HF3 := hide (HF2.out.join hF3)
  clear hF3 hM HC
  go_wp2
  go_loopw [7, 8, 9, 10, 11, 12, 13] (fun iv _ _ _ _ _ _ wr => ∃ i : Int, -1 ≤ i ∧ i ≤ ls.length + 1 ∧ iv = .int .i64 i ∧ Fr (fun _ => False) w3 wr) (fun iv _ _ _ _ _ _ _ => (ls.length + 1 - intOf iv).toNat)
  case atStart => exact ⟨-1, by omega, by omega, rfl, Fr.refl _ _⟩
  case round =>
    obtain ⟨i, hi0, hi1, rfl, hF⟩ := hrel
    by_cases hlt : i ≤ ls.length
    · have HF := hide hF
      have cw := word_c w1.heap.size w2.heap.size C i ls
      have cr := rword_c w2.heap.size w3.heap.size M i ls
      generalize wordA ls i = wa at cw cr
      generalize wordN ls i = wn at cw cr
      generalize wordB ls i = wb at cw cr
      have CW := hide cw
      have CR := hide cr
      clear hF cw cr
      go_wp2_with fail
      refine (CW.out wr (HC3.out.keep HF.out (fun _ _ _ h => h))).mono ?_
      rintro e w4 ⟨rfl, hF4⟩
      have HF4 := hide (HF.out.join hF4)
      clear hF4
      go_wp2_with fail
      refine (CR.out w4 (HM.out.keep HF4.out (fun _ _ _ h => h))).mono ?_
      rintro e w5 ⟨rfl, rfl⟩
      go_wp2
      go_roundw
      case rel => exact ⟨i + 1, by omega, by omega, rfl, HF4.out⟩
      case measure => simp [intOf]; omega
    · go_wp2
      go_ret
      exact ⟨rfl, HF3.out.join hF⟩
end Go.Proofs.Ytlkidddbndkfiaa
