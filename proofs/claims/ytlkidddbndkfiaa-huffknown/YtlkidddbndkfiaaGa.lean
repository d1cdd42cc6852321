/-
  The law HuffLengths: the walks.
-/
import Derived.Test.YtlkidddbndkfiaaPg
import Derived.Test.YtlkidddbndkfiaaHh
namespace Go.Proofs.Ytlkidddbndkfiaa
open Go.RowKit

set_option maxRecDepth 100000 in
theorem lens_long (a : Option Addr) (len c : Nat) (m : Int) (w : World) (h : (400 : Int) < (len : Int)) :
    Calls Try.prog 6 #[.slice a len c, .int .i64 m] w fun e w' => e = .returned (.bool true) ∧ Fr (fun _ => False) w w' := by
  go_enter Try.func6, Try.ntmps6
  go_wp2_with fail
  refine (awake_c w).mono ?_
  rintro e w1 ⟨rfl, hF⟩
  go_wp2
  go_ret
  exact ⟨rfl, hF⟩

abbrev GoodL (fq : List Int) (m : Int) : Prop := 1 ≤ m ∧ m ≤ 15 ∧ goodF fq ∧ (posL fq fq.length).length ≤ 2 ^ m.toNat

theorem lengths_no (a : Option Addr) (c : Nat) (fq : List Int) (m : Int) (w : World) (hl : LiesI w a fq) (hlen : (fq.length : Int) ≤ 9223372036854775807) (h : ¬ GoodL fq m) :
    Calls Try.prog 24 #[.slice a fq.length c, .int .i64 m] w fun e w' => e = .returned (.tuple #[.slice none 0 0, .bool false]) ∧ Fr (fun _ => False) w w' :=
  lengths_c a c fq m w hl hlen _ (fun _ _ f => ⟨rfl, f⟩) (fun h1 h2 h3 h4 => absurd ⟨h1, h2, h3, h4⟩ h)
theorem lengths_yes (a : Option Addr) (c : Nat) (fq : List Int) (m : Int) (w : World) (hl : LiesI w a fq) (hlen : (fq.length : Int) ≤ 9223372036854775807) (h : GoodL fq m) :
    Calls Try.prog 24 #[.slice a fq.length c, .int .i64 m] w fun e w' => ∃ g o, e = .returned (.tuple #[.slice (some ⟨g, 0, none⟩) fq.length fq.length, .bool true]) ∧ OutM w' g o ∧ LenOk fq m.toNat o ∧ Fr (fun _ => False) w w' :=
  lengths_c a c fq m w hl hlen _ (fun h2 => absurd h h2) (fun _ _ _ _ g o _ h5 h6 _ f => ⟨g, o, rfl, h5, h6, f⟩)

def fineB (fq : List Int) (k : Nat) : Bool := decide (∀ j, j < k → 0 ≤ at0 fq j ∧ at0 fq j ≤ 1048576)
theorem fineB_succ (fq : List Int) (k : Nat) : fineB fq (k + 1) = (fineB fq k && decide (0 ≤ at0 fq k ∧ at0 fq k ≤ 1048576)) := by
  rw [Bool.eq_iff_iff]
  simp only [fineB, Bool.and_eq_true, decide_eq_true_eq]
  constructor
  · intro h
    exact ⟨fun j hj => h j (by omega), h k (by omega)⟩
  · rintro ⟨h1, h2⟩ j hj
    rcases Nat.lt_or_ge j k with h | h
    · exact h1 j h
    · have : j = k := by omega
      subst this
      exact h2

theorem posL_le (fq : List Int) (k : Nat) : (posL fq k).length ≤ k := by
  induction k with
  | zero => simp [posL]
  | succ k ih =>
    unfold posL
    split
    · simp; omega
    · omega

set_option maxHeartbeats 1600000 in
set_option maxRecDepth 100000 in
theorem lens_base (a : Option Addr) (c : Nat) (fq : List Int) (m : Int) (w : World) (hl : LiesI w a fq) (hlen : fq.length ≤ 400) (hm : ¬ (fq.length ≤ 320 ∧ 1 ≤ m ∧ m ≤ 15)) :
    Calls Try.prog 6 #[.slice a fq.length c, .int .i64 m] w fun e w' => e = .returned (.bool true) ∧ Fr (fun _ => False) w w' := by
  have Hl := hide hl
  clear hl
  have Hno : Hid (¬ GoodL fq m) := fun h => hm ⟨h.2.2.1.1, h.1, h.2.1⟩
  have h3 : 320 < fq.length ∨ (fq.length ≤ 320 ∧ m < 1) ∨ (fq.length ≤ 320 ∧ 1 ≤ m ∧ 15 < m) := by omega
  clear hm
  rcases h3 with h3 | ⟨h3, h4⟩ | ⟨h3, h4, h5⟩ <;>
  (go_enter Try.func6, Try.ntmps6
   go_wp2_with fail
   refine (awake_c w).mono ?_
   rintro e w1 ⟨rfl, hF1⟩
   have HF1 := hide hF1
   clear hF1
   go_wp2_with fail
   refine (lengths_no a c fq m w1 (Hl.out.keep HF1.out (fun _ _ _ h => h)) (by omega) Hno.out).mono ?_
   rintro e w2 ⟨rfl, hF2⟩
   have HF2 := hide (HF1.out.join hF2)
   clear hF2
   go_wp2
   go_loop [7, 8, 9] (fun mv fv iv => ∃ k n : Nat, k ≤ fq.length ∧ n ≤ k ∧ iv = .int .i64 k ∧ mv = .int .i64 n ∧ fv = .bool false) (fun _ _ iv => fq.length - (intOf iv).toNat)
   case atStart => exact ⟨0, 0, Nat.zero_le _, Nat.le_refl _, rfl, rfl, by first | rfl | rw [decide_eq_false (by omega)]⟩
   case round =>
     obtain ⟨k, n, hk, hn, rfl, rfl, rfl⟩ := hrel
     by_cases hlt : k < fq.length
     · obtain ⟨ad, rfl, hc⟩ := (Hl.out.keep HF2.out (fun _ _ _ h => h)) k hlt
       by_cases hp : 0 < at0 fq k
       · go_wp2
         go_round
         case rel => exact ⟨k + 1, n + 1, by omega, by omega, by go_num, by go_num, rfl⟩
         case measure => simp [intOf]; omega
       · go_wp2
         go_round
         case rel => exact ⟨k + 1, n, by omega, by omega, by go_num, rfl, rfl⟩
         case measure => simp [intOf]; omega
     · go_wp2
       go_ret
       exact ⟨rfl, HF2.out⟩)

theorem and15 (L : Nat) (h : L ≤ 15) : bits BinOp.and IntKind.i64 (L : Int) 15 = (L : Int) := by
  have : ∀ k : Fin 16, bits BinOp.and IntKind.i64 ((k.val : Nat) : Int) 15 = ((k.val : Nat) : Int) := by decide
  exact this ⟨L, by omega⟩

set_option maxHeartbeats 1600000 in
set_option maxRecDepth 100000 in
theorem lens_no (a : Option Addr) (c : Nat) (fq : List Int) (L : Nat) (w : World) (hl : LiesI w a fq) (h1 : fq.length ≤ 320) (h2 : 1 ≤ L) (h3 : L ≤ 15) (hno : ¬ GoodL fq L) :
    Calls Try.prog 6 #[.slice a fq.length c, .int .i64 (L : Int)] w fun e w' => e = .returned (.bool true) ∧ Fr (fun _ => False) w w' := by
  have Hl := hide hl
  have Hno := hide hno
  clear hl hno
  have h4 : (L : Int) ≤ 15 := by omega
  have ha := and15 L h3
  obtain ⟨P2, hP2⟩ : ∃ P2, P2 = 2 ^ L := ⟨_, rfl⟩
  have hPi : (2:Int) ^ L = (P2 : Int) := by rw [hP2]; simp
  have hPb : P2 ≤ 32768 := by rw [hP2]; exact Nat.pow_le_pow_right (by decide) h3
  have HP2 := hide hP2
  clear hP2
  go_enter Try.func6, Try.ntmps6
  go_wp2_with fail
  refine (awake_c w).mono ?_
  rintro e w1 ⟨rfl, hF1⟩
  have HF1 := hide hF1
  clear hF1
  go_wp2_with fail
  refine (lengths_no a c fq L w1 (Hl.out.keep HF1.out (fun _ _ _ h => h)) (by omega) Hno.out).mono ?_
  rintro e w2 ⟨rfl, hF2⟩
  have HF2 := hide (HF1.out.join hF2)
  clear hF2
  go_wp2
  go_loop [7, 8, 9] (fun mv fv iv => ∃ k : Nat, k ≤ fq.length ∧ iv = .int .i64 k ∧ mv = .int .i64 (posL fq k).length ∧ fv = .bool (fineB fq k)) (fun _ _ iv => fq.length - (intOf iv).toNat)
  case atStart => exact ⟨0, Nat.zero_le _, rfl, rfl, by simp [fineB]; try omega⟩
  case round =>
    obtain ⟨k, hk, rfl, rfl, rfl⟩ := hrel
    have hpl := posL_le fq k
    by_cases hlt : k < fq.length
    · obtain ⟨ad, rfl, hc⟩ := (Hl.out.keep HF2.out (fun _ _ _ h => h)) k hlt
      have hps : posL fq (k + 1) = if 0 < at0 fq k then posL fq k ++ [k] else posL fq k := rfl
      have hfs := fineB_succ fq k
      have Hps := hide hps
      have Hfs := hide hfs
      clear hps hfs
      cases hfb : fineB fq k
      · by_cases hp : 0 < at0 fq k
        · go_wp2
          go_round
          case rel => exact ⟨k + 1, by omega, by go_num, by rw [Hps.out, if_pos hp, List.length_append]; go_num, by rw [Hfs.out, hfb]; rfl⟩
          case measure => simp [intOf]; omega
        · go_wp2
          go_round
          case rel => exact ⟨k + 1, by omega, by go_num, by rw [Hps.out, if_neg hp], by rw [Hfs.out, hfb]; rfl⟩
          case measure => simp [intOf]; omega
      · by_cases hp : 0 < at0 fq k
        · have hp0 : 0 ≤ at0 fq k := by omega
          by_cases hb : at0 fq k ≤ 1048576
          · go_wp2
            go_round
            case rel => exact ⟨k + 1, by omega, by go_num, by rw [Hps.out, if_pos hp, List.length_append]; go_num, by rw [Hfs.out, hfb, decide_eq_true (show 0 ≤ at0 fq k ∧ at0 fq k ≤ 1048576 from ⟨hp0, hb⟩)]; rfl⟩
            case measure => simp [intOf]; omega
          · go_wp2
            go_round
            case rel => exact ⟨k + 1, by omega, by go_num, by rw [Hps.out, if_pos hp, List.length_append]; go_num, by rw [Hfs.out, hfb, decide_eq_false (show ¬ (0 ≤ at0 fq k ∧ at0 fq k ≤ 1048576) by omega)]; rfl⟩
            case measure => simp [intOf]; omega
        · by_cases hp0 : 0 ≤ at0 fq k
          · have hb : at0 fq k ≤ 1048576 := by omega
            go_wp2
            go_round
            case rel => exact ⟨k + 1, by omega, by go_num, by rw [Hps.out, if_neg hp], by rw [Hfs.out, hfb, decide_eq_true (show 0 ≤ at0 fq k ∧ at0 fq k ≤ 1048576 from ⟨hp0, hb⟩)]; rfl⟩
            case measure => simp [intOf]; omega
          · go_wp2
            go_round
            case rel => exact ⟨k + 1, by omega, by go_num, by rw [Hps.out, if_neg hp], by rw [Hfs.out, hfb, decide_eq_false (show ¬ (0 ≤ at0 fq k ∧ at0 fq k ≤ 1048576) by omega)]; rfl⟩
            case measure => simp [intOf]; omega
    · have e : k = fq.length := by omega
      subst e
      cases hfb : fineB fq fq.length
      · go_wp2
        go_ret
        exact ⟨rfl, HF2.out⟩
      · have hgt : P2 < (posL fq fq.length).length := by
          rw [HP2.out]
          apply Classical.byContradiction
          intro h
          refine Hno.out ⟨by omega, by omega, ⟨h1, ?_⟩, by simp only [Int.toNat_natCast]; omega⟩
          simpa [fineB] using hfb
        have hdec : decide ((posL fq fq.length).length ≤ P2) = false := decide_eq_false (by omega)
        go_wp2
        go_ret
        exact ⟨rfl, HF2.out⟩
end Go.Proofs.Ytlkidddbndkfiaa
