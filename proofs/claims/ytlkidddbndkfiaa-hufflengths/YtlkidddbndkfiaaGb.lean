/-
  The law HuffLengths: the walk where lengths are owed.
-/
import Derived.Test.YtlkidddbndkfiaaGa
import Derived.Deep.CutRange
namespace Go.Proofs.Ytlkidddbndkfiaa
open Go.RowKit

set_option maxHeartbeats 1600000 in
set_option maxRecDepth 100000 in
theorem lens_yes (a : Option Addr) (c : Nat) (fq : List Int) (L : Nat) (w : World) (hl : LiesI w a fq) (h1 : fq.length ≤ 320) (h2 : 1 ≤ L) (h3 : L ≤ 15) (hyes : GoodL fq L) :
    Calls Try.prog 6 #[.slice a fq.length c, .int .i64 (L : Int)] w fun e w' => e = .returned (.bool true) ∧ Fr (fun _ => False) w w' := by
  have Hl := hide hl
  have Hyes := hide hyes
  clear hl hyes
  have h4 : (L : Int) ≤ 15 := by omega
  have ha := and15 L h3
  obtain ⟨P2, hP2⟩ : ∃ P2, P2 = 2 ^ L := ⟨_, rfl⟩
  have hPi : (2:Int) ^ L = (P2 : Int) := by rw [hP2]; simp
  have hPb : P2 ≤ 32768 := by rw [hP2]; exact Nat.pow_le_pow_right (by decide) h3
  have HP2 := hide hP2
  clear hP2
  go_enter Try.func6, Try.ntmps6
  go_wp2_with fail
  refine (awake_c w).mono ?_
  rintro e w1 ⟨rfl, hF1⟩
  have HF1 := hide hF1
  clear hF1
  go_wp2_with fail
  refine (lengths_yes a c fq L w1 (Hl.out.keep HF1.out (fun _ _ _ h => h)) (by omega) Hyes.out).mono ?_
  rintro e w2 ⟨g, o, rfl, hOM, hLK, hF2⟩
  have HF2 := hide (HF1.out.join hF2)
  have HOM := hide hOM
  have HLK := hide hLK
  clear hF2 hOM hLK
  go_wp2
  go_loop [7, 8, 9] (fun mv fv iv => ∃ k : Nat, k ≤ fq.length ∧ iv = .int .i64 k ∧ mv = .int .i64 (posL fq k).length ∧ fv = .bool (fineB fq k)) (fun _ _ iv => fq.length - (intOf iv).toNat)
  case atStart => exact ⟨0, Nat.zero_le _, rfl, rfl, by simp [fineB]; try omega⟩
  case round =>
    obtain ⟨k, hk, rfl, rfl, rfl⟩ := hrel
    have hpl := posL_le fq k
    by_cases hlt : k < fq.length
    · obtain ⟨ad, rfl, hc⟩ := (Hl.out.keep HF2.out (fun _ _ _ h => h)) k hlt
      have hps : posL fq (k + 1) = if 0 < at0 fq k then posL fq k ++ [k] else posL fq k := rfl
      have hfs := fineB_succ fq k
      have Hps := hide hps
      have Hfs := hide hfs
      clear hps hfs
      cases hfb : fineB fq k
      · by_cases hp : 0 < at0 fq k
        · go_wp2
          go_round
          case rel => exact ⟨k + 1, by omega, by go_num, by rw [Hps.out, if_pos hp, List.length_append]; go_num, by rw [Hfs.out, hfb]; rfl⟩
          case measure => simp [intOf]; omega
        · go_wp2
          go_round
          case rel => exact ⟨k + 1, by omega, by go_num, by rw [Hps.out, if_neg hp], by rw [Hfs.out, hfb]; rfl⟩
          case measure => simp [intOf]; omega
      · by_cases hp : 0 < at0 fq k
        · have hp0 : 0 ≤ at0 fq k := by omega
          by_cases hb : at0 fq k ≤ 1048576
          · go_wp2
            go_round
            case rel => exact ⟨k + 1, by omega, by go_num, by rw [Hps.out, if_pos hp, List.length_append]; go_num, by rw [Hfs.out, hfb, decide_eq_true (show 0 ≤ at0 fq k ∧ at0 fq k ≤ 1048576 from ⟨hp0, hb⟩)]; rfl⟩
            case measure => simp [intOf]; omega
          · go_wp2
            go_round
            case rel => exact ⟨k + 1, by omega, by go_num, by rw [Hps.out, if_pos hp, List.length_append]; go_num, by rw [Hfs.out, hfb, decide_eq_false (show ¬ (0 ≤ at0 fq k ∧ at0 fq k ≤ 1048576) by omega)]; rfl⟩
            case measure => simp [intOf]; omega
        · by_cases hp0 : 0 ≤ at0 fq k
          · have hb : at0 fq k ≤ 1048576 := by omega
            go_wp2
            go_round
            case rel => exact ⟨k + 1, by omega, by go_num, by rw [Hps.out, if_neg hp], by rw [Hfs.out, hfb, decide_eq_true (show 0 ≤ at0 fq k ∧ at0 fq k ≤ 1048576 from ⟨hp0, hb⟩)]; rfl⟩
            case measure => simp [intOf]; omega
          · go_wp2
            go_round
            case rel => exact ⟨k + 1, by omega, by go_num, by rw [Hps.out, if_neg hp], by rw [Hfs.out, hfb, decide_eq_false (show ¬ (0 ≤ at0 fq k ∧ at0 fq k ≤ 1048576) by omega)]; rfl⟩
            case measure => simp [intOf]; omega
    · have e : k = fq.length := by omega
      subst e
      have hfb : fineB fq fq.length = true := by
        simp only [fineB, decide_eq_true_eq]
        exact Hyes.out.2.2.1.2
      have hgt : ¬ P2 < (posL fq fq.length).length := by
        have := Hyes.out.2.2.2
        simp only [Int.toNat_natCast] at this
        have := HP2.out
        omega
      have hol := HLK.out.len
      have CN := hide (refNew_ok (some ⟨g, 0, none⟩) fq.length o w2 (fun j hj => ⟨⟨g, 0, none⟩, rfl, by rw [add_none]; simpa using (HOM.out.cell hj).1⟩) ⟨by omega, fun j hj => by
        by_cases hp : 0 < at0 fq j
        · have := HLK.out.pos j (by omega) hp
          simp only [Int.toNat_natCast] at this
          omega
        · rw [HLK.out.zero j (by omega) hp]; omega⟩ HLK.out.code)
      rw [hol] at CN
      rw [hfb]
      have Hol := hide hol
      clear hol
      obtain ⟨N, hN⟩ : ∃ N, N = (posL fq fq.length).length := ⟨_, rfl⟩
      rw [← hN]
      rw [← hN] at hgt hpl
      have HN := hide hN
      clear hN
      have hdec : decide (N ≤ P2) = true := decide_eq_true (by omega)
      go_wp2_with fail
      refine CN.out.mono ?_
      rintro e w3 ⟨B, rfl, _, hF3⟩
      have HF3 := hide (HF2.out.join hF3)
      have HOM3 := hide (HOM.out.keep hF3 (fun h => h))
      clear hF3
      clear CN HOM
      go_wp2
      go_loopw [12, 13] (fun iv _ wr => ∃ i : Nat, i ≤ fq.length ∧ iv = .int .i64 i ∧ Fr (fun _ => False) w3 wr) (fun iv _ _ => fq.length - (intOf iv).toNat)
      case atStart => exact ⟨0, Nat.zero_le _, rfl, Fr.refl _ _⟩
      case round =>
        obtain ⟨i, hi, rfl, hFr⟩ := hrel
        have HFr := hide hFr
        clear hFr
        by_cases hlt : i < fq.length
        · obtain ⟨ad, rfl, hcf⟩ := (Hl.out.keep (HF3.out.join HFr.out) (fun _ _ _ h => h)) i hlt
          have hco := ((HOM3.out.keep HFr.out (fun h => h)).cell (k := i) (by rw [Hol.out]; exact hlt)).1
          have e1 : decide (0 < at0 o i) = decide (0 < at0 fq i) := by
            by_cases hp : 0 < at0 fq i
            · have := HLK.out.pos i hlt hp
              simp only [Int.toNat_natCast] at this
              rw [decide_eq_true hp, decide_eq_true (by omega)]
            · rw [HLK.out.zero i hlt hp, decide_eq_false hp]; rfl
          have hb : 0 ≤ at0 o i ∧ at0 o i ≤ (L : Int) := by
            by_cases hp : 0 < at0 fq i
            · have := HLK.out.pos i hlt hp
              simp only [Int.toNat_natCast] at this
              omega
            · rw [HLK.out.zero i hlt hp]; omega
          have e3 : decide ((L : Int) < at0 o i) = false := decide_eq_false (by omega)
          have e4 : decide (at0 o i < 0) = false := decide_eq_false (by omega)
          have hone : N = 1 → decide (1 < at0 o i) = false := fun h => decide_eq_false (by
            have := HLK.out.one (HN.out.symm.trans h) i hlt
            omega)
          have Hmono : Hid (∀ x y, x < fq.length → y < fq.length → 0 < at0 fq y → at0 fq y < at0 fq x → decide (at0 o y < at0 o x) = false) := fun x y h5 h6 h7 h8 => decide_eq_false (by have := HLK.out.mono x y h5 h6 h7 h8; omega)
          have Hone := hide hone
          clear hone
          have h6 : (((N : Int) == 1) = true ∧ decide (1 < at0 o i) = false) ∨ ((N : Int) == 1) = false := by
            by_cases h1n : N = 1
            · exact Or.inl ⟨by rw [h1n]; rfl, Hone.out h1n⟩
            · exact Or.inr (beq_false_of_ne (by omega))
          have hpv : decide (0 < at0 fq i) = true ∨ decide (0 < at0 fq i) = false := by cases decide (0 < at0 fq i) <;> simp
          go_upto_region 24 with fail
          go_cut [140] from 98 to 201 (fun cv wx => cv = .bool false ∧ Fr (fun _ => False) w3 wx)
          case first =>
            rcases h6 with ⟨h6, e6⟩ | h6 <;> rcases hpv with hpv | hpv <;>
            (rw [hpv] at e1
             go_wp2_with fail
             go_quiet (fail)
             go_wp2
             go_meet
             exact ⟨rfl, HFr.out.join (Fr.of_drewN _ _)⟩)
          case rest =>
           obtain ⟨rfl, hFx⟩ := hcut
           have HFx := hide hFx
           clear hFx hcf hco
           go_wp2
           go_loopw [13] (fun kv wr => ∃ k : Nat, k ≤ i ∧ kv = .int .i64 k ∧ Fr (fun _ => False) w3 wr) (fun kv _ => i - (intOf kv).toNat)
           case atStart => exact ⟨0, Nat.zero_le _, rfl, HFx.out⟩
           case round =>
             obtain ⟨k, hk, rfl, hFk⟩ := hrel
             have HFk := hide hFk
             clear hFk
             by_cases hkl : k < i
             · obtain ⟨ad', ea, hcfk⟩ := (Hl.out.keep (HF3.out.join HFk.out) (fun _ _ _ h => h)) k (by omega)
               cases ea
               obtain ⟨ad', ea, hcf⟩ := (Hl.out.keep (HF3.out.join HFk.out) (fun _ _ _ h => h)) i hlt
               cases ea
               have hcok := ((HOM3.out.keep HFk.out (fun h => h)).cell (k := k) (by rw [Hol.out]; omega)).1
               have hco := ((HOM3.out.keep HFk.out (fun h => h)).cell (k := i) (by rw [Hol.out]; omega)).1
               rcases Int.lt_trichotomy (at0 fq k) (at0 fq i) with ht | ht | ht
               · have f1 : decide (at0 fq k < at0 fq i) = true := decide_eq_true ht
                 have f2 : decide (at0 fq i < at0 fq k) = false := decide_eq_false (by omega)
                 by_cases hk0 : 0 < at0 fq k
                 · have f3 : decide (0 < at0 fq k) = true := decide_eq_true hk0
                   have f4 := Hmono.out i k hlt (by omega) hk0 ht
                   clear ht hk0
                   go_wp2_with fail
                   go_quiet (fail)
                   go_wp2
                   go_roundw
                   case rel => exact ⟨k + 1, by omega, by go_num, HFk.out.join (Fr.of_drewN _ _)⟩
                   case measure => simp [intOf]; omega
                 · have f3 : decide (0 < at0 fq k) = false := decide_eq_false hk0
                   clear ht hk0
                   go_wp2_with fail
                   go_quiet (fail)
                   go_wp2
                   go_roundw
                   case rel => exact ⟨k + 1, by omega, by go_num, HFk.out.join (Fr.of_drewN _ _)⟩
                   case measure => simp [intOf]; omega
               · have f1 : decide (at0 fq k < at0 fq i) = false := decide_eq_false (by omega)
                 have f2 : decide (at0 fq i < at0 fq k) = false := decide_eq_false (by omega)
                 clear ht
                 go_wp2_with fail
                 go_quiet (fail)
                 go_wp2
                 go_roundw
                 case rel => exact ⟨k + 1, by omega, by go_num, HFk.out.join (Fr.of_drewN _ _)⟩
                 case measure => simp [intOf]; omega
               · have f1 : decide (at0 fq k < at0 fq i) = false := decide_eq_false (by omega)
                 have f2 : decide (at0 fq i < at0 fq k) = true := decide_eq_true ht
                 by_cases hk0 : 0 < at0 fq i
                 · have f3 : decide (0 < at0 fq i) = true := decide_eq_true hk0
                   have f4 := Hmono.out k i (by omega) hlt hk0 ht
                   clear ht hk0
                   go_wp2_with fail
                   go_quiet (fail)
                   go_wp2
                   go_roundw
                   case rel => exact ⟨k + 1, by omega, by go_num, HFk.out.join (Fr.of_drewN _ _)⟩
                   case measure => simp [intOf]; omega
                 · have f3 : decide (0 < at0 fq i) = false := decide_eq_false hk0
                   clear ht hk0
                   go_wp2_with fail
                   go_quiet (fail)
                   go_wp2
                   go_roundw
                   case rel => exact ⟨k + 1, by omega, by go_num, HFk.out.join (Fr.of_drewN _ _)⟩
                   case measure => simp [intOf]; omega
             · go_wp2
               go_roundw
               case rel => exact ⟨i + 1, by omega, by go_num, HFk.out⟩
               case measure => simp [intOf]; omega
        · go_wp2
          go_ret
          exact ⟨rfl, HF3.out.join HFr.out⟩
end Go.Proofs.Ytlkidddbndkfiaa
