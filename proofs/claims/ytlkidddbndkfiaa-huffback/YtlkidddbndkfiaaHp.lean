/-
  HuffPrefix.
-/
import Derived.Test.YtlkidddbndkfiaaHd
namespace Go.Proofs.Ytlkidddbndkfiaa
open Go.RowKit

theorem word_yes (lo hi B i L : Nat) (ls : List Int) (w : World) (h : Cd w lo hi B ls) (hi : i < ls.length) (hL : at0 ls i = (L : Int)) (hz : 0 < L) :
    Calls Try.prog 12 #[.pointer (some ⟨B, 0, none⟩), .int .i64 (i : Int)] w fun e w' => e = .returned (.tuple #[.int .i64 (wd ls i : Nat), .int .i64 (L : Int), .bool true]) ∧ Fr (fun _ => False) w w' := by
  refine (word_in lo _ B i ls w h hi).mono ?_
  rintro e w' ⟨rfl, hF⟩
  exact ⟨ret_word (by rw [if_pos (by omega)]) hL (by rw [hL]; simp; omega), hF⟩
theorem word_not (lo hi B i : Nat) (ls : List Int) (w : World) (h : Cd w lo hi B ls) (hi : i < ls.length) (hL : at0 ls i = 0) :
    Calls Try.prog 12 #[.pointer (some ⟨B, 0, none⟩), .int .i64 (i : Int)] w fun e w' => e = .returned (.tuple #[.int .i64 0, .int .i64 0, .bool false]) ∧ Fr (fun _ => False) w w' := by
  refine (word_in lo _ B i ls w h hi).mono ?_
  rintro e w' ⟨rfl, hF⟩
  exact ⟨ret_word (by rw [if_neg (by omega)]) hL (by rw [hL]; rfl), hF⟩

set_option maxRecDepth 100000 in
theorem nxk_le (ls : List Int) (k : Nat) : nxk ls k 15 ≤ k * 16384 := by
  induction k with
  | zero => rw [nxk_zero]; omega
  | succ k ih =>
    rw [nxk_succ]
    split
    · next h =>
      have h2 : (2:Nat) ^ (15 - (at0 ls k).toNat) ≤ 2 ^ 14 := Nat.pow_le_pow_right (by decide) (by omega)
      have h3 : (2:Nat) ^ 14 = 16384 := by decide
      omega
    · omega
theorem totk_le' (ls : List Int) (k : Nat) : totk ls k 15 ≤ k := by
  induction k with
  | zero => rw [totk_zero]; exact Nat.le_refl _
  | succ k ih => rw [totk_succ]; split <;> omega

/-- Of two words of one size the later symbol's is greater. -/
theorem words_same {ls : List Int} {i k : Nat} (h : k < i) (e : at0 ls i = at0 ls k) (hz : 0 < at0 ls k) : wd ls k < wd ls i := by
  have := rank_lt ls (at0 ls k).toNat h (by omega)
  unfold wd
  rw [e]
  omega
/-- The longer word's beginning lies behind the shorter word. -/
theorem words_long {ls : List Int} {i k : Nat} (hk : k < ls.length) (hz : 0 < at0 ls k) (hn : at0 ls k < at0 ls i) : wd ls k < wd ls i / 2 ^ ((at0 ls i).toNat - (at0 ls k).toNat) := by
  have h1 := wd_lt ls hk (by omega)
  have h2 := wd_ge ls (i := i) (k := (at0 ls k).toNat) (by omega)
  have h3 := (Nat.le_div_iff_mul_le (pow_pos2 ((at0 ls i).toNat - (at0 ls k).toNat))).2 h2
  omega

theorem wd_bound {ls : List Int} (hg : good ls) {i : Nat} (hi : i < ls.length) (hz : 0 < at0 ls i) : wd ls i ≤ 10485760 := by
  have h1 := wd_lt ls hi (by omega)
  have h2 := nx_bound ls hg.1 (n := (at0 ls i).toNat) (by have := (hg.2 i hi).2; omega)
  omega

set_option maxHeartbeats 400000 in
set_option maxRecDepth 100000 in
theorem prefix_long (a : Option Addr) (len c : Nat) (w : World) (h : (320 : Int) < (len : Int)) :
    Calls Try.prog 7 #[.slice a len c] w fun e w' => e = .returned (.bool true) ∧ Fr (fun _ => False) w w' := by
  go_enter Try.func7, Try.ntmps7
  go_wp2_with fail
  refine (awake_c w).mono ?_
  rintro e w1 ⟨rfl, hF⟩
  go_wp2
  go_ret
  exact ⟨rfl, hF⟩

set_option maxHeartbeats 800000 in
set_option maxRecDepth 100000 in
theorem prefix_no (a : Option Addr) (c : Nat) (ls : List Int) (w : World) (hl : LiesI w a ls) (hlen : ls.length ≤ 320) (hno : ¬ (good ls ∧ codeOk ls)) :
    Calls Try.prog 7 #[.slice a ls.length c] w fun e w' => e = .returned (.bool true) ∧ Fr (fun _ => False) w w' := by
  have hnew : ∃ x : Int, (x = 1 ∨ x = 4) ∧ (∀ W, LiesI W a ls → Calls Try.prog 10 #[.slice a ls.length c] W fun e w' => e = .returned (.tuple #[.pointer none, .int .i64 x]) ∧ Fr (fun _ => False) W w') := by
    by_cases hg : good ls
    · have hok : ¬ codeOk ls := fun h => hno ⟨hg, h⟩
      exact ⟨4, Or.inr rfl, fun W h => new_form a c ls W h hg hok⟩
    · exact ⟨1, Or.inl rfl, fun W h => (new_arg a c ls W h (by omega) hg).mono fun e w' ⟨he, hw⟩ => ⟨he, hw ▸ Fr.refl _ _⟩⟩
  obtain ⟨x, hx, h1⟩ := hnew
  have hx0 : (x == 0) = false := beq_false_of_ne (by omega)
  have hx1 : (x != 0) = true := by simp [bne, hx0]
  have Hl := hide hl
  have H1 := hide h1
  clear hl hno h1 hx
  go_enter Try.func7, Try.ntmps7
  go_wp2_with fail
  refine (awake_c w).mono ?_
  rintro e w1 ⟨rfl, hF1⟩
  have HF1 := hide hF1
  clear hF1
  go_wp2_with fail
  refine (H1.out w1 (Hl.out.keep HF1.out (fun _ _ _ h => h))).mono ?_
  rintro e w2 ⟨rfl, hF2⟩
  have HF2 := hide (HF1.out.join hF2)
  clear hF2
  go_wp2
  go_ret
  exact ⟨rfl, HF2.out⟩

theorem pow_le14 {d : Nat} (h : d ≤ 14) : (2:Nat) ^ d ≤ 16384 := by
  have h2 : (2:Nat) ^ d ≤ 2 ^ 14 := Nat.pow_le_pow_right (by decide) h
  have h3 : (2:Nat) ^ 14 = 16384 := by decide
  omega

set_option maxHeartbeats 1600000 in
set_option maxRecDepth 100000 in
theorem prefix_yes (a : Option Addr) (c : Nat) (ls : List Int) (w : World) (hl : LiesI w a ls) (hg : good ls) (hok : codeOk ls) :
    Calls Try.prog 7 #[.slice a ls.length c] w fun e w' => e = .returned (.bool true) ∧ Fr (fun _ => False) w w' := by
  have h320 := hg.1
  have Hl := hide hl
  have Hg := hide hg
  have Hok := hide hok
  clear hl hg hok
  go_enter Try.func7, Try.ntmps7
  go_wp2_with fail
  refine (awake_c w).mono ?_
  rintro e w1 ⟨rfl, hF1⟩
  have HF1 := hide hF1
  clear hF1
  go_wp2_with fail
  refine (new_ok a c ls w1 (Hl.out.keep HF1.out (fun _ _ _ h => h)) Hg.out Hok.out).mono ?_
  rintro e w2 ⟨C, rfl, hC, hF2⟩
  have HC := hide hC
  have HF2 := hide (HF1.out.join hF2)
  clear hF2 hC
  go_wp2
  go_loopw [5, 6, 7, 8, 9, 10, 11, 12, 13, 14] (fun fv mv iv _ _ _ _ _ _ _ wr => ∃ i : Nat, i ≤ ls.length ∧ iv = .int .i64 (i : Int) ∧ fv = .int .i64 (nxk ls i 15 : Nat) ∧ mv = .int .i64 (totk ls i 15 : Nat) ∧ Fr (fun _ => False) w2 wr) (fun _ _ iv _ _ _ _ _ _ _ _ => ls.length - (intOf iv).toNat)
  case atStart => exact ⟨0, Nat.zero_le _, rfl, by rw [nxk_zero]; rfl, by rw [totk_zero]; rfl, Fr.refl _ _⟩
  case round =>
    obtain ⟨i, hi, rfl, rfl, rfl, hF⟩ := hrel
    by_cases hlt : i < ls.length
    · obtain ⟨hg0, hg15⟩ := Hg.out.2 i hlt
      obtain ⟨L, hL⟩ : ∃ L : Nat, at0 ls i = (L : Int) := ⟨(at0 ls i).toNat, by omega⟩
      have hfb := nxk_le ls i
      have hmb := totk_le' ls i
      have HFs := hide (nxk_succ ls 15 i)
      have HMs := hide (totk_succ ls 15 i)
      have HF := hide hF
      have HL := hide hL
      by_cases hz : 0 < L
      · have hL15 : L ≤ 15 := by omega
        obtain ⟨d, hd⟩ : ∃ d : Nat, d = 15 - L := ⟨_, rfl⟩
        have hd14 : d ≤ 14 := by omega
        obtain ⟨P, hP⟩ : ∃ P : Nat, P = 2 ^ d := ⟨_, rfl⟩
        have hPb : P ≤ 16384 := by rw [hP]; exact pow_le14 hd14
        have hpow : ((2:Int) ^ d) = (P : Int) := by rw [hP]; simp
        have hw1 : IntKind.u64.wrap (15 - (L : Int)) = (d : Int) := by rw [IntKind.wrap_u64]; omega
        have hwb := wd_bound Hg.out hlt (by omega)
        obtain ⟨A, hA⟩ : ∃ A, A = wd ls i := ⟨_, rfl⟩
        have CW := hide (fun W (h : Cd W w1.heap.size w2.heap.size C ls) => word_yes w1.heap.size w2.heap.size C i L ls W h hlt HL.out hz)
        rw [← hA] at CW hwb
        have HA := hide hA
        have HP := hide hP
        have Hd := hide hd
        have hLi : (0 : Int) < (L : Int) := by omega
        clear hF hL hA hP hd hg0 hg15
        go_wp2_with fail
        refine (CW.out wr (HC.out.keep HF.out (fun _ _ _ h => h))).mono ?_
        rintro e w3 ⟨rfl, hF3⟩
        have HF3 := hide (HF.out.join hF3)
        have hLs := Hl.out.keep (HF2.out.join HF3.out) (fun _ _ _ h => h)
        obtain ⟨ad, rfl, hc⟩ := hLs i hlt
        rw [HL.out] at hc
        clear hF3 hLs
        go_wp2
        go_loopw [11, 12, 13, 14] (fun kv _ _ _ wr => ∃ k : Nat, k ≤ i ∧ kv = .int .i64 (k : Int) ∧ Fr (fun _ => False) w2 wr) (fun kv _ _ _ _ => i - (intOf kv).toNat)
        case atStart => exact ⟨0, Nat.zero_le _, rfl, HF3.out⟩
        case round =>
          obtain ⟨k, hk, rfl, hFi⟩ := hrel
          have HFi := hide hFi
          clear hFi
          by_cases hki : k < i
          · have hkl : k < ls.length := by omega
            obtain ⟨gk0, gk15⟩ := Hg.out.2 k hkl
            obtain ⟨M, hM⟩ : ∃ M : Nat, at0 ls k = (M : Int) := ⟨(at0 ls k).toNat, by omega⟩
            have hM15 : M ≤ 15 := by omega
            by_cases hMz : 0 < M
            · have hbb := wd_bound Hg.out hkl (by omega)
              obtain ⟨X, hX⟩ : ∃ X, X = wd ls k := ⟨_, rfl⟩
              have CW2 := hide (fun W (h : Cd W w1.heap.size w2.heap.size C ls) => word_yes w1.heap.size w2.heap.size C k M ls W h hkl hM hMz)
              rw [← hX] at CW2 hbb
              have hcs : (M = L ∧ X < A) ∨ (M < L ∧ X < A / 2 ^ (L - M)) ∨ (L < M ∧ A < X / 2 ^ (M - L)) := by
                have hLe := HL.out
                have hA := HA.out
                rcases Nat.lt_trichotomy M L with h | h | h
                · refine Or.inr (Or.inl ⟨h, ?_⟩)
                  have := words_long (i := i) hkl (by omega) (by omega)
                  rw [hLe, hM, ← hX, ← hA] at this
                  exact this
                · refine Or.inl ⟨h, ?_⟩
                  have := words_same (ls := ls) hki (by omega) (by omega)
                  rw [← hX, ← hA] at this
                  exact this
                · refine Or.inr (Or.inr ⟨h, ?_⟩)
                  have := words_long (i := k) hlt (by omega) (by omega)
                  rw [hLe, hM, ← hX, ← hA] at this
                  exact this
              have hMi : (0 : Int) < (M : Int) := by omega
              clear hX hM gk0 gk15
              go_wp2_with fail
              refine (CW2.out wr (HC.out.keep HFi.out (fun _ _ _ h => h))).mono ?_
              rintro e w4 ⟨rfl, hF4⟩
              have HF4 := hide (HFi.out.join hF4)
              clear hF4
              rcases hcs with ⟨hML, hXA⟩ | ⟨hML, hXA⟩ | ⟨hML, hXA⟩
              · subst hML
                have hu : IntKind.u64.wrap ((M : Int) - (M : Int)) = 0 := by rw [IntKind.wrap_u64]; omega
                have hq1 : ((A : Int) == (X : Int)) = false := beq_false_of_ne (by omega)
                have hq2 : ((X : Int) == (A : Int)) = false := beq_false_of_ne (by omega)
                have hq3 : ¬ A ≤ X := by omega
                go_wp2
                go_roundw
                case rel => exact ⟨k + 1, by omega, by go_num, HF4.out⟩
                case measure => simp [intOf]; omega
              · obtain ⟨D, hD⟩ : ∃ D, D = L - M := ⟨_, rfl⟩
                obtain ⟨Y, hY⟩ : ∃ Y, Y = A / 2 ^ D := ⟨_, rfl⟩
                have hDb : D ≤ 15 := by omega
                have hu : IntKind.u64.wrap ((L : Int) - (M : Int)) = (D : Int) := by rw [IntKind.wrap_u64]; omega
                have hdiv : ((A : Int) / 2 ^ D) = (Y : Int) := by rw [hY]; simp
                have hXY : X < Y := by rw [hY, hD]; exact hXA
                have hq1 : ((Y : Int) == (X : Int)) = false := beq_false_of_ne (by omega)
                have hq2 : ((L : Int) == (M : Int)) = false := beq_false_of_ne (by omega)
                have hq3 : ¬ (L : Int) ≤ (M : Int) := by omega
                have hq4 : (M : Int) < (L : Int) := by omega
                clear hY hD hXA
                go_wp2
                go_roundw
                case rel => exact ⟨k + 1, by omega, by go_num, HF4.out⟩
                case measure => simp [intOf]; omega
              · obtain ⟨D, hD⟩ : ∃ D, D = M - L := ⟨_, rfl⟩
                obtain ⟨Y, hY⟩ : ∃ Y, Y = X / 2 ^ D := ⟨_, rfl⟩
                have hDb : D ≤ 15 := by omega
                have hu : IntKind.u64.wrap ((M : Int) - (L : Int)) = (D : Int) := by rw [IntKind.wrap_u64]; omega
                have hdiv : ((X : Int) / 2 ^ D) = (Y : Int) := by rw [hY]; simp
                have hXY : A < Y := by rw [hY, hD]; exact hXA
                have hq1 : ((Y : Int) == (A : Int)) = false := beq_false_of_ne (by omega)
                have hq2 : ((L : Int) == (M : Int)) = false := beq_false_of_ne (by omega)
                have hq3 : ¬ (M : Int) ≤ (L : Int) := by omega
                have hq4 : (L : Int) < (M : Int) := by omega
                clear hY hD hXA
                go_wp2
                go_roundw
                case rel => exact ⟨k + 1, by omega, by go_num, HF4.out⟩
                case measure => simp [intOf]; omega
            · have hM0 : at0 ls k = 0 := by omega
              have CW2 := hide (fun W (h : Cd W w1.heap.size w2.heap.size C ls) => word_not w1.heap.size w2.heap.size C k ls W h hkl hM0)
              clear hM hM0 gk0 gk15
              go_wp2_with fail
              refine (CW2.out wr (HC.out.keep HFi.out (fun _ _ _ h => h))).mono ?_
              rintro e w4 ⟨rfl, hF4⟩
              have HF4 := hide (HFi.out.join hF4)
              clear hF4
              go_wp2
              go_roundw
              case rel => exact ⟨k + 1, by omega, by go_num, HF4.out⟩
              case measure => simp [intOf]; omega
          · go_wp2
            go_roundw
            case rel =>
              have e1 := HFs.out
              have e2 := HMs.out
              have e3 := HL.out
              rw [if_pos (by omega)] at e1 e2
              have e4 : 15 - (at0 ls i).toNat = d := by rw [Hd.out]; omega
              rw [e4, ← HP.out] at e1
              exact ⟨i + 1, by omega, by go_num, by rw [e1]; go_num, by rw [e2]; go_num, HFi.out⟩
            case measure => simp [intOf]; omega
      · have hL0 : at0 ls i = 0 := by omega
        have CW := hide (fun W (h : Cd W w1.heap.size w2.heap.size C ls) => word_not w1.heap.size w2.heap.size C i ls W h hlt hL0)
        have HL0 := hide hL0
        clear hF hL hL0 hg0 hg15
        go_wp2_with fail
        refine (CW.out wr (HC.out.keep HF.out (fun _ _ _ h => h))).mono ?_
        rintro e w3 ⟨rfl, hF3⟩
        have HF3 := hide (HF.out.join hF3)
        have hLs := Hl.out.keep (HF2.out.join HF3.out) (fun _ _ _ h => h)
        obtain ⟨ad, rfl, hc⟩ := hLs i hlt
        rw [HL0.out] at hc
        clear hF3 hLs
        go_wp2
        go_roundw
        case rel =>
          have e1 := HFs.out
          have e2 := HMs.out
          have e3 := HL0.out
          rw [if_neg (by omega)] at e1 e2
          exact ⟨i + 1, by omega, by go_num, by rw [e1]; rfl, by rw [e2]; rfl, HF3.out⟩
        case measure => simp [intOf]; omega
    · have e : i = ls.length := by omega
      subst e
      have ht : totk ls ls.length 15 = tot ls 15 := rfl
      have hn : nxk ls ls.length 15 = nx ls 15 := rfl
      rw [ht, hn]
      have hcs : ((((nx ls 15 : Nat) : Int) == 32768) = true) ∨ (((((nx ls 15 : Nat) : Int) == 32768) = false) ∧ ((((tot ls 15 : Nat) : Int) == 0) = true)) ∨ (((((nx ls 15 : Nat) : Int) == 32768) = false ∧ (((tot ls 15 : Nat) : Int) == 0) = false) ∧ (((tot ls 15 : Nat) : Int) == 1) = true ∧ (((nx ls 15 : Nat) : Int) == 16384) = true) := by
        have h0 := fr_nx ls 15
        rcases Hok.out with h | h | ⟨h, h1⟩
        · refine Or.inl ?_
          rw [h] at h0
          simp only [Int.zero_add] at h0
          rw [h0]
          decide
        · refine Or.inr (Or.inl ⟨?_, by simp [h]⟩)
          rw [nx_zero_of_tot ls h 15 (by omega)]
          decide
        · refine Or.inr (Or.inr ?_)
          rw [nx_one ls h h1 14 (by omega), h]
          decide
      have HF := hide hF
      generalize nx ls 15 = nn at hcs ⊢
      generalize tot ls 15 = tt at hcs ⊢
      clear hF ht hn
      rcases hcs with h1 | ⟨h1, h2⟩ | ⟨⟨h1, h2⟩, h3, h4⟩
      all_goals
        go_wp2
        go_ret
        exact ⟨rfl, HF2.out.join HF.out⟩
end Go.Proofs.Ytlkidddbndkfiaa
