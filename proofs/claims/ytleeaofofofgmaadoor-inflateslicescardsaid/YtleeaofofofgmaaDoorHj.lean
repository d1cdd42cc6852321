/-
  The document's own Take.
-/
import Derived.Test.YtleeaofofofgmaaDoorHf
import Derived.Test.YtleeaofofofgmaaDoorBh
import Derived.Test.YtleeaofofofgmaaDoorHi
namespace Go.Proofs.YtleeaofofofgmaaDoor
open Go.RowKit

theorem nx_same (ls : List Int) (m : Nat) : ∀ d, tot ls (m + d) = tot ls m → nx ls (m + d) = nx ls m * 2 ^ d := by
  intro d
  induction d with
  | zero => intro _; simp
  | succ d ih =>
    intro h
    have h1 := tot_mono ls (show m ≤ m + d by omega)
    have h2 : tot ls (m + (d + 1)) = tot ls (m + d) + cnt ls (m + d + 1) := tot_succ ls (m + d)
    have h3 : nx ls (m + (d + 1)) = 2 * nx ls (m + d) + cnt ls (m + d + 1) := nx_succ ls (m + d)
    rw [h3, ih (by omega), show cnt ls (m + d + 1) = 0 by omega, Nat.pow_succ]
    simp only [Nat.add_zero]
    rw [Nat.mul_comm (2 ^ d) 2]
    exact Nat.mul_left_comm _ _ _

theorem nx0_le (ls : List Int) (V p : Nat) : ∀ k, k ≤ 0 → nx ls k ≤ rd V p k := by
  intro k hk
  have : k = 0 := by omega
  subst this
  rw [nx_zero]
  exact Nat.zero_le _

/-- While no word has come, longer ones are left, unless there is one alone. -/
theorem more_left {ls : List Int} (hok : codeOk ls) (h0 : ¬ tot ls 15 = 0) {V p m : Nat} (hm : m ≤ 15) (hge : nx ls m ≤ rd V p m) (hone : tot ls 15 = 1 → m = 0) : tot ls m < tot ls 15 := by
  have hle := tot_mono ls hm
  rcases Nat.lt_or_ge (tot ls m) (tot ls 15) with h | h
  · exact h
  exfalso
  rcases hok with hf | hf | ⟨hf, _⟩
  · have e := nx_same ls m (15 - m) (by rw [show m + (15 - m) = 15 by omega]; omega)
    rw [show m + (15 - m) = 15 by omega] at e
    have h2 := fr_nx ls 15
    rw [hf] at h2
    have h3 : nx ls 15 = 2 ^ 15 := by
      have : ((nx ls 15 : Nat) : Int) = ((2 ^ 15 : Nat) : Int) := by simpa using h2
      omega
    have h4 := rd_lt V p m
    have h5 : (2:Nat) ^ 15 = 2 ^ m * 2 ^ (15 - m) := by rw [← Nat.pow_add, show m + (15 - m) = 15 by omega]
    have h6 : nx ls m < 2 ^ m := by omega
    have h7 := Nat.mul_lt_mul_of_pos_right h6 (show 0 < 2 ^ (15 - m) from Nat.pow_pos (by decide))
    omega
  · exact h0 hf
  · have := hone hf
    subst this
    rw [tot_zero] at h
    omega

theorem nx_half (ls : List Int) (n : Nat) : 2 * nx ls n ≤ tot ls n * 2 ^ n := by
  induction n with
  | zero => simp [nx_zero, tot_zero]
  | succ n ih =>
    rw [nx_succ, tot_succ, Nat.pow_succ, Nat.add_mul]
    have h1 := pow_pos2 n
    have h2 : cnt ls (n + 1) * 1 ≤ cnt ls (n + 1) * 2 ^ n := Nat.mul_le_mul_left _ h1
    rw [← Nat.mul_assoc, ← Nat.mul_assoc]
    omega

theorem one_word {ls : List Int} (h : codeOk ls) (h1 : tot ls 15 = 1) : cnt ls 1 = 1 := by
  rcases h with h | h | h
  · exfalso
    have h2 := nx_half ls 15
    have h3 := fr_nx ls 15
    rw [h, Int.zero_add] at h3
    have h4 : nx ls 15 = 2 ^ 15 := by exact_mod_cast h3
    rw [h1, h4] at h2
    exact absurd h2 (by decide)
  · omega
  · exact h.2

set_option maxHeartbeats 1600000 in
set_option maxRecDepth 100000 in
theorem rtake_Q (lo hi M R : Nat) (ls : List Int) (sv : Value) (bs : List Nat) (p : Nat) (w : World) (hC : Rc w lo hi M ls) (hB : Rf w R sv bs p false) (hap : hi ≤ R ∨ R < lo) (Q : Ending → World → Prop)
    (hhit : ∀ n y w', Hit ls (leNum bs) (8 * bs.length) p n → (rkd ls 15)[hitAt ls (leNum bs) p n]? = some y → Rf w' R sv bs (p + n) false → Fr (fun k => k = R) w w' → Q (.returned (.tuple #[.int .i64 (y : Int), .int .i64 0])) w')
    (hno : ∀ (er m : Nat) w', TkNo ls (leNum bs) (8 * bs.length) p er m → Fr (fun k => k = R) w w' → Q (.returned (.tuple #[.int .i64 0, .int .i64 er])) w') :
    Calls Tryd.prog 34 #[.pointer (some ⟨M, 0, none⟩), .pointer (some ⟨R, 0, none⟩)] w Q := by
  have h320 := hC.egood.1
  have hok := hC.eok
  obtain ⟨V, hV⟩ : ∃ V, V = leNum bs := ⟨_, rfl⟩
  have Hbit : Hid (∀ W pp, Rf W R sv bs pp false → pp + 1 ≤ 8 * bs.length → Calls Tryd.prog 23 #[.pointer (some ⟨R, 0, none⟩), .int .i64 1] W fun e w' => e = .returned (.tuple #[.int .i64 (lowBits V pp 1 : Nat), .bool true]) ∧ Rf w' R sv bs (pp + 1) false ∧ Fr (fun k => k = R) W w') := by
    intro W pp hR hle
    rw [hV]
    exact ref_take_low W R sv bs pp 1 hR (by omega) hle
  rw [← hV] at hhit hno
  obtain ⟨sv0, lv0, k1, k2, k3, k4, k5⟩ := hC.eobj
  obtain ⟨sa, sc, rfl⟩ := ownsRow_shape k2
  have hs16 := k1.cell16
  have HC := hide hC
  have HB := hide hB
  have Hap := hide hap
  have Hhit := hide hhit
  have Hno := hide hno
  have Hok := hide hok
  have htb15 := tot_le ls 15
  have Hcs : Hid (∀ w1, Fr (fun k => k = R) w w1 → Rs w1 M (.slice sa (tot ls 15) sc) lv0 (cnt ls) ∧ w1.ownsRow lo 3 1 (.slice sa (tot ls 15) sc) (tot ls 15) (cellsI (rkd ls 15))) := by
    intro w1 hf
    have hx := hC.esz
    refine ⟨k1.keep hf (fun e => by have := hC.elo; have := hC.ehi; omega), ownsRow_fr k2 fun k hk => hf.block k (by have := k3 k hk; omega) (fun e => ?_)⟩
    have := k3 k hk
    have := (k2.lt k hk).1
    omega
  clear hC hB hap hhit hno hV hok k1 k2 k3 k4 k5
  by_cases h0 : tot ls 15 = 0
  · have hq : (((tot ls 15 : Nat) : Int) == 0) = true := by simp [h0]
    have Hn := hide (fun w' => Hno.out 4 0 w' ⟨nx0_le ls V p, by omega, HB.out.epos, Or.inl ⟨rfl, by rw [h0]; exact Nat.zero_le _⟩⟩)
    clear h0
    go_enter Tryd.func34, Tryd.ntmps34
    go_wp2
    exact Hn.out _ (Fr.refl _ _)
  · have hq : (((tot ls 15 : Nat) : Int) == 0) = false := beq_false_of_ne (by omega)
    go_enter Tryd.func34, Tryd.ntmps34
    go_wp2
    go_loopw [6, 7, 8, 9, 10, 11] (fun rv fv av zv _ _ wr => ∃ m s : Nat, m ≤ 15 ∧ Hid (s = m + 1) ∧ zv = .int .i64 (s : Int) ∧ rv = .int .i64 (rd V p m : Nat) ∧ fv = .int .i64 (nx ls m : Nat) ∧ av = .int .i64 (tot ls m : Nat) ∧ Hid (∀ k, k ≤ m → nx ls k ≤ rd V p k) ∧ Hid (tot ls 15 = 1 → m = 0) ∧ Rf wr R sv bs (p + m) false ∧ Fr (fun k => k = R) w wr) (fun _ _ _ zv _ _ _ => 17 - (intOf zv).toNat)
    case atStart => exact ⟨0, 1, Nat.zero_le _, rfl, rfl, rfl, rfl, rfl, fun k hk => by have : k = 0 := by omega
                                                                                        subst this; rw [nx_zero]; exact Nat.zero_le _, fun _ => rfl, HB.out, Fr.refl _ _⟩
    case round =>
      obtain ⟨m, s, hm, Hs, rfl, rfl, rfl, rfl, Hge, Hone, hR, hF⟩ := hrel
      have hnb := nx_bound ls h320 (n := m) (by omega)
      have htb := tot_le ls m
      have hrb : rd V p m ≤ 32768 := by
        have h1 := rd_lt V p m
        have h2 : (2:Nat) ^ m ≤ 2 ^ 15 := Nat.pow_le_pow_right (by decide) hm
        have h3 : (2:Nat) ^ 15 = 32768 := by decide
        omega
      have HR := hide hR
      have HF := hide hF
      by_cases hm15 : m < 15
      · have hs15 : (s : Int) ≤ 15 := by have := Hs.out; omega
        have hs16' : (s : Int) < 16 := by omega
        by_cases hfit : p + m + 1 ≤ 8 * bs.length
        · obtain ⟨b, hb⟩ : ∃ b, b = lowBits V (p + m) 1 := ⟨_, rfl⟩
          have hb2 : b < 2 := by rw [hb]; exact bit_lt _ _
          obtain ⟨X, hRd⟩ : ∃ X, X = rd V p m := ⟨_, rfl⟩
          obtain ⟨F, hFn⟩ : ∃ F, F = nx ls m := ⟨_, rfl⟩
          obtain ⟨T, hTt⟩ : ∃ T, T = tot ls m := ⟨_, rfl⟩
          obtain ⟨R2, hR2⟩ : ∃ R2, R2 = 2 * X + b := ⟨_, rfl⟩
          have e2 : rd V p (m + 1) = R2 := by rw [hR2, hRd, hb]; rfl
          have hor := or_bit X b (by omega) hb2
          rw [← hR2] at hor
          have hcb := cnt_le ls s
          have hnx : nx ls (m + 1) = 2 * F + cnt ls s := by rw [nx_succ, ← hFn, Hs.out]
          have htt : tot ls (m + 1) = T + cnt ls s := by rw [tot_succ, ← hTt, Hs.out]
          have hFR : F ≤ X := by rw [hFn, hRd]; exact Hge.out m (Nat.le_refl _)
          have hR2b : R2 ≤ 100000 := by omega
          have hRb : X ≤ 32768 := by omega
          have hTb : T ≤ 1000 := by omega
          have hFb : F ≤ 10485760 := by omega
          have hF2R : 2 * F ≤ R2 := by omega
          have Hbit2 := hide (Hbit.out wr (p + m) hR hfit)
          rw [← hb] at Hbit2
          obtain ⟨c, hc⟩ : ∃ c, c = cnt ls s := ⟨_, rfl⟩
          rw [← hc] at hnx htt hcb
          rw [← hRd, ← hFn, ← hTt]
          have E2 := hide e2
          have HRd := hide hRd
          have HFn := hide hFn
          have HTt := hide hTt
          have Hnx := hide hnx
          have Htt := hide htt
          have Hc := hide hc
          clear hR hF hb hRd hFn hTt hR2 e2 hnx htt hc hnb hrb htb
          go_wp2_with fail
          refine Hbit2.out.mono ?_
          rintro e w1 ⟨rfl, hR1, hF1⟩
          have HR1 := hide hR1
          have HF1 := hide (HF.out.join hF1)
          obtain ⟨d1, d2⟩ := Hcs.out w1 HF1.out
          have hcn := d1.cell (i := s) (by have := Hs.out; omega) (by omega)
          rw [← Hc.out] at hcn
          have hd16 := d1.cell16
          by_cases hlt : R2 < 2 * F + c
          · have hit : Hit ls V (8 * bs.length) p (m + 1) := ⟨by omega, by omega, by omega, by rw [E2.out, Hnx.out]; exact hlt, fun k hk => Hge.out k (by omega)⟩
            obtain ⟨i1, i2, i3⟩ := hit.idx
            obtain ⟨y, hy⟩ : ∃ y, (rkd ls 15)[hitAt ls V p (m + 1)]? = some y := ⟨_, List.getElem?_eq_getElem (by rw [rkd_length]; exact i3)⟩
            obtain ⟨ad, rfl, had⟩ := own_cellI d2 hy
            obtain ⟨I, hI⟩ : ∃ I, I = hitAt ls V p (m + 1) := ⟨_, rfl⟩
            have hI2 : (I : Int) = (T : Int) + R2 - 2 * F := by
              have e1 := HFn.out
              have e2 := HTt.out
              have e3 := E2.out
              have e4 : hitAt ls V p (m + 1) = T + (R2 - 2 * F) := by
                unfold hitAt
                rw [e3, show m + 1 - 1 = m by omega, ← e1, ← e2]
              omega
            have hi3 : I < tot ls 15 := by rw [hI]; exact i3
            rw [← hI] at had
            have Hyes := hide (Hhit.out (m + 1) y w1 hit hy HR1.out HF1.out)
            have hwi : IntKind.i64.wrap ((T : Int) + (R2 : Int) - (F : Int) * 2) = (I : Int) := by rw [wrap_i64_id _ (by omega) (by omega)]; omega
            have hii : (T : Int) + (R2 : Int) - (F : Int) * 2 = (I : Int) := by omega
            have hi0 : (I : Int) < (tot ls 15 : Nat) := by omega
            have hltI : (R2 : Int) - (F : Int) * 2 < (c : Int) := by omega
            clear d1 d2 hR1 hF1 hy hI hit i1 i2 i3 hI2
            go_wp2
            exact Hyes.out
          · have hltI : ¬ (R2 : Int) - (F : Int) * 2 < (c : Int) := by omega
            have Hge2 : Hid (∀ k, k ≤ m + 1 → nx ls k ≤ rd V p k) := by
              intro k hk
              rcases Nat.lt_or_ge k (m + 1) with h | h
              · exact Hge.out k (by omega)
              · have : k = m + 1 := by omega
                subst this
                rw [E2.out, Hnx.out]; omega
            by_cases hone : tot ls 15 = 1
            · have hq1 : (((tot ls 15 : Nat) : Int) == 1) = true := by simp [hone]
              have Hn := hide (fun w' => Hno.out 4 (m + 1) w' ⟨Hge2.out, by omega, HR1.out.epos, Or.inl ⟨rfl, by
                have h1 := tot_mono ls (show 1 ≤ m + 1 by omega)
                have h2 := one_word Hok.out hone
                have h3 : tot ls 1 = cnt ls 1 := by rw [show (1 : Nat) = 0 + 1 from rfl, tot_succ, tot_zero]; simp
                omega⟩⟩)
              clear d1 d2 hR1 hF1 hone
              go_wp2
              exact Hn.out _ HF1.out
            · have hq1 : (((tot ls 15 : Nat) : Int) == 1) = false := beq_false_of_ne (by omega)
              have Hone2 : Hid (tot ls 15 = 1 → m + 1 = 0) := fun h => absurd h hone
              clear d1 d2 hR1 hF1 hone
              go_wp2
              go_quiet (fail)
              go_wp2
              go_roundw
              case rel => exact ⟨m + 1, s + 1, by omega, by have := Hs.out; show s + 1 = m + 1 + 1; omega, by go_num, by rw [E2.out], by rw [Hnx.out]; go_num, by rw [Htt.out]; go_num, Hge2, Hone2, HR1.out.drewN _, HF1.out.join ((Fr.of_drewN w1 _).mono fun _ _ h => h.elim)⟩
              case measure => simp [intOf]; omega
        · have Hn := hide (fun w' => Hno.out 2 m w' ⟨Hge.out, hm, HR.out.epos, Or.inr ⟨rfl, more_left Hok.out h0 hm (Hge.out m (Nat.le_refl _)) (Hone.out), by omega⟩⟩)
          clear hR hF
          go_wp2_with fail
          refine (ref_take_no wr R sv bs (p + m) 1 false HR.out (Or.inr (by omega))).mono ?_
          rintro e w1 ⟨rfl, hR1, hF1⟩
          go_wp2
          exact Hn.out _ (HF.out.join hF1)
      · have e : m = 15 := by omega
        subst e
        have hs15 : ¬ (s : Int) ≤ 15 := by have := Hs.out; omega
        have Hn := hide (fun w' => Hno.out 4 15 w' ⟨Hge.out, hm, HR.out.epos, Or.inl ⟨rfl, Nat.le_refl _⟩⟩)
        clear hR hF
        go_wp2
        exact Hn.out _ HF.out
end Go.Proofs.YtleeaofofofgmaaDoor
