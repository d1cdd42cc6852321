/-
  The contract of Take: a word that comes next, or why there is none.
-/
import Derived.Test.YtleeaofofofgmaaDoorHd
import Derived.Test.YtleeaofofofgmaaDoorIm
namespace Go.Proofs.YtleeaofofofgmaaDoor
open Go.RowKit

/-- Why no word comes: m bits are read, and there is none, or bits end. -/
structure TkNo (ls : List Int) (V L p er m : Nat) : Prop where
  ge : ∀ k, k ≤ m → nx ls k ≤ rd V p k
  le : m ≤ 15
  fits : p + m ≤ L
  why : (er = 4 ∧ tot ls 15 ≤ tot ls m) ∨ (er = 2 ∧ tot ls m < tot ls 15 ∧ L < p + m + 1)

theorem TkNo.tk {ls : List Int} {V L p er m : Nat} (h : TkNo ls V L p er m) : tk ls V L p = .error er := by
  have key : ∀ d, d ≤ m → tkFrom ls V L p (15 - (m - d)) (m - d) = .error er := by
    intro d
    induction d with
    | zero =>
      intro _
      rcases Nat.lt_or_ge m 15 with h15 | h15
      · rw [show 15 - (m - 0) = (14 - m) + 1 by omega, show m - 0 = m by omega]
        simp only [tkFrom]
        rcases h.why with ⟨rfl, h1⟩ | ⟨rfl, h1, h2⟩
        · rw [if_pos h1]
        · rw [if_neg (by omega), if_pos h2]
      · have e : m = 15 := by have := h.le; omega
        subst e
        rcases h.why with ⟨rfl, h1⟩ | ⟨rfl, h1, h2⟩
        · rfl
        · omega
    | succ d ih =>
      intro hd
      have i := ih (by omega)
      have hle := h.le
      have hf := h.fits
      rw [show 15 - (m - (d + 1)) = (15 - (m - d)) + 1 by omega]
      simp only [tkFrom]
      rw [show m - (d + 1) + 1 = m - d by omega]
      have h1 := h.ge (m - d) (by omega)
      have h2 := tot_mono ls (show m - (d + 1) ≤ m by omega)
      by_cases hq : tot ls 15 ≤ tot ls (m - (d + 1))
      · rw [if_pos hq]
        rcases h.why with ⟨rfl, _⟩ | ⟨rfl, h3, _⟩
        · rfl
        · omega
      · rw [if_neg hq, if_neg (by omega), if_neg (by omega)]
        exact i
  have := key m (Nat.le_refl _)
  rw [Nat.sub_self] at this
  exact this

theorem Hit.tk {ls : List Int} {V L p n y : Nat} (h : Hit ls V L p n) (hy : (rkd ls 15)[hitAt ls V p n]? = some y) : tk ls V L p = .ok (y, p + n) := by
  have h1 := h.idx.2.2
  have hn : 1 ≤ n := h.one
  have h15 : n ≤ 15 := h.most
  have hf := h.fits
  have ht : tot ls (n - 1) < tot ls 15 := by
    unfold hitAt at h1
    omega
  have key : ∀ d, d ≤ n - 1 → tkFrom ls V L p (15 - (n - 1 - d)) (n - 1 - d) = .ok (y, p + n) := by
    intro d
    induction d with
    | zero =>
      intro _
      rw [show 15 - (n - 1 - 0) = (15 - n) + 1 by omega]
      simp only [tkFrom]
      rw [show n - 1 - 0 = n - 1 by omega, show n - 1 + 1 = n by omega, if_neg (by omega), if_neg (by omega), if_pos h.lt]
      rw [List.getD_eq_getElem?_getD, hy]
      rfl
    | succ d ih =>
      intro hd
      have i := ih (by omega)
      rw [show 15 - (n - 1 - (d + 1)) = (15 - (n - 1 - d)) + 1 by omega]
      simp only [tkFrom]
      rw [show n - 1 - (d + 1) + 1 = n - 1 - d by omega]
      have h2 := h.ge (n - 1 - d) (by omega)
      have h3 := tot_mono ls (show n - 1 - (d + 1) ≤ n - 1 by omega)
      rw [if_neg (by omega), if_neg (by omega), if_neg (by omega)]
      exact i
  have := key (n - 1) (Nat.le_refl _)
  rw [Nat.sub_self] at this
  exact this

set_option maxHeartbeats 400000 in
theorem low_short (w : World) (lo hi B : Nat) (bs : List Nat) (pos n : Nat) (ov : Value) (wr : Int) (h : Rd 83 w lo hi B bs pos ov wr) (hn : n ≤ 24) (hbad : ¬ pos + n ≤ 8 * bs.length) :
    Calls Tryd.prog 46 #[.pointer (some ⟨B, 0, none⟩), .int .i64 n] w fun e w' => e = errPanic 2 ∧ ∃ k, w.drewN k = w' := by
  obtain ⟨a, c, h0, h1, _, _⟩ := h.facts
  have hlen := h.elen
  have hpos := h.epos
  have hn0 : (0 : Int) ≤ n := by omega
  have hn1 : (n : Int) ≤ 24 := by omega
  have hb2 : 8 * (bs.length : Int) - pos < n := by omega
  generalize bs.length = m at *
  clear h hbad
  go_enter Tryd.func46, Tryd.ntmps46
  go_wp2_with (first | (go_at_call 54; refine (width_ok _ hn0 hn1 _).mono ?_; rintro e w' ⟨rfl, rfl⟩) | (go_at_call 50; refine (low_left_c B m c a pos _ h0 h1 (by omega) (by omega) (by omega)).mono ?_; rintro e w' ⟨rfl, k, rfl⟩) | (go_at_call 55; refine (left_bad _ _ hb2 _).mono ?_; rintro e w' ⟨rfl, rfl⟩))
  exact ⟨rfl, rfl, k, rfl⟩

theorem own_cellI {w : World} {lo n : Nat} {a : Option Addr} {c : Nat} {xs : List Nat} (h : w.ownsRow lo 3 1 (.slice a n c) n (cellsI xs)) {j x : Nat} (hx : xs[j]? = some x) : ∃ ad, a = some ad ∧ w.cell? (ad.add j) = some (.int .i64 (x : Int)) := by
  rcases h.2 with ⟨hv, e0⟩ | ⟨g, cap, cur, hv, hg, hh, hr⟩
  · have hl := h.1
    have hj := (List.getElem?_eq_some_iff.1 hx).1
    simp [cellsI] at hl
    omega
  · cases hv
    refine ⟨⟨g, 0, none⟩, rfl, ?_⟩
    refine h.cells (g := g) rfl j _ ?_
    simp [cellsI, hx]

theorem or_bit (R b : Nat) (hR : R ≤ 1000000) (hb : b < 2) : bits .or .i64 ((R : Int) * 2) (b : Int) = ((2 * R + b : Nat) : Int) := by
  have h := or_i64' 1 b (2 * R) (by omega) (by omega) (by omega)
  have e : ((R : Int) * 2) = ((2 * R : Nat) : Int) := by simp; omega
  rw [e, h]; simp

set_option maxHeartbeats 1600000 in
set_option maxRecDepth 100000 in
theorem take_Q (lo hi C lo' hi' B : Nat) (ls : List Int) (bs : List Nat) (p : Nat) (ov : Value) (wn : Int) (w : World) (hC : Cd w lo hi C ls) (hB : Rd 83 w lo' hi' B bs p ov wn) (hap : hi ≤ B ∨ B < lo) (Q : Ending → World → Prop)
    (hhit : ∀ n y w', Hit ls (leNum bs) (8 * bs.length) p n → (rkd ls 15)[hitAt ls (leNum bs) p n]? = some y → Rd 83 w' lo' hi' B bs (p + n) ov wn → Fr (fun k => k = B) w w' → Q (.returned (.int .i64 (y : Int))) w')
    (hno : ∀ (er m : Nat) w', TkNo ls (leNum bs) (8 * bs.length) p er m → Fr (fun k => k = B) w w' → Q (errPanic er) w') :
    Calls Tryd.prog 47 #[.pointer (some ⟨C, 0, none⟩), .pointer (some ⟨B, 0, none⟩)] w Q := by
  have h320 := hC.egood.1
  obtain ⟨V, hV⟩ : ∃ V, V = leNum bs := ⟨_, rfl⟩
  have Hbit : Hid (∀ W pp, Rd 83 W lo' hi' B bs pp ov wn → pp + 1 ≤ 8 * bs.length → Calls Tryd.prog 46 #[.pointer (some ⟨B, 0, none⟩), .int .i64 1] W fun e w' => e = .returned (.int .i64 (lowBits V pp 1 : Nat)) ∧ Rd 83 w' lo' hi' B bs (pp + 1) ov wn ∧ Fr (fun k => k = B) W w') := by
    intro W pp hR hle
    rw [hV]
    exact low_take W lo' hi' B bs pp 1 ov wn hR (by omega) hle
  rw [← hV] at hhit hno
  have HC := hide hC
  have HB := hide hB
  have Hap := hide hap
  have Hhit := hide hhit
  have Hno := hide hno
  clear hC hB hap hhit hno hV
  go_enter Tryd.func47, Tryd.ntmps47
  go_wp2
  go_loopw [5, 6, 7, 8] (fun rv fv sv zv wr => ∃ m s : Nat, m ≤ 15 ∧ Hid (s = m + 1) ∧ zv = .int .i64 (s : Int) ∧ rv = .int .i64 (rd V p m : Nat) ∧ fv = .int .i64 (nx ls m : Nat) ∧ sv = .int .i64 (tot ls m : Nat) ∧ Hid (∀ k, k ≤ m → nx ls k ≤ rd V p k) ∧ Rd 83 wr lo' hi' B bs (p + m) ov wn ∧ Fr (fun k => k = B) w wr) (fun _ _ _ zv _ => 17 - (intOf zv).toNat)
  case atStart => exact ⟨0, 1, Nat.zero_le _, rfl, rfl, rfl, rfl, rfl, fun k hk => by have : k = 0 := by omega
                                                                                      subst this; rw [nx_zero]; exact Nat.zero_le _, HB.out, Fr.refl _ _⟩
  case round =>
    obtain ⟨m, s, hm, Hs, rfl, rfl, rfl, rfl, Hge, hR, hF⟩ := hrel
    have hC2 := HC.out.keep hF (fun k h1 h2 e => by have := Hap.out; omega)
    obtain ⟨D, rv, c1, c2, c3, c4, c5, c6⟩ := hC2.eobj
    obtain ⟨ra, rc, rfl⟩ := ownsRow_shape c2
    have hc17 := c1.cell17
    have hnb := nx_bound ls h320 (n := m) (by omega)
    have htb := tot_le ls m
    have htb15 := tot_le ls 15
    have hrb : rd V p m ≤ 32768 := by
      have h1 := rd_lt V p m
      have h2 : (2:Nat) ^ m ≤ 2 ^ 15 := Nat.pow_le_pow_right (by decide) hm
      have h3 : (2:Nat) ^ 15 = 32768 := by decide
      omega
    have HR := hide hR
    have HF := hide hF
    by_cases hmore : tot ls m < tot ls 15
    · have hm15 : m < 15 := by
        rcases Nat.lt_or_ge m 15 with h | h
        · exact h
        · have : m = 15 := by omega
          subst this; omega
      by_cases hfit : p + m + 1 ≤ 8 * bs.length
      · obtain ⟨b, hb⟩ : ∃ b, b = lowBits V (p + m) 1 := ⟨_, rfl⟩
        have hb2 : b < 2 := by rw [hb]; exact bit_lt _ _
        obtain ⟨R, hRd⟩ : ∃ R, R = rd V p m := ⟨_, rfl⟩
        obtain ⟨F, hFn⟩ : ∃ F, F = nx ls m := ⟨_, rfl⟩
        obtain ⟨T, hTt⟩ : ∃ T, T = tot ls m := ⟨_, rfl⟩
        obtain ⟨R2, hR2⟩ : ∃ R2, R2 = 2 * R + b := ⟨_, rfl⟩
        have e2 : rd V p (m + 1) = R2 := by rw [hR2, hRd, hb]; rfl
        have hor := or_bit R b (by omega) hb2
        rw [← hR2] at hor
        have hcb := cnt_le ls s
        have hnx : nx ls (m + 1) = 2 * F + cnt ls s := by rw [nx_succ, ← hFn, Hs.out]
        have htt : tot ls (m + 1) = T + cnt ls s := by rw [tot_succ, ← hTt, Hs.out]
        have hFR : F ≤ R := by rw [hFn, hRd]; exact Hge.out m (Nat.le_refl _)
        have hR2b : R2 ≤ 100000 := by omega
        have hRb : R ≤ 32768 := by omega
        have hTb : T ≤ 1000 := by omega
        have hFb : F ≤ 10485760 := by omega
        have Hbit2 := hide (Hbit.out wr (p + m) hR hfit)
        rw [← hb] at Hbit2
        have hs15 : (s : Int) < 16 := by have := Hs.out; omega
        obtain ⟨c, hc⟩ : ∃ c, c = cnt ls s := ⟨_, rfl⟩
        have Hcs : Hid (∀ w1, Fr (fun k => k = B) wr w1 → ∃ D, Sz w1 C (.slice (some ⟨D, 0, none⟩) ls.length ls.length) (.slice ra (tot ls 15) rc) (cnt ls) ∧ w1.ownsRow lo 3 1 (.slice ra (tot ls 15) rc) (tot ls 15) (cellsI (rkd ls 15))) := by
          intro w1 hf
          have hx := hC2.esz
          refine ⟨D, c1.keep hf (fun e => by have := Hap.out; have := hC2.elo; have := hC2.ehi; omega), ownsRow_fr c2 fun k hk => hf.block k (by have := c3 k hk; omega) (fun e => ?_)⟩
          have := c3 k hk
          have := (c2.lt k hk).1
          have := Hap.out
          omega
        rw [← hc] at hnx htt hcb
        rw [← hRd, ← hFn, ← hTt]
        rw [← hTt] at hmore
        have E2 := hide e2
        have HRd := hide hRd
        have HFn := hide hFn
        have HTt := hide hTt
        have Hnx := hide hnx
        have Htt := hide htt
        have Hc := hide hc
        have hmi : (T : Int) < (tot ls 15 : Nat) := by omega
        clear hR hF hC2 c1 c2 c3 c6 hb hRd hFn hTt hR2 e2 hnx htt hc hnb hrb htb
        go_wp2_with fail
        refine Hbit2.out.mono ?_
        rintro e w1 ⟨rfl, hR1, hF1⟩
        obtain ⟨D1, d1, d2⟩ := Hcs.out w1 hF1
        have hcn := d1.cell (i := s) (by have := Hs.out; omega) (by omega)
        rw [← Hc.out] at hcn
        have hd17 := d1.cell17
        have HR1 := hide hR1
        have HF1 := hide (HF.out.join hF1)
        by_cases hlt : R2 < 2 * F + c
        · have hit : Hit ls V (8 * bs.length) p (m + 1) := ⟨by omega, by omega, by omega, by rw [E2.out, Hnx.out]; exact hlt, fun k hk => Hge.out k (by omega)⟩
          obtain ⟨i1, i2, i3⟩ := hit.idx
          obtain ⟨y, hy⟩ : ∃ y, (rkd ls 15)[hitAt ls V p (m + 1)]? = some y := ⟨_, List.getElem?_eq_getElem (by rw [rkd_length]; exact i3)⟩
          obtain ⟨ad, rfl, had⟩ := own_cellI d2 hy
          obtain ⟨I, hI⟩ : ∃ I, I = hitAt ls V p (m + 1) := ⟨_, rfl⟩
          have i1' : 2 * F ≤ R2 := by
            have h := i1
            rw [E2.out, show m + 1 - 1 = m by omega, ← HFn.out] at h
            exact h
          have hI2 : (I : Int) = (T : Int) + R2 - 2 * F := by
            have e1 := HFn.out
            have e2 := HTt.out
            have e3 := E2.out
            have e4 : hitAt ls V p (m + 1) = T + (R2 - 2 * F) := by
              unfold hitAt
              rw [e3, show m + 1 - 1 = m by omega, ← e1, ← e2]
            omega
          have hi3 : I < tot ls 15 := by rw [hI]; exact i3
          rw [← hI] at had
          have Hyes := hide (Hhit.out (m + 1) y w1 hit hy HR1.out HF1.out)
          have hwi : IntKind.i64.wrap ((T : Int) + (R2 : Int) - (F : Int) * 2) = (I : Int) := by rw [wrap_i64_id _ (by omega) (by omega)]; omega
          have hii : (T : Int) + (R2 : Int) - (F : Int) * 2 = (I : Int) := by omega
          have hi0 : (I : Int) < (tot ls 15 : Nat) := by omega
          have hltI : (R2 : Int) < (F : Int) * 2 + (c : Int) := by omega
          clear d1 d2 hR1 hF1 hy hI hit i1 i2 i3 hI2 i1'
          go_wp2
          exact Hyes.out
        · have hltI : ¬ (R2 : Int) < (F : Int) * 2 + (c : Int) := by omega
          have Hge2 : Hid (∀ k, k ≤ m + 1 → nx ls k ≤ rd V p k) := by
            intro k hk
            rcases Nat.lt_or_ge k (m + 1) with h | h
            · exact Hge.out k (by omega)
            · have : k = m + 1 := by omega
              subst this
              rw [E2.out, Hnx.out]; omega
          clear d1 d2 hR1 hF1
          go_wp2
          go_roundw
          case rel => exact ⟨m + 1, s + 1, by omega, by have := Hs.out; show s + 1 = m + 1 + 1; omega, by go_num, by rw [E2.out], by rw [Hnx.out]; go_num, by rw [Htt.out]; go_num, Hge2, HR1.out, HF1.out⟩
          case measure => simp [intOf]; omega
      · have Hn := hide (fun w' => Hno.out 2 m w' ⟨Hge.out, hm, HR.out.epos, Or.inr ⟨rfl, hmore, by omega⟩⟩)
        clear hR hF hC2 c1 c2 c3 c6
        go_wp2_with fail
        refine (low_short wr lo' hi' B bs (p + m) 1 ov wn HR.out (by omega) (by omega)).mono ?_
        rintro e w1 ⟨rfl, k, rfl⟩
        exact ⟨rfl, Hn.out _ (HF.out.join ((Fr.of_drewN wr k).mono fun _ _ h => h.elim))⟩
    · have Hn := hide (fun w' => Hno.out 4 m w' ⟨Hge.out, hm, HR.out.epos, Or.inl ⟨rfl, by omega⟩⟩)
      clear hR hF hC2 c1 c2 c3 c6
      go_wp2
      exact ⟨rfl, Hn.out _ HF.out⟩
end Go.Proofs.YtleeaofofofgmaaDoor
