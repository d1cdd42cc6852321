/-
  Streams of the fixed code, as they are put: the mathematics of InflateRuns.
-/
import Derived.Test.YtleeaofofofgmaaDoorWm
import Derived.Test.YtleeaofofofgmaaDoorNc
namespace Go.Proofs.YtleeaofofofgmaaDoor
open Go.RowKit

theorem fixW_lt (i : Nat) (hi : i < 288) : fixW i < 2 ^ fixN i := by
  unfold fixW fixN
  repeat' split
  all_goals omega

theorem fixD_wd (i : Nat) (hi : i < 32) : wd fixD i = i := by
  have e0 : nx fixD 0 = 0 := nx_zero _
  have h (n : Nat) (hc : cnt fixD (n + 1) = 0) : nx fixD (n + 1) = 2 * nx fixD n := by rw [nx_succ, hc]; omega
  have e1 := h 0 (by rw [fixD_cnt]; rfl)
  have e2 := h 1 (by rw [fixD_cnt]; rfl)
  have e3 := h 2 (by rw [fixD_cnt]; rfl)
  have e4 := h 3 (by rw [fixD_cnt]; rfl)
  simp only [Nat.reduceAdd] at *
  unfold wd
  rw [fixD_at, if_pos hi, show ((5 : Int).toNat - 1) = 4 from rfl, show (5 : Int).toNat = 5 from rfl, fixD_rank _ _ (by omega), if_pos rfl]
  omega

theorem tk_fixD {V L p : Nat} (i : Nat) (hi : i < 32) (hf : p + 5 ≤ L) (hr : rd V p 5 = i) : tk fixD V L p = .ok (i, p + 5) := by
  have et : (at0 fixD i).toNat = 5 := by rw [fixD_at, if_pos hi]; rfl
  obtain ⟨h2, h3⟩ := hit_word fixD_good (V := V) (L := L) (p := p) (i := i) (by rw [fixD_len]; exact hi) (by rw [fixD_at, if_pos hi]; decide) (by rw [et]; exact hf) (by rw [et, fixD_wd i hi]; exact hr)
  rw [et] at h2 h3
  exact h2.tk h3

theorem lit_leads {t : Bt} (h : t.ok) (last : Bool) (out : List Nat) (i : Nat) (hi : i < 256) : Leads (t.word (fixW i) (fixN i)) ⟨t.p, last, out, .coded fixL fixD⟩ ⟨t.p + fixN i, last, out ++ [i], .coded fixL fixD⟩ :=
  Leads.put fun W L hu => by
    obtain ⟨h1, h2⟩ := Bt.rd h (fixW_lt i (by omega)) hu
    exact adv_lit i hi h2 h1

theorem fin_leads {t : Bt} (h : t.ok) (last : Bool) (out : List Nat) : Leads (t.word (fixW 256) (fixN 256)) ⟨t.p, last, out, .coded fixL fixD⟩ ⟨t.p + 7, last, out, .ahead⟩ :=
  Leads.go fun W L hu => by
    obtain ⟨h1, h2⟩ := Bt.rd h (fixW_lt 256 (by omega)) hu
    exact adv_fin h2 h1

/-- What a row's words come to. -/
theorem word_row {t : Bt} (h : t.ok) (n d o : Nat) (hn : 3 ≤ n ∧ n ≤ 10) (hd : 1 ≤ d ∧ d ≤ 4) {W L : Nat} (hu : ((t.word (fixW (254 + n)) (fixN (254 + n))).word (d - 1) 5).of W L) :
    word fixL fixD o W L t.p = if o < d then .error 4 else .ok (.row n d, t.p + 12) := by
  have hok : (t.word (fixW (254 + n)) (fixN (254 + n))).ok := Bt.word_ok h
  have e7 : fixN (254 + n) = 7 := by unfold fixN; rw [if_neg (by omega), if_neg (by omega), if_pos (by omega)]
  obtain ⟨a1, a2⟩ := Bt.rd h (fixW_lt (254 + n) (by omega)) ((Bt.put_le hok).of hu)
  obtain ⟨b1, b2⟩ := Bt.rd hok (show d - 1 < 2 ^ 5 by omega) hu
  have ep : (t.word (fixW (254 + n)) (fixN (254 + n))).p = t.p + 7 := by show t.p + fixN (254 + n) = _; rw [e7]
  rw [ep] at b1 b2
  have h1 := tk_fix (254 + n) (by omega) a2 a1
  rw [e7] at h1
  have h2 := tk_fixD (V := W) (L := L) (p := t.p + 7) (d - 1) (by omega) b2 b1
  have hl : rlen (254 + n) W L (t.p + 7) = .ok (n, t.p + 7) := by
    unfold rlen
    rw [if_neg (by omega), if_neg (by omega)]
    have : rung (254 + n - 257) 4 W L (t.p + 7) = .ok (n - 3, t.p + 7) := by
      unfold rung
      rw [if_pos (by omega)]
      show Except.ok (254 + n - 257, t.p + 7) = _
      rw [show 254 + n - 257 = n - 3 by omega]
    rw [then_ok this]
    show Except.ok (3 + (n - 3), t.p + 7) = _
    rw [show 3 + (n - 3) = n by omega]
  have hr : rung (d - 1) 2 W L (t.p + 12) = .ok (d - 1, t.p + 12) := by
    unfold rung
    rw [if_pos (by omega)]
    rfl
  unfold word
  rw [then_ok h1, if_neg (by omega), if_neg (by omega), then_ok hl]
  by_cases ho : o < d
  · rw [if_pos ho]
    refine then_err ?_
    unfold rdist
    rw [then_ok h2, if_neg (by omega), show t.p + 7 + 5 = t.p + 12 by omega, then_ok hr, if_pos (by omega)]
    rfl
  · rw [if_neg ho]
    have : rdist fixD o W L (t.p + 7) = .ok (d, t.p + 12) := by
      unfold rdist
      rw [then_ok h2, if_neg (by omega), show t.p + 7 + 5 = t.p + 12 by omega, then_ok hr, if_neg (by omega)]
      show Except.ok (1 + (d - 1), t.p + 12) = _
      rw [show 1 + (d - 1) = d by omega]
    rw [then_ok this]
    rfl

theorem mrow_leads {t : Bt} (h : t.ok) (last : Bool) (out : List Nat) (n d : Nat) (hn : 3 ≤ n ∧ n ≤ 10) (hd : 1 ≤ d ∧ d ≤ 4) (ho : d ≤ out.length) :
    Leads ((t.word (fixW (254 + n)) (fixN (254 + n))).word (d - 1) 5) ⟨t.p, last, out, .coded fixL fixD⟩ ⟨t.p + 12, last, grow d n out, .coded fixL fixD⟩ := by
  refine Leads.trans (s' := ⟨t.p + 12, last, out, .row n d fixL fixD⟩) (Leads.go fun W L hu => ?_) ?_ ?_
  · simp only [adv]
    rw [word_row h n d out.length hn hd hu, if_neg (by omega)]
  · obtain ⟨k, rfl⟩ : ∃ k, n = k + 1 := ⟨n - 1, by omega⟩
    exact row_leads _ _ _ _ _ _ _ _
  · show out.length ≤ (grow d n out).length
    rw [grow_len]
    omega

theorem mrow_bad {t : Bt} (h : t.ok) (last : Bool) (out : List Nat) (n d : Nat) (hn : 3 ≤ n ∧ n ≤ 10) (hd : 1 ≤ d ∧ d ≤ 4) (ho : out.length < d) {W L most : Nat} (hu : ((t.word (fixW (254 + n)) (fixN (254 + n))).word (d - 1) 5).of W L) :
    Runs W L most ⟨t.p, last, out, .coded fixL fixD⟩ (.error 4) := by
  refine .fail ?_
  simp only [adv]
  rw [word_row h n d out.length hn hd hu, if_pos ho]

/-- The head of a last block of the fixed code. -/
theorem head_fix : Leads ⟨3, 3⟩ init ⟨3, true, [], .coded fixL fixD⟩ :=
  Leads.go fun W L hu => by
    have h0 : (⟨0, 0⟩ : Bt).ok := by show 0 < 2 ^ 0; decide
    have h1 : ((⟨0, 0⟩ : Bt).put 1 1).ok := Bt.put_ok h0 (by decide)
    have t1 := Bt.tkn (x := 1) (n := 1) (W := W) (L := L) h0 ((Bt.put_le (x := 1) (n := 2) h1).of hu)
    have t2 := Bt.tkn (x := 1) (n := 2) (W := W) (L := L) h1 hu
    have : head W L 0 = .ok ((true, .coded fixL fixD), 3) := by
      refine (then_ok t1).trans ((then_ok t2).trans ?_)
      rfl
    show adv W L ⟨0, false, [], .ahead⟩ = _
    simp only [adv, this]
    rfl
end Go.Proofs.YtleeaofofofgmaaDoor
