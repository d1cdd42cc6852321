/-
  The contract of a step of a machine; that each step leaves less.
-/
import Derived.Test.YtleeaofofofgmaaDoorMv
namespace Go.Proofs.YtleeaofofofgmaaDoor
open Go.RowKit

theorem adv_done_inv {V L : Nat} {s : St} (h : adv V L s = .done) : s.pl = .ahead ∧ s.last = true := by
  obtain ⟨p, last, out, pl⟩ := s
  cases pl with
  | ahead =>
    simp only [adv] at h
    split at h
    · next h1 => exact ⟨rfl, h1⟩
    · split at h <;> cases h
  | stored n =>
    simp only [adv] at h
    split at h
    · cases h
    · split at h <;> cases h
  | coded ll dl =>
    simp only [adv] at h
    split at h <;> cases h
  | row n d ll dl => cases h

theorem ahead_put {V L p : Nat} {out : List Nat} {s' : St} (h : adv V L ⟨p, false, out, .ahead⟩ = .put s') : False := by
  simp only [adv] at h
  cases hh : head V L p with
  | error er => simp [hh] at h
  | ok aq => simp [hh] at h

set_option maxHeartbeats 2000000 in
set_option maxRecDepth 100000 in
theorem advance_c (w : World) (lo R M B : Nat) (bs : List Nat) (most : Nat) (hmost : most ≤ 2147483648) (hg : Gl w) (hlo : 0 < lo) (s : St) (h : Mx w lo R M B bs most s) (Q : Ending → World → Prop)
    (hQ : AdvQ lo R M B bs most s w (.bool true) (.bool false) (.bool false) Q) : Calls Tryd.prog 39 #[.pointer (some ⟨M, 0, none⟩)] w Q := by
  obtain ⟨p, last, out, pl⟩ := s
  have H := hide h
  obtain ⟨lf, bk, b1, b2, f1, f2, ov, hO, hP, hX, hb, ho⟩ := h
  have q3 : w.cell? ⟨M, 3, none⟩ = some (.int .i64 (plv pl)) := cell_of hO.obj rfl
  have q4 : w.cell? ⟨M, 4, none⟩ = some (.bool last) := cell_of hO.obj rfl
  have HO := hide hO
  have HQ := hide hQ
  have HG := hide hg
  clear hO hP hX hb ho hQ hg
  cases pl with
  | stored n =>
    simp only [plv] at q3
    go_enter Tryd.func39, Tryd.ntmps39
    go_wp2_with fail
    refine storedByte_c w lo R M B bs most hmost p last out n H.out (.bool false) _ ⟨?f1, ?f2, ?f3, ?f4, ?f5⟩
    case f1 => (intro er w1 h1 h2 h3; exact ⟨rfl, HQ.out.fail er w1 h1 h2 h3⟩)
    case f2 => (intro s' w1 h1 h2 h3 h4; exact ⟨rfl, HQ.out.full s' w1 h1 h2 h3 h4⟩)
    case f3 => (intro s' w1 h1 h2 h3 h4; have X := hide (HQ.out.put s' w1 h1 h2 h3 h4); clear h1 h2 h3 h4; go_wp2; exact X.out)
    case f4 => (intro s' w1 h1 h2 h3; have X := hide (HQ.out.go s' w1 h1 h2 h3); clear h1 h2 h3; go_wp2; exact X.out)
    case f5 => (intro w1 h1; cases (adv_done_inv h1).1)
  | coded ll dl =>
    simp only [plv] at q3
    go_enter Tryd.func39, Tryd.ntmps39
    go_wp2_with fail
    refine takeSymbol_c w lo R M B bs most hmost p last out ll dl H.out (.bool false) _ ⟨?f1, ?f2, ?f3, ?f4, ?f5⟩
    case f1 => (intro er w1 h1 h2 h3; exact ⟨rfl, HQ.out.fail er w1 h1 h2 h3⟩)
    case f2 => (intro s' w1 h1 h2 h3 h4; exact ⟨rfl, HQ.out.full s' w1 h1 h2 h3 h4⟩)
    case f3 => (intro s' w1 h1 h2 h3 h4; have X := hide (HQ.out.put s' w1 h1 h2 h3 h4); clear h1 h2 h3 h4; go_wp2; exact X.out)
    case f4 => (intro s' w1 h1 h2 h3; have X := hide (HQ.out.go s' w1 h1 h2 h3); clear h1 h2 h3; go_wp2; exact X.out)
    case f5 => (intro w1 h1; cases (adv_done_inv h1).1)
  | row n d ll dl =>
    simp only [plv] at q3
    go_enter Tryd.func39, Tryd.ntmps39
    go_wp2_with fail
    refine rowByte_c w lo R M B bs most hmost p last out n d ll dl H.out (.bool false) _ ⟨?f1, ?f2, ?f3, ?f4, ?f5⟩
    case f1 => (intro er w1 h1 h2 h3; exact ⟨rfl, HQ.out.fail er w1 h1 h2 h3⟩)
    case f2 => (intro s' w1 h1 h2 h3 h4; exact ⟨rfl, HQ.out.full s' w1 h1 h2 h3 h4⟩)
    case f3 => (intro s' w1 h1 h2 h3 h4; have X := hide (HQ.out.put s' w1 h1 h2 h3 h4); clear h1 h2 h3 h4; go_wp2; exact X.out)
    case f4 => (intro s' w1 h1 h2 h3; have X := hide (HQ.out.go s' w1 h1 h2 h3); clear h1 h2 h3; go_wp2; exact X.out)
    case f5 => (intro w1 h1; cases (adv_done_inv h1).1)
  | ahead =>
    simp only [plv] at q3
    cases last with
    | true =>
      go_enter Tryd.func39, Tryd.ntmps39
      go_wp2_with fail
      refine (finish_c w lo R M B bs p _ _ _ lf bk b1 b2 f1 f2 ov out HO.out).mono ?_
      rintro e w1 ⟨rfl, h1, h2⟩
      have X := hide (HQ.out.done w1 rfl h1 h2)
      clear h1 h2
      go_wp2
      exact X.out
    | false =>
      go_enter Tryd.func39, Tryd.ntmps39
      go_wp2_with fail
      refine begin_c w lo R M B bs most HG.out hlo p out H.out (.bool true) (.bool true) _ ⟨?f1, ?f2, ?f3, ?f4, ?f5⟩
      case f1 => (intro er w1 h1 h2 h3; exact ⟨rfl, HQ.out.fail er w1 h1 h2 h3⟩)
      case f2 => (intro s' w1 h1 h2 h3 h4; exact ⟨rfl, HQ.out.full s' w1 h1 h2 h3 h4⟩)
      case f3 => (intro s' w1 h1; exact (ahead_put h1).elim)
      case f4 => (intro s' w1 h1 h2 h3; have X := hide (HQ.out.go s' w1 h1 h2 h3); clear h1 h2 h3; go_wp2; exact X.out)
      case f5 => (intro w1 h1; cases (adv_done_inv h1).2)

/-- How much is left at most. -/
def wt : Pl → Nat
  | .stored _ => 1
  | .row n _ _ _ => n
  | _ => 0
def muS (L : Nat) (s : St) : Nat := 1 + 1000010 * (L - s.p) + wt s.pl

def rowOk : Pl → Prop
  | .row n _ _ _ => 1 ≤ n ∧ n ≤ 1000003
  | _ => True

theorem word_mono {ll dl : List Int} {o V L p q : Nat} {y : Sym} (h : word ll dl o V L p = .ok (y, q)) : p < q := by
  obtain ⟨s, m, h1, h2⟩ := then_inv h
  have := (tkFrom_good ll _ _ h1).1
  have h3 := (Gd.ite (c := s < 256) (.ret (Sym.lit s)) (.ite (c := s = 256) (.ret Sym.fin) (.andThen (.rlen s) fun n => .andThen (.rdist dl o) fun d => .ret (Sym.row n d)))).mono h2
  omega

theorem head_mono {V L p q : Nat} {a : Bool × Pl} (h : head V L p = .ok (a, q)) : p < q := by
  obtain ⟨l, m1, h1, h2⟩ := then_inv h
  have e1 := tkn_inv h1
  have := (Gd.andThen (.tkn 2) fun k => .andThen (.kindOf k) fun pl => .ret (decide (l = 1), pl)).mono h2
  omega

theorem adv_mu {V L : Nat} {s s' : St} (h : adv V L s = .go s' ∨ adv V L s = .put s') (hL : L % 8 = 0) (hp : s.p ≤ L) (hr : rowOk s.pl) (hr' : rowOk s'.pl) : muS L s' < muS L s := by
  have key : ∀ q (pl : Pl), s.p < q → q ≤ L → rowOk pl → 1 + 1000010 * (L - q) + wt pl < 1 + 1000010 * (L - s.p) := by
    intro q pl h1 h2 h3
    have hw : wt pl ≤ 1000003 := by
      cases pl with
      | row n d ll dl => exact h3.2
      | ahead => exact Nat.zero_le _
      | stored n => show 1 ≤ 1000003; omega
      | coded a b => exact Nat.zero_le _
    have : L - s.p = (L - q) + (q - s.p) := by omega
    rw [this, Nat.mul_add]
    have : 1000010 * 1 ≤ 1000010 * (q - s.p) := Nat.mul_le_mul_left _ (by omega)
    omega
  obtain ⟨p, last, out, pl⟩ := s
  simp only at hp hr key
  cases pl with
  | ahead =>
    simp only [adv] at h
    by_cases hl : last = true
    · rw [if_pos hl] at h; rcases h with h | h <;> cases h
    rw [if_neg hl] at h
    cases hh : head V L p with
    | error er => simp only [hh] at h; rcases h with h | h <;> cases h
    | ok aq =>
      simp only [hh] at h
      rcases h with h | h
      · cases h
        exact Nat.lt_of_lt_of_le (key aq.2 _ (head_mono (a := aq.1) (q := aq.2) hh) (Gd.head.fit (a := aq.1) (q := aq.2) hh hp hL) hr') (Nat.le_add_right _ _)
      · cases h
  | stored n =>
    simp only [adv] at h
    split at h
    · rcases h with h | h
      · cases h; simp only [muS, wt]; omega
      · cases h
    · cases hh : tkn 8 V L p with
      | error er => simp only [hh] at h; rcases h with h | h <;> cases h
      | ok aq =>
        simp only [hh] at h
        have := tkn_inv (a := aq.1) (q := aq.2) hh
        rcases h with h | h
        · cases h
        · cases h
          exact Nat.lt_of_lt_of_le (key aq.2 _ (by omega) (by omega) hr') (Nat.le_add_right _ _)
  | coded ll dl =>
    simp only [adv] at h
    cases hh : word ll dl out.length V L p with
    | error er => simp only [hh] at h; rcases h with h | h <;> cases h
    | ok aq =>
      obtain ⟨y, q⟩ := aq
      simp only [hh] at h
      have h1 := word_mono hh
      have h2 := (Gd.word ll dl out.length).fit hh hp hL
      cases y with
      | lit b =>
        rcases h with h | h
        · cases h
        · cases h; exact Nat.lt_of_lt_of_le (key q _ h1 h2 hr') (Nat.le_add_right _ _)
      | fin =>
        rcases h with h | h
        · cases h; exact Nat.lt_of_lt_of_le (key q _ h1 h2 hr') (Nat.le_add_right _ _)
        · cases h
      | row n d =>
        rcases h with h | h
        · cases h; exact Nat.lt_of_lt_of_le (key q _ h1 h2 hr') (Nat.le_add_right _ _)
        · cases h
  | row n d ll dl =>
    simp only [adv] at h
    rcases h with h | h
    · cases h
    · cases h
      simp only [muS]
      have h1 := hr.1
      split
      · simp only [wt]; omega
      · simp only [wt]; omega

/-- The same, off the world. -/
def cellI (w : World) (b o : Nat) : Nat := match w.cell? ⟨b, o, none⟩ with
  | some (.int _ x) => x.toNat
  | _ => 0
def muW (L M B : Nat) (w : World) : Nat := match w.cell? ⟨M, 14, none⟩ with
  | some (.bool true) => 0
  | _ => 1 + 1000010 * (L - cellI w B 1) + (if cellI w M 3 = 1 then 1 else if cellI w M 3 = 3 then cellI w M 5 else 0)

theorem Mx.mu {w : World} {lo R M B : Nat} {bs : List Nat} {most : Nat} {s : St} (h : Mx w lo R M B bs most s) (L : Nat) : muW L M B w = muS L s := by
  obtain ⟨lf, bk, b1, b2, f1, f2, ov, hO, hP, hX, hb, ho⟩ := h
  have q14 : w.cell? ⟨M, 14, none⟩ = some (.bool false) := cell_of hO.obj rfl
  have q3 : w.cell? ⟨M, 3, none⟩ = some (.int .i64 (plv s.pl)) := cell_of hO.obj rfl
  have q5 : w.cell? ⟨M, 5, none⟩ = some (.int .i64 lf) := cell_of hO.obj rfl
  obtain ⟨a, c, _, f1, _, _⟩ := hO.rd.facts
  unfold muW muS
  simp only [q14, cellI, f1, q3, q5]
  have e : ((s.p : Int)).toNat = s.p := by omega
  rw [e]
  congr 1
  cases hpl : s.pl with
  | ahead => rfl
  | stored n => rfl
  | coded a b => rfl
  | row n d ll dl =>
    rw [hpl] at hP
    have : lf = (n : Int) := hP.1
    subst this
    simp [plv, wt]

theorem Mx.row {w : World} {lo R M B : Nat} {bs : List Nat} {most : Nat} {s : St} (h : Mx w lo R M B bs most s) : rowOk s.pl := by
  obtain ⟨lf, bk, b1, b2, f1, f2, ov, hO, hP, hX, hb, ho⟩ := h
  cases hpl : s.pl with
  | ahead => exact trivial
  | stored n => exact trivial
  | coded a b => exact trivial
  | row n d ll dl =>
    rw [hpl] at hP
    exact ⟨hP.2.2.1, hP.2.2.2.1⟩

theorem Mx.pos {w : World} {lo R M B : Nat} {bs : List Nat} {most : Nat} {s : St} (h : Mx w lo R M B bs most s) : s.p ≤ 8 * bs.length := by
  obtain ⟨lf, bk, b1, b2, f1, f2, ov, hO, _⟩ := h
  exact hO.rd.epos
end Go.Proofs.YtleeaofofofgmaaDoor
