/-
  chunk: the program's order is the document's.
-/
import Derived.Test.YtflapcaaaipoeaaCg
namespace Go.Proofs.Ytflapcaaaipoeaa
open Go.RowKit
set_option linter.unusedVariables false

/-- The i-th kind. -/
def kAt (l : List Ck) (i : Nat) : ByteArray := (l.getD i default).1

theorem plc_spec (l : List Ck) (k : ByteArray) : ∀ n, ((plc l k n).1 = 0 ∧ (plc l k n).2.1 = -1 ∧ (plc l k n).2.2 = -1 ∧ ∀ i, i < n → kAt l i ≠ k) ∨
    (0 < (plc l k n).1 ∧ ∃ f g : Nat, (plc l k n).2.1 = f ∧ (plc l k n).2.2 = g ∧ f ≤ g ∧ g < n ∧ kAt l f = k ∧ kAt l g = k ∧ (∀ i, i < f → kAt l i ≠ k) ∧ (∀ i, g < i → i < n → kAt l i ≠ k) ∧ (plc l k n).1 ≤ g - f + 1 ∧ ((plc l k n).1 = g - f + 1 ↔ ∀ i, f ≤ i → i ≤ g → kAt l i = k) ∧ ((plc l k n).1 = 1 → f = g))
  | 0 => .inl ⟨rfl, rfl, rfl, fun i h => absurd h (Nat.not_lt_zero i)⟩
  | n + 1 => by
    have ih := plc_spec l k n
    by_cases hk : kAt l n = k
    · have e : plc l k (n + 1) = ((plc l k n).1 + 1, (if (plc l k n).1 = 0 then (n : Int) else (plc l k n).2.1), (n : Int)) := by
        conv => lhs; unfold plc
        exact if_pos hk
      rw [e]
      right
      rcases ih with ⟨h1, h2, h3, h4⟩ | ⟨h1, f, g, h2, h3, h4, h5, h6, h7, h8, h9, h10, h11, h12⟩
      · rw [h1]
        refine ⟨by simp, n, n, rfl, rfl, Nat.le_refl _, by omega, hk, hk, h4, fun i hi hi2 => by omega, by simp, ?_, fun _ => rfl⟩
        simp only [Nat.sub_self, Nat.zero_add, true_iff]
        intro i ha hb
        rw [show i = n by omega]; exact hk
      · rw [if_neg (by omega)]
        refine ⟨by simp, f, n, h2, rfl, by omega, by omega, h6, hk, h8, fun i hi hi2 => by omega, by simp only []; omega, ?_, fun h => by simp only [] at h; omega⟩
        simp only []
        constructor
        · intro h i ha hb
          have hg : g + 1 = n := by omega
          by_cases hin : i = n
          · rw [hin]; exact hk
          · exact h11.1 (by omega) i ha (by omega)
        · intro h
          have hg : g + 1 = n := by
            by_cases hgn : g + 1 = n
            · exact hgn
            · exact absurd (h (n - 1) (by omega) (by omega)) (h9 (n - 1) (by omega) (by omega))
          have := h11.2 (fun i ha hb => h i ha (by omega))
          omega
    · have e : plc l k (n + 1) = plc l k n := by
        conv => lhs; unfold plc
        exact if_neg hk
      rw [e]
      rcases ih with ⟨h1, h2, h3, h4⟩ | ⟨h1, f, g, h2, h3, h4, h5, h6, h7, h8, h9, h10, h11, h12⟩
      · left
        refine ⟨h1, h2, h3, fun i hi => ?_⟩
        by_cases hin : i = n
        · rw [hin]; exact hk
        · exact h4 i (by omega)
      · right
        refine ⟨h1, f, g, h2, h3, h4, by omega, h6, h7, h8, fun i hi hi2 => ?_, h10, h11, h12⟩
        by_cases hin : i = n
        · rw [hin]; exact hk
        · exact h9 i hi (by omega)

/-- How many of a kind stand among the first n. -/
def cnt (l : List Ck) (k : ByteArray) (n : Nat) : Nat := (plc l k n).1
theorem cnt_step (l : List Ck) (k : ByteArray) (n : Nat) : cnt l k (n + 1) = if kAt l n = k then cnt l k n + 1 else cnt l k n := by
  unfold cnt
  conv => lhs; unfold plc
  show (if kAt l n = k then _ else _ : Nat × Int × Int).1 = _
  split <;> rfl
theorem cnt_pos (l : List Ck) (k : ByteArray) (n : Nat) : 0 < cnt l k n ↔ ∃ i, i < n ∧ kAt l i = k := by
  unfold cnt
  rcases plc_spec l k n with ⟨h1, h2, h3, h4⟩ | ⟨h1, f, g, h2, h3, h4, h5, h6, _⟩
  · constructor
    · intro h; omega
    · rintro ⟨i, hi, e⟩; exact absurd e (h4 i hi)
  · exact ⟨fun _ => ⟨f, by omega, h6⟩, fun _ => h1⟩

/-- May the i-th stand where it does? -/
def okAt (l : List Ck) (i : Nat) : Prop :=
  (kAt l i = sHead → i = 0 ∧ lenAt l i = 13) ∧ (kAt l i = sIend → l.length ≤ i + 1 ∧ lenAt l i = 0) ∧
  (kAt l i = sIdat → 0 < cnt l sIdat i → kAt l (i - 1) = sIdat) ∧ (kAt l i = sPlte → cnt l sIdat i = 0 ∧ cnt l sTrns i = 0) ∧
  (kAt l i = sTrns → cnt l sIdat i = 0) ∧ okK (kAt l i) = true

theorem run_counts (l : List Ck) : ∀ n s, runR l n = some s → s = ⟨cnt l sHead n, cnt l sIend n, cnt l sPlte n, cnt l sTrns n, cnt l sIdat n⟩
  | 0, s, h => by cases h; rfl
  | n + 1, s, h => by
    obtain ⟨s0, h0, h1⟩ := Option.bind_eq_some_iff.1 h
    have ih := run_counts l n s0 h0
    subst ih
    have kd : (l.getD n default).1 = kAt l n := rfl
    simp only [cnt_step]
    unfold stepR at h1
    rw [kd] at h1
    have d1 : sHead ≠ sIend := by decide
    have d2 : sHead ≠ sIdat := by decide
    have d3 : sHead ≠ sPlte := by decide
    have d4 : sHead ≠ sTrns := by decide
    have d5 : sIend ≠ sIdat := by decide
    have d6 : sIend ≠ sPlte := by decide
    have d7 : sIend ≠ sTrns := by decide
    have d8 : sIdat ≠ sPlte := by decide
    have d9 : sIdat ≠ sTrns := by decide
    have d10 : sPlte ≠ sTrns := by decide
    by_cases e1 : kAt l n = sHead
    · rw [if_pos e1] at h1
      split at h1
      · cases h1
      · rw [e1, if_pos rfl, if_neg d1, if_neg d3, if_neg d4, if_neg d2]; cases h1; rfl
    · rw [if_neg e1] at h1 ⊢
      by_cases e2 : kAt l n = sIend
      · rw [if_pos e2] at h1
        split at h1
        · cases h1
        · rw [e2, if_pos rfl, if_neg d6, if_neg d7, if_neg d5]; cases h1; rfl
      · rw [if_neg e2] at h1 ⊢
        by_cases e3 : kAt l n = sIdat
        · rw [if_pos e3] at h1
          split at h1
          · cases h1
          · rw [e3, if_neg d8, if_neg d9, if_pos rfl]; cases h1; rfl
        · rw [if_neg e3] at h1 ⊢
          by_cases e4 : kAt l n = sPlte
          · rw [if_pos e4] at h1
            split at h1
            · cases h1
            · rw [e4, if_pos rfl, if_neg d10]; cases h1; rfl
          · rw [if_neg e4] at h1 ⊢
            by_cases e5 : kAt l n = sTrns
            · rw [if_pos e5] at h1
              split at h1
              · cases h1
              · rw [if_pos e5]; cases h1; rfl
            · rw [if_neg e5] at h1 ⊢
              split at h1
              · cases h1; rfl
              · cases h1

theorem okK_trns : okK sTrns = true := by decide +kernel
theorem okK_other {k : ByteArray} (h1 : k ≠ sHead) (h2 : k ≠ sIend) (h3 : k ≠ sIdat) (h4 : k ≠ sPlte) : okK k = true ↔ kindB k = true ∧ critB k = false := by
  unfold okK
  simp [h1, h2, h3, h4]

theorem step_ok (l : List Ck) (n : Nat) (hn : n < l.length) : (∃ s, stepR l n ⟨cnt l sHead n, cnt l sIend n, cnt l sPlte n, cnt l sTrns n, cnt l sIdat n⟩ = some s) ↔ okAt l n := by
  have kd : (l.getD n default).1 = kAt l n := rfl
  have kd2 : (l.getD (n - 1) default).1 = kAt l (n - 1) := rfl
  have d1 : sHead ≠ sIend := by decide
  have d2 : sHead ≠ sIdat := by decide
  have d3 : sHead ≠ sPlte := by decide
  have d4 : sHead ≠ sTrns := by decide
  have d5 : sIend ≠ sIdat := by decide
  have d6 : sIend ≠ sPlte := by decide
  have d7 : sIend ≠ sTrns := by decide
  have d8 : sIdat ≠ sPlte := by decide
  have d9 : sIdat ≠ sTrns := by decide
  have d10 : sPlte ≠ sTrns := by decide
  have o1 : okK sHead = true := by decide +kernel
  have o2 : okK sIend = true := by decide +kernel
  have o3 : okK sIdat = true := by decide +kernel
  have o4 : okK sPlte = true := by decide +kernel
  unfold stepR okAt
  rw [kd, kd2]
  by_cases e1 : kAt l n = sHead
  · rw [if_pos e1, e1]
    by_cases hc : 0 < n ∨ lenAt l n ≠ 13
    · rw [if_pos hc]
      constructor
      · rintro ⟨s, hs⟩; cases hs
      · rintro ⟨h, _⟩; have := h rfl; omega
    · rw [if_neg hc]
      exact ⟨fun _ => ⟨fun _ => by omega, fun h => absurd h d1, fun h => absurd h d2, fun h => absurd h d3, fun h => absurd h d4, o1⟩, fun _ => ⟨_, rfl⟩⟩
  · rw [if_neg e1]
    by_cases e2 : kAt l n = sIend
    · rw [if_pos e2, e2]
      by_cases hc : n + 1 < l.length ∨ 0 < lenAt l n
      · rw [if_pos hc]
        constructor
        · rintro ⟨s, hs⟩; cases hs
        · rintro ⟨_, h, _⟩; have := h rfl; omega
      · rw [if_neg hc]
        exact ⟨fun _ => ⟨fun h => absurd h.symm d1, fun _ => by omega, fun h => absurd h d5, fun h => absurd h d6, fun h => absurd h d7, o2⟩, fun _ => ⟨_, rfl⟩⟩
    · rw [if_neg e2]
      by_cases e3 : kAt l n = sIdat
      · rw [if_pos e3, e3]
        by_cases hc : 0 < cnt l sIdat n ∧ kAt l (n - 1) ≠ sIdat
        · rw [if_pos hc]
          constructor
          · rintro ⟨s, hs⟩; cases hs
          · rintro ⟨_, _, h, _⟩; exact absurd (h rfl hc.1) hc.2
        · rw [if_neg hc]
          exact ⟨fun _ => ⟨fun h => absurd h.symm d2, fun h => absurd h.symm d5, fun _ h => Classical.not_not.1 fun hh => hc ⟨h, hh⟩, fun h => absurd h d8, fun h => absurd h d9, o3⟩, fun _ => ⟨_, rfl⟩⟩
      · rw [if_neg e3]
        by_cases e4 : kAt l n = sPlte
        · rw [if_pos e4, e4]
          by_cases hc : 0 < cnt l sIdat n ∨ 0 < cnt l sTrns n
          · rw [if_pos hc]
            constructor
            · rintro ⟨s, hs⟩; cases hs
            · rintro ⟨_, _, _, h, _⟩; have := h rfl; omega
          · rw [if_neg hc]
            exact ⟨fun _ => ⟨fun h => absurd h.symm d3, fun h => absurd h.symm d6, fun h => absurd h.symm d8, fun _ => by omega, fun h => absurd h d10, o4⟩, fun _ => ⟨_, rfl⟩⟩
        · rw [if_neg e4]
          by_cases e5 : kAt l n = sTrns
          · rw [if_pos e5, e5]
            by_cases hc : 0 < cnt l sIdat n
            · rw [if_pos hc]
              constructor
              · rintro ⟨s, hs⟩; cases hs
              · rintro ⟨_, _, _, _, h, _⟩; have := h rfl; omega
            · rw [if_neg hc]
              exact ⟨fun _ => ⟨fun h => absurd h.symm d4, fun h => absurd h.symm d7, fun h => absurd h.symm d9, fun h => absurd h.symm d10, fun _ => by omega, okK_trns⟩, fun _ => ⟨_, rfl⟩⟩
          · rw [if_neg e5, okK_other e1 e2 e3 e4]
            by_cases hc : kindB (kAt l n) = true ∧ critB (kAt l n) = false
            · rw [if_pos hc]
              exact ⟨fun _ => ⟨fun h => absurd h e1, fun h => absurd h e2, fun h => absurd h e3, fun h => absurd h e4, fun h => absurd h e5, hc⟩, fun _ => ⟨_, rfl⟩⟩
            · rw [if_neg hc]
              exact ⟨fun h => (by obtain ⟨s, hs⟩ := h; cases hs), fun h => absurd h.2.2.2.2.2 hc⟩

theorem run_ok (l : List Ck) : ∀ n, n ≤ l.length → ((∃ s, runR l n = some s) ↔ ∀ i, i < n → okAt l i)
  | 0, _ => ⟨fun _ i h => absurd h (Nat.not_lt_zero i), fun _ => ⟨_, rfl⟩⟩
  | n + 1, hn => by
    have ih := run_ok l n (by omega)
    constructor
    · rintro ⟨s, h⟩ i hi
      obtain ⟨s0, h0, h1⟩ := Option.bind_eq_some_iff.1 h
      by_cases e : i = n
      · subst e
        rw [run_counts l i s0 h0] at h1
        exact (step_ok l i (by omega)).1 ⟨s, h1⟩
      · exact ih.1 ⟨s0, h0⟩ i (by omega)
    · intro h
      obtain ⟨s0, h0⟩ := ih.2 fun i hi => h i (by omega)
      obtain ⟨s, h1⟩ := (step_ok l n (by omega)).2 (h n (by omega))
      refine ⟨s, ?_⟩
      show (runR l n).bind _ = _
      rw [h0, Option.bind_some, run_counts l n s0 h0]
      exact h1

/-- What the document asks of a whole row. -/
def okRow (l : List Ck) : Prop := (∀ i, i < l.length → okAt l i) ∧ cnt l sHead l.length = 1 ∧ cnt l sIend l.length = 1 ∧ 1 ≤ cnt l sIdat l.length ∧ cnt l sPlte l.length ≤ 1 ∧ cnt l sTrns l.length ≤ 1

theorem rorder_row (l : List Ck) : rorderE l = 0 ∧ okRow l ∨ rorderE l = 4 ∧ ¬ okRow l := by
  unfold rorderE okRow
  have h := run_ok l l.length (Nat.le_refl _)
  cases hr : runR l l.length with
  | none =>
    right
    refine ⟨rfl, fun hh => ?_⟩
    obtain ⟨s, hs⟩ := h.2 hh.1
    rw [hr] at hs
    cases hs
  | some s =>
    rw [run_counts l _ s hr]
    have ha := h.1 ⟨s, hr⟩
    by_cases hc : cnt l sHead l.length = 1 ∧ cnt l sIend l.length = 1 ∧ 1 ≤ cnt l sIdat l.length ∧ cnt l sPlte l.length ≤ 1 ∧ cnt l sTrns l.length ≤ 1
    · left
      exact ⟨by simp [endR, hc], ha, hc⟩
    · right
      refine ⟨?_, fun hh => hc hh.2⟩
      simp only []
      rw [if_neg]
      intro he
      apply hc
      unfold endR at he
      simp only [Bool.and_eq_true, decide_eq_true_eq] at he
      omega

theorem cnt_zero {l : List Ck} {k : ByteArray} {n i : Nat} (h : cnt l k n = 0) (hi : i < n) : kAt l i ≠ k := fun e => by
  have := (cnt_pos l k n).2 ⟨i, hi, e⟩
  omega
theorem cnt_none {l : List Ck} {k : ByteArray} {n : Nat} (h : ∀ i, i < n → kAt l i ≠ k) : cnt l k n = 0 := by
  by_cases h0 : 0 < cnt l k n
  · obtain ⟨i, hi, e⟩ := (cnt_pos l k n).1 h0
    exact absurd e (h i hi)
  · omega

theorem order_row (l : List Ck) : orderB l = true ↔ okRow l := by
  have d8 : sIdat ≠ sPlte := by decide
  have d9 : sIdat ≠ sTrns := by decide
  have d10 : sPlte ≠ sTrns := by decide
  have hk : knownB l = true ↔ ∀ i, i < l.length → okK (kAt l i) = true := by
    unfold knownB kAt
    rw [List.all_eq_true]
    constructor
    · intro h i hi
      rw [List.getD_eq_getElem?_getD, List.getElem?_eq_getElem hi]
      exact h _ (List.getElem_mem hi)
    · intro h x hx
      obtain ⟨i, hi, rfl⟩ := List.mem_iff_getElem.1 hx
      have := h i hi
      rwa [List.getD_eq_getElem?_getD, List.getElem?_eq_getElem hi] at this
  have sh := plc_spec l sHead l.length
  have se := plc_spec l sIend l.length
  have sd := plc_spec l sIdat l.length
  have sp := plc_spec l sPlte l.length
  have st := plc_spec l sTrns l.length
  have ch : cnt l sHead l.length = (plc l sHead l.length).1 := rfl
  have ce : cnt l sIend l.length = (plc l sIend l.length).1 := rfl
  have cd : cnt l sIdat l.length = (plc l sIdat l.length).1 := rfl
  have cp : cnt l sPlte l.length = (plc l sPlte l.length).1 := rfl
  have ct : cnt l sTrns l.length = (plc l sTrns l.length).1 := rfl
  unfold orderB framedB pictB coloursB okRow
  simp only [Bool.and_eq_true, Bool.or_eq_true, decide_eq_true_eq]
  rw [hk, ch, ce, cd, cp, ct]
  generalize plc l sHead l.length = qsHead at *
  obtain ⟨xh, yh, zh⟩ := qsHead
  generalize plc l sIend l.length = qsIend at *
  obtain ⟨xe, ye, ze⟩ := qsIend
  generalize plc l sIdat l.length = qsIdat at *
  obtain ⟨xd, yd, zd⟩ := qsIdat
  generalize plc l sPlte l.length = qsPlte at *
  obtain ⟨xp, yp, zp⟩ := qsPlte
  generalize plc l sTrns l.length = qsTrns at *
  obtain ⟨xt, yt, zt⟩ := qsTrns
  simp only [Prod.mk.injEq] at sh se sd sp st ⊢
  clear ch ce cd cp ct
  constructor
  · rintro ⟨⟨⟨hkn, ⟨⟨⟨rfl, rfl, rfl⟩, hl0⟩, rfl, rfl, rfl⟩, hl1⟩, hd0, hd1⟩, ⟨⟨⟨hp1, hpd⟩, ht1⟩, htd⟩, hpt⟩
    rcases sh with ⟨h, _⟩ | ⟨_, fh, gh, ah1, ah2, _, _, ah3, _, ah4, ah5, _⟩
    · omega
    rcases se with ⟨h, _⟩ | ⟨_, fe, ge, ae1, ae2, _, ae0, ae3, _, ae4, ae5, _⟩
    · omega
    rcases sd with ⟨h, _⟩ | ⟨_, fd, gd, ad1, ad2, ad3, ad4, ad5, ad6, ad7, ad8, ad9, ad10, _⟩
    · omega
    have hall := ad10.1 (by omega)
    have noI : ∀ i, i ≤ fd → cnt l sIdat i = 0 := fun i hi => cnt_none fun j hj => ad7 j (by omega)
    refine ⟨fun i hi => ⟨?_, ?_, ?_, ?_, ?_, hkn i hi⟩, rfl, rfl, hd0, hp1, ht1⟩
    · intro e
      have : i = 0 := by
        by_cases h0 : gh < i
        · exact absurd e (ah5 i h0 hi)
        · omega
      subst this
      exact ⟨rfl, hl0⟩
    · intro e
      have : i = l.length - 1 := by
        by_cases h0 : i < fe
        · exact absurd e (ae4 i h0)
        · omega
      subst this
      exact ⟨by omega, hl1⟩
    · intro e h0
      obtain ⟨j, hj, ej⟩ := (cnt_pos l sIdat i).1 h0
      have h1 : fd ≤ j := by
        by_cases h : j < fd
        · exact absurd ej (ad7 j h)
        · omega
      have h2 : i ≤ gd := by
        by_cases h : gd < i
        · exact absurd e (ad8 i h hi)
        · omega
      exact hall (i - 1) (by omega) (by omega)
    · intro e
      rcases sp with ⟨_, _, _, h⟩ | ⟨_, fp, gp, ap1, ap2, _, _, ap3, _, ap4, ap5, _, _, ap6⟩
      · exact absurd e (h i hi)
      have hfg := ap6 (by omega)
      have hif : i = fp := by
        by_cases h : i < fp
        · exact absurd e (ap4 i h)
        · by_cases h2 : gp < i
          · exact absurd e (ap5 i h2 hi)
          · omega
      refine ⟨noI i (by omega), cnt_none fun j hj ej => ?_⟩
      rcases st with ⟨_, _, _, h⟩ | ⟨at0, ft, gt, at1, at2, _, _, at3, _, at4, at5, _, _, at6⟩
      · exact h j (by omega) ej
      · by_cases h : j < ft
        · exact at4 j h ej
        · omega
    · intro e
      rcases st with ⟨_, _, _, h⟩ | ⟨at0, ft, gt, at1, at2, _, _, at3, _, at4, at5, _, _, at6⟩
      · exact absurd e (h i hi)
      have hfg := at6 (by omega)
      have hif : i = ft := by
        by_cases h : i < ft
        · exact absurd e (at4 i h)
        · by_cases h2 : gt < i
          · exact absurd e (at5 i h2 hi)
          · omega
      exact noI i (by omega)
  · rintro ⟨hok, rfl, rfl, hd, hp, ht⟩
    rcases sh with ⟨h, _⟩ | ⟨_, fh, gh, rfl, rfl, _, ah0, ah3, _, ah4, ah5, _, _, ah6⟩
    · omega
    rcases se with ⟨h, _⟩ | ⟨_, fe, ge, rfl, rfl, _, ae0, ae3, _, ae4, ae5, _, _, ae6⟩
    · omega
    rcases sd with ⟨h, _⟩ | ⟨_, fd, gd, rfl, rfl, ad3, ad4, ad5, ad6, ad7, ad8, ad9, ad10, _⟩
    · omega
    obtain rfl := ah6 rfl
    obtain rfl := ae6 rfl
    obtain ⟨h0, hl0⟩ := (hok fh ah0).1 ah3
    obtain ⟨h1, hl1⟩ := (hok fe ae0).2.1 ae3
    subst h0
    have he : fe = l.length - 1 := by omega
    rw [he] at hl1
    have hrun : ∀ m, m ≤ gd - fd → kAt l (gd - m) = sIdat := by
      intro m
      induction m with
      | zero => intro _; exact ad6
      | succ m ih =>
        intro hm
        have := (hok (gd - m) (by omega)).2.2.1 (ih (by omega)) ((cnt_pos l sIdat (gd - m)).2 ⟨fd, by omega, ad5⟩)
        rw [show gd - (m + 1) = gd - m - 1 by omega]
        exact this
    have hcount := ad10.2 fun i ha hb => by
      have := hrun (gd - i) (by omega)
      rwa [show gd - (gd - i) = i by omega] at this
    have hpd : yp < (fd : Int) := by
      rcases sp with ⟨_, h, _⟩ | ⟨_, fp, gp, rfl, rfl, _, _, ap3, _⟩
      · omega
      · have := ((hok fp (by omega)).2.2.2.1 ap3).1
        by_cases h : fd < fp
        · exact absurd ad5 (cnt_zero this h)
        · by_cases h2 : fp = fd
          · rw [h2, ad5] at ap3; exact absurd ap3 d8
          · omega
    have htd : yt < (fd : Int) := by
      rcases st with ⟨_, h, _⟩ | ⟨_, ft, gt, rfl, rfl, _, _, ap3, _⟩
      · omega
      · have := (hok ft (by omega)).2.2.2.2.1 ap3
        by_cases h : fd < ft
        · exact absurd ad5 (cnt_zero this h)
        · by_cases h2 : ft = fd
          · rw [h2, ad5] at ap3; exact absurd ap3 d9
          · omega
    have hpt : xt = 0 ∨ yp < yt := by
      rcases st with ⟨h, _⟩ | ⟨_, ft, gt, rfl, rfl, _, _, at3, _⟩
      · exact .inl h
      · right
        rcases sp with ⟨_, h, _⟩ | ⟨_, fp, gp, rfl, rfl, _, _, ap3, _⟩
        · omega
        · have := ((hok fp (by omega)).2.2.2.1 ap3).2
          by_cases h : ft < fp
          · exact absurd at3 (cnt_zero this h)
          · by_cases h2 : ft = fp
            · rw [← h2, at3] at ap3; exact absurd ap3.symm d10
            · omega
    exact ⟨⟨⟨fun i hi => (hok i hi).2.2.2.2.2, ⟨⟨⟨rfl, rfl, rfl⟩, hl0⟩, rfl, by omega, by omega⟩, hl1⟩, by omega, by omega⟩, ⟨⟨⟨hp, hpd⟩, ht⟩, htd⟩, hpt⟩

theorem order_same (l : List Ck) : orderE l = rorderE l := by
  have h := order_row l
  unfold orderE
  rcases rorder_row l with ⟨e, hr⟩ | ⟨e, hr⟩
  · rw [if_pos (h.2 hr), e]
  · rw [if_neg (fun hh => hr (h.1 hh)), e]
end Go.Proofs.Ytflapcaaaipoeaa
