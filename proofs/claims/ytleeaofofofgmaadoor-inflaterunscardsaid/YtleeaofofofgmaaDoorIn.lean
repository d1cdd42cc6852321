/-
  Streams that are cut, or go on: what is read depends on no bit behind it.
-/
import Derived.Test.YtleeaofofofgmaaDoorIm
namespace Go.Proofs.YtleeaofofofgmaaDoor
open Go.RowKit

theorem agree_le {V V' p q : Nat} (h : V % 2 ^ q = V' % 2 ^ q) (hp : p ≤ q) : V % 2 ^ p = V' % 2 ^ p := by
  have hd : (2:Nat) ^ p ∣ 2 ^ q := Nat.pow_dvd_pow 2 hp
  rw [← Nat.mod_mod_of_dvd V hd, ← Nat.mod_mod_of_dvd V' hd, h]

theorem lowBits_agree {V V' p n q : Nat} (h : V % 2 ^ q = V' % 2 ^ q) (hp : p + n ≤ q) : lowBits V p n = lowBits V' p n := by
  have := agree_le h hp
  unfold lowBits
  rw [← Nat.mod_mul_right_div_self, ← Nat.mod_mul_right_div_self, ← Nat.pow_add, this]

theorem rd_agree {V V' p q : Nat} (h : V % 2 ^ q = V' % 2 ^ q) : ∀ k, p + k ≤ q → rd V p k = rd V' p k := by
  intro k
  induction k with
  | zero => intro _; rfl
  | succ k ih =>
    intro hk
    show 2 * rd V p k + lowBits V (p + k) 1 = 2 * rd V' p k + lowBits V' (p + k) 1
    rw [ih (by omega), lowBits_agree h (by omega)]

structure Gd {α : Type} (x : Rdr α) : Prop where
  mono : ∀ {V L p : Nat} {a : α} {q : Nat}, x V L p = .ok (a, q) → p ≤ q
  fit : ∀ {V L p : Nat} {a : α} {q : Nat}, x V L p = .ok (a, q) → p ≤ L → L % 8 = 0 → q ≤ L
  same : ∀ {V L p : Nat} {a : α} {q V' L' : Nat}, x V L p = .ok (a, q) → q ≤ L' → V % 2 ^ q = V' % 2 ^ q → x V' L' p = .ok (a, q)
  cut : ∀ {V L p : Nat} {a : α} {q V' L' : Nat}, x V L p = .ok (a, q) → p ≤ L' → L' % 8 = 0 → L' < q → V % 2 ^ L' = V' % 2 ^ L' → x V' L' p = .error 2

theorem Gd.ret {α : Type} (a : α) : Gd (ret a) where
  mono h := by cases h; exact Nat.le_refl _
  fit h hp _ := by cases h; exact hp
  same h _ _ := by cases h; rfl
  cut h hp _ hq _ := by cases h; omega

theorem Gd.bad {α : Type} (er : Nat) : Gd (bad er : Rdr α) where
  mono h := by cases h
  fit h := by cases h
  same h := by cases h
  cut h := by cases h

theorem Gd.algn : Gd algn where
  mono h := by cases h; omega
  fit h hp _ := by cases h; omega
  same h _ _ := by cases h; rfl
  cut h hp _ hq _ := by cases h; omega

theorem Gd.tkn (n : Nat) : Gd (tkn n) where
  mono h := by have := tkn_inv h; omega
  fit h hp _ := by have := tkn_inv h; omega
  same h hq hv := by
    obtain ⟨h1, h2, h3⟩ := tkn_inv h
    rw [tkn_ok (by omega), h2, h3, lowBits_agree hv (by omega)]
  cut h hp _ hq hv := by
    obtain ⟨h1, h2, h3⟩ := tkn_inv h
    rw [tkn_err (by omega)]

theorem Gd.andThen {α β : Type} {x : Rdr α} {f : α → Rdr β} (hx : Gd x) (hf : ∀ a, Gd (f a)) : Gd (andThen x f) where
  mono h := by
    obtain ⟨a, m, h1, h2⟩ := then_inv h
    exact Nat.le_trans (hx.mono h1) ((hf a).mono h2)
  fit h hp hL := by
    obtain ⟨a, m, h1, h2⟩ := then_inv h
    exact (hf a).fit h2 (hx.fit h1 hp hL) hL
  same h hq hv := by
    obtain ⟨a, m, h1, h2⟩ := then_inv h
    have h3 := (hf a).mono h2
    rw [then_ok (hx.same h1 (by omega) (agree_le hv h3))]
    exact (hf a).same h2 hq hv
  cut {V L p b q V' L'} h hp hL hq hv := by
    obtain ⟨a, m, h1, h2⟩ := then_inv h
    rcases Nat.lt_or_ge L' m with hm | hm
    · rw [then_err (hx.cut h1 hp hL hm hv)]
    · rw [then_ok (hx.same h1 hm (agree_le hv hm))]
      exact (hf a).cut h2 hm hL hq hv

theorem tkFrom_good (ls : List Int) {V L p : Nat} : ∀ f m {a q : Nat}, tkFrom ls V L p f m = .ok (a, q) → p + m < q ∧ q ≤ L ∧
    (∀ {V' L' : Nat}, q ≤ L' → V % 2 ^ q = V' % 2 ^ q → tkFrom ls V' L' p f m = .ok (a, q)) ∧
    (∀ {V' L' : Nat}, L' < q → V % 2 ^ L' = V' % 2 ^ L' → tkFrom ls V' L' p f m = .error 2) := by
  intro f
  induction f with
  | zero => intro m a q h; cases h
  | succ f ih =>
    intro m a q h
    simp only [tkFrom] at h
    by_cases h1 : tot ls 15 ≤ tot ls m
    · rw [if_pos h1] at h; cases h
    rw [if_neg h1] at h
    by_cases h2 : L < p + m + 1
    · rw [if_pos h2] at h; cases h
    rw [if_neg h2] at h
    by_cases h3 : rd V p (m + 1) < nx ls (m + 1)
    · rw [if_pos h3] at h
      simp only [Except.ok.injEq, Prod.mk.injEq] at h
      obtain ⟨rfl, rfl⟩ := h
      refine ⟨by omega, by omega, fun {V' L'} hq hv => ?_, fun {V' L'} hq hv => ?_⟩
      · simp only [tkFrom]
        have hr := rd_agree hv (p := p) (m + 1) (Nat.le_refl _)
        rw [if_neg h1, if_neg (by omega), ← hr, if_pos h3]
        unfold hitAt
        rw [hr]
      · simp only [tkFrom]
        rw [if_neg h1, if_pos (by omega)]
    · rw [if_neg h3] at h
      obtain ⟨i1, i2, i3, i4⟩ := ih (m + 1) h
      refine ⟨by omega, i2, fun {V' L'} hq hv => ?_, fun {V' L'} hq hv => ?_⟩
      · simp only [tkFrom]
        have hr := rd_agree hv (p := p) (m + 1) (by omega)
        rw [if_neg h1, if_neg (by omega), ← hr, if_neg h3]
        exact i3 hq hv
      · simp only [tkFrom]
        rw [if_neg h1]
        by_cases h4 : L' < p + m + 1
        · rw [if_pos h4]
        · have hr := rd_agree hv (p := p) (m + 1) (by omega)
          rw [if_neg h4, ← hr, if_neg h3]
          exact i4 hq hv

theorem Gd.tk (ls : List Int) : Gd (tk ls) where
  mono h := by have := tkFrom_good ls _ _ h; omega
  fit h _ _ := (tkFrom_good ls _ _ h).2.1
  same h hq hv := (tkFrom_good ls _ _ h).2.2.1 hq hv
  cut h _ _ hq hv := (tkFrom_good ls _ _ h).2.2.2 hq hv

theorem Gd.ite {α : Type} {c : Prop} [Decidable c] {x y : Rdr α} (hx : Gd x) (hy : Gd y) : Gd (if c then x else y) := by
  split <;> assumption

theorem Gd.rung (i lot : Nat) : Gd (rung i lot) := .ite (.ret _) (.andThen (.tkn _) fun _ => .ret _)
theorem Gd.rlen (s : Nat) : Gd (rlen s) := .ite (.bad _) (.ite (.ret _) (.andThen (.rung _ _) fun _ => .ret _))
theorem Gd.rdist (dl : List Int) (o : Nat) : Gd (rdist dl o) := .andThen (.tk _) fun _ => .ite (.bad _) (.andThen (.rung _ _) fun _ => .ite (.bad _) (.ret _))
theorem Gd.word (ll dl : List Int) (o : Nat) : Gd (word ll dl o) :=
  .andThen (.tk _) fun _ => .ite (.ret _) (.ite (.ret _) (.andThen (.rlen _) fun _ => .andThen (.rdist _ _) fun _ => .ret _))
theorem Gd.rep (s : Nat) (acc : List Int) : Gd (rep s acc) :=
  .ite (.andThen (.tkn _) fun _ => .ite (.bad _) (.ret _)) (.ite (.andThen (.tkn _) fun _ => .ret _) (.ite (.andThen (.tkn _) fun _ => .ret _) (.ret _)))
theorem Gd.lens (cl : List Int) (n : Nat) : ∀ f acc, Gd (lens cl n f acc) := by
  intro f
  induction f with
  | zero => intro acc; exact .bad _
  | succ f ih => intro acc; exact .ite (.ret _) (.andThen (.tk _) fun _ => .andThen (.rep _ _) fun _ => .ite (.bad _) (ih _))
theorem Gd.told : ∀ k i cl, Gd (told k i cl) := by
  intro k
  induction k with
  | zero => intro i cl; exact .ret _
  | succ k ih => intro i cl; exact .andThen (.tkn _) fun _ => ih _ _
theorem Gd.own : Gd own := .andThen (.tkn _) fun _ => .andThen (.tkn _) fun _ => .andThen (.tkn _) fun _ =>
  .ite (.bad _) (.andThen (.told _ _ _) fun _ => .ite (.andThen (.lens _ _ _ _) fun _ => .ite (.ret _) (.bad _)) (.bad _))
theorem Gd.storedHead : Gd storedHead := .andThen .algn fun _ => .andThen (.tkn _) fun _ => .andThen (.tkn _) fun _ => .ite (.ret _) (.bad _)
theorem Gd.kindOf (k : Nat) : Gd (kindOf k) := .ite (.andThen .storedHead fun _ => .ret _) (.ite (.ret _) (.ite (.andThen .own fun _ => .ret _) (.bad _)))
theorem Gd.head : Gd head := .andThen (.tkn _) fun _ => .andThen (.tkn _) fun _ => .andThen (.kindOf _) fun _ => .ret _

/-- What adv does, told by one reading. -/
theorem adv_read (s : St) : (∃ a, (∀ V L, adv V L s = a) ∧ ∀ s', (a = .go s' ∨ a = .put s') → s'.p = s.p) ∨
    ∃ (α : Type) (x : Rdr α) (k : α → Nat → Ax), Gd x ∧ (∀ a q s', (k a q = .go s' ∨ k a q = .put s') → s'.p = q) ∧ (∀ a q, k a q ≠ .done) ∧ ∀ V L, adv V L s = match x V L s.p with
      | .error er => .fail er
      | .ok (a, q) => k a q := by
  obtain ⟨p, last, out, pl⟩ := s
  cases pl with
  | ahead =>
    by_cases hl : last = true
    · exact Or.inl ⟨.done, fun V L => by simp [adv, hl], fun s' h => by rcases h with h | h <;> cases h⟩
    · refine Or.inr ⟨_, head, fun h q => .go ⟨q, h.1, out, h.2⟩, .head, fun a q s' h => ?_, fun a q h => (by cases h), fun V L => by simp only [adv, hl]; cases head V L p <;> rfl⟩
      rcases h with h | h <;> cases h; rfl
  | stored n =>
    by_cases hn : n = 0
    · exact Or.inl ⟨.go ⟨p, last, out, .ahead⟩, fun V L => by simp [adv, hn], fun s' h => by rcases h with h | h <;> cases h; rfl⟩
    · refine Or.inr ⟨_, tkn 8, fun b q => .put ⟨q, last, out ++ [b], .stored (n - 1)⟩, .tkn _, fun a q s' h => ?_, fun a q h => (by cases h), fun V L => by simp only [adv, hn]; cases tkn 8 V L p <;> rfl⟩
      rcases h with h | h <;> cases h; rfl
  | coded ll dl =>
    refine Or.inr ⟨_, word ll dl out.length, fun y q => match y with
      | .lit b => .put ⟨q, last, out ++ [b], .coded ll dl⟩
      | .fin => .go ⟨q, last, out, .ahead⟩
      | .row n d => .go ⟨q, last, out, .row n d ll dl⟩, .word _ _ _, fun a q s' h => ?_, fun a q h => ?_, fun V L => ?_⟩
    · cases a <;> rcases h with h | h <;> cases h <;> rfl
    · cases a <;> cases h
    · simp only [adv]
      split <;> rename_i h <;> simp only [h]
  | row n d ll dl =>
    exact Or.inl ⟨_, fun V L => rfl, fun s' h => by rcases h with h | h <;> cases h; rfl⟩

theorem adv_mono {V L : Nat} {s s' : St} (h : adv V L s = .go s' ∨ adv V L s = .put s') : s.p ≤ s'.p := by
  rcases adv_read s with ⟨a, ha, hb⟩ | ⟨α, x, k, gx, hk, hd, he⟩
  · rw [hb s' (by rw [ha] at h; exact h)]; exact Nat.le_refl _
  · rw [he] at h
    cases hx : x V L s.p with
    | error er => simp only [hx] at h; rcases h with h | h <;> cases h
    | ok aq =>
      simp only [hx] at h
      rw [hk _ _ _ h]; exact gx.mono hx

theorem adv_same {V L V' L' : Nat} {s s' : St} {a : Ax} (h : adv V L s = a) (ha : a = .go s' ∨ a = .put s') (hq : s'.p ≤ L') (hv : V % 2 ^ s'.p = V' % 2 ^ s'.p) : adv V' L' s = a := by
  rcases adv_read s with ⟨a', ha', hb⟩ | ⟨α, x, k, gx, hk, hd, he⟩
  · rw [ha'] at h ⊢; exact h
  · rw [he] at h ⊢
    cases hx : x V L s.p with
    | error er => simp only [hx] at h; rw [← h] at ha; rcases ha with h | h <;> cases h
    | ok aq =>
      simp only [hx] at h
      have hp := hk aq.1 aq.2 s' (by rw [h]; exact ha)
      rw [gx.same (a := aq.1) (q := aq.2) hx (by omega) (by rw [← hp]; exact hv)]
      exact h

theorem adv_cut {V L V' L' : Nat} {s s' : St} (ha : adv V L s = .go s' ∨ adv V L s = .put s') (hp : s.p ≤ L') (h8 : L' % 8 = 0) (hq : L' < s'.p) (hv : V % 2 ^ L' = V' % 2 ^ L') : adv V' L' s = .fail 2 := by
  rcases adv_read s with ⟨a', ha', hb⟩ | ⟨α, x, k, gx, hk, hd, he⟩
  · rw [ha'] at ha; rw [hb s' ha] at hq; omega
  · rw [he] at ha ⊢
    cases hx : x V L s.p with
    | error er => simp only [hx] at ha; rcases ha with h | h <;> cases h
    | ok aq =>
      simp only [hx] at ha
      have hpp := hk aq.1 aq.2 s' ha
      rw [gx.cut (a := aq.1) (q := aq.2) hx hp h8 (by omega) hv]

theorem adv_done {V L V' L' : Nat} {s : St} (h : adv V L s = .done) : adv V' L' s = .done := by
  rcases adv_read s with ⟨a', ha', hb⟩ | ⟨α, x, k, gx, hk, hd, he⟩
  · rw [ha'] at h ⊢; exact h
  · rw [he] at h
    cases hx : x V L s.p with
    | error er => simp only [hx] at h; cases h
    | ok aq => simp only [hx] at h; exact absurd h (hd _ _)

theorem Runs.pos_le {V L most : Nat} {s : St} {x : List Nat} {p : Nat} (h : Runs V L most s (.ok (x, p))) : s.p ≤ p := by
  generalize hr : (Except.ok (x, p) : Except Nat (List Nat × Nat)) = r at h
  induction h with
  | fail _ => cases hr
  | done h => cases hr; exact Nat.le_refl _
  | go h1 _ ih => exact Nat.le_trans (adv_mono (Or.inl h1)) (ih hr)
  | put h1 _ h2 ih => exact Nat.le_trans (adv_mono (Or.inr h1)) (ih hr)
  | full _ _ => cases hr

/-- Bytes behind a stream are not taken. -/
theorem Runs.same {V L most V' L' : Nat} {s : St} {x : List Nat} {p : Nat} (h : Runs V L most s (.ok (x, p))) (hq : p ≤ L') (hv : V % 2 ^ p = V' % 2 ^ p) : Runs V' L' most s (.ok (x, p)) := by
  generalize hr : (Except.ok (x, p) : Except Nat (List Nat × Nat)) = r at h
  induction h with
  | fail _ => cases hr
  | done h => cases hr; exact .done (adv_done h)
  | go h1 h2 ih =>
    subst hr
    have := h2.pos_le
    exact .go (adv_same h1 (Or.inl rfl) (by omega) (agree_le hv this)) (ih rfl)
  | put h1 h3 h2 ih =>
    subst hr
    have := h2.pos_le
    exact .put (adv_same h1 (Or.inr rfl) (by omega) (agree_le hv this)) h3 (ih rfl)
  | full _ _ => cases hr

/-- A stream that is cut is too short. -/
theorem Runs.cut {V L most V' L' : Nat} {s : St} {x : List Nat} {p : Nat} (h : Runs V L most s (.ok (x, p))) (h8 : L' % 8 = 0) (hs : s.p ≤ L') (hq : L' < p) (hv : V % 2 ^ L' = V' % 2 ^ L') : Runs V' L' most s (.error 2) := by
  generalize hr : (Except.ok (x, p) : Except Nat (List Nat × Nat)) = r at h
  induction h with
  | fail _ => cases hr
  | done h => cases hr; omega
  | @go s s' r' h1 h2 ih =>
    rcases Nat.lt_or_ge L' s'.p with hc | hc
    · exact .fail (adv_cut (Or.inl h1) hs h8 hc hv)
    · exact .go (adv_same h1 (Or.inl rfl) hc (agree_le hv hc)) (ih hc hr)
  | @put s s' r' h1 h3 h2 ih =>
    rcases Nat.lt_or_ge L' s'.p with hc | hc
    · exact .fail (adv_cut (Or.inr h1) hs h8 hc hv)
    · exact .put (adv_same h1 (Or.inr rfl) hc (agree_le hv hc)) h3 (ih hc hr)
  | full _ _ => cases hr

/-- The end lies within the bits, and behind the first three. -/
theorem Runs.end_le {V L most : Nat} {s : St} {x : List Nat} {p : Nat} (h : Runs V L most s (.ok (x, p))) (hL : L % 8 = 0) (hs : s.p ≤ L) : p ≤ L := by
  generalize hr : (Except.ok (x, p) : Except Nat (List Nat × Nat)) = r at h
  have key : ∀ s s' : St, (adv V L s = .go s' ∨ adv V L s = .put s') → s.p ≤ L → s'.p ≤ L := by
    intro s s' ha hs
    rcases adv_read s with ⟨a', ha', hb⟩ | ⟨α, x, k, gx, hk, hd, he⟩
    · rw [hb s' (by rw [ha'] at ha; exact ha)]; exact hs
    · rw [he] at ha
      cases hx : x V L s.p with
      | error er => simp only [hx] at ha; rcases ha with h | h <;> cases h
      | ok aq =>
        simp only [hx] at ha
        rw [hk _ _ _ ha]; exact gx.fit (a := aq.1) (q := aq.2) hx hs hL
  induction h with
  | fail _ => cases hr
  | done h => cases hr; exact hs
  | go h1 h2 ih => exact ih (key _ _ (Or.inl h1) hs) hr
  | put h1 h3 h2 ih => exact ih (key _ _ (Or.inr h1) hs) hr
  | full _ _ => cases hr

theorem Runs.pos_three {V L most : Nat} {x : List Nat} {p : Nat} (h : Runs V L most init (.ok (x, p))) : 3 ≤ p := by
  have hd : adv V L init = match head V L 0 with
    | .error er => .fail er
    | .ok (h, q) => .go ⟨q, h.1, [], h.2⟩ := rfl
  have h3 : ∀ a q, head V L 0 = .ok (a, q) → 3 ≤ q := by
    intro a q h
    obtain ⟨l, m1, h1, h2⟩ := then_inv h
    obtain ⟨k, m2, h3, h4⟩ := then_inv h2
    have e1 := tkn_inv h1
    have e2 := tkn_inv h3
    have := (Gd.andThen (.kindOf k) fun pl => .ret (decide (l = 1), pl)).mono h4
    omega
  cases h with
  | done h => rw [hd] at h; split at h <;> cases h
  | go h1 h2 =>
    rw [hd] at h1
    split at h1
    · cases h1
    · next a q hh =>
      cases h1
      have := h3 _ _ hh
      have := h2.pos_le
      simp only at this
      omega
  | put h1 _ _ => rw [hd] at h1; split at h1 <;> cases h1
end Go.Proofs.YtleeaofofofgmaaDoor
