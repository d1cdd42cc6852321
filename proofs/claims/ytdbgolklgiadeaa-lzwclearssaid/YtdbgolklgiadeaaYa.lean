/-
  lzw: the Reader's steps come to what codes say. Plain mathematics.
-/
import Derived.Test.YtdbgolklgiadeaaXx
namespace Go.Proofs.Ytdbgolklgiadeaa
open Go.RowKit

/-- The values of a row that are put out from f on, n of them. -/
def fut : List Nat → Nat → Nat → List Nat
  | _, _, 0 => []
  | out, f, n + 1 => out.getD f 0 :: fut (out ++ [out.getD f 0]) (f + 1) n

theorem fut_length (n : Nat) : ∀ (out : List Nat) (f : Nat), (fut out f n).length = n := by
  induction n with
  | zero => intro out f; rfl
  | succ n ih => intro out f; simp [fut, ih]

theorem drop_getD (out : List Nat) (f : Nat) (h : f < out.length) : out.drop f = out.getD f 0 :: out.drop (f + 1) := by
  rw [List.drop_eq_getElem_cons h]
  simp [List.getD, List.getElem?_eq_getElem h]

theorem fut_lo (n : Nat) : ∀ (out : List Nat) (f : Nat), f + n ≤ out.length → fut out f n = (out.drop f).take n := by
  induction n with
  | zero => intro out f _; simp [fut]
  | succ n ih =>
    intro out f h
    rw [fut, ih _ _ (by simp; omega), drop_getD out f (by omega), List.take_succ_cons, List.drop_append_of_le_length (by omega), List.take_append_of_le_length (by simp; omega)]

theorem fut_hi (n : Nat) (out : List Nat) (f : Nat) (h : f + n = out.length + 1) (h2 : 2 ≤ n) : fut out f n = out.drop f ++ [out.getD f 0] := by
  obtain ⟨m, rfl⟩ : ∃ m, n = m + 1 := ⟨n - 1, by omega⟩
  rw [fut, fut_lo m _ _ (by simp; omega), drop_getD out f (by omega), List.drop_append_of_le_length (by omega), List.take_of_length_le (by simp; omega)]
  rfl

/-- The machine's run. -/
inductive MRuns (V L k most : Nat) : Rq → Except Nat (List Nat) → Prop where
  | fail {q : Rq} {e : Nat} (h : advq V L k most q = .fail e) : MRuns V L k most q (.error e)
  | fin {q : Rq} (h : advq V L k most q = .fin) : MRuns V L k most q (.ok q.out)
  | go {q q' : Rq} {r : Except Nat (List Nat)} (h : advq V L k most q = .go q') (hr : MRuns V L k most q' r) : MRuns V L k most q r
  | put {q q' : Rq} {r : Except Nat (List Nat)} (h : advq V L k most q = .put q') (hr : MRuns V L k most q' r) : MRuns V L k most q r

/-- What a Reader keeps. -/
structure Rok (k most : Nat) (q : Rq) : Prop where
  many : nextN k q.rs.length ≤ 4096
  len : q.out.length ≤ most
  rows : ∀ x ∈ q.rs, 1 ≤ x.2 ∧ x.1 + x.2 ≤ q.out.length + 1 ∧ (q.lt = 0 → x.1 + x.2 ≤ q.out.length)
  last : q.ll ≠ 0 → q.lf + q.ll = q.out.length + q.lt
  none : q.ll = 0 → q.rs = []
  mid : 0 < q.lt → q.fr < q.out.length ∧ q.fr + q.lt ≤ q.out.length + 1
  short : q.ll ≤ q.out.length + 1

/-- How far a Reader is from its end. -/
def mu (L most : Nat) (q : Rq) : Nat := (L + 12 - q.p) * (most + 2) + q.lt

theorem mkq_rs (k : Nat) (q : Rq) : (mkq k q).rs = if q.ll ≠ 0 ∧ nextN k q.rs.length < 4096 then q.rs ++ [(q.lf, q.ll + 1)] else q.rs := by
  unfold mkq; split <;> rfl

theorem mkq_eq (k : Nat) (q : Rq) : mkq k q = { q with rs := (mkq k q).rs } := by
  unfold mkq; split <;> rfl

theorem mkq_many {k most : Nat} {q : Rq} (h : Rok k most q) : nextN k (mkq k q).rs.length ≤ 4096 := by
  have := h.many
  rw [mkq_rs]
  split
  · next hc => unfold nextN at *; simp; omega
  · exact this

theorem mkq_rows {k most : Nat} {q : Rq} (h : Rok k most q) (h0 : q.lt = 0) : ∀ x ∈ (mkq k q).rs, 1 ≤ x.2 ∧ x.1 + x.2 ≤ q.out.length + 1 := by
  intro x hx
  rw [mkq_rs] at hx
  split at hx
  · next hc =>
    rcases List.mem_append.1 hx with hx | hx
    · exact ⟨(h.rows x hx).1, (h.rows x hx).2.1⟩
    · have := h.last hc.1
      simp at hx
      subst hx
      exact ⟨by simp, by simp; omega⟩
  · exact ⟨(h.rows x hx).1, (h.rows x hx).2.1⟩

theorem Rok.atP {k most : Nat} {q : Rq} (h : Rok k most q) (p : Nat) : Rok k most { q with p := p } := ⟨h.many, h.len, h.rows, h.last, h.none, h.mid, h.short⟩

theorem Rok.bd {k most : Nat} {q : Rq} (h : Rok k most q) (hm : most ≤ 999990) : Rbd k q := by
  have hl := h.len
  refine ⟨fun h0 => ?_, fun x hx => ?_⟩
  · have := h.mid h0
    exact ⟨this.1, by omega⟩
  · rw [mkq_rs] at hx
    split at hx
    · next hc =>
      rcases List.mem_append.1 hx with hx | hx
      · have := (h.rows x hx).2.1
        omega
      · have h1 := h.short
        simp at hx
        subst hx
        show q.ll + 1 ≤ 1000000
        omega
    · have := (h.rows x hx).2.1
      omega

/-- A byte of a row. -/
theorem Rok.byte {k most : Nat} {q : Rq} (b : Nat) (h : Rok k most q) (h0 : 0 < q.lt) (hm : q.out.length < most) : Rok k most { q with fr := q.fr + 1, lt := q.lt - 1, out := q.out ++ [b] } := by
  have h1 := h.mid h0
  refine ⟨h.many, by simp; omega, fun x hx => ?_, fun hc => ?_, h.none, fun hc => ?_, by have := h.short; simp; omega⟩
  · have := h.rows x hx
    exact ⟨this.1, by simp; omega, fun _ => by simp; omega⟩
  · have := h.last hc
    simp
    omega
  · simp
    omega

/-- A value. -/
theorem Rok.value {k most : Nat} {q : Rq} (b : Nat) (h : Rok k most q) (h0 : q.lt = 0) (hm : q.out.length < most) : Rok k most { mkq k q with lf := q.out.length, ll := 1, out := q.out ++ [b] } := by
  rw [mkq_eq]
  refine ⟨mkq_many h, by simp; omega, fun x hx => ?_, fun hc => by simp [h0], fun hc => by simp at hc, fun hc => by simp [h0] at hc, by simp⟩
  have := mkq_rows h h0 x hx
  exact ⟨this.1, by simp; omega, fun _ => by simp; omega⟩

/-- A row begins. -/
theorem Rok.begun {k most : Nat} {q : Rq} {f l c : Nat} (h : Rok k most q) (h0 : q.lt = 0) (hx : (mkq k q).rs[c]? = some (f, l)) : Rok k most { mkq k q with fr := f, lt := l, lf := q.out.length, ll := l } := by
  rw [mkq_eq]
  have hmem : (f, l) ∈ (mkq k q).rs := List.mem_of_getElem? hx
  have hr := mkq_rows h h0 _ hmem
  refine ⟨mkq_many h, h.len, fun x hx => ?_, fun hc => rfl, fun hc => ?_, fun hc => ?_, by simp at hr; show l ≤ q.out.length + 1; omega⟩
  · have := mkq_rows h h0 x hx
    exact ⟨this.1, this.2, fun e => by have e2 : l = 0 := e; omega⟩
  · have e2 : l = 0 := hc
    simp at hr
    omega
  · simp at hr ⊢
    refine ⟨?_, by omega⟩
    rw [mkq_rs] at hmem
    split at hmem
    · next hc =>
      rcases List.mem_append.1 hmem with hm | hm
      · have := (h.rows _ hm).2.2 h0
        simp at this
        omega
      · have h3 := h.last hc.1
        simp at hm
        omega
    · have := (h.rows _ hmem).2.2 h0
      simp at this
      omega

/-- A Clear. -/
theorem Rok.clear {k most : Nat} {q : Rq} (h : Rok k most q) (h0 : q.lt = 0) : Rok k most { q with rs := [], lf := 0, ll := 0 } := by
  refine ⟨?_, h.len, fun x hx => by simp at hx, fun hc => by simp at hc, fun _ => rfl, fun hc => by simp [h0] at hc, by simp⟩
  have := h.many
  unfold nextN at *
  simp
  omega

theorem mu_code {L most k : Nat} {q q' : Rq} (hp : q'.p = q.p + wid k q.rs.length) (hk : 2 ≤ k ∧ k ≤ 8) (hL : q.p + wid k q.rs.length ≤ L) (hl : q'.lt ≤ most + 1) : mu L most q' < mu L most q := by
  unfold mu
  have hw := wid_le k hk q.rs.length
  rw [hp]
  obtain ⟨A, hA⟩ : ∃ A, A = L + 12 - (q.p + wid k q.rs.length) := ⟨_, rfl⟩
  obtain ⟨d, hd, hd2⟩ : ∃ d, L + 12 - q.p = A + 1 + d ∧ 0 ≤ d := ⟨L + 12 - q.p - A - 1, by omega, by omega⟩
  rw [← hA, hd]
  have : (A + 1 + d) * (most + 2) = A * (most + 2) + (most + 2) + d * (most + 2) := by rw [Nat.add_mul, Nat.add_mul, Nat.one_mul]
  omega

/-- Each step keeps it, and comes nearer to the end. -/
theorem advq_on {V L k most : Nat} {q : Rq} (hk : 2 ≤ k ∧ k ≤ 8) (h : Rok k most q) : ∀ q', advq V L k most q = .go q' ∨ advq V L k most q = .put q' → Rok k most q' ∧ mu L most q' < mu L most q := by
  intro q' hq
  unfold advq at hq
  by_cases h0 : 0 < q.lt
  · rw [if_pos h0] at hq
    unfold putq at hq
    split at hq
    · rcases hq with hq | hq <;> cases hq
    · next hf =>
      rcases hq with hq | hq
      · cases hq
      · simp at hf
        injection hq with hq
        subst hq
        refine ⟨h.byte _ h0 (by omega), ?_⟩
        unfold mu
        simp
        omega
  rw [if_neg h0] at hq
  have h0' : q.lt = 0 := by omega
  split at hq
  · rcases hq with hq | hq <;> cases hq
  next hL =>
  unfold tkq at hq
  have hm := h.atP (q.p + wid k q.rs.length)
  have hl := h.len
  split at hq
  · rcases hq with hq | hq
    · injection hq with hq
      subst hq
      exact ⟨hm.clear h0', mu_code (by rfl) hk (by omega) (by simp [h0'])⟩
    · cases hq
  split at hq
  · rcases hq with hq | hq <;> cases hq
  split at hq
  · unfold putq at hq
    split at hq
    · rcases hq with hq | hq <;> cases hq
    · next hf =>
      rcases hq with hq | hq
      · cases hq
      · injection hq with hq
        subst hq
        have e : (mkq k { q with p := q.p + wid k q.rs.length }).out = q.out := by rw [mkq_eq]
        have e2 : (mkq k { q with p := q.p + wid k q.rs.length }).lt = q.lt := by rw [mkq_eq]
        have e3 : (mkq k { q with p := q.p + wid k q.rs.length }).p = q.p + wid k q.rs.length := by rw [mkq_eq]
        have hf' : ¬ most ≤ q.out.length := by rw [← e]; exact hf
        refine ⟨?_, mu_code e3 hk (by omega) (by show (mkq k _).lt ≤ _; rw [e2]; omega)⟩
        have := hm.value (lowBits V q.p (wid k q.rs.length)) h0' (by show q.out.length < most; omega)
        show Rok k most { mkq k { q with p := q.p + wid k q.rs.length } with lf := q.out.length, ll := 1, out := (mkq k { q with p := q.p + wid k q.rs.length }).out ++ [lowBits V q.p (wid k q.rs.length)] }
        rw [e]
        exact this
  · split at hq
    · rcases hq with hq | hq <;> cases hq
    · next f l hx =>
      rcases hq with hq | hq
      · injection hq with hq
        subst hq
        refine ⟨hm.begun h0' hx, ?_⟩
        have e3 : (mkq k { q with p := q.p + wid k q.rs.length }).p = q.p + wid k q.rs.length := by rw [mkq_eq]
        have hr := mkq_rows hm h0' _ (List.mem_of_getElem? hx)
        refine mu_code e3 hk (by omega) ?_
        simp at hr ⊢
        omega
      · cases hq

/-- A run comes to its end. -/
theorem MRuns.ends {V L k most : Nat} (hk : 2 ≤ k ∧ k ≤ 8) (n : Nat) : ∀ (q : Rq), Rok k most q → mu L most q < n → ∃ r, MRuns V L k most q r := by
  induction n with
  | zero => intro q _ hn; omega
  | succ n ih =>
    intro q h hn
    have ho := advq_on (V := V) (L := L) hk h
    cases hq : advq V L k most q with
    | fail e => exact ⟨_, .fail hq⟩
    | fin => exact ⟨_, .fin hq⟩
    | go q' =>
      obtain ⟨h1, h2⟩ := ho q' (Or.inl hq)
      obtain ⟨r, hr⟩ := ih q' h1 (by omega)
      exact ⟨r, .go hq hr⟩
    | put q' =>
      obtain ⟨h1, h2⟩ := ho q' (Or.inr hq)
      obtain ⟨r, hr⟩ := ih q' h1 (by omega)
      exact ⟨r, .put hq hr⟩

theorem MRuns.of_fail {V L k most e : Nat} {q : Rq} {r : Except Nat (List Nat)} (h : MRuns V L k most q r) (hq : advq V L k most q = .fail e) : r = .error e := by
  cases h with
  | fail h => rw [hq] at h; injection h with h; rw [h]
  | fin h => rw [hq] at h; cases h
  | go h => rw [hq] at h; cases h
  | put h => rw [hq] at h; cases h

theorem MRuns.of_fin {V L k most : Nat} {q : Rq} {r : Except Nat (List Nat)} (h : MRuns V L k most q r) (hq : advq V L k most q = .fin) : r = .ok q.out := by
  cases h with
  | fail h => rw [hq] at h; cases h
  | fin h => rfl
  | go h => rw [hq] at h; cases h
  | put h => rw [hq] at h; cases h

theorem MRuns.of_go {V L k most : Nat} {q q' : Rq} {r : Except Nat (List Nat)} (h : MRuns V L k most q r) (hq : advq V L k most q = .go q') : MRuns V L k most q' r := by
  cases h with
  | fail h => rw [hq] at h; cases h
  | fin h => rw [hq] at h; cases h
  | go h hr => rw [hq] at h; injection h with h; rw [h]; exact hr
  | put h => rw [hq] at h; cases h

theorem MRuns.of_put {V L k most : Nat} {q q' : Rq} {r : Except Nat (List Nat)} (h : MRuns V L k most q r) (hq : advq V L k most q = .put q') : MRuns V L k most q' r := by
  cases h with
  | fail h => rw [hq] at h; cases h
  | fin h => rw [hq] at h; cases h
  | go h => rw [hq] at h; cases h
  | put h hr => rw [hq] at h; injection h with h; rw [h]; exact hr

/-- The bytes of a row. -/
theorem MRuns.bytes {V L k most : Nat} (n : Nat) : ∀ (q : Rq) (r : Except Nat (List Nat)), MRuns V L k most q r → q.lt = n →
    (q.out.length + n ≤ most → MRuns V L k most { q with fr := q.fr + n, lt := 0, out := q.out ++ fut q.out q.fr n } r) ∧ (most < q.out.length + n → q.out.length ≤ most → r = .error 6) := by
  induction n with
  | zero =>
    intro q r h hn
    refine ⟨fun _ => ?_, fun h1 h2 => by omega⟩
    have e : ({ q with fr := q.fr + 0, lt := 0, out := q.out ++ fut q.out q.fr 0 } : Rq) = q := by
      cases q
      simp [fut] at hn ⊢
      exact hn.symm
    rw [e]
    exact h
  | succ n ih =>
    intro q r h hn
    by_cases hf : most ≤ q.out.length
    · have hq : advq V L k most q = .fail 6 := by
        unfold advq putq
        rw [if_pos (by omega), if_pos hf]
      exact ⟨fun h1 => by omega, fun _ _ => h.of_fail hq⟩
    · have hq : advq V L k most q = .put { q with fr := q.fr + 1, lt := q.lt - 1, out := q.out ++ [q.out.getD q.fr 0] } := by
        unfold advq putq
        rw [if_pos (by omega), if_neg hf]
      have h2 := ih _ r (h.of_put hq) (by show q.lt - 1 = n; omega)
      refine ⟨fun h1 => ?_, fun h1 h3 => h2.2 (by simp; omega) (by simp; omega)⟩
      have h4 := h2.1 (by simp; omega)
      have e : ({ q with fr := q.fr + (n + 1), lt := 0, out := q.out ++ fut q.out q.fr (n + 1) } : Rq) = { q with fr := q.fr + 1 + n, lt := 0, out := q.out ++ [q.out.getD q.fr 0] ++ fut (q.out ++ [q.out.getD q.fr 0]) (q.fr + 1) n } := by
        simp [fut]
        omega
      rw [e]
      exact h4

/-- Where the reading stands. -/
def zs (q : Rq) : Zs := ⟨q.p, q.rs.map (fun x => (q.out.drop x.1).take x.2), (q.out.drop q.lf).take q.ll, q.out⟩

theorem last_nil {k most : Nat} {q : Rq} (h : Rok k most q) (h0 : q.lt = 0) : (q.out.drop q.lf).take q.ll = [] ↔ q.ll = 0 := by
  constructor
  · intro e
    by_cases hc : q.ll = 0
    · exact hc
    · have := h.last hc
      have e2 := congrArg List.length e
      simp at e2
      omega
  · intro e; rw [e]; simp

/-- The row that a code means is what is put out. -/
theorem rowOf_zs {k most : Nat} {q : Rq} (h : Rok k most q) (h0 : q.lt = 0) (c : Nat) (hc : c < 4096) (h1 : ¬ c < 2 ^ k) (h2 : c ≠ 2 ^ k) (h3 : c ≠ 2 ^ k + 1) :
    rowOf k c (zs q) = ((mkq k q).rs[c - (2 ^ k + 2)]?).map (fun x => fut q.out x.1 x.2) := by
  unfold rowOf
  rw [if_neg h1]
  by_cases hl : q.ll = 0
  · rw [if_pos (show (zs q).last = [] from (last_nil h h0).2 hl), mkq_rs, if_neg (by simp [hl]), h.none hl]
    simp
  rw [if_neg (fun e : (zs q).last = [] => hl ((last_nil h h0).1 e))]
  have hlast := h.last hl
  have hlen : (zs q).rows.length = q.rs.length := by simp [zs]
  rw [hlen]
  have hold : ∀ i, i < q.rs.length → (zs q).rows[i]? = (q.rs[i]?).map (fun x => fut q.out x.1 x.2) := by
    intro i hi
    show (q.rs.map (fun x => (q.out.drop x.1).take x.2))[i]? = _
    rw [List.getElem?_map, List.getElem?_eq_getElem hi]
    simp only [Option.map_some]
    rw [fut_lo _ _ _ ((h.rows _ (List.getElem_mem hi)).2.2 h0)]
  have hmany := h.many
  by_cases hn : nextN k q.rs.length < 4096
  · have hmr : (mkq k q).rs = q.rs ++ [(q.lf, q.ll + 1)] := by rw [mkq_rs, if_pos ⟨hl, hn⟩]
    rw [hmr]
    by_cases h4 : nextN k q.rs.length < c
    · rw [if_pos h4, List.getElem?_eq_none]
      · rfl
      · unfold nextN at h4
        simp
        omega
    rw [if_neg h4]
    by_cases h5 : c = nextN k q.rs.length
    · rw [if_pos h5]
      have e : c - (2 ^ k + 2) = q.rs.length := by unfold nextN at h5; omega
      rw [e, List.getElem?_append_right (Nat.le_refl _), Nat.sub_self]
      simp only [List.getElem?_cons_zero, Option.map_some]
      rw [fut_hi _ _ _ (by omega) (by omega)]
      have e2 : (zs q).last = q.out.drop q.lf := by
        show (q.out.drop q.lf).take q.ll = _
        rw [List.take_of_length_le (by simp; omega)]
      rw [e2, drop_getD q.out q.lf (by omega)]
      rfl
    · rw [if_neg h5]
      have e : c - 2 ^ k - 2 = c - (2 ^ k + 2) := by omega
      have hi : c - (2 ^ k + 2) < q.rs.length := by unfold nextN at h4 h5; omega
      rw [e, hold _ hi, List.getElem?_append_left hi]
  · have hmr : (mkq k q).rs = q.rs := by rw [mkq_rs, if_neg (fun e => hn e.2)]
    rw [hmr]
    have e4 : nextN k q.rs.length = 4096 := by omega
    rw [if_neg (by omega), if_neg (by omega)]
    have e : c - 2 ^ k - 2 = c - (2 ^ k + 2) := by omega
    have hi : c - (2 ^ k + 2) < q.rs.length := by unfold nextN at e4; omega
    rw [e, hold _ hi]

/-- The rows behind a code. -/
theorem made_zs {k most : Nat} {q : Rq} (h : Rok k most q) (h0 : q.lt = 0) (x : List Nat) (hx : x ≠ []) :
    (mkq k q).rs.map (fun y => ((q.out ++ x).drop y.1).take y.2) = made k (zs q) x := by
  have hlen : (zs q).rows.length = q.rs.length := by simp [zs]
  have hold : q.rs.map (fun y => ((q.out ++ x).drop y.1).take y.2) = (zs q).rows := by
    show _ = q.rs.map (fun y => (q.out.drop y.1).take y.2)
    refine List.map_congr_left fun y hy => ?_
    have := (h.rows y hy).2.2 h0
    rw [List.drop_append_of_le_length (by omega), List.take_append_of_le_length (by simp; omega)]
  unfold made
  rw [hlen, mkq_rs]
  by_cases hc : q.ll ≠ 0 ∧ nextN k q.rs.length < 4096
  · rw [if_pos hc, if_pos ⟨fun e => hc.1 ((last_nil h h0).1 e), hc.2⟩, List.map_append, hold]
    have hlast := h.last hc.1
    obtain ⟨a, t, rfl⟩ := List.exists_cons_of_ne_nil hx
    simp only [List.map_cons, List.map_nil]
    rw [List.drop_append_of_le_length (by omega)]
    have e2 : (zs q).last = q.out.drop q.lf := by
      show (q.out.drop q.lf).take q.ll = _
      rw [List.take_of_length_le (by simp; omega)]
    have e3 : q.ll + 1 = (q.out.drop q.lf).length + 1 := by simp; omega
    rw [e2, e3, List.take_length_add_append]
    simp
  · rw [if_neg hc, if_neg (fun e => hc ⟨fun e2 => e.1 ((last_nil h h0).2 e2), e.2⟩), hold]

/-- The machine's run is what the codes say. -/
theorem MRuns.zruns {V L k most : Nat} (hk : 2 ≤ k ∧ k ≤ 8) (n : Nat) : ∀ (q : Rq) (r : Except Nat (List Nat)), Rok k most q → q.lt = 0 → mu L most q < n → MRuns V L k most q r → ZRuns V L k most (zs q) r := by
  induction n with
  | zero => intro q r _ _ hn; omega
  | succ n ih =>
    intro q r h h0 hn hr
    have hlen : (zs q).rows.length = q.rs.length := by simp [zs]
    have hp : (zs q).p = q.p := rfl
    have hon := advq_on (V := V) (L := L) hk h
    by_cases hL : L < q.p + wid k q.rs.length
    · have hq : advq V L k most q = .fail 2 := by
        unfold advq
        rw [if_neg (by omega), if_pos hL]
      rw [hr.of_fail hq]
      exact .short (by rw [hlen]; exact hL)
    have hL' : (zs q).p + wid k (zs q).rows.length ≤ L := by rw [hlen, hp]; omega
    obtain ⟨c, hc⟩ : ∃ c, c = lowBits V q.p (wid k q.rs.length) := ⟨_, rfl⟩
    have hca : codeAt V k (zs q) = c := by rw [hc]; unfold codeAt; rw [hlen]; rfl
    have hc4 : c < 4096 := by
      have hw := wid_le k hk q.rs.length
      have h3 : c < 2 ^ wid k q.rs.length := by
        rw [hc]
        unfold lowBits
        exact Nat.mod_lt _ (Nat.two_pow_pos _)
      have h4 : 2 ^ wid k q.rs.length ≤ 2 ^ 12 := Nat.pow_le_pow_right (by omega) hw.2
      omega
    have hq : advq V L k most q = tkq k most c { q with p := q.p + wid k q.rs.length } := by
      unfold advq
      rw [if_neg (by omega), if_neg hL, hc]
    obtain ⟨q1, hq1⟩ : ∃ q1 : Rq, q1 = { q with p := q.p + wid k q.rs.length } := ⟨_, rfl⟩
    have h1 : Rok k most q1 := by rw [hq1]; exact h.atP _
    have h10 : q1.lt = 0 := by rw [hq1]; exact h0
    have ho1 : q1.out = q.out := by rw [hq1]
    have hmk : (mkq k q1).rs = (mkq k q).rs := by rw [mkq_rs, mkq_rs, hq1]
    rw [← hq1] at hq
    unfold tkq at hq
    by_cases c1 : c = 2 ^ k
    · rw [if_pos c1] at hq
      have h2 := hon _ (Or.inl hq)
      have h3 := ih _ r h2.1 h10 (by omega) (hr.of_go hq)
      refine .clear hL' (by rw [hca]; exact c1) ?_
      have e : zs { q1 with rs := [], lf := 0, ll := 0 } = ⟨(zs q).p + wid k (zs q).rows.length, [], [], (zs q).out⟩ := by
        rw [hlen, hq1]
        simp [zs]
      rw [e] at h3
      exact h3
    rw [if_neg c1] at hq
    by_cases c2 : c = 2 ^ k + 1
    · rw [if_pos c2] at hq
      rw [hr.of_fin hq]
      exact .fin hL' (by rw [hca]; exact c2)
    rw [if_neg c2] at hq
    by_cases c3 : c < 2 ^ k
    · rw [if_pos c3] at hq
      have hx : rowOf k (codeAt V k (zs q)) (zs q) = some [c] := by
        rw [hca]
        unfold rowOf
        rw [if_pos c3]
      unfold putq at hq
      have eo : (mkq k q1).out = q.out := by rw [mkq_eq]; exact ho1
      by_cases hf : most ≤ q.out.length
      · rw [if_pos (by rw [eo]; exact hf)] at hq
        rw [hr.of_fail hq]
        exact .full hL' (by rw [hca]; exact c1) (by rw [hca]; exact c2) hx (by show most < q.out.length + 1; omega)
      · rw [if_neg (by rw [eo]; exact hf)] at hq
        have h2 := hon _ (Or.inr hq)
        have h3 := ih _ r h2.1 (by show (mkq k q1).lt = 0; rw [mkq_eq]; exact h10) (by omega) (hr.of_put hq)
        refine .row hL' (by rw [hca]; exact c1) (by rw [hca]; exact c2) hx (by show q.out.length + 1 ≤ most; omega) ?_
        have hm := made_zs h h0 [c] (by simp)
        have e : onward k (zs q) [c] = ⟨q.p + wid k q.rs.length, (mkq k q).rs.map (fun y => ((q.out ++ [c]).drop y.1).take y.2), [c], q.out ++ [c]⟩ := by
          unfold onward
          rw [hm, hlen]
          rfl
        have e2 : zs { mkq k q1 with lf := q1.out.length, ll := 1, out := (mkq k q1).out ++ [c] } = ⟨q.p + wid k q.rs.length, (mkq k q).rs.map (fun y => ((q.out ++ [c]).drop y.1).take y.2), [c], q.out ++ [c]⟩ := by
          have ep : (mkq k q1).p = q.p + wid k q.rs.length := by rw [mkq_eq, hq1]
          unfold zs
          simp only [hmk, eo, ho1, ep]
          simp
        rw [e]
        rw [← e2]
        exact h3
    rw [if_neg c3] at hq
    have hrow := rowOf_zs h h0 c hc4 c3 c1 c2
    rw [← hmk] at hrow
    cases hx : (mkq k q1).rs[c - (2 ^ k + 2)]? with
    | none =>
      rw [hx] at hq hrow
      rw [hr.of_fail hq]
      exact .form hL' (by rw [hca]; exact c1) (by rw [hca]; exact c2) (by rw [hca, hrow]; rfl)
    | some fl =>
      obtain ⟨f, l⟩ := fl
      rw [hx] at hq hrow
      simp only at hq
      simp only [Option.map_some] at hrow
      have h2 := hon _ (Or.inl hq)
      have hb := MRuns.bytes l _ r (hr.of_go hq) rfl
      have eo : (mkq k q1).out = q.out := by rw [mkq_eq]; exact ho1
      have ep : (mkq k q1).p = q.p + wid k q.rs.length := by rw [mkq_eq, hq1]
      have hrr := mkq_rows h1 h10 _ (List.mem_of_getElem? hx)
      have hfl := fut_length l q.out f
      by_cases hf : q.out.length + l ≤ most
      · have h3 := hb.1 (by show (mkq k q1).out.length + l ≤ most; rw [eo]; exact hf)
        simp only [eo] at h3
        have hmu : mu L most { mkq k q1 with fr := f + l, lt := 0, lf := q1.out.length, ll := l, out := q.out ++ fut q.out f l } ≤ mu L most { mkq k q1 with fr := f, lt := l, lf := q1.out.length, ll := l } := by
          unfold mu
          simp
        have hrok : Rok k most { mkq k q1 with fr := f + l, lt := 0, lf := q1.out.length, ll := l, out := q.out ++ fut q.out f l } := by
          rw [mkq_eq]
          refine ⟨mkq_many h1, by simp [hfl]; omega, fun x hx => ?_, fun hc => by simp [hfl, ho1], fun hc => ?_, fun hc => by simp at hc, by simp [hfl]; omega⟩
          · have := mkq_rows h1 h10 x hx
            rw [ho1] at this
            simp at hrr
            exact ⟨this.1, by simp [hfl]; omega, fun _ => by simp [hfl]; omega⟩
          · have e2 : l = 0 := hc
            simp at hrr
            omega
        have h4 := ih _ r hrok rfl (Nat.lt_of_le_of_lt hmu (Nat.lt_of_lt_of_le h2.2 (Nat.le_of_lt_succ hn))) h3
        refine .row hL' (by rw [hca]; exact c1) (by rw [hca]; exact c2) (by rw [hca]; exact hrow) (by show q.out.length + (fut q.out f l).length ≤ most; rw [hfl]; exact hf) ?_
        have hne : fut q.out f l ≠ [] := by
          intro e
          rw [e] at hfl
          simp at hrr hfl
          omega
        have hm := made_zs h h0 (fut q.out f l) hne
        have e : onward k (zs q) (fut q.out f l) = ⟨q.p + wid k q.rs.length, (mkq k q).rs.map (fun y => ((q.out ++ fut q.out f l).drop y.1).take y.2), fut q.out f l, q.out ++ fut q.out f l⟩ := by
          unfold onward
          rw [hm, hlen]
          rfl
        have e2 : zs { mkq k q1 with fr := f + l, lt := 0, lf := q1.out.length, ll := l, out := q.out ++ fut q.out f l } = ⟨q.p + wid k q.rs.length, (mkq k q).rs.map (fun y => ((q.out ++ fut q.out f l).drop y.1).take y.2), fut q.out f l, q.out ++ fut q.out f l⟩ := by
          unfold zs
          simp only [hmk, ho1, ep]
          simp
          exact List.take_of_length_le (by omega)
        rw [e, ← e2]
        exact h4
      · have h3 := hb.2 (by show most < (mkq k q1).out.length + l; rw [eo]; omega) (by show (mkq k q1).out.length ≤ most; rw [eo]; exact h.len)
        rw [h3]
        exact .full hL' (by rw [hca]; exact c1) (by rw [hca]; exact c2) (by rw [hca]; exact hrow) (by show most < q.out.length + (fut q.out f l).length; rw [hfl]; omega)

theorem rq0_ok (k most : Nat) (hk : 2 ≤ k ∧ k ≤ 8) : Rok k most rq0 := by
  refine ⟨?_, by simp, fun x hx => by simp at hx, fun hc => by simp at hc, fun _ => rfl, fun hc => by simp at hc, by simp⟩
  have := Nat.pow_le_pow_right (n := 2) (by omega) hk.2
  simp [nextN]
  omega

/-- The whole: there is an answer, the machine comes to it, and it is what the codes say. -/
theorem read_mruns (bs : List Nat) (k most : Nat) (hk : 2 ≤ k ∧ k ≤ 8) : ∃ r, MRuns (leNum bs) (8 * bs.length) k most rq0 r ∧ ZRuns (leNum bs) (8 * bs.length) k most zinit r := by
  obtain ⟨r, hr⟩ := MRuns.ends (V := leNum bs) (L := 8 * bs.length) hk _ rq0 (rq0_ok k most hk) (Nat.lt_succ_self _)
  exact ⟨r, hr, hr.zruns hk _ rq0 r (rq0_ok k most hk) rfl (Nat.lt_succ_self _)⟩
end Go.Proofs.Ytdbgolklgiadeaa
