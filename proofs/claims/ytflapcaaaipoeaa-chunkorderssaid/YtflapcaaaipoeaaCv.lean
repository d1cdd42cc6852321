/-
  chunk: what was joined is cut.
-/
import Derived.Test.YtflapcaaaipoeaaCu
namespace Go.Proofs.Ytflapcaaaipoeaa
open Go.RowKit Go.Lib
set_option linter.unusedVariables false

/-- A chunk that may be joined. -/
structure GoodC (c : Ck) : Prop where
  kind : kindB c.1 = true
  len : c.2.length ≤ 2147483647
  small : ∀ b ∈ c.2, b < 256

theorem sum_lt (k : ByteArray) (d : List Nat) : sumOf k d < 4294967296 := (crc 0#32 (strBytes k ++ d)).isLt

theorem drop_app {a b : List Nat} {n : Nat} (h : a.length = n) : (a ++ b).drop n = b := by rw [← h, List.drop_left]
theorem take_app {a b : List Nat} {n : Nat} (h : a.length = n) : (a ++ b).take n = a := by rw [← h, List.take_left]

/-- The words of a chunk with four bytes of a sum behind. -/
theorem enc_words {c : Ck} (h : GoodC c) (s4 r : List Nat) (h4 : s4.length = 4) :
    w32 (wd4 c.2.length ++ strBytes c.1 ++ c.2 ++ s4 ++ r) = c.2.length ∧ kindOf (wd4 c.2.length ++ strBytes c.1 ++ c.2 ++ s4 ++ r) = c.1 ∧ dataOf (wd4 c.2.length ++ strBytes c.1 ++ c.2 ++ s4 ++ r) = c.2 ∧
    w32 ((wd4 c.2.length ++ strBytes c.1 ++ c.2 ++ s4 ++ r).drop (8 + c.2.length)) = w32 s4 ∧ (wd4 c.2.length ++ strBytes c.1 ++ c.2 ++ s4 ++ r).drop (12 + c.2.length) = r ∧ (wd4 c.2.length ++ strBytes c.1 ++ c.2 ++ s4 ++ r).length = 12 + c.2.length + r.length := by
  have hk := kind_size h.kind
  have hsb : (strBytes c.1).length = 4 := by rw [strBytes_length, hk]
  have hwl : (wd4 c.2.length).length = 4 := rfl
  have e : wd4 c.2.length ++ strBytes c.1 ++ c.2 ++ s4 ++ r = wd4 c.2.length ++ (strBytes c.1 ++ (c.2 ++ (s4 ++ r))) := by simp only [List.append_assoc]
  have hw : w32 (wd4 c.2.length ++ (strBytes c.1 ++ (c.2 ++ (s4 ++ r)))) = c.2.length := wd4_w32 (by have := h.len; omega) _
  have d4 : (wd4 c.2.length ++ (strBytes c.1 ++ (c.2 ++ (s4 ++ r)))).drop 4 = strBytes c.1 ++ (c.2 ++ (s4 ++ r)) := drop_app hwl
  have d8 : (wd4 c.2.length ++ (strBytes c.1 ++ (c.2 ++ (s4 ++ r)))).drop 8 = c.2 ++ (s4 ++ r) := by
    rw [show 8 = 4 + 4 from rfl, ← List.drop_drop, d4]; exact drop_app hsb
  have d9 : (wd4 c.2.length ++ (strBytes c.1 ++ (c.2 ++ (s4 ++ r)))).drop (8 + c.2.length) = s4 ++ r := by
    rw [← List.drop_drop, d8]; exact drop_app rfl
  have d12 : (wd4 c.2.length ++ (strBytes c.1 ++ (c.2 ++ (s4 ++ r)))).drop (12 + c.2.length) = r := by
    rw [show 12 + c.2.length = 8 + c.2.length + 4 by omega, ← List.drop_drop, d9]; exact drop_app h4
  rw [e]
  refine ⟨hw, ?_, ?_, ?_, d12, ?_⟩
  · unfold kindOf; rw [d4, take_app hsb, strOf_bytes]
  · unfold dataOf; rw [hw, d8, take_app rfl]
  · rw [d9]
    match s4, h4 with
    | [a, b, c', d], _ => rfl
  · simp only [List.length_append, hsb, hwl, h4]; omega

theorem first_enc {c : Ck} (h : GoodC c) (s4 r : List Nat) (h4 : s4.length = 4) : firstE (wd4 c.2.length ++ strBytes c.1 ++ c.2 ++ s4 ++ r) = if w32 s4 ≠ sumOf c.1 c.2 then 5 else 0 := by
  obtain ⟨e1, e2, e3, e4, e5, e6⟩ := enc_words h s4 r h4
  have hl := h.len
  unfold firstE
  rw [e1, e2, e3, e4, e6, if_neg (by omega), if_neg (by rw [h.kind]; simp; omega), if_neg (by omega)]

theorem enc_split (c : Ck) (r : List Nat) : encL c ++ r = wd4 c.2.length ++ strBytes c.1 ++ c.2 ++ wd4 (sumOf c.1 c.2) ++ r := rfl
theorem wd4_sum (k : ByteArray) (d : List Nat) : w32 (wd4 (sumOf k d)) = sumOf k d := by
  have := wd4_w32 (sum_lt k d) []
  rwa [List.append_nil] at this

theorem step_enc {c : Ck} (h : GoodC c) (r : List Nat) : firstE (encL c ++ r) = 0 ∧ kindOf (encL c ++ r) = c.1 ∧ firstK (encL c ++ r) = c ∧ restOf (encL c ++ r) = r ∧ (encL c ++ r).length = 12 + c.2.length + r.length := by
  obtain ⟨e1, e2, e3, e4, e5, e6⟩ := enc_words h (wd4 (sumOf c.1 c.2)) r rfl
  rw [enc_split]
  refine ⟨?_, e2, ?_, ?_, e6⟩
  · rw [first_enc h _ r rfl, wd4_sum, if_neg (fun h => h rfl)]
  · unfold firstK; rw [e2, e3]
  · unfold restOf; rw [e3]; exact e5

/-- A row as a file: no end but the last. -/
def Ends (l : List Ck) : Prop := l ≠ [] ∧ (∀ i, i + 1 < l.length → (l.getD i default).1 ≠ sIend) ∧ (l.getD (l.length - 1) default).1 = sIend

theorem run_join : ∀ (l : List Ck) (tail : List Nat) (f : Nat), (∀ c ∈ l, GoodC c) → Ends l → ((l.map encL).flatten ++ tail).length < f → runC f ((l.map encL).flatten ++ tail) = .ok (l, tail)
  | [], _, _, _, h, _ => absurd rfl h.1
  | c :: l, tail, f, hg, he, hf => by
    have hc := hg c (by simp)
    have e : ((c :: l).map encL).flatten ++ tail = encL c ++ ((l.map encL).flatten ++ tail) := by simp
    obtain ⟨s1, s2, s3, s4, s5⟩ := step_enc hc ((l.map encL).flatten ++ tail)
    rw [e] at hf ⊢
    rw [s5] at hf
    obtain ⟨f', rfl⟩ : ∃ f', f = f' + 1 := ⟨f - 1, by omega⟩
    unfold runC
    rw [s1, if_neg (by simp), s2, s3, s4]
    cases l with
    | nil =>
      have := he.2.2
      simp at this
      rw [if_pos this]
      rfl
    | cons c2 l =>
      have hne : c.1 ≠ sIend := he.2.1 0 (by simp)
      rw [if_neg hne, run_join (c2 :: l) tail f' (fun x hx => hg x (by simp [hx])) ⟨by simp, fun i hi => he.2.1 (i + 1) (by simpa using hi), by simpa using he.2.2⟩ (by omega)]

set_option maxRecDepth 20000 in
theorem take_enc {c : Ck} (h : GoodC c) (r : List Nat) {m : Nat} (hm : m < 12 + c.2.length) : firstE ((encL c ++ r).take m) = 2 := by
  obtain ⟨_, _, _, _, s5⟩ := step_enc h r
  have hlen : ((encL c ++ r).take m).length = m := by rw [List.length_take, s5]; omega
  obtain ⟨e1, e2, _, _, _, _⟩ := enc_words h (wd4 (sumOf c.1 c.2)) r rfl
  rw [← enc_split] at e1 e2
  unfold firstE
  rw [hlen]
  by_cases h12 : m < 12
  · rw [if_pos h12]
  · have hg : ∀ j, j < 4 → ((encL c ++ r).take m).getD j 0 = (encL c ++ r).getD j 0 := fun j hj => by
      rw [List.getD_eq_getElem?_getD, List.getElem?_take, if_pos (by omega), ← List.getD_eq_getElem?_getD]
    have w : w32 ((encL c ++ r).take m) = c.2.length := by
      rw [← e1]; unfold w32; rw [hg 0 (by decide), hg 1 (by decide), hg 2 (by decide), hg 3 (by decide)]
    have k : kindOf ((encL c ++ r).take m) = c.1 := by
      rw [← e2]; unfold kindOf
      rw [List.drop_take, List.take_take, show min 4 (m - 4) = 4 by omega]
    have hl := h.len
    rw [if_neg h12, w, k, if_neg (by rw [h.kind]; simp; omega), if_pos (by omega)]

set_option maxRecDepth 20000 in
theorem run_take : ∀ (l : List Ck) (m f : Nat), (∀ c ∈ l, GoodC c) → Ends l → m < ((l.map encL).flatten).length → m < f → runC f (((l.map encL).flatten).take m) = .error 2
  | [], _, _, _, h, _, _ => absurd rfl h.1
  | c :: l, m, f, hg, he, hm, hf => by
    have hc := hg c (by simp)
    have e : ((c :: l).map encL).flatten = encL c ++ (l.map encL).flatten := by simp
    rw [e] at hm ⊢
    obtain ⟨f', rfl⟩ : ∃ f', f = f' + 1 := ⟨f - 1, by omega⟩
    have hel := encL_length hc.kind
    by_cases h1 : m < 12 + c.2.length
    · unfold runC
      rw [take_enc hc _ h1, if_pos (by decide)]
    · have e2 : (encL c ++ (l.map encL).flatten).take m = encL c ++ ((l.map encL).flatten).take (m - (12 + c.2.length)) := by
        rw [List.take_append, hel, List.take_of_length_le (by omega)]
      rw [List.length_append, hel] at hm
      obtain ⟨s1, s2, s3, s4, s5⟩ := step_enc hc (((l.map encL).flatten).take (m - (12 + c.2.length)))
      rw [e2]
      unfold runC
      rw [s1, if_neg (by simp), s2, s3, s4]
      cases l with
      | nil => simp at hm; omega
      | cons c2 l =>
        have hne : c.1 ≠ sIend := he.2.1 0 (by simp)
        rw [if_neg hne, run_take (c2 :: l) _ f' (fun x hx => hg x (by simp [hx])) ⟨by simp, fun i hi => he.2.1 (i + 1) (by simpa using hi), by simpa using he.2.2⟩ (by omega) (by omega)]

theorem run_bad {c : Ck} (hc : GoodC c) (s4 : List Nat) (h4 : s4.length = 4) (hs : w32 s4 ≠ sumOf c.1 c.2) (l : List Ck) : (∀ x ∈ l, GoodC x) → (∀ x ∈ l, x.1 ≠ sIend) → ∀ f, ((l.map encL).flatten ++ (wd4 c.2.length ++ strBytes c.1 ++ c.2 ++ s4)).length < f → runC f ((l.map encL).flatten ++ (wd4 c.2.length ++ strBytes c.1 ++ c.2 ++ s4)) = .error 5 := by
  obtain ⟨E, hE⟩ : ∃ E, E = wd4 c.2.length ++ strBytes c.1 ++ c.2 ++ s4 := ⟨_, rfl⟩
  have h5 : firstE E = 5 := by
    have := first_enc hc s4 [] h4
    rw [List.append_nil, if_pos hs] at this
    rw [hE]; exact this
  rw [← hE]
  clear hE
  induction l with
  | nil =>
    intro _ _ f hf
    obtain ⟨f', rfl⟩ : ∃ f', f = f' + 1 := ⟨f - 1, by omega⟩
    unfold runC
    simp only [List.map_nil, List.flatten_nil, List.nil_append]
    rw [h5, if_pos (by decide)]
  | cons x l ih =>
    intro hg hn f hf
    have hx := hg x (by simp)
    have e : ((x :: l).map encL).flatten ++ E = encL x ++ ((l.map encL).flatten ++ E) := by simp
    obtain ⟨s1, s2, s3, s4', s5⟩ := step_enc hx ((l.map encL).flatten ++ E)
    rw [e] at hf ⊢
    rw [s5] at hf
    obtain ⟨f', rfl⟩ : ∃ f', f = f' + 1 := ⟨f - 1, by omega⟩
    unfold runC
    rw [s1, if_neg (by simp), s2, s3, s4', if_neg (hn x (by simp)), ih (fun y hy => hg y (by simp [hy])) (fun y hy => hn y (by simp [hy])) f' (by omega)]
end Go.Proofs.Ytflapcaaaipoeaa
