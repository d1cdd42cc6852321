/-
  Streams of stored blocks.
-/
import Derived.Test.YtleeaofofofgmaaDoorNf
namespace Go.Proofs.YtleeaofofofgmaaDoor
open Go.RowKit

theorem leNum_lt {l : List Nat} (h : ∀ b ∈ l, b < 256) : leNum l < 2 ^ (8 * l.length) := by
  induction l with
  | nil => simp [leNum]
  | cons b l ih =>
    have h1 := ih (fun x hx => h x (by simp [hx]))
    have h2 := h b (by simp)
    have e : 2 ^ (8 * (b :: l).length) = 256 * 2 ^ (8 * l.length) := by rw [List.length_cons, show 8 * (l.length + 1) = 8 + 8 * l.length by omega, Nat.pow_add]
    rw [e]
    show b + 256 * leNum l < _
    omega

theorem h4_aux (last q d x3 x4 M : Nat) (hl : last < 2) (hq : q < 256) (hd : d < 256) (h3 : x3 < 256) (h4 : x4 < 256) : lowBits (last + 256 * (q + 256 * (d + 256 * (x3 + 256 * (x4 + 256 * M))))) 24 16 = x3 + 256 * x4 := by
  show _ / 16777216 % 65536 = _
  omega

theorem low_at (pre m : List Nat) (hp : ∀ b ∈ pre, b < 256) (j n : Nat) : lowBits (leNum (pre ++ m)) (8 * pre.length + j) n = lowBits (leNum m) j n := by
  unfold lowBits
  rw [leNum_cat, Nat.pow_add, ← Nat.div_div_eq_div_mul, Nat.add_mul_div_right _ _ (Nat.two_pow_pos _), Nat.div_eq_of_lt (leNum_lt hp), Nat.zero_add]

/-- The head of a stored block of n bytes. -/
def shead (last n : Nat) : List Nat := [last, n % 256, n / 256, 255 - n % 256, 255 - n / 256]

theorem shead_lt {last n : Nat} (hl : last < 2) (hn : n < 65536) : ∀ b ∈ shead last n, b < 256 := by
  intro b hb
  simp only [shead, List.mem_cons, List.not_mem_nil, or_false] at hb
  omega

theorem stored_head (pre m : List Nat) (hp : ∀ b ∈ pre, b < 256) (last n : Nat) (hl : last < 2) (hn : n < 65536) (L : Nat) (hL : 8 * pre.length + 40 ≤ L) :
    head (leNum (pre ++ (shead last n ++ m))) L (8 * pre.length) = .ok ((decide (last = 1), .stored n), 8 * pre.length + 40) := by
  obtain ⟨M, hM⟩ : ∃ M, M = leNum m := ⟨_, rfl⟩
  have e : leNum (shead last n ++ m) = last + 256 * (n % 256 + 256 * (n / 256 + 256 * (255 - n % 256 + 256 * (255 - n / 256 + 256 * M)))) := by rw [hM]; rfl
  have a1 := low_at pre (shead last n ++ m) hp 0 1
  have a2 := low_at pre (shead last n ++ m) hp 1 2
  have a3 := low_at pre (shead last n ++ m) hp 8 16
  have a4 := low_at pre (shead last n ++ m) hp 24 16
  rw [e] at a1 a2 a3 a4
  have h1 : lowBits (last + 256 * (n % 256 + 256 * (n / 256 + 256 * (255 - n % 256 + 256 * (255 - n / 256 + 256 * M))))) 0 1 = last := by unfold lowBits; omega
  have h2 : lowBits (last + 256 * (n % 256 + 256 * (n / 256 + 256 * (255 - n % 256 + 256 * (255 - n / 256 + 256 * M))))) 1 2 = 0 := by unfold lowBits; omega
  have h3 : lowBits (last + 256 * (n % 256 + 256 * (n / 256 + 256 * (255 - n % 256 + 256 * (255 - n / 256 + 256 * M))))) 8 16 = n := by unfold lowBits; omega
  have h4 : lowBits (last + 256 * (n % 256 + 256 * (n / 256 + 256 * (255 - n % 256 + 256 * (255 - n / 256 + 256 * M))))) 24 16 = 65535 - n := by rw [h4_aux _ _ _ _ _ _ hl (by omega) (by omega) (by omega) (by omega)]; omega
  rw [h1] at a1
  rw [h2] at a2
  rw [h3] at a3
  rw [h4] at a4
  obtain ⟨V, hV⟩ : ∃ V, V = leNum (pre ++ (shead last n ++ m)) := ⟨_, rfl⟩
  rw [← hV] at a1 a2 a3 a4 ⊢
  have t1 : tkn 1 V L (8 * pre.length) = .ok (last, 8 * pre.length + 1) := by rw [tkn_ok (by omega)]; rw [Nat.add_zero] at a1; rw [a1]
  have t2 : tkn 2 V L (8 * pre.length + 1) = .ok (0, 8 * pre.length + 3) := by rw [tkn_ok (by omega), a2]
  have t3 : tkn 16 V L (8 * pre.length + 8) = .ok (n, 8 * pre.length + 24) := by rw [tkn_ok (by omega), a3]
  have t4 : tkn 16 V L (8 * pre.length + 24) = .ok (65535 - n, 8 * pre.length + 40) := by rw [tkn_ok (by omega), a4]
  have t0 : algn V L (8 * pre.length + 3) = .ok ((), 8 * pre.length + 8) := by
    show Except.ok ((), _) = _
    rw [show (8 * pre.length + 3 + 7) / 8 * 8 = 8 * pre.length + 8 by omega]
  have ts : storedHead V L (8 * pre.length + 3) = .ok (n, 8 * pre.length + 40) := by
    refine (then_ok t0).trans ((then_ok t3).trans ((then_ok t4).trans ?_))
    rw [if_pos (by omega)]
    rfl
  refine (then_ok t1).trans ((then_ok t2).trans ?_)
  exact (then_ok (a := (Pl.stored n)) (q := 8 * pre.length + 40) (then_ok ts)).trans rfl

theorem stored_bytes {V most : Nat} {last : Bool} (tail : List Nat) {L : Nat} : ∀ (xs pre out : List Nat), V = leNum (pre ++ (xs ++ tail)) → (∀ b ∈ pre, b < 256) → (∀ b ∈ xs, b < 256) → 8 * (pre.length + xs.length) ≤ L →
    (out.length + xs.length ≤ most → ∀ r, Runs V L most ⟨8 * (pre.length + xs.length), last, out ++ xs, .ahead⟩ r → Runs V L most ⟨8 * pre.length, last, out, .stored xs.length⟩ r) ∧
    (out.length ≤ most → most < out.length + xs.length → Runs V L most ⟨8 * pre.length, last, out, .stored xs.length⟩ (.error 6)) := by
  intro xs
  induction xs with
  | nil =>
    intro pre out hV _ _ _
    refine ⟨fun _ r h => .go (s' := ⟨8 * pre.length, last, out, .ahead⟩) (by simp [adv]) (by simpa using h), fun h1 h2 => ?_⟩
    simp at h2
    omega
  | cons b xs ih =>
    intro pre out hV hp hx hL
    have hb : b < 256 := hx b (by simp)
    have hl : lowBits V (8 * pre.length) 8 = b := by
      have := low_at pre (b :: xs ++ tail) hp 0 8
      rw [Nat.add_zero] at this
      rw [hV, this]
      show lowBits (b + 256 * leNum (xs ++ tail)) 0 8 = b
      unfold lowBits
      omega
    simp only [List.length_cons] at hL ⊢
    have ha : adv V L ⟨8 * pre.length, last, out, .stored (xs.length + 1)⟩ = .put ⟨8 * pre.length + 8, last, out ++ [b], .stored xs.length⟩ := by
      simp only [adv]
      rw [if_neg (by omega), tkn_ok (by omega), hl]
      rfl
    have e8 : 8 * pre.length + 8 = 8 * (pre ++ [b]).length := by simp; omega
    obtain ⟨i1, i2⟩ := ih (pre ++ [b]) (out ++ [b]) (by rw [hV]; simp) (by intro x hx'; simp at hx'; rcases hx' with h | h; exact hp x h; omega) (fun x h => hx x (by simp [h])) (by simp; omega)
    rw [← e8] at i1 i2
    refine ⟨fun h r hr => .put ha (by simp at h ⊢; omega) (i1 (by simp; omega) r ?_), fun h1 h2 => ?_⟩
    · have e9 : 8 * ((pre ++ [b]).length + xs.length) = 8 * (pre.length + (xs.length + 1)) := by simp; omega
      rw [e9]
      simpa using hr
    · by_cases hf : out.length < most
      · exact .put ha hf (i2 (by simp; omega) (by simp; omega))
      · exact .full ha (by simp; omega)

/-- The stream of stored blocks that pieces make. -/
def sstream : List (List Nat) → List Nat
  | [] => []
  | [x] => shead 1 x.length ++ x
  | x :: l => shead 0 x.length ++ x ++ sstream l

theorem stored_all {most : Nat} (tail : List Nat) {L : Nat} {V : Nat} : ∀ (l : List (List Nat)) (pre out : List Nat), l ≠ [] → V = leNum (pre ++ (sstream l ++ tail)) → (∀ b ∈ pre, b < 256) → (∀ x ∈ l, x.length < 65536 ∧ ∀ b ∈ x, b < 256) → 8 * (pre.length + (sstream l).length) ≤ L →
    (out.length + l.flatten.length ≤ most → Runs V L most ⟨8 * pre.length, false, out, .ahead⟩ (.ok (out ++ l.flatten, 8 * (pre.length + (sstream l).length)))) ∧
    (out.length ≤ most → most < out.length + l.flatten.length → Runs V L most ⟨8 * pre.length, false, out, .ahead⟩ (.error 6)) := by
  intro l
  induction l with
  | nil => intro _ _ h; exact absurd rfl h
  | cons x l ih =>
    intro pre out _ hV hp hx hL
    obtain ⟨hxl, hxb⟩ := hx x (by simp)
    obtain ⟨f, hf, rest, hs, hfl⟩ : ∃ f, f < 2 ∧ ∃ rest, sstream (x :: l) = shead f x.length ++ (x ++ rest) ∧ ((f = 1 ∧ l = [] ∧ rest = []) ∨ (f = 0 ∧ l ≠ [] ∧ rest = sstream l)) := by
      cases l with
      | nil => exact ⟨1, by omega, [], by simp [sstream], Or.inl ⟨rfl, rfl, rfl⟩⟩
      | cons y l => exact ⟨0, by omega, sstream (y :: l), by simp [sstream], Or.inr ⟨rfl, by simp, rfl⟩⟩
    have hsl : (sstream (x :: l)).length = 5 + (x.length + rest.length) := by rw [hs]; simp [shead]; omega
    rw [hsl] at hL ⊢
    have hh := stored_head pre (x ++ (rest ++ tail)) hp f x.length hf hxl L (by omega)
    have eV : V = leNum (pre ++ (shead f x.length ++ (x ++ (rest ++ tail)))) := by rw [hV, hs]; simp
    rw [← eV] at hh
    have hp5 : ∀ b ∈ pre ++ shead f x.length, b < 256 := by
      intro b hb
      rcases List.mem_append.1 hb with h | h
      · exact hp b h
      · exact shead_lt hf hxl b h
    have e5 : 8 * (pre ++ shead f x.length).length = 8 * pre.length + 40 := by simp [shead]; omega
    obtain ⟨s1, s2⟩ := stored_bytes (V := V) (most := most) (last := decide (f = 1)) (rest ++ tail) (L := L) x (pre ++ shead f x.length) out (by rw [eV]; simp) hp5 hxb (by simp [shead]; omega)
    rw [e5] at s1 s2
    have hgo : adv V L ⟨8 * pre.length, false, out, .ahead⟩ = .go ⟨8 * pre.length + 40, decide (f = 1), out, .stored x.length⟩ := by simp [adv, hh]
    have e6 : 8 * ((pre ++ shead f x.length).length + x.length) = 8 * (pre.length + (5 + x.length)) := by simp [shead]; omega
    rw [e6] at s1
    rcases hfl with ⟨rfl, rfl, rfl⟩ | ⟨rfl, hne, rfl⟩
    · refine ⟨fun h => .go hgo (s1 (by simp at h; omega) _ ?_), fun h1 h2 => .go hgo (s2 h1 (by simp at h2; omega))⟩
      have := Runs.done (V := V) (L := L) (most := most) (s := ⟨8 * (pre.length + (5 + x.length)), true, out ++ x, .ahead⟩) (by simp [adv])
      simpa using this
    · have e7 : 8 * (pre ++ (shead 0 x.length ++ x)).length = 8 * (pre.length + (5 + x.length)) := by simp [shead]; omega
      obtain ⟨j1, j2⟩ := ih (pre ++ (shead 0 x.length ++ x)) (out ++ x) hne (by rw [eV]; simp) (by
        intro b hb
        rcases List.mem_append.1 hb with h | h
        · exact hp b h
        · rcases List.mem_append.1 h with h | h
          · exact shead_lt hf hxl b h
          · exact hxb b h) (fun y hy => hx y (by simp [hy])) (by simp [shead]; omega)
      rw [e7] at j1 j2
      by_cases hm : out.length + x.length ≤ most
      · refine ⟨fun h => .go hgo (s1 hm _ ?_), fun h1 h2 => .go hgo (s1 hm _ (j2 (by simp; omega) (by simp at h2 ⊢; omega)))⟩
        have := j1 (by simp at h ⊢; omega)
        have e8 : (pre ++ (shead 0 x.length ++ x)).length + (sstream l).length = pre.length + (5 + (x.length + (sstream l).length)) := by simp [shead]; omega
        rw [e8] at this
        simpa using this
      · exact ⟨fun h => by simp at h; omega, fun h1 h2 => .go hgo (s2 h1 (by omega))⟩
end Go.Proofs.YtleeaofofofgmaaDoor
