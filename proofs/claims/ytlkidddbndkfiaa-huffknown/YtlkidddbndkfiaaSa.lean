/-
  Plain mathematics of a stable sort by merging in place: no program is named here.
-/
import Derived.Sort.LotA
namespace Go.Proofs.Ytlkidddbndkfiaa
open Go.Sort

variable {lt : Nat → Nat → Bool}

/-- Two rows beside one another, [lo, m) and [m, hi), have changed places; all else as it was. -/
structure Rot (lo m hi : Nat) (d d' : Array Nat) : Prop where
  size : d'.size = d.size
  out : ∀ i, i < lo ∨ hi ≤ i → d'[i]! = d[i]!
  front : ∀ i, lo ≤ i → i < lo + (hi - m) → d'[i]! = d[i - lo + m]!
  back : ∀ i, lo + (hi - m) ≤ i → i < hi → d'[i]! = d[i - (hi - m)]!

/-- n places from a on have changed with n places from b on. -/
structure Swd (a b n : Nat) (d d' : Array Nat) : Prop where
  size : d'.size = d.size
  left : ∀ i, a ≤ i → i < a + n → d'[i]! = d[i - a + b]!
  right : ∀ i, b ≤ i → i < b + n → d'[i]! = d[i - b + a]!
  out : ∀ i, (i < a ∨ a + n ≤ i) → (i < b ∨ b + n ≤ i) → d'[i]! = d[i]!

theorem Swd.refl (a b : Nat) (d : Array Nat) : Swd a b 0 d d := ⟨rfl, fun i h1 h2 => by omega, fun i h1 h2 => by omega, fun _ _ _ => rfl⟩
theorem Swd.step {a b n : Nat} {d d' : Array Nat} (h : Swd a b n d d') (hab : a + n < b) (hs : b + n < d.size) : Swd a b (n + 1) d (swp d' (a + n) (b + n)) := by
  have g := swp_get d' (i := a + n) (j := b + n) (by rw [h.size]; omega) (by rw [h.size]; omega)
  refine ⟨by rw [swp_size, h.size], fun i h1 h2 => ?_, fun i h1 h2 => ?_, fun i h1 h2 => ?_⟩
  · rw [g]
    rw [if_neg (by omega)]
    by_cases e : i = a + n
    · subst e
      rw [if_pos rfl, h.out (b + n) (by omega) (by omega)]
      congr 1; omega
    · rw [if_neg e]; exact h.left i h1 (by omega)
  · rw [g]
    by_cases e : i = b + n
    · subst e
      rw [if_pos rfl, h.out (a + n) (by omega) (by omega)]
      congr 1; omega
    · rw [if_neg e, if_neg (by omega)]; exact h.right i h1 (by omega)
  · rw [g, if_neg (by omega), if_neg (by omega)]
    exact h.out i (by omega) (by omega)
theorem Swd.perm {a b n : Nat} {d d' : Array Nat} (h : PermIn a (b + n + 1) d d') (hab : a + n < b) (hs : b + n < d.size) : PermIn a (b + n + 1) d (swp d' (a + n) (b + n)) :=
  permIn_trans _ _ _ _ _ h (swp_permIn d' a (b + n + 1) (a + n) (b + n) (by omega) (by omega) (by omega) (by omega) (by rw [h.1]; omega))

/-- The steps of a rotation. -/
theorem Rot.gt {lo m hi : Nat} {d d1 d' : Array Nat} (h1 : Swd lo m (hi - m) d d1) (h2 : Rot (lo + (hi - m)) m hi d1 d') (hm : lo + (hi - m) < m) (hh : m ≤ hi) : Rot lo m hi d d' := by
  refine ⟨h2.size.trans h1.size, fun i hi' => ?_, fun i a b => ?_, fun i a b => ?_⟩
  · rw [h2.out i (by omega), h1.out i (by omega) (by omega)]
  · rw [h2.out i (by omega), h1.left i a (by omega)]
  · by_cases h : i < lo + (hi - m) + (hi - m)
    · rw [h2.front i a h, h1.right _ (by omega) (by omega)]
      congr 1; omega
    · rw [h2.back i (by omega) b, h1.out _ (by omega) (by omega)]
theorem Rot.lt' {lo m hi : Nat} {d d1 d' : Array Nat} (h1 : Swd lo (hi - (m - lo)) (m - lo) d d1) (h2 : Rot lo m (hi - (m - lo)) d1 d') (hm : m < hi - (m - lo)) (hh : lo ≤ m) : Rot lo m hi d d' := by
  refine ⟨h2.size.trans h1.size, fun i hi' => ?_, fun i a b => ?_, fun i a b => ?_⟩
  · rw [h2.out i (by omega), h1.out i (by omega) (by omega)]
  · by_cases h : i < lo + (hi - (m - lo) - m)
    · rw [h2.front i a h, h1.out _ (by omega) (by omega)]
    · rw [h2.back i (by omega) (by omega), h1.left _ (by omega) (by omega)]
      congr 1; omega
  · rw [h2.out i (by omega), h1.right i (by omega) (by omega)]
    congr 1; omega
theorem Rot.eq' {lo m hi : Nat} {d d' : Array Nat} (h1 : Swd lo m (m - lo) d d') (hm : hi - m = m - lo) (hh : m ≤ hi) (hl : lo ≤ m) : Rot lo m hi d d' := by
  refine ⟨h1.size, fun i hi' => h1.out i (by omega) (by omega), fun i a b => h1.left i a (by omega), fun i a b => ?_⟩
  rw [h1.right i (by omega) (by omega)]
  congr 1; omega
theorem Rot.none {lo m hi : Nat} {d : Array Nat} (h : lo = m ∨ m = hi) (hl : lo ≤ m) (hh : m ≤ hi) : Rot lo m hi d d := by
  refine ⟨rfl, fun _ _ => rfl, fun i a b => ?_, fun i a b => ?_⟩
  · congr 1; omega
  · congr 1; omega

/-- One place moved up by one. -/
theorem Rot.up {lo k : Nat} {d d' : Array Nat} (h : Rot lo (lo + 1) (k + 1) d d') (hk : lo ≤ k) (hs : k + 1 < d.size) : Rot lo (lo + 1) (k + 2) d (swp d' k (k + 1)) := by
  have g := swp_get d' (i := k) (j := k + 1) (by rw [h.size]; omega) (by rw [h.size]; omega)
  refine ⟨by rw [swp_size, h.size], fun i hi => ?_, fun i a b => ?_, fun i a b => ?_⟩
  · rw [g, if_neg (by omega), if_neg (by omega)]; exact h.out i (by omega)
  · rw [g, if_neg (by omega)]
    by_cases e : i = k
    · subst e
      rw [if_pos rfl, h.out (i + 1) (by omega)]
      congr 1; omega
    · rw [if_neg e]; exact h.front i a (by omega)
  · have e : i = k + 1 := by omega
    subst e
    rw [g, if_pos rfl, h.back k (by omega) (by omega)]
    congr 1; omega
/-- One place moved down by one. -/
theorem Rot.down {k m : Nat} {d d' : Array Nat} (h : Rot (k + 1) m (m + 1) d d') (hk : k + 1 ≤ m) (hs : m < d.size) : Rot k m (m + 1) d (swp d' (k + 1) k) := by
  have g := swp_get d' (i := k + 1) (j := k) (by rw [h.size]; omega) (by rw [h.size]; omega)
  refine ⟨by rw [swp_size, h.size], fun i hi => ?_, fun i a b => ?_, fun i a b => ?_⟩
  · rw [g, if_neg (by omega), if_neg (by omega)]; exact h.out i (by omega)
  · have e : i = k := by omega
    subst e
    rw [g, if_pos rfl, h.front (i + 1) (by omega) (by omega)]
    congr 1; omega
  · rw [g, if_neg (by omega)]
    by_cases e : i = k + 1
    · subst e
      rw [if_pos rfl, h.out k (by omega)]
      congr 1; omega
    · rw [if_neg e]; exact h.back i (by omega) b

/-- What is not greater. -/
theorem not_lt_of (hS : SWO lt) {x y z : Nat} (h1 : lt y x = false) (h2 : lt z y = false) : lt z x = false := hS.ntrans _ _ _ h2 h1

/-- Insertion of the first one: it is greater than all up to i, not greater than those from i on. -/
theorem ins_first (hS : SWO lt) {a b i : Nat} {d d' : Array Nat} (hs : SortedIn lt (a + 1) b d) (hi1 : a + 1 ≤ i) (hi2 : i ≤ b) (hl : ∀ c, a + 1 ≤ c → c < i → lt d[c]! d[a]! = true) (hr : ∀ c, i ≤ c → c < b → lt d[c]! d[a]! = false) (h : Rot a (a + 1) i d d') : SortedIn lt a b d' := by
  intro p q hp hpq hq
  have fr : ∀ x, a ≤ x → x < i - 1 → d'[x]! = d[x + 1]! := fun x h1 h2 => by rw [h.front x h1 (by omega)]; congr 1; omega
  have mi : d'[i - 1]! = d[a]! := by rw [h.back (i - 1) (by omega) (by omega)]; congr 1; omega
  by_cases h1 : q < i - 1
  · rw [fr p hp (by omega), fr q (by omega) h1]; exact hs _ _ (by omega) (by omega) (by omega)
  · by_cases h2 : q = i - 1
    · subst h2
      rw [fr p hp hpq, mi]
      exact hS.asymmA (hl (p + 1) (by omega) (by omega))
    · rw [h.out q (by omega)]
      by_cases h3 : p < i - 1
      · rw [fr p hp h3]; exact hs _ _ (by omega) (by omega) (by omega)
      · by_cases h4 : p = i - 1
        · subst h4
          rw [mi]; exact hr q (by omega) hq
        · rw [h.out p (by omega)]; exact hs _ _ (by omega) hpq hq
/-- Insertion of the last one. -/
theorem ins_last (hS : SWO lt) {a m i : Nat} {d d' : Array Nat} (hs : SortedIn lt a m d) (hi1 : a ≤ i) (hi2 : i ≤ m) (hl : ∀ c, a ≤ c → c < i → lt d[m]! d[c]! = false) (hr : ∀ c, i ≤ c → c < m → lt d[m]! d[c]! = true) (h : Rot i m (m + 1) d d') : SortedIn lt a (m + 1) d' := by
  intro p q hp hpq hq
  have bk : ∀ x, i + 1 ≤ x → x < m + 1 → d'[x]! = d[x - 1]! := fun x h1 h2 => by rw [h.back x (by omega) h2]; congr 1; omega
  have mi : d'[i]! = d[m]! := by rw [h.front i (by omega) (by omega)]; congr 1; omega
  by_cases h1 : q < i
  · rw [h.out p (by omega), h.out q (by omega)]; exact hs _ _ hp hpq (by omega)
  · by_cases h2 : q = i
    · subst h2
      rw [h.out p (by omega), mi]
      exact hl p hp hpq
    · rw [bk q (by omega) hq]
      by_cases h3 : p < i
      · rw [h.out p (by omega)]; exact hs _ _ hp (by omega) (by omega)
      · by_cases h4 : p = i
        · subst h4
          rw [mi]; exact hS.asymmA (hr (q - 1) (by omega) (by omega))
        · rw [bk p (by omega) (by omega)]; exact hs _ _ (by omega) (by omega) (by omega)

/-- Behind the rotation of a merge: four parts, the first two not greater than the last two. -/
structure Mid4 (lt : Nat → Nat → Bool) (a s mid e b : Nat) (d : Array Nat) : Prop where
  s1 : SortedIn lt a s d
  s2 : SortedIn lt s mid d
  s3 : SortedIn lt mid e d
  s4 : SortedIn lt e b d
  le : ∀ x y, a ≤ x → x < mid → mid ≤ y → y < b → lt d[y]! d[x]! = false

theorem mid4_of (hS : SWO lt) {a m b mid s : Nat} {d d' : Array Nat} (h1 : SortedIn lt a m d) (h2 : SortedIn lt m b d) (ha : a ≤ s) (hs : s ≤ m) (hmid : s ≤ mid) (he : m ≤ mid + m - s) (heb : mid + m - s ≤ b)
    (hl : s = a ∨ mid + m - s = b ∨ lt d[mid + m - s]! d[s - 1]! = false) (hr : s = m ∨ mid + m - s = m ∨ lt d[mid + m - s - 1]! d[s]! = true) (h : Rot s m (mid + m - s) d d') :
    Mid4 lt a s mid (mid + m - s) b d' := by
  have e1 : s + (mid + m - s - m) = mid := by omega
  have fr : ∀ x, s ≤ x → x < mid → d'[x]! = d[x - s + m]! := fun x h1 h2 => h.front x h1 (by omega)
  have bk : ∀ x, mid ≤ x → x < mid + m - s → d'[x]! = d[x - (mid - s)]! := fun x h1 h2 => by rw [h.back x (by omega) h2]; congr 1; omega
  refine ⟨fun p q x y z => ?_, fun p q x y z => ?_, fun p q x y z => ?_, fun p q x y z => ?_, fun p q x y z t => ?_⟩
  · rw [h.out p (by omega), h.out q (by omega)]; exact h1 p q x y (by omega)
  · rw [fr p (by omega) (by omega), fr q (by omega) (by omega)]; exact h2 _ _ (by omega) (by omega) (by omega)
  · rw [bk p (by omega) (by omega), bk q (by omega) (by omega)]; exact h1 _ _ (by omega) (by omega) (by omega)
  · rw [h.out p (by omega), h.out q (by omega)]; exact h2 p q (by omega) y z
  · by_cases c1 : p < s
    · rw [h.out p (by omega)]
      by_cases c2 : q < mid + m - s
      · rw [bk q z c2]; exact h1 _ _ x (by omega) (by omega)
      · rw [h.out q (by omega)]
        rcases hl with hl | hl | hl
        · omega
        · omega
        · have k1 : lt d[s - 1]! d[p]! = false := by
            by_cases e : p = s - 1
            · rw [e]; exact hS.irrefl _
            · exact h1 p (s - 1) x (by omega) (by omega)
          have k2 : lt d[q]! d[mid + m - s]! = false := by
            by_cases e : q = mid + m - s
            · rw [e]; exact hS.irrefl _
            · exact h2 (mid + m - s) q he (by omega) t
          exact hS.ntrans _ _ _ k2 (hS.ntrans _ _ _ hl k1)
    · rw [fr p (by omega) y]
      by_cases c2 : q < mid + m - s
      · rw [bk q z c2]
        rcases hr with hr | hr | hr
        · omega
        · omega
        · have k1 : lt d[mid + m - s - 1]! d[p - s + m]! = false := by
            by_cases e : p - s + m = mid + m - s - 1
            · rw [e]; exact hS.irrefl _
            · exact h2 (p - s + m) (mid + m - s - 1) (by omega) (by omega) (by omega)
          have k2 : lt d[q - (mid - s)]! d[s]! = false := by
            by_cases e : q - (mid - s) = s
            · rw [e]; exact hS.irrefl _
            · exact h1 s (q - (mid - s)) ha (by omega) (by omega)
          have k3 : lt d[s]! d[mid + m - s - 1]! = false := hS.asymmA hr
          exact hS.ntrans _ _ _ k2 (hS.ntrans _ _ _ k3 k1)
      · rw [h.out q (by omega)]; exact h2 _ _ (by omega) (by omega) t

theorem SortedIn.mono' {a b a' b' : Nat} {d : Array Nat} (h : SortedIn lt a b d) (h1 : a ≤ a') (h2 : b' ≤ b) : SortedIn lt a' b' d := fun i j x y z => h i j (by omega) y (by omega)
theorem SortedIn.same {a b : Nat} {d d' : Array Nat} (h : SortedIn lt a b d) (he : ∀ i, a ≤ i → i < b → d'[i]! = d[i]!) : SortedIn lt a b d' := fun i j x y z => by
  rw [he i x (by omega), he j (by omega) z]; exact h i j x y z

/-- The two halves sorted, the whole is. -/
theorem join_halves {a mid b : Nat} {d1 d2 d3 : Array Nat} (hb : b ≤ d1.size) (ham : a ≤ mid) (hmb : mid ≤ b) (le : ∀ x y, a ≤ x → x < mid → mid ≤ y → y < b → lt d1[y]! d1[x]! = false)
    (p2 : PermIn a mid d1 d2) (s2 : SortedIn lt a mid d2) (p3 : PermIn mid b d2 d3) (s3 : SortedIn lt mid b d3) : SortedIn lt a b d3 ∧ PermIn a b d1 d3 := by
  have q2 : ∀ x, mid ≤ x → d2[x]! = d1[x]! := fun x hx => p2.2.1 x (Or.inr hx)
  have q3 : ∀ x, x < mid → d3[x]! = d2[x]! := fun x hx => p3.2.1 x (Or.inl hx)
  have l2 : ∀ y, mid ≤ y → y < b → ∀ x, a ≤ x → x < mid → lt d1[y]! d2[x]! = false := fun y h1 h2 => permIn_all d1 d2 a mid (fun v => lt d1[y]! v = false) (by omega) p2 (fun x h3 h4 => le x y h3 h4 h1 h2)
  have l3 : ∀ x, a ≤ x → x < mid → ∀ y, mid ≤ y → y < b → lt d3[y]! d2[x]! = false := fun x h1 h2 => permIn_all d2 d3 mid b (fun v => lt v d2[x]! = false) (by rw [p2.1]; exact hb) p3 (fun y h3 h4 => by rw [q2 y h3]; exact l2 y h3 h4 x h1 h2)
  refine ⟨fun i j x y z => ?_, permIn_trans _ _ _ _ _ (permIn_mono _ _ a mid a b (Nat.le_refl _) hmb hb p2) (permIn_mono _ _ mid b a b ham (Nat.le_refl _) (by rw [p2.1]; exact hb) p3)⟩
  by_cases c : j < mid
  · rw [q3 i (by omega), q3 j c]; exact s2 i j x y c
  · by_cases c2 : i < mid
    · rw [q3 i c2]; exact l3 i x c2 j (by omega) z
    · exact s3 i j (by omega) y z
end Go.Proofs.Ytlkidddbndkfiaa
