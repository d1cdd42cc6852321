/-
  Contracts of sorting: the comparison, a swap of ranges, the sort by insertion.
-/
import Derived.Test.YtlkidddbndkfiaaSa
import Derived.Test.YtlkidddbndkfiaaHd
namespace Go.Proofs.Ytlkidddbndkfiaa
open Go.RowKit
open Go.Sort (swp PermIn SortedIn SWO swp_get swp_size swp_permIn permIn_refl permIn_trans permIn_mono permIn_all Ins)

/-- What cmp.Compare answers. -/
def cmpI (x y : Int) : Int := if x < y then -1 else if y < x then 1 else 0
/-- The rarer. -/
def ltF (fq : List Int) (x y : Nat) : Bool := decide (at0 fq x < at0 fq y)
theorem swoF (fq : List Int) : SWO (ltF fq) := ⟨fun x => by simp [ltF], fun x y z h1 h2 => by simp [ltF] at *; omega, fun x y z h1 h2 => by simp [ltF] at *; omega⟩
theorem cmpI_lt (x y : Int) : decide (cmpI x y < 0) = decide (x < y) := by
  unfold cmpI
  split
  · simp [*]
  · split <;> simp [*]
theorem ltF_eq (fq : List Int) (x y : Nat) : decide (cmpI (at0 fq x) (at0 fq y) < 0) = ltF fq x y := cmpI_lt _ _

set_option maxHeartbeats 400000 in
theorem compare_c (x y : Int) (w : World) : Calls Try.prog 51 #[.int .i64 x, .int .i64 y] w fun e w' => e = .returned (.int .i64 (cmpI x y)) ∧ w' = w := by
  have hq : (x != x) = false := by simp
  have hq2 : (y != y) = false := by simp
  by_cases h1 : x < y
  · go_enter Try.func51, Try.ntmps51
    go_wp2
    go_ret
    exact ⟨ret_int (by unfold cmpI; rw [if_pos h1]), rfl⟩
  · by_cases h2 : y < x
    · go_enter Try.func51, Try.ntmps51
      go_wp2
      go_ret
      exact ⟨ret_int (by unfold cmpI; rw [if_neg (by omega), if_pos (by omega)]), rfl⟩
    · go_enter Try.func51, Try.ntmps51
      go_wp2
      go_ret
      exact ⟨ret_int (by unfold cmpI; rw [if_neg (by omega), if_neg (by omega)]), rfl⟩

/-- What the comparison reads: a variable that holds the frequencies. -/
structure Ce (w : World) (P : Nat) (fq : List Int) (S : Nat → Prop) : Prop where
  ex : ∃ a c, w.heap[P]? = some (.cells #[.slice a fq.length c] 22 (0, 0)) ∧ LiesI w a fq ∧ (∀ ad, a = some ad → fq ≠ [] → ¬ S ad.block)
  ne : ¬ S P
  sz : fq.length ≤ 320

theorem Ce.keep {w w' : World} {P : Nat} {fq : List Int} {S : Nat → Prop} (h : Ce w P fq S) (f : Fr S w w') : Ce w' P fq S := by
  obtain ⟨a, c, h1, h2, h3⟩ := h.ex
  exact ⟨⟨a, c, by rw [f.block P (lt_of h1) h.ne]; exact h1, h2.keep f h3, h3⟩, h.ne, h.sz⟩

set_option maxHeartbeats 400000 in
theorem cmp_c (P x y : Nat) (fq : List Int) (S : Nat → Prop) (w : World) (h : Ce w P fq S) (hx : x < fq.length) (hy : y < fq.length) :
    Calls Try.prog 50 #[.int .i64 (x : Int), .int .i64 (y : Int), .pointer (some ⟨P, 0, none⟩)] w fun e w' => e = .returned (.int .i64 (cmpI (at0 fq x) (at0 fq y))) ∧ ∃ k, w' = w.drewN k := by
  obtain ⟨a, c, h1, h2, h3⟩ := h.ex
  have h320 := h.sz
  have k0 := cell_of (o := 0) h1 rfl
  obtain ⟨ad, rfl, c1⟩ := h2 x hx
  obtain ⟨ad', e, c2⟩ := h2 y hy
  cases e
  clear h h1 h2 h3
  go_enter Try.func50, Try.ntmps50
  go_wp2
  go_quiet ((go_at_call 51; exact Calls.quiet_of_same (compare_c _ _ _)))
  go_wp2
  go_ret
  exact ⟨rfl, _, rfl⟩

/-- A row of symbols in block g. -/
structure Dt (w : World) (g : Nat) (d : Array Nat) : Prop where
  eobj : ∃ cs : Array Value, w.heap[g]? = some (.cells cs 3 (0, 0)) ∧ d.size ≤ cs.size ∧ ∀ j, j < d.size → cs[j]? = some (.int .i64 ((d[j]! : Nat) : Int))
  small : d.size ≤ 320

theorem Dt.cell {w : World} {g : Nat} {d : Array Nat} (h : Dt w g d) {j : Nat} (hj : j < d.size) : w.cell? ⟨g, j, none⟩ = some (.int .i64 ((d[j]! : Nat) : Int)) := by
  obtain ⟨cs, h1, h2, h3⟩ := h.eobj
  exact cell_of h1 (h3 j hj)
theorem Dt.frozen {w : World} {g : Nat} {d : Array Nat} (h : Dt w g d) (j : Nat) : w.frozen? ⟨g, j, none⟩ = false := by
  obtain ⟨cs, h1, h2, h3⟩ := h.eobj
  exact frozen_of h1
theorem Dt.keep {w w' : World} {g : Nat} {d : Array Nat} (h : Dt w g d) {S : Nat → Prop} (f : Fr S w w') (hg : ¬ S g) : Dt w' g d := by
  obtain ⟨cs, h1, h2⟩ := h.eobj
  exact ⟨⟨cs, by rw [f.block g (lt_of h1) hg]; exact h1, h2⟩, h.small⟩
theorem Dt.swap {w : World} {g : Nat} {d : Array Nat} (h : Dt w g d) {i j q : Nat} (hi : i < d.size) (hj : j < d.size) : Dt (((w.setCell ⟨g, i, none⟩ (.int .i64 ((d[j]! : Nat) : Int))).setCell ⟨g, j, none⟩ (.int .i64 ((d[i]! : Nat) : Int))).drewN q) g (swp d i j) := by
  obtain ⟨cs, h1, h2, h3⟩ := h.eobj
  have g' := swp_get d hi hj
  refine ⟨⟨_, heap_setCell_own _ (heap_setCell_own _ h1), by simpa [swp_size] using h2, fun k hk => ?_⟩, by rw [swp_size]; exact h.small⟩
  rw [swp_size] at hk
  rw [g']
  by_cases e : k = j
  · subst e
    rw [if_pos rfl, Array.getElem?_setIfInBounds_self_of_lt (by simp; omega)]
  · rw [if_neg e, Array.getElem?_setIfInBounds_ne (Ne.symm e)]
    by_cases e2 : k = i
    · subst e2
      rw [if_pos rfl, Array.getElem?_setIfInBounds_self_of_lt (by omega)]
    · rw [if_neg e2, Array.getElem?_setIfInBounds_ne (Ne.symm e2)]
      exact h3 k hk

/-- Sorting under way: the row, what the comparison reads; only the row has turned. -/
structure St (w wr : World) (g P : Nat) (fq : List Int) (d : Array Nat) : Prop where
  dt : Dt wr g d
  ce : Ce wr P fq (fun k => k = g)
  fr : Fr (fun k => k = g) w wr
  lt : ∀ j, j < d.size → d[j]! < fq.length

theorem St.drewN {w wr : World} {g P : Nat} {fq : List Int} {d : Array Nat} (h : St w wr g P fq d) (k : Nat) : St w (wr.drewN k) g P fq d :=
  ⟨h.dt.keep (Fr.of_drewN wr k) (fun h => h), h.ce.keep ((Fr.of_drewN wr k).mono fun _ _ h => h.elim), h.fr.join ((Fr.of_drewN wr k).mono fun _ _ h => h.elim), h.lt⟩
theorem St.swap {w wr : World} {g P : Nat} {fq : List Int} {d : Array Nat} (h : St w wr g P fq d) {i j : Nat} (q : Nat) (hi : i < d.size) (hj : j < d.size) : St w (((wr.setCell ⟨g, i, none⟩ (.int .i64 ((d[j]! : Nat) : Int))).setCell ⟨g, j, none⟩ (.int .i64 ((d[i]! : Nat) : Int))).drewN q) g P fq (swp d i j) := by
  have f : Fr (fun k => k = g) wr (((wr.setCell ⟨g, i, none⟩ (.int .i64 ((d[j]! : Nat) : Int))).setCell ⟨g, j, none⟩ (.int .i64 ((d[i]! : Nat) : Int))).drewN q) :=
    (((Fr.of_setCell wr ⟨g, i, none⟩ _).trans (Fr.of_setCell _ ⟨g, j, none⟩ _)).trans (Fr.of_drewN _ q)).mono fun k _ hk => by simpa using hk
  refine ⟨h.dt.swap hi hj, h.ce.keep f, h.fr.join f, fun k hk => ?_⟩
  rw [swp_size] at hk
  rw [swp_get d hi hj]
  split
  · exact h.lt i hi
  · split
    · exact h.lt j hj
    · exact h.lt k hk
theorem St.trans {w wr w2 : World} {g P : Nat} {fq : List Int} {d d' : Array Nat} (h : St w wr g P fq d) (h2 : St wr w2 g P fq d') : St w w2 g P fq d' := ⟨h2.dt, h2.ce, h.fr.join h2.fr, h2.lt⟩
theorem St.start {w wr : World} {g P : Nat} {fq : List Int} {d : Array Nat} (h : St w wr g P fq d) : St wr wr g P fq d := ⟨h.dt, h.ce, Fr.refl _ _, h.lt⟩

set_option maxHeartbeats 1600000 in
set_option maxRecDepth 100000 in
theorem swapRange_c (g P N c a b n : Nat) (fq : List Int) (d : Array Nat) (fv : Value) (w : World) (h : St w w g P fq d) (hN : N = d.size) (hab : a + n ≤ b) (hb : b + n ≤ d.size) :
    Calls Try.prog 60 #[.slice (some ⟨g, 0, none⟩) N c, .int .i64 (a : Int), .int .i64 (b : Int), .int .i64 (n : Int), fv] w fun e w' => e = .returned (.tuple #[]) ∧ ∃ d', St w w' g P fq d' ∧ Swd a b n d d' ∧ PermIn a (b + n) d d' := by
  have hsm := h.dt.small
  have H := hide h
  subst hN
  clear h
  go_enter Try.func60, Try.ntmps60
  go_wp2
  go_loopw [10] (fun iv wr => ∃ (i : Nat) (d' : Array Nat), i ≤ n ∧ iv = .int .i64 (i : Int) ∧ St w wr g P fq d' ∧ Hid (Swd a b i d d') ∧ Hid (PermIn a (b + n) d d')) (fun iv _ => n - (intOf iv).toNat)
  case atStart => exact ⟨0, d, Nat.zero_le _, rfl, H.out, Swd.refl _ _ _, permIn_refl _ _ _⟩
  case round =>
    obtain ⟨i, d', hi, rfl, hS, HW, HP⟩ := hrel
    by_cases hlt : i < n
    · have hsz : d'.size = d.size := HW.out.size
      have c1 := hS.dt.cell (j := a + i) (by omega)
      have c2 := hS.dt.cell (j := b + i) (by omega)
      have z1 := hS.dt.frozen (a + i)
      have z2 := hS.dt.frozen (b + i)
      obtain ⟨x, hx⟩ : ∃ x, x = a + i := ⟨_, rfl⟩
      obtain ⟨y, hy⟩ : ∃ y, y = b + i := ⟨_, rfl⟩
      have hxy : ¬ x = y := by omega
      have hyx : ¬ y = x := by omega
      have hx1 : (a : Int) + (i : Int) = (x : Int) := by omega
      have hy1 : (b : Int) + (i : Int) = (y : Int) := by omega
      have hxs : x < d.size := by omega
      have hys : y < d.size := by omega
      have hxi : (x : Int) < (d.size : Nat) := by omega
      have hyi : (y : Int) < (d.size : Nat) := by omega
      rw [← hx] at c1 z1
      rw [← hy] at c2 z2
      obtain ⟨vx, hvx⟩ : ∃ v, v = d'[x]! := ⟨_, rfl⟩
      obtain ⟨vy, hvy⟩ : ∃ v, v = d'[y]! := ⟨_, rfl⟩
      rw [← hvx] at c1
      rw [← hvy] at c2
      have Hx := hide hx
      have Hy := hide hy
      have Hvx := hide hvx
      have Hvy := hide hvy
      have HS := hide hS
      have Hsz := hide hsz
      clear hS hx hy hvx hvy hsz
      go_wp2
      go_region
      all_goals
        have hS2 := HS.out.swap (i := x) (j := y) 1 (by rw [Hsz.out]; exact hxs) (by rw [Hsz.out]; exact hys)
        rw [← Hvx.out, ← Hvy.out] at hS2
        have HS2 := hide hS2
        have hW2 := HW.out.step (by omega) (by omega)
        rw [← Hx.out, ← Hy.out] at hW2
        have HW2 := hide hW2
        have HP2 := hide (permIn_trans _ _ _ _ _ HP.out (swp_permIn d' a (b + n) x y (by have := Hx.out; omega) (by have := Hx.out; omega) (by have := Hy.out; omega) (by have := Hy.out; omega) (by rw [Hsz.out]; omega)))
        clear hS2 hW2
        go_wp2
        go_roundw
        case rel => exact ⟨i + 1, swp d' x y, by omega, by go_num, HS2.out, HW2, HP2⟩
        case measure => simp [intOf]; omega
    · have e : i = n := by omega
      subst e
      have HS := hide hS
      clear hS
      go_wp2
      go_end0
      exact ⟨rfl, d', HS.out, HW.out, HP.out⟩

theorem Ins.begin {lt : Nat → Nat → Bool} {a i : Nat} {d : Array Nat} (h : SortedIn lt a i d) : Ins lt a i i d := ⟨fun p q h1 h2 h3 h4 h5 => h p q h1 h2 (by omega), fun q h1 h2 => by omega⟩

theorem cf50 (W : World) (x y p : Value) : (callFunc 50 #[x, y, p]).run Try.prog W = .ok (.enter 50 #[x, y, p]) W := by kernel_rfl

set_option maxHeartbeats 1600000 in
set_option maxRecDepth 100000 in
theorem insertion_c (g P N c a b : Nat) (fq : List Int) (d : Array Nat) (w : World) (h : St w w g P fq d) (hN : N = d.size) (hab : a ≤ b) (hb : b ≤ d.size) :
    Calls Try.prog 57 #[.slice (some ⟨g, 0, none⟩) N c, .int .i64 (a : Int), .int .i64 (b : Int), .func (.func 50) #[] #[.pointer (some ⟨P, 0, none⟩)]] w fun e w' => e = .returned (.tuple #[]) ∧ ∃ d', St w w' g P fq d' ∧ PermIn a b d d' ∧ SortedIn (ltF fq) a b d' := by
  have hsm := h.dt.small
  have H := hide h
  have hcf := cf50
  subst hN
  clear h
  go_enter Try.func57, Try.ntmps57
  go_wp2
  go_loopw [8, 9] (fun iv _ wr => ∃ (i : Nat) (d' : Array Nat), a + 1 ≤ i ∧ (i ≤ b ∨ i = a + 1) ∧ iv = .int .i64 (i : Int) ∧ St w wr g P fq d' ∧ Hid (PermIn a b d d') ∧ Hid (SortedIn (ltF fq) a i d')) (fun iv _ _ => b + 1 - (intOf iv).toNat)
  case atStart => exact ⟨a + 1, d, Nat.le_refl _, Or.inr rfl, by go_num, H.out, permIn_refl _ _ _, fun p q h1 h2 h3 => by omega⟩
  case round =>
    obtain ⟨i, d', hi1, hi2, rfl, hS, HP, HO⟩ := hrel
    by_cases hlt : i < b
    · have HS := hide hS
      clear hS
      go_wp2
      go_loopw [9] (fun jv wr => ∃ (j : Nat) (d2 : Array Nat), a ≤ j ∧ j ≤ i ∧ jv = .int .i64 (j : Int) ∧ St w wr g P fq d2 ∧ Hid (PermIn a b d d2) ∧ Hid (Ins (ltF fq) a j i d2)) (fun jv _ => (intOf jv).toNat)
      case atStart => exact ⟨i, d', by omega, Nat.le_refl _, rfl, HS.out, HP, Ins.begin HO.out⟩
      case round =>
        obtain ⟨j, d2, hj1, hj2, rfl, hS2, HP2, HI⟩ := hrel
        have hsz : d2.size = d.size := HP2.out.1
        have HS2 := hide hS2
        by_cases hja : a < j
        · obtain ⟨t, ht⟩ : ∃ t, j = t + 1 := ⟨j - 1, by omega⟩
          have c1 := hS2.dt.cell (j := j) (by omega)
          have c2 := hS2.dt.cell (j := t) (by omega)
          have z1 := hS2.dt.frozen j
          have z2 := hS2.dt.frozen t
          have l1 := hS2.lt j (by omega)
          have l2 := hS2.lt t (by omega)
          obtain ⟨vx, hvx⟩ : ∃ v, v = d2[j]! := ⟨_, rfl⟩
          obtain ⟨vy, hvy⟩ : ∃ v, v = d2[t]! := ⟨_, rfl⟩
          rw [← hvx] at c1 l1
          rw [← hvy] at c2 l2
          have hji : (a : Int) < (j : Int) := by omega
          have ht1 : (j : Int) - 1 = (t : Int) := by omega
          have hjs : (j : Int) < (d.size : Nat) := by omega
          have hts : (t : Int) < (d.size : Nat) := by omega
          have htj : ¬ t = j := by omega
          have hjt : ¬ j = t := by omega
          have Hcmp : Hid (∀ k, Calls Try.prog 50 #[.int .i64 (vx : Int), .int .i64 (vy : Int), .pointer (some ⟨P, 0, none⟩)] (wr.drewN k) fun e w' => e = .returned (.int .i64 (cmpI (at0 fq vx) (at0 fq vy))) ∧ ∃ k', w' = (wr.drewN k).drewN k') := fun k => cmp_c P vx vy fq _ _ (hS2.drewN k).ce l1 l2
          have Hc := hide (ltF_eq fq vx vy)
          obtain ⟨cv, hcv⟩ : ∃ cv, cv = cmpI (at0 fq vx) (at0 fq vy) := ⟨_, rfl⟩
          rw [← hcv] at Hcmp Hc
          have Hvx := hide hvx
          have Hvy := hide hvy
          have Ht := hide ht
          have Hsz := hide hsz
          clear hS2 hvx hvy ht hsz hcv
          go_wp2
          go_quiet ((go_at_call 50; exact Calls.quiet_of (Hcmp.out _)))
          have hS5 := HS2.out.drewN nq
          generalize wr.drewN nq = w5 at hS5 ⊢
          have c1 := hS5.dt.cell (j := j) (by rw [Hsz.out]; omega)
          have c2 := hS5.dt.cell (j := t) (by rw [Hsz.out]; omega)
          have z1 := hS5.dt.frozen j
          have z2 := hS5.dt.frozen t
          rw [← Hvx.out] at c1
          rw [← Hvy.out] at c2
          have HS5 := hide hS5
          clear hS5
          by_cases hneg : cv < 0
          · have hl : ltF fq d2[j]! d2[t]! = true := by rw [← Hvx.out, ← Hvy.out, ← Hc.out]; simpa using hneg
            have hI2 := HI.out
            rw [Ht.out] at hI2
            have hI3 := hI2.step (by rw [← Ht.out]; exact hl) (by have := Ht.out; omega) (by have := Ht.out; rw [Hsz.out]; omega)
            rw [← Ht.out] at hI3
            have HI3 := hide hI3
            have hS6 := HS5.out.swap (i := j) (j := t) 1 (by rw [Hsz.out]; omega) (by rw [Hsz.out]; omega)
            rw [← Hvx.out, ← Hvy.out] at hS6
            have HS6 := hide hS6
            have HP6 := hide (permIn_trans _ _ _ _ _ HP2.out (swp_permIn d2 a b j t (by omega) (by omega) (by have := Ht.out; omega) (by have := Ht.out; omega) (by rw [Hsz.out]; omega)))
            have hti : t ≤ i := by have := Ht.out; omega
            have hta : a ≤ t := by have := Ht.out; omega
            clear hl hI2 hI3 hS6
            go_wp2
            go_region
            all_goals
              go_wp2
              go_roundw
              case rel => exact ⟨t, swp d2 j t, hta, hti, rfl, HS6.out, HP6, HI3⟩
              case measure => simp [intOf]; have := Ht.out; omega
          · have hl : ltF fq d2[j]! d2[t]! = false := by rw [← Hvx.out, ← Hvy.out, ← Hc.out]; simpa using hneg
            have HO2 := hide (HI.out.stop (swoF fq) (Or.inr (by rw [show j - 1 = t by have := Ht.out; omega]; exact hl)))
            clear hl
            go_wp2
            go_roundw
            case rel => exact ⟨i + 1, d2, by omega, by omega, by go_num, HS5.out, HP2, HO2⟩
            case measure => simp [intOf]; omega
        · have HO2 := hide (HI.out.stop (swoF fq) (Or.inl (by omega)))
          have hja' : ¬ (a : Int) < (j : Int) := by omega
          clear hS2
          go_wp2
          go_quiet (fail)
          have hS5 := HS2.out.drewN nq
          generalize wr.drewN nq = w5 at hS5 ⊢
          have HS5 := hide hS5
          clear hS5
          go_wp2
          go_roundw
          case rel => exact ⟨i + 1, d2, by omega, by omega, by go_num, HS5.out, HP2, HO2⟩
          case measure => simp [intOf]; omega
    · have HS := hide hS
      clear hS
      go_wp2
      go_end0
      refine ⟨rfl, d', HS.out, HP.out, ?_⟩
      have := HO.out
      intro p q h1 h2 h3
      exact this p q h1 h2 (by omega)
end Go.Proofs.Ytlkidddbndkfiaa
