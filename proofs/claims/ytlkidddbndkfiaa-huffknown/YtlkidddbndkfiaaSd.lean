/-
  Contracts of sorting: merging in place.
-/
import Derived.Test.YtlkidddbndkfiaaSc
namespace Go.Proofs.Ytlkidddbndkfiaa
open Go.RowKit
open Go.Sort (swp PermIn SortedIn SWO swp_get swp_size swp_permIn permIn_refl permIn_trans permIn_mono permIn_all Ins)

/-- What a merge owes. -/
def Merges (g P c : Nat) (fq : List Int) (a m b : Nat) (d : Array Nat) (w : World) : Prop :=
  Calls Try.prog 58 #[.slice (some ⟨g, 0, none⟩) d.size c, .int .i64 (a : Int), .int .i64 (m : Int), .int .i64 (b : Int), .func (.func 50) #[] #[.pointer (some ⟨P, 0, none⟩)]] w fun e w' => e = .returned (.tuple #[]) ∧ ∃ d', St w w' g P fq d' ∧ PermIn a b d d' ∧ SortedIn (ltF fq) a b d'

/-- The search of a merge: where it stands. -/
structure Sea (fq : List Int) (d : Array Nat) (s0 r0 p s r : Nat) : Prop where
  lo : ∀ c, s0 ≤ c → c < s → ltF fq d[p - c]! d[c]! = false
  hi : ∀ c, r ≤ c → c < r0 → ltF fq d[p - c]! d[c]! = true

set_option linter.unusedVariables false in
theorem Sea.right {fq : List Int} {d : Array Nat} {a m b s0 r0 p s r q : Nat} (h : Sea fq d s0 r0 p s r) (h1 : SortedIn (ltF fq) a m d) (h2 : SortedIn (ltF fq) m b d) (ha : a ≤ s0) (hr : r0 ≤ m) (hp1 : p < b + s0) (hp2 : m + r0 ≤ p + 1) (hsq : s ≤ q) (hqr : q < r) (hrr : r ≤ r0) (hss : s0 ≤ s)
    (hl : ltF fq d[p - q]! d[q]! = false) : Sea fq d s0 r0 p (q + 1) r := by
  refine ⟨fun c x y => ?_, h.hi⟩
  by_cases e : c = q
  · rw [e]; exact hl
  · have k1 := h2 (p - q) (p - c) (by omega) (by omega) (by omega)
    have k2 := h1 c q (by omega) (by omega) (by omega)
    exact (swoF fq).ntrans _ _ _ k1 ((swoF fq).ntrans _ _ _ hl k2)
set_option linter.unusedVariables false in
theorem Sea.left {fq : List Int} {d : Array Nat} {a m b s0 r0 p s r q : Nat} (h : Sea fq d s0 r0 p s r) (h1 : SortedIn (ltF fq) a m d) (h2 : SortedIn (ltF fq) m b d) (ha : a ≤ s0) (hr : r0 ≤ m) (hp1 : p < b + s0) (hp2 : m + r0 ≤ p + 1) (hsq : s ≤ q) (hqr : q < r) (hrr : r ≤ r0) (hss : s0 ≤ s)
    (hl : ltF fq d[p - q]! d[q]! = true) : Sea fq d s0 r0 p s q := by
  refine ⟨h.lo, fun c x y => ?_⟩
  by_cases e : c = q
  · rw [e]; exact hl
  · cases hc : ltF fq d[p - c]! d[c]! with
    | true => rfl
    | false =>
      have k1 := h2 (p - c) (p - q) (by omega) (by omega) (by omega)
      have k2 := h1 q c (by omega) (by omega) (by omega)
      have := (swoF fq).ntrans _ _ _ k1 ((swoF fq).ntrans _ _ _ hc k2)
      rw [this] at hl
      cases hl

set_option maxHeartbeats 6400000 in
set_option maxRecDepth 100000 in
theorem sm_main (g P c a m b : Nat) (fq : List Int) (d : Array Nat) (w : World) (h : St w w g P fq d) (ham : a + 1 < m) (hmb : m + 1 < b) (hb : b ≤ d.size) (h1 : SortedIn (ltF fq) a m d) (h2 : SortedIn (ltF fq) m b d)
    (ih : ∀ a' m' b' d' w', b' - a' < b - a → a' < m' → m' < b' → b' ≤ d'.size → St w' w' g P fq d' → SortedIn (ltF fq) a' m' d' → SortedIn (ltF fq) m' b' d' → Merges g P c fq a' m' b' d' w') : Merges g P c fq a m b d w := by
  unfold Merges
  have hsm := h.dt.small
  obtain ⟨sm, mid, ⟨g1, g2⟩, g3, ⟨g4, g5⟩, g6⟩ := half_facts a b (by omega) (by omega)
  have hmid1 : a < mid := by omega
  have hmid2 : mid < b := by omega
  have H := hide h
  have H1 := hide h1
  have H2 := hide h2
  have IH := hide ih
  have hcf := cf50
  have hm1 : ((m : Int) - (a : Int) == 1) = false := beq_false_of_ne (by omega)
  have hm2 : ((b : Int) - (m : Int) == 1) = false := beq_false_of_ne (by omega)
  obtain ⟨nn, hnn⟩ : ∃ nn, nn = mid + m := ⟨_, rfl⟩
  have hn1 : (mid : Int) + (m : Int) = (nn : Int) := by omega
  obtain ⟨p, hp⟩ : ∃ p, nn = p + 1 := ⟨nn - 1, by omega⟩
  have hp1 : (nn : Int) - 1 = (p : Int) := by omega
  have hcase : ∃ s0 r0, ((mid < m ∧ nn = b + s0 ∧ r0 = mid) ∨ (¬ mid < m ∧ s0 = a ∧ r0 = m)) ∧ a ≤ s0 ∧ s0 ≤ r0 ∧ r0 ≤ m ∧ r0 ≤ mid ∧ p < b + s0 ∧ m + r0 ≤ p + 1 := by
    by_cases hc : mid < m
    · exact ⟨nn - b, mid, Or.inl ⟨hc, by omega, rfl⟩, by omega, by omega, by omega, by omega, by omega, by omega⟩
    · exact ⟨a, m, Or.inr ⟨hc, rfl, rfl⟩, by omega, by omega, by omega, by omega, by omega, by omega⟩
  obtain ⟨s0, r0, hcc, k1, k2, k3, k4, k5, k6⟩ := hcase
  have Hcc := hide hcc
  have Hnn := hide hnn
  have Hp := hide hp
  have hnb : nn ≤ 2000 := by omega
  have hmidb : mid ≤ 1000 := by omega
  clear h h1 h2 ih g4 g5 hnn hp
  go_enter Try.func58, Try.ntmps58
  rcases hcc with ⟨hc1, hc2, hc3⟩ | ⟨hc1, hc2, hc3⟩
  case' inl =>
    have hs0 : (nn : Int) - (b : Int) = (s0 : Int) := by omega
    have hmi : (mid : Int) < (m : Int) := by omega
    have Hr0 := hide hc3
    clear hc1 hc2 hc3
    go_wp2
    clear hs0 g1 g3 hn1 hp1 hmi
    go_loopw [20, 21, 23] (fun sv rv _ wr => ∃ s r : Nat, s0 ≤ s ∧ s ≤ r ∧ r ≤ r0 ∧ sv = .int .i64 (s : Int) ∧ rv = .int .i64 (r : Int) ∧ St w wr g P fq d ∧ Hid (Sea fq d s0 r0 p s r)) (fun sv rv _ _ => (intOf rv).toNat - (intOf sv).toNat)
    case atStart =>
      have hr0 := Hr0.out
      exact ⟨s0, mid, Nat.le_refl _, by omega, by omega, rfl, rfl, H.out, ⟨fun c x y => by omega, fun c x y => by omega⟩⟩
    clear Hr0
  case' inr =>
    have hmi : ¬ (mid : Int) < (m : Int) := by omega
    have Hr0 := hide (And.intro hc2 hc3)
    clear hc1 hc2 hc3
    go_wp2
    clear g1 g3 hn1 hp1 hmi
    go_loopw [20, 21, 23] (fun sv rv _ wr => ∃ s r : Nat, s0 ≤ s ∧ s ≤ r ∧ r ≤ r0 ∧ sv = .int .i64 (s : Int) ∧ rv = .int .i64 (r : Int) ∧ St w wr g P fq d ∧ Hid (Sea fq d s0 r0 p s r)) (fun sv rv _ _ => (intOf rv).toNat - (intOf sv).toNat)
    case atStart =>
      have hr0 := Hr0.out
      exact ⟨a, m, by omega, by omega, by omega, rfl, rfl, H.out, ⟨fun c x y => by omega, fun c x y => by omega⟩⟩
    clear Hr0
  all_goals
    obtain ⟨s, r, hs1, hs2, hs3, rfl, rfl, hS, HSe⟩ := hrel
    have HS := hide hS
    by_cases hlt : s < r
    · obtain ⟨sq, q, ⟨e1, e2⟩, e3, ⟨e4, e5⟩, e6⟩ := half_facts s r (by omega) (by omega)
      have hq1 : s ≤ q := by omega
      have hq2 : q < r := by omega
      obtain ⟨pq, hpq⟩ : ∃ pq, pq = p - q := ⟨_, rfl⟩
      have hpq1 : (p : Int) - (q : Int) = (pq : Int) := by omega
      have c1 := hS.dt.cell (j := pq) (by omega)
      have c2 := hS.dt.cell (j := q) (by omega)
      have l1 := hS.lt pq (by omega)
      have l2 := hS.lt q (by omega)
      obtain ⟨vx, hvx⟩ : ∃ v, v = d[pq]! := ⟨_, rfl⟩
      obtain ⟨vy, hvy⟩ : ∃ v, v = d[q]! := ⟨_, rfl⟩
      rw [← hvx] at c1 l1
      rw [← hvy] at c2 l2
      have hqs : (q : Int) < (d.size : Nat) := by omega
      have has : (pq : Int) < (d.size : Nat) := by omega
      have Hcmp : Hid (∀ k, Calls Try.prog 50 #[.int .i64 (vx : Int), .int .i64 (vy : Int), .pointer (some ⟨P, 0, none⟩)] (wr.drewN k) fun e w' => e = .returned (.int .i64 (cmpI (at0 fq vx) (at0 fq vy))) ∧ ∃ k', w' = (wr.drewN k).drewN k') := fun k => cmp_c P vx vy fq _ _ (hS.drewN k).ce l1 l2
      have Hc := hide (ltF_eq fq vx vy)
      obtain ⟨cv, hcv⟩ : ∃ cv, cv = cmpI (at0 fq vx) (at0 fq vy) := ⟨_, rfl⟩
      rw [← hcv] at Hcmp Hc
      have Hvx := hide hvx
      have Hvy := hide hvy
      have Hpq := hide hpq
      have hqb : q ≤ 1000 := by omega
      clear hS hvx hvy hcv e4 e5 hpq
      go_wp2
      go_quiet ((go_at_call 50; exact Calls.quiet_of (Hcmp.out _)))
      have HS5 := hide (HS.out.drewN nq)
      generalize wr.drewN nq = w5 at HS5 ⊢
      by_cases hneg : cv < 0
      · have hdc : decide (cv < 0) = true := decide_eq_true hneg
        rw [hdc]
        clear hdc
        have hl : ltF fq d[p - q]! d[q]! = true := by rw [← Hpq.out, ← Hvx.out, ← Hvy.out, ← Hc.out]; simpa using hneg
        have HSe2 := hide (HSe.out.left H1.out H2.out k1 k3 k5 k6 hq1 hq2 hs3 hs1 hl)
        clear hl
        go_wp2
        go_roundw
        case rel => exact ⟨s, q, hs1, hq1, by omega, rfl, rfl, HS5.out, HSe2⟩
        case measure => simp [intOf]; omega
      · have hdc : decide (cv < 0) = false := decide_eq_false hneg
        rw [hdc]
        clear hdc
        have hl : ltF fq d[p - q]! d[q]! = false := by rw [← Hpq.out, ← Hvx.out, ← Hvy.out, ← Hc.out]; simpa using hneg
        have HSe2 := hide (HSe.out.right H1.out H2.out k1 k3 k5 k6 hq1 hq2 hs3 hs1 hl)
        clear hl
        go_wp2
        go_roundw
        case rel => exact ⟨q + 1, r, by omega, by omega, hs3, by go_num, rfl, HS5.out, HSe2⟩
        case measure => simp [intOf]; omega
    · have e : s = r := by omega
      subst e
      clear hS
      obtain ⟨e, he⟩ : ∃ e, e = mid + m - s := ⟨_, rfl⟩
      have he1 : (nn : Int) - (s : Int) = (e : Int) := by have := Hnn.out; omega
      have hme : m ≤ e := by omega
      have heb : e ≤ b := by have := Hcc.out; have := Hnn.out; have := Hp.out; omega
      have Hmid4 : Hid (∀ D, Rot s m e d D → Mid4 (ltF fq) a s mid e b D) := by
        intro D hD
        rw [he] at hD ⊢
        have q1 := Hcc.out
        have q2 := Hnn.out
        have q3 := Hp.out
        refine mid4_of (swoF fq) H1.out H2.out (by omega) (by omega) (by omega) (by omega) (by omega) ?_ ?_ hD
        · by_cases x : s = s0
          · omega
          · refine Or.inr (Or.inr ?_)
            have := HSe.out.lo (s - 1) (by omega) (by omega)
            rw [show p - (s - 1) = mid + m - s by omega] at this
            exact this
        · by_cases x : s = r0
          · omega
          · refine Or.inr (Or.inr ?_)
            have := HSe.out.hi s (Nat.le_refl _) (by omega)
            rw [show p - s = mid + m - s - 1 by omega] at this
            exact this
      have He := hide he
      have has : a ≤ s := by omega
      have hsmid : s ≤ mid := by omega
      have hsm2 : s ≤ m := by omega
      have hmide : mid ≤ e := by omega
      clear he
      have key : (s < m ∧ m < e) ∨ ¬ (s < m ∧ m < e) := Classical.em _
      rcases key with hk | hk
      case' inl =>
        obtain ⟨hk1, hk2⟩ := hk
        have CR := hide (rotate_c g P d.size c s m e fq d (.func (.func 50) #[] #[.pointer (some ⟨P, 0, none⟩)]) wr HS.out.start rfl hk1 hk2 (by omega))
        go_wp2_with fail
        refine CR.out.mono ?_
        rintro er wA ⟨rfl, d1, t1, t2, t3⟩
        have HSA := hide (HS.out.trans t1)
        have HM4 := hide (Hmid4.out d1 t2)
        have HPA := hide (permIn_mono _ _ s e a b has heb hb t3)
        clear t1 t2 t3 hk1 hk2
      case' inr =>
        have HSA := HS
        have HM4 := hide (Hmid4.out d (Rot.none (by omega) hsm2 hme))
        have HPA : Hid (PermIn a b d d) := permIn_refl _ _ _
        obtain ⟨d1, hd1⟩ : ∃ d1, d1 = d := ⟨_, rfl⟩
        obtain ⟨wA, hwA⟩ : ∃ wA, wA = wr := ⟨_, rfl⟩
        have HPA : Hid (PermIn a b d d1) := by rw [hd1]; exact permIn_refl _ _ _
        rw [← hwA, ← hd1] at HSA
        rw [← hd1] at HM4
        rw [← hwA]
        clear hd1 hwA
        have hk3 : (decide ((s : Int) < (m : Int)) && decide ((m : Int) < (e : Int))) = false := by
          rw [Bool.and_eq_false_iff]
          by_cases x : s < m
          · exact Or.inr (decide_eq_false (by omega))
          · exact Or.inl (decide_eq_false (by omega))
        by_cases hk4 : s < m
        case' pos =>
          have hk5 : ¬ m < e := by omega
          clear hk hk3
        case' neg => clear hk hk3
      all_goals
        have hz1 : d1.size = d.size := HPA.out.1
        have Hz1 := hide hz1
        have hsai : (s : Int) ≤ (d.size : Nat) := by omega
        clear hz1 hsai
        have key2 : (a < s ∧ s < mid) ∨ ¬ (a < s ∧ s < mid) := Classical.em _
        rcases key2 with hk | hk
        case' inl =>
          obtain ⟨hk1, hk2⟩ := hk
          have CM : Merges g P c fq a s mid d1 wA := IH.out a s mid d1 wA (by omega) hk1 hk2 (by rw [Hz1.out]; omega) HSA.out.start HM4.out.s1 HM4.out.s2
          unfold Merges at CM
          rw [Hz1.out] at CM
          have CM2 := hide CM
          clear CM
          go_wp2_with fail
          refine CM2.out.mono ?_
          rintro er wB ⟨rfl, d2, t1, t2, t3⟩
          have HSB := hide (HSA.out.trans t1)
          have HPB := hide t2
          have HOB := hide t3
          clear t1 t2 t3 hk1 hk2
        case' inr =>
          have hO : SortedIn (ltF fq) a mid d1 := by
            by_cases x : a < s
            · have : s = mid := by omega
              rw [← this]; exact HM4.out.s1
            · have : s = a := by omega
              rw [← this]; exact HM4.out.s2
          obtain ⟨d2, hd2⟩ : ∃ d2, d2 = d1 := ⟨_, rfl⟩
          obtain ⟨wB, hwB⟩ : ∃ wB, wB = wA := ⟨_, rfl⟩
          have HPB : Hid (PermIn a mid d1 d2) := by rw [hd2]; exact permIn_refl _ _ _
          have HOB : Hid (SortedIn (ltF fq) a mid d2) := by rw [hd2]; exact hO
          have HSB := HSA
          rw [← hwB, ← hd2] at HSB
          rw [← hwB]
          clear hd2 hwB hO
          by_cases hk4 : a < s
          case' pos =>
            have hk5 : ¬ s < mid := by omega
            clear hk
          case' neg => clear hk
        all_goals
          have hz2 : d2.size = d.size := HPB.out.1.trans Hz1.out
          have Hz2 := hide hz2
          clear hz2
          have key3 : (mid < e ∧ e < b) ∨ ¬ (mid < e ∧ e < b) := Classical.em _
          rcases key3 with hk | hk
          case' inl =>
            obtain ⟨hk1, hk2⟩ := hk
            have CM : Merges g P c fq mid e b d2 wB := IH.out mid e b d2 wB (by omega) hk1 hk2 (by rw [Hz2.out]; omega) HSB.out.start (SortedIn.same HM4.out.s3 fun x y _ => HPB.out.2.1 x (Or.inr y)) (SortedIn.same HM4.out.s4 fun x y _ => HPB.out.2.1 x (Or.inr (by omega)))
            unfold Merges at CM
            rw [Hz2.out] at CM
            have CM2 := hide CM
            clear CM
            go_wp2_with fail
            refine CM2.out.mono ?_
            rintro er wC ⟨rfl, d3, t1, t2, t3⟩
            have HSC := hide (HSB.out.trans t1)
            have HPC := hide t2
            have HOC := hide t3
            clear t1 t2 t3 hk1 hk2
            go_wp2
          case' inr =>
            have hO : SortedIn (ltF fq) mid b d2 := by
              refine SortedIn.same (d := d1) ?_ (fun x y _ => HPB.out.2.1 x (Or.inr y))
              by_cases x : mid < e
              · have : e = b := by omega
                rw [← this]; exact HM4.out.s3
              · have : e = mid := by omega
                rw [← this]; exact HM4.out.s4
            obtain ⟨d3, hd3⟩ : ∃ d3, d3 = d2 := ⟨_, rfl⟩
            have HPC : Hid (PermIn mid b d2 d3) := by rw [hd3]; exact permIn_refl _ _ _
            have HOC : Hid (SortedIn (ltF fq) mid b d3) := by rw [hd3]; exact hO
            have HSC := HSB
            rw [← hd3] at HSC
            clear hd3 hO
            by_cases hk4 : mid < e
            case' pos =>
              have hk5 : ¬ e < b := by omega
              clear hk
            case' neg => clear hk
            all_goals go_wp2
          all_goals
            go_end0
            obtain ⟨j1, j2⟩ := join_halves (lt := ltF fq) (a := a) (mid := mid) (b := b) (by rw [Hz1.out]; exact hb) (by omega) (by omega) HM4.out.le HPB.out HOB.out HPC.out HOC.out
            exact ⟨rfl, d3, HSC.out, permIn_trans _ _ _ _ _ HPA.out j2, j1⟩

theorem merge_c (g P c : Nat) (fq : List Int) : ∀ n a m b (d : Array Nat) (w : World), b - a ≤ n → a < m → m < b → b ≤ d.size → St w w g P fq d → SortedIn (ltF fq) a m d → SortedIn (ltF fq) m b d → Merges g P c fq a m b d w := by
  intro n
  induction n with
  | zero => intro a m b d w h; omega
  | succ n ih =>
    intro a m b d w hn ham hmb hb hS h1 h2
    by_cases c1 : m = a + 1
    · subst c1
      exact sm_first g P d.size c a b fq d w hS rfl hmb hb h2
    · by_cases c2 : b = m + 1
      · subst c2
        exact sm_last g P d.size c a m fq d w hS rfl (by omega) hb h1
      · exact sm_main g P c a m b fq d w hS (by omega) (by omega) hb h1 h2 (fun a' m' b' d' w' k1 k2 k3 k4 k5 k6 k7 => ih a' m' b' d' w' (by omega) k2 k3 k4 k5 k6 k7)
end Go.Proofs.Ytlkidddbndkfiaa
