/-
  The contract of lengthen.
-/
import Derived.Test.YtlkidddbndkfiaaPc
import Derived.Test.YtlkidddbndkfiaaSb
namespace Go.Proofs.Ytlkidddbndkfiaa
open Go.RowKit

/-- What a length adds to the sum of words. -/
def fz (z : Int) : Nat := if 1 ≤ z ∧ z ≤ 15 then 2 ^ (15 - z.toNat) else 0

theorem nxk_fz (ls : List Int) (k : Nat) : nxk ls (k + 1) 15 = nxk ls k 15 + fz (at0 ls k) := by
  rw [nxk_succ]; rfl

theorem at0_set (o : List Int) (k : Nat) (z : Int) (hk : k < o.length) (j : Nat) : at0 (o.set k z) j = if j = k then z else at0 o j := by
  unfold at0
  simp only [List.getD_eq_getElem?_getD, List.getElem?_set]
  by_cases e : k = j
  · subst e; simp [hk]
  · rw [if_neg e, if_neg (Ne.symm e)]

theorem nxk_set (o : List Int) (k : Nat) (z : Int) (hk : k < o.length) (n : Nat) : nxk (o.set k z) n 15 + (if k < n then fz (at0 o k) else 0) = nxk o n 15 + (if k < n then fz z else 0) := by
  induction n with
  | zero => simp [nxk_zero]
  | succ n ih =>
    rw [nxk_fz, nxk_fz, at0_set o k z hk]
    by_cases e : n = k
    · subst e
      rw [if_neg (by omega), if_neg (by omega)] at ih
      simp
      omega
    · rw [if_neg e]
      by_cases h : k < n
      · rw [if_pos h, if_pos h] at ih
        rw [if_pos (by omega), if_pos (by omega)]
        omega
      · rw [if_neg h, if_neg h] at ih
        rw [if_neg (by omega), if_neg (by omega)]
        omega

/-- The lengths under way: t rows are done, of the next one x symbols. -/
structure LenSt (S : List Item) (L : Nat) (u : Nat → Nat) (o : List Int) (t x : Nat) : Prop where
  other : ∀ k, k < o.length → (∀ i, i < S.length → u i ≠ k) → at0 o k = 0
  sym : ∀ i, i < S.length → at0 o (u i) = ((ln S L t i + if i < x then 1 else 0 : Nat) : Int)
  kr0 : t = 0 → nxk o o.length 15 = x * 16384
  kr : 1 ≤ t → 2 * nxk o o.length 15 + x * 2 ^ (15 - t) = 65536 + cT S L t * 2 ^ (15 - t)

theorem LenSt.step {S : List Item} {L : Nat} {u : Nat → Nat} {o : List Int} {t x : Nat} (hS : Syms S L) (hL : L ≤ 15) (ht : t < L) (h : LenSt S L u o t x) (hx : x < sT S L t) (hu : ∀ i, i < S.length → u i < o.length) (hinj : ∀ i j, i < S.length → j < S.length → u i = u j → i = j) :
    LenSt S L u (o.set (u x) (at0 o (u x) + 1)) t (x + 1) ∧ at0 o (u x) = (t : Int) := by
  have hxn : x < S.length := by have := (sT_le hS ht).1; omega
  have hat : at0 o (u x) = (t : Int) := by
    rw [h.sym x hxn, if_neg (by omega), ln_full hS ht hx]; rfl
  have hux := hu x hxn
  have hns := nxk_set o (u x) ((t : Int) + 1) hux o.length
  rw [if_pos hux, if_pos hux, hat] at hns
  have f1 : fz ((t : Int) + 1) = 2 ^ (14 - t) := by
    unfold fz
    rw [if_pos (by omega), show ((t : Int) + 1).toNat = t + 1 by omega, show 15 - (t + 1) = 14 - t by omega]
  rw [f1] at hns
  refine ⟨⟨fun k hk hne => ?_, fun i hi => ?_, fun e => ?_, fun e => ?_⟩, hat⟩
  · rw [List.length_set] at hk
    rw [at0_set _ _ _ hux, if_neg (fun e => hne x hxn e.symm)]
    exact h.other k hk hne
  · rw [at0_set _ _ _ hux]
    by_cases e : i = x
    · subst e
      rw [if_pos rfl, if_pos (by omega), hat, ln_full hS ht hx]
      simp
    · rw [if_neg (fun e2 => e (hinj i x hi hxn e2)), h.sym i hi]
      by_cases h2 : i < x
      · rw [if_pos h2, if_pos (by omega)]
      · rw [if_neg h2, if_neg (by omega)]
  · rw [List.length_set, hat]
    have h0 := h.kr0 e
    subst e
    have f0 : fz ((0 : Nat) : Int) = 0 := by unfold fz; rw [if_neg (by omega)]
    rw [f0] at hns
    have e14 : (2:Nat) ^ (14 - 0) = 16384 := by decide
    rw [e14] at hns
    omega
  · rw [List.length_set, hat]
    have h0 := h.kr e
    have f0 : fz (t : Int) = 2 ^ (15 - t) := by
      unfold fz
      rw [if_pos (by omega)]
      simp
    rw [f0] at hns
    have e15 : (2:Nat) ^ (15 - t) = 2 * 2 ^ (14 - t) := by rw [show 15 - t = (14 - t) + 1 by omega, Nat.pow_succ]; omega
    rw [e15] at hns h0 ⊢
    rw [Nat.add_mul]
    omega

theorem LenSt.next {S : List Item} {L : Nat} {u : Nat → Nat} {o : List Int} {t : Nat} (hS : Syms S L) (hL : L ≤ 15) (ht : t < L) (h : LenSt S L u o t (sT S L t)) : LenSt S L u o (t + 1) 0 := by
  refine ⟨h.other, fun i hi => ?_, fun e => by omega, fun _ => ?_⟩
  · rw [h.sym i hi, if_neg (show ¬ i < 0 by omega)]
    simp only [ln]
    rfl
  · obtain ⟨a1, a2, a3⟩ := sT_le hS ht
    rw [cT_succ]
    rcases Nat.eq_zero_or_pos t with e | e
    · have h0 := h.kr0 e
      subst e
      have h1 := sT_zero hS
      have c0 : cT S L 0 = 2 * S.length - 2 := rfl
      have h2 := hS.two
      have e14 : (2:Nat) ^ (15 - (0 + 1)) = 16384 := by decide
      rw [e14, h0, h1]
      omega
    · have h0 := h.kr e
      have e15 : (2:Nat) ^ (15 - t) = 2 * 2 ^ (15 - (t + 1)) := by rw [show 15 - t = (15 - (t + 1)) + 1 by omega, Nat.pow_succ]; omega
      rw [e15, ← a3, Nat.add_mul] at h0
      generalize 2 ^ (15 - (t + 1)) = M at *
      have x1 : sT S L t * (2 * M) = 2 * (sT S L t * M) := by rw [Nat.mul_left_comm]
      have x2 : pT S L t * (2 * M) = 2 * (pT S L t * M) := by rw [Nat.mul_left_comm]
      have x3 : 2 * pT S L t * M = 2 * (pT S L t * M) := by rw [Nat.mul_assoc]
      rw [x3]
      omega

/-- The lengths in memory. -/
structure OutM (w : World) (g : Nat) (o : List Int) : Prop where
  ex : ∃ cs : Array Value, w.heap[g]? = some (.cells cs 3 (0, 0)) ∧ o.length ≤ cs.size ∧ ∀ k, k < o.length → cs[k]? = some (.int .i64 (at0 o k))
theorem OutM.set {w : World} {g : Nat} {o : List Int} (h : OutM w g o) {k : Nat} (hk : k < o.length) (z : Int) : OutM (w.setCell ⟨g, k, none⟩ (.int .i64 z)) g (o.set k z) := by
  obtain ⟨cs, h1, h2, h3⟩ := h.ex
  refine ⟨_, heap_setCell_own _ h1, by simpa using h2, fun j hj => ?_⟩
  rw [List.length_set] at hj
  rw [at0_set _ _ _ hk]
  by_cases e : j = k
  · subst e; rw [if_pos rfl, Array.getElem?_setIfInBounds_self_of_lt (by omega)]
  · rw [if_neg e, Array.getElem?_setIfInBounds_ne (Ne.symm e)]; exact h3 j hj
theorem OutM.cell {w : World} {g : Nat} {o : List Int} (h : OutM w g o) {k : Nat} (hk : k < o.length) : w.cell? ⟨g, k, none⟩ = some (.int .i64 (at0 o k)) ∧ w.frozen? ⟨g, k, none⟩ = false := by
  obtain ⟨cs, h1, h2, h3⟩ := h.ex
  exact ⟨cell_of h1 (h3 k hk), frozen_of h1⟩
theorem OutM.keep {w w' : World} {g : Nat} {o : List Int} (h : OutM w g o) {S : Nat → Prop} (f : Fr S w w') (hg : ¬ S g) : OutM w' g o := by
  obtain ⟨cs, h1, h2⟩ := h.ex
  exact ⟨cs, by rw [f.block g (lt_of h1) hg]; exact h1, h2⟩

theorem LiesT.take {w : World} {a : Option Addr} {l : List Item} (h : LiesT w a l) (c : Nat) : LiesT w a (l.take c) := by
  intro j hj
  rw [List.length_take] at hj
  obtain ⟨B, o, e, h1, h2⟩ := h j (by omega)
  have e2 : it (l.take c) j = it l j := by unfold it; simp only [List.getD_eq_getElem?_getD, List.getElem?_take, if_pos (show j < c by omega)]
  exact ⟨B, o, e, by rw [e2]; exact h1, by rw [e2]; exact h2⟩
set_option maxHeartbeats 3200000 in
set_option maxRecDepth 100000 in
theorem lengthen_c (gO gU c cU L lo rp : Nat) (ra : Option Addr) (S : List Item) (d : Array Nat) (o : List Int) (vals : List Value) (w : World) (hS : Syms S L) (hL : L ≤ 15) (hO : OutM w gO o) (hU : Dt w gU d) (hdn : d.size = S.length) (hov : w.ownsRow lo 79 1 (.slice ra L rp) L vals) (hR : RowsOk w S L vals (Value.slice ra L rp).ownBlock lo)
    (hgo : gO < lo) (hUO : gU ≠ gO) (hu : ∀ i, i < S.length → d[i]! < o.length) (hinj : ∀ i j, i < S.length → j < S.length → d[i]! = d[j]! → i = j) (hst : LenSt S L (fun i => d[i]!) o 0 0) (hcU : S.length ≤ cU) (hS320 : S.length ≤ 320) :
    Calls Try.prog 39 #[.slice (some ⟨gO, 0, none⟩) o.length c, .slice (some ⟨gU, 0, none⟩) S.length cU, .slice ra L rp] w fun e w' => e = .returned (.tuple #[]) ∧ ∃ o', o'.length = o.length ∧ OutM w' gO o' ∧ LenSt S L (fun i => d[i]!) o' L 0 ∧ Fr (fun k => k = gO) w w' := by
  have h2 := hS.two
  obtain ⟨c0, hc0⟩ : ∃ c0, c0 = 2 * S.length - 2 := ⟨_, rfl⟩
  have hc1 : 2 * (S.length : Int) - 2 = (c0 : Int) := by omega
  have Hc0 := hide hc0
  have HS := hide hS
  have HO := hide hO
  have HU := hide hU
  have Hdn := hide hdn
  have Hov := hide hov
  have HR := hide hR
  have Hu := hide hu
  have Hinj := hide hinj
  have Hst := hide hst
  have hL1 := hS.one
  clear hc0 hS hO hU hdn hov hR hu hinj hst
  go_enter Try.func39, Try.ntmps39
  go_wp2
  go_loopw [6, 7, 8, 10] (fun cv iv _ _ wr => ∃ (t : Nat) (i : Int) (o' : List Int), t ≤ L ∧ i = (L : Int) - 1 - t ∧ iv = .int .i64 i ∧ cv = .int .i64 (cT S L t : Nat) ∧ o'.length = o.length ∧ OutM wr gO o' ∧ Hid (LenSt S L (fun i => d[i]!) o' t 0) ∧ Fr (fun k => k = gO) w wr) (fun _ iv _ _ _ => (intOf iv + 1).toNat)
  case atStart => exact ⟨0, (L : Int) - 1, o, Nat.zero_le _, by omega, rfl, by rw [Hc0.out]; rfl, rfl, HO.out, Hst, Fr.refl _ _⟩
  case round =>
    obtain ⟨t, i, o', ht, hi, rfl, rfl, hol, hM, HL, hF⟩ := hrel
    by_cases hlt : t < L
    · obtain ⟨j, hj⟩ : ∃ j : Nat, j = L - 1 - t := ⟨_, rfl⟩
      have hij : i = (j : Int) := by omega
      subst hij
      obtain ⟨xa, xc, x1, x2, x3, x4, x5⟩ := HR.out.2 j (by omega)
      obtain ⟨vB, hva, hcell⟩ := own_cell1 Hov.out x1
      subst hva
      have hvB := Hov.out.lt vB rfl
      have hcell2 : wr.cell? ⟨vB, j, none⟩ = some (.slice xa (rowN S j).length xc) := (World.cell?_of_block (a := ⟨vB, j, none⟩) (hF.block vB hvB.2 (by omega))).trans hcell
      have x2' := x2.keep hF (fun ad e hne => by have := (x5 ad e hne).2; omega)
      have hcl := cT_le HS.out t hlt
      rw [← hj] at hcl
      have hrs := row_size S j
      obtain ⟨a1, a2, a3⟩ := sT_le HS.out hlt
      obtain ⟨ch, hch⟩ : ∃ ch, ch = cT S L t := ⟨_, rfl⟩
      obtain ⟨RL, hRL⟩ : ∃ RL, RL = rowN S j := ⟨_, rfl⟩
      rw [← hch] at hcl a2 a3 ⊢
      rw [← hRL] at hcell2 x2' hcl x3 hrs
      have hp : cntP (RL.take ch) = pT S L t := by unfold pT; rw [← hj, ← hRL, ← hch]
      have hlt2 : (RL.take ch).length = ch := by rw [List.length_take]; omega
      have CP := hide (countPairs_c xa xc (RL.take ch) wr (x2'.take ch) (by omega))
      rw [hp, hlt2] at CP
      obtain ⟨p, hpp⟩ : ∃ p, p = pT S L t := ⟨_, rfl⟩
      obtain ⟨s, hss⟩ : ∃ s, s = sT S L t := ⟨_, rfl⟩
      rw [← hpp] at CP a2 a3
      rw [← hss] at a1 a3
      have hjL : (j : Int) < (L : Int) := by omega
      have hcs : (ch : Int) - (p : Int) = (s : Int) := by omega
      have hchx : ch ≤ xc := by omega
      have hchi : (ch : Int) ≤ (xc : Int) := by omega
      have hscu : (s : Int) ≤ (cU : Int) := by omega
      have hchb : ch ≤ 640 := by omega
      have Hch := hide hch
      have Hpp := hide hpp
      have Hss := hide hss
      have Hj := hide hj
      have HM := hide hM
      have HF := hide hF
      have hj0 : (0 : Int) ≤ (j : Int) := by omega
      clear hM hF x1 x2 x2' x3 x4 x5 hcell hch hRL hp hlt2 hpp hss hj hi hcl hrs
      go_wp2_with fail
      refine CP.out.mono ?_
      rintro e w2 ⟨rfl, hF2⟩
      have HM2 := hide (HM.out.keep hF2 (fun h => h))
      have HF2 := hide (HF.out.join (hF2.mono fun _ _ h => h.elim))
      clear hF2
      go_wp2
      go_loopw [10, 35] (fun _ xv wr => ∃ (x : Nat) (o2 : List Int), x ≤ s ∧ xv = .int .i64 (x : Int) ∧ o2.length = o.length ∧ OutM wr gO o2 ∧ Hid (LenSt S L (fun i => d[i]!) o2 t x) ∧ Fr (fun k => k = gO) w wr) (fun _ xv _ => s - (intOf xv).toNat)
      case atStart => exact ⟨0, o', Nat.zero_le _, rfl, hol, HM2.out, HL, HF2.out⟩
      case round =>
        obtain ⟨x, o2, hx, rfl, hol2, hM3, HL3, hF3⟩ := hrel
        by_cases hxs : x < s
        · have hUw := HU.out.keep hF3 (fun e => hUO e)
          have hdn := Hdn.out
          have cu := hUw.cell (j := x) (by omega)
          have hux := Hu.out x (by omega)
          obtain ⟨q1, q2⟩ := hM3.cell (k := d[x]!) (by omega)
          obtain ⟨l1, l2⟩ := HL3.out.step HS.out hL hlt (by rw [← Hss.out]; exact hxs) (fun i hi => by rw [hol2]; exact Hu.out i hi) Hinj.out
          have l2' : at0 o2 d[x]! = (t : Int) := l2
          have l1' : LenSt S L (fun i => d[i]!) (o2.set d[x]! ((t : Int) + 1)) t (x + 1) := by
            have := l1
            simp only [l2'] at this
            exact this
          rw [l2'] at q1
          have HL4 := hide l1'
          have HM4 := hide (hM3.set (k := d[x]!) (by omega) ((t : Int) + 1))
          obtain ⟨ux, hux2⟩ : ∃ ux, ux = d[x]! := ⟨_, rfl⟩
          rw [← hux2] at cu q1 q2 hux HL4 HM4
          have HF4 := hide (hF3.join ((Fr.of_setCell _ ⟨gO, ux, none⟩ (.int .i64 ((t : Int) + 1))).mono fun k _ h => h))
          have huxi : (ux : Int) < (o.length : Nat) := by omega
          have hxi : (x : Int) < (s : Int) := by omega
          clear hUw hM3 hF3 l1 l2 l2' l1' hux2 hdn
          go_wp2
          go_roundw
          case rel => exact ⟨x + 1, o2.set ux ((t : Int) + 1), by omega, by go_num, by rw [List.length_set]; exact hol2, HM4.out, HL4, HF4.out⟩
          case measure => simp [intOf]; omega
        · have e : x = s := by omega
          subst e
          have hL5 := HL3.out
          rw [Hss.out] at hL5
          have HL5 := hide (hL5.next HS.out hL hlt)
          have HM3 := hide hM3
          have HF3 := hide hF3
          obtain ⟨c2, hc2⟩ : ∃ c2 : Nat, c2 = 2 * p := ⟨_, rfl⟩
          have hc3 : 2 * (p : Int) = (c2 : Int) := by omega
          have Hc2 := hide hc2
          clear hL5 hM3 hF3 hc2
          go_wp2
          go_roundw
          case rel =>
            have e1 := Hj.out
            have e2 := Hc2.out
            have e3 := Hpp.out
            exact ⟨t + 1, (j : Int) - 1, o2, by omega, by omega, rfl, by rw [cT_succ, ← e3, ← e2], hol2, HM3.out, HL5, HF3.out⟩
          case measure => simp [intOf]
    · have e : t = L := by omega
      subst e
      have hneg : ¬ (0 : Int) ≤ i := by omega
      have HM := hide hM
      have HF := hide hF
      clear hM hF
      go_wp2
      go_end0
      exact ⟨rfl, o', hol, HM.out, HL.out, HF.out⟩
end Go.Proofs.Ytlkidddbndkfiaa
