/-
  Contracts of the rows of items: all rows.
-/
import Derived.Test.YtlkidddbndkfiaaPb
namespace Go.Proofs.Ytlkidddbndkfiaa
open Go.RowKit

theorem Try.info79 : (Try.prog.info? 79).map (fun i => (i.zero, i.size, i.bytes)) = some (some (.slice none 0 0), 1, 24) := by kernel_rfl

/-- The rows as they lie: row j is the slice vals[j]. -/
def RowsOk (w : World) (S : List Item) (k : Nat) (vals : List Value) (ob : Option Nat) (lo : Nat) : Prop :=
  vals.length = k ∧ ∀ j, j < k → ∃ ra rc, vals[j]? = some (.slice ra (rowN S j).length rc) ∧ LiesT w ra (rowN S j) ∧ (rowN S j).length ≤ rc ∧ (ra = none → rc = 0) ∧ ∀ ad, ra = some ad → rowN S j ≠ [] → ob ≠ some ad.block ∧ lo ≤ ad.block

theorem RowsOk.keep {w w' : World} {S : List Item} {k : Nat} {vals : List Value} {ob : Option Nat} {lo : Nat} (h : RowsOk w S k vals ob lo) (f : Fr (fun i => ob = some i) w w') : RowsOk w' S k vals ob lo := by
  refine ⟨h.1, fun j hj => ?_⟩
  obtain ⟨ra, rc, h1, h2, h3, h4, h5⟩ := h.2 j hj
  exact ⟨ra, rc, h1, h2.keep f (fun ad e hne => (h5 ad e hne).1), h3, h4, h5⟩
theorem RowsOk.keep0 {w w' : World} {S : List Item} {k : Nat} {vals : List Value} {ob : Option Nat} {lo : Nat} (h : RowsOk w S k vals ob lo) (f : Fr (fun _ => False) w w') : RowsOk w' S k vals ob lo := by
  refine ⟨h.1, fun j hj => ?_⟩
  obtain ⟨ra, rc, h1, h2, h3, h4, h5⟩ := h.2 j hj
  exact ⟨ra, rc, h1, h2.keep0 f, h3, h4, h5⟩

theorem own_cell1 {w : World} {lo n : Nat} {e : TypeId} {a : Option Addr} {c : Nat} {xs : List Value} (h : w.ownsRow lo e 1 (.slice a n c) n xs) {j : Nat} {x : Value} (hx : xs[j]? = some x) : ∃ B, a = some ⟨B, 0, none⟩ ∧ w.cell? ⟨B, j, none⟩ = some x := by
  rcases h.2 with ⟨hv, e0⟩ | ⟨g, cap, cur, hv, hg, hh, hr⟩
  · have hl := h.1
    have hj := (List.getElem?_eq_some_iff.1 hx).1
    omega
  · cases hv
    have := h.cells (g := g) rfl j x hx
    rw [add_none, Nat.zero_add] at this
    exact ⟨g, rfl, this⟩

set_option maxHeartbeats 3200000 in
set_option maxRecDepth 100000 in
theorem mergedRows_c (a : Option Addr) (c L lo : Nat) (S : List Item) (w : World) (ha : LiesT w a S) (hca : S.length ≤ c) (hna : a = none → c = 0) (hlen : S.length ≤ 320) (hL1 : 1 ≤ L) (hL2 : L ≤ 15) (hw : ∀ x ∈ S, x.1 ≤ 1048576) (hlo : ∀ ad, a = some ad → S ≠ [] → lo ≤ ad.block) (hlow : lo ≤ w.heap.size) :
    Calls Try.prog 40 #[.slice a S.length c, .int .i64 (L : Int)] w fun e w' => ∃ pa pc vals, e = .returned (.slice pa L pc) ∧ w'.ownsRow w.heap.size 79 1 (.slice pa L pc) L vals ∧ RowsOk w' S L vals (Value.slice pa L pc).ownBlock lo ∧ Fr (fun _ => False) w w' := by
  obtain ⟨i0, hi0, hz0, hz1, hz2⟩ := info_parts Try.info79
  have hab := ha.blk
  have Ha := hide ha
  have Hna := hide hna
  have Hw := hide (row_bound hw)
  have Hab := hide hab
  have Hlo := hide hlo
  clear ha hna hw hab hlo
  go_enter Try.func40, Try.ntmps40
  go_wp2
  go_loopw [5] (fun vv wr => ∃ (k : Nat) (vals : List Value), 1 ≤ k ∧ k ≤ L ∧ wr.ownsRow w.heap.size 79 1 vv k vals ∧ RowsOk wr S k vals vv.ownBlock lo ∧ Fr (fun _ => False) w wr) (fun vv _ => L - slLen vv)
  case atStart =>
    refine ⟨1, [.slice a S.length c], Nat.le_refl _, hL1, ?_, ⟨rfl, fun j hj => ?_⟩, Fr.of_alloc _ _⟩
    · exact ⟨rfl, Or.inr ⟨w.heap.size, 1, #[.slice a S.length c], rfl, Nat.le_refl _, heap_alloc_new _ _, Nat.le_refl _, by unfold maxLen; omega, rfl, rfl⟩⟩
    · have e : j = 0 := by omega
      subst e
      refine ⟨a, c, rfl, Ha.out.keep0 (Fr.of_alloc _ _), hca, Hna.out, fun ad e hne => ⟨fun h => ?_, Hlo.out ad e hne⟩⟩
      have := Hab.out ad e hne
      simp [Value.ownBlock] at h
      omega
  case round =>
    obtain ⟨k, vals, hk1, hk2, hO, hR, hF⟩ := hrel
    obtain ⟨va, vc, rfl⟩ := ownsRow_shape hO
    have hws : w.heap.size ≤ wr.heap.size := hF.size
    by_cases hlt : k < L
    · obtain ⟨t, ht⟩ : ∃ t, k = t + 1 := ⟨k - 1, by omega⟩
      obtain ⟨ra, rc, r1, r2, r3, r4, r5⟩ := hR.2 t (by omega)
      obtain ⟨vB, rfl, hcell⟩ := own_cell1 hO r1
      have hkt : (k : Int) - 1 = (t : Int) := by omega
      have hti : (t : Int) < (k : Int) := by omega
      have hrs := row_size S t
      have Hwt : Hid (∀ j, j < (rowN S t).length → (it (rowN S t) j).1 ≤ 1000000000000000) := by
        intro j hj
        have e : it (rowN S t) j = (rowN S t)[j] := by simp [it, hj]
        rw [e]
        have h1 := Hw.out t _ (List.getElem_mem hj)
        have h2 : (2:Nat) ^ t ≤ 2 ^ 15 := Nat.pow_le_pow_right (by decide) (by omega)
        have h3 : 1048576 * 2 ^ t ≤ 1048576 * 2 ^ 15 := Nat.mul_le_mul_left _ h2
        have h4 : 1048576 * 2 ^ 15 = 34359738368 := by decide
        omega
      obtain ⟨RL, hRL⟩ : ∃ RL, RL = rowN S t := ⟨_, rfl⟩
      have HRL := hide hRL
      rw [← hRL] at r2 r3 hcell Hwt hrs
      have HO := hide hO
      have HR := hide hR
      have HF := hide hF
      have R2 := hide r2
      have Ht := hide ht
      have hRLl : RL.length ≤ 640 := by omega
      clear hO hR hF r1 r2 r3 r4 r5 ht hRL
      go_wp2_with fail
      refine (pairs_c ra rc RL wr R2.out (by omega) Hwt.out).mono ?_
      rintro e w2 ⟨pa, pc, rfl, hO2, hF2⟩
      have HF2 := hide hF2
      have HO2 := hide hO2
      have hpl : (prs RL).length ≤ 640 := by rw [prs_length]; omega
      have hpc : (prs RL).length ≤ pc ∧ (pa = none → pc = 0) := by
        rcases hO2.2 with ⟨hv, e0⟩ | ⟨g, cap, cur, hv, hg, hh, hr, _⟩
        · obtain ⟨e1, e2, e3⟩ := Value.slice.inj hv
          exact ⟨by omega, fun _ => e3⟩
        · obtain ⟨e1, e2, e3⟩ := Value.slice.inj hv
          exact ⟨by omega, fun h => by rw [h] at e1; cases e1⟩
      have HLP := hide (own_liesT hO2 rfl)
      clear hO2 hF2
      go_wp2_with fail
      refine (merged_c a pa c pc S (prs RL) w2 (Ha.out.keep0 (HF.out.join HF2.out)) HLP.out hca hpc.1 Hna.out hpc.2 (by omega)).mono ?_
      rintro e w3 ⟨qa, qc, rfl, hO3, hF3⟩
      have HF3 := hide (HF2.out.join hF3)
      have HO3 := hide hO3
      have hqc : (mrg S (prs RL)).length ≤ qc ∧ (qa = none → qc = 0) := by
        rcases hO3.2 with ⟨hv, e0⟩ | ⟨g, cap, cur, hv, hg, hh, hr, _⟩
        · obtain ⟨e1, e2, e3⟩ := Value.slice.inj hv
          exact ⟨by omega, fun _ => e3⟩
        · obtain ⟨e1, e2, e3⟩ := Value.slice.inj hv
          exact ⟨by omega, fun h => by rw [h] at e1; cases e1⟩
      have HLQ := hide (own_liesT hO3 rfl)
      have Hqb : Hid (∀ ad, qa = some ad → w2.heap.size ≤ ad.block ∧ ad.block < w3.heap.size) := fun ad e => hO3.lt ad.block (by rw [e]; rfl)
      have hOw : w3.ownsRow w.heap.size 79 1 (.slice (some ⟨vB, 0, none⟩) k vc) k vals := ownsRow_fr HO.out fun g hg => HF3.out.block g (HO.out.lt g hg).2 (fun h => h)
      have HOw := hide hOw
      have hw3 : w.heap.size ≤ w3.heap.size := Nat.le_trans hws HF3.out.size
      have hw23 : wr.heap.size ≤ w2.heap.size := HF2.out.size
      have hw33 : w2.heap.size ≤ w3.heap.size := hF3.size
      have Hqc := hide hqc
      clear hO3 hF3 hOw hqc
      obtain ⟨Q, hQ⟩ : ∃ Q, Q = mrg S (prs RL) := ⟨_, rfl⟩
      have HQ := hide hQ
      rw [← hQ] at HO3 HLQ Hqc ⊢
      clear hQ
      go_wp2_with (at_builtin; go_must (refine wpList_append_lies _ rfl _ _ 77 rfl w.heap.size 79 i0 (.slice none 0 0) 1 24 Try.underlying77 hi0 hz0 hz1 hz2 rfl (by decide) (.slice (some ⟨vB, 0, none⟩) k vc) k vals rfl (HOw.out.alloc _) ⟨w3.heap.size, 0, none⟩ 1 1 [.slice qa Q.length qc] rfl rfl (cell_one_new _ _ _) (fun x hx => by simp at hx; subst hx; rfl) (by decide) (by unfold maxLen; omega) (by omega) (by simp; omega) (w3.heap.size + 1) (by simp) ?_); intro g cap w4 hown4 hgrow hat hlt4)
      have hF4 : Fr (fun i => (Value.slice (some ⟨vB, 0, none⟩) k vc).ownBlock = some i) w3 w4 := ((Fr.of_alloc w3 _).trans (Fr.of_grown hgrow)).mono fun i _ h => h.elim (fun h => h.elim) id
      have hvB := (HOw.out.lt vB rfl).1
      have hvB2 := (HO.out.lt vB rfl).2
      have HR4 : Hid (RowsOk w4 S (k + 1) (vals ++ [.slice qa Q.length qc]) (Value.slice (some ⟨g, 0, none⟩) (k + 1) cap).ownBlock lo) := by
        have hR3 := (HR.out.keep0 HF3.out).keep hF4
        refine ⟨by simp [hR3.1], fun j hj => ?_⟩
        by_cases hjk : j < k
        · obtain ⟨xa, xc, x1, x2, x3, x4, x5⟩ := hR3.2 j hjk
          refine ⟨xa, xc, by rw [List.getElem?_append_left (by rw [hR3.1]; exact hjk)]; exact x1, x2, x3, x4, fun ad e hne => ⟨fun h => ?_, (x5 ad e hne).2⟩⟩
          have hg : g = ad.block := by simpa [Value.ownBlock] using h
          rcases hat with h1 | h1
          · exact (x5 ad e hne).1 (by rw [← hg]; exact h1)
          · obtain ⟨ya, yc, y1, y2, _⟩ := HR.out.2 j hjk
            have hbl := (HR.out.2 j hjk)
            obtain ⟨za, zc, z1, z2, _⟩ := hbl
            rw [x1] at z1
            cases z1
            have := z2.blk ad e hne
            omega
        · have hj' : j = k := by omega
          subst hj'
          have e1 := Ht.out
          have e2 := HRL.out
          have e3 := HQ.out
          have hrow : rowN S j = Q := by rw [e1, e3, e2]; rfl
          rw [hrow]
          refine ⟨qa, qc, by rw [List.getElem?_append_right (by rw [hR3.1]; exact Nat.le_refl _), hR3.1]; simp, HLQ.out.keep hF4 (fun ad e _ h => ?_), Hqc.out.1, Hqc.out.2, fun ad e _ => ⟨fun h => ?_, by have := Hqb.out ad e; omega⟩⟩
          · have hb := Hqb.out ad e
            have : vB = ad.block := by simpa [Value.ownBlock] using h
            omega
          · have hb := Hqb.out ad e
            have hg : g = ad.block := by simpa [Value.ownBlock] using h
            rcases hat with h1 | h1
            · have : vB = g := by simpa [Value.ownBlock] using h1
              omega
            · omega
      have HF4 : Hid (Fr (fun _ => False) w w4) := (HF.out.join HF3.out).join_new (hF4.mono fun i _ h => by
        have : vB = i := by simpa [Value.ownBlock] using h
        omega)
      have HO4 := hide hown4
      clear hown4 hgrow hat hlt4 hF4
      go_roundw
      case rel => exact ⟨k + 1, vals ++ [.slice qa Q.length qc], by omega, by omega, HO4.out, HR4.out, HF4.out⟩
      case measure => simp [slLen]; omega
    · have e : k = L := by omega
      subst e
      go_wp2
      go_ret
      exact ⟨va, vc, vals, rfl, hO, hR, hF⟩
end Go.Proofs.Ytlkidddbndkfiaa
