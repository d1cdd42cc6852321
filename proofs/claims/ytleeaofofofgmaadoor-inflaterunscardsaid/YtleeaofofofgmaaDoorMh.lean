/-
  The contract of reading the code lengths of a block.
-/
import Derived.Test.YtleeaofofofgmaaDoorMg
namespace Go.Proofs.YtleeaofofofgmaaDoor
open Go.RowKit

theorem syms_lt (ls : List Int) (n m : Nat) : ∀ x ∈ syms ls n m, x < m := by
  intro x hx
  obtain ⟨k, hk⟩ := List.mem_iff_getElem?.1 hx
  exact ((syms_idx ls n m k x).1 hk).1

theorem rkd_lt (ls : List Int) : ∀ n, ∀ x ∈ rkd ls n, x < ls.length := by
  intro n
  induction n with
  | zero => intro x hx; simp [rkd] at hx
  | succ n ih =>
    intro x hx
    have e : rkd ls (n + 1) = rkd ls n ++ syms ls (n + 1) ls.length := rfl
    rw [e, List.mem_append] at hx
    rcases hx with hx | hx
    · exact ih x hx
    · exact syms_lt ls _ _ x hx

theorem tk_lt {ls : List Int} {V L p y q : Nat} (h : tk ls V L p = .ok (y, q)) (hl : 0 < ls.length) : y < ls.length := by
  have key : ∀ f m, tkFrom ls V L p f m = .ok (y, q) → y < ls.length := by
    intro f
    induction f with
    | zero => intro m h; cases h
    | succ f ih =>
      intro m h
      simp only [tkFrom] at h
      split at h
      · cases h
      split at h
      · cases h
      split at h
      · simp only [Except.ok.injEq, Prod.mk.injEq] at h
        rw [← h.1, List.getD_eq_getElem?_getD]
        cases hk : (rkd ls 15)[hitAt ls V p (m + 1)]? with
        | none => exact hl
        | some x => exact rkd_lt ls 15 x (List.mem_of_getElem? hk)
      · exact ih _ h
  exact key 15 0 h

/-- Each may be a code's length. -/
def fine (zs : List Int) : Prop := ∀ i, i < zs.length → 0 ≤ at0 zs i ∧ at0 zs i ≤ 15

theorem rep_fine {s V L p q t : Nat} {acc : List Int} {v : Int} (h : rep s acc V L p = .ok ((v, t), q)) (hs : s < 19) (hf : fine acc) : (1 ≤ t ∧ t ≤ 200) ∧ 0 ≤ v ∧ v ≤ 15 := by
  unfold rep at h
  split at h
  · obtain ⟨x, m, h1, h2⟩ := then_inv h
    have := tkn_lt h1
    split at h2
    · cases h2
    · cases h2
      have := hf (acc.length - 1) (by omega)
      omega
  split at h
  · obtain ⟨x, m, h1, h2⟩ := then_inv h
    have := tkn_lt h1
    cases h2
    omega
  split at h
  · obtain ⟨x, m, h1, h2⟩ := then_inv h
    have := tkn_lt h1
    cases h2
    omega
  · cases h
    omega

theorem at0_append_left {a b : List Int} {i : Nat} (h : i < a.length) : at0 (a ++ b) i = at0 a i := by
  unfold at0
  simp [List.getD_eq_getElem?_getD, List.getElem?_append_left h]

theorem fine_rep {acc : List Int} {v : Int} (t : Nat) (hf : fine acc) (hv : 0 ≤ v ∧ v ≤ 15) : fine (acc ++ List.replicate t v) := by
  intro i hi
  rcases Nat.lt_or_ge i acc.length with h | h
  · rw [at0_append_left h]; exact hf i h
  · have e : at0 (acc ++ List.replicate t v) i = v := by
      unfold at0
      rw [List.getD_eq_getElem?_getD, List.getElem?_append_right h, List.getElem?_replicate]
      rw [if_pos (by simp at hi; omega)]
      rfl
    rw [e]; exact hv

def lenOf : Value → Nat
  | .slice _ n _ => n
  | _ => 0

/-- What the reading of code lengths holds at a round. -/
structure Ac (w wr : World) (lo R M B : Nat) (bs : List Nat) (X : Except Nat (List Int × Nat)) (cl : List Int) (n : Nat) (acc : List Int) (q : Nat) (v : Value) : Prop where
  mi : Mi wr lo R M B bs q
  fr : Fr (fun k => k = B) w wr
  own : wr.ownsRow w.heap.size 3 1 v acc.length (cellsZ acc)
  le : acc.length ≤ n
  eq : ∃ f, n < acc.length + f ∧ X = lens cl n f acc (leNum bs) (8 * bs.length) q
  good : fine acc

theorem cellsZ_snoc (zs : List Int) (v : Int) : cellsZ zs ++ [.int .i64 v] = cellsZ (zs ++ [v]) := by simp [cellsZ]

theorem rep_snoc (acc : List Int) (v : Int) (i : Nat) : (acc ++ List.replicate i v) ++ [v] = acc ++ List.replicate (i + 1) v := by
  rw [List.append_assoc, List.replicate_succ']

set_option maxHeartbeats 3200000 in
set_option maxRecDepth 100000 in
theorem codeLengths_c (w : World) (lo R M B : Nat) (bs : List Nat) (p : Nat) (h : Mi w lo R M B bs p) (C clo chi : Nat) (cl : List Int) (hC : Cd w clo chi C cl) (hRc : R ≤ clo) (h19 : cl.length = 19)
    (n : Nat) (hn : n ≤ 400) (Q : Ending → World → Prop)
    (hok : ∀ l q w' a c, lens cl n (n + 1) [] (leNum bs) (8 * bs.length) p = .ok (l, q) → l.length = n → fine l → w'.ownsRow w.heap.size 3 1 (.slice a n c) n (cellsZ l) → Rm w' lo R B bs q → Fr (fun k => k = B) w w' → Q (.returned (.slice a n c)) w')
    (hno : ∀ (er : Nat) w', lens cl n (n + 1) [] (leNum bs) (8 * bs.length) p = .error er → Fr (fun k => k = B) w w' → Q (errPanic er) w') :
    Calls Tryd.prog 64 #[.pointer (some ⟨M, 0, none⟩), .pointer (some ⟨C, 0, none⟩), .int .i64 n] w Q := by
  obtain ⟨i0, hi, hz0, hz1, hz2⟩ := info_parts Tryd.info3
  obtain ⟨X, hX⟩ : ∃ X, X = lens cl n (n + 1) [] (leNum bs) (8 * bs.length) p := ⟨_, rfl⟩
  rw [← hX] at hok hno
  have hBw : B < w.heap.size := by have := h.rd.ehi; have := h.rd.esz; omega
  have hst : Ac w w lo R M B bs X cl n [] p (.slice none 0 0) := ⟨h, Fr.refl _ _, World.ownsRow_nil _ _ _ _, Nat.zero_le _, ⟨n + 1, by simp, hX⟩, fun i hi => absurd hi (Nat.not_lt_zero _)⟩
  have Hhr : Hid (M ≤ w.heap.size) := Nat.le_of_lt (cell_lt h.ptr)
  have Hhm : Hid (M < w.heap.size) := cell_lt h.ptr
  have Hst := hide hst
  have HC := hide hC
  have Hok := hide hok
  have Hno := hide hno
  have Hap : Hid (chi ≤ B ∨ B < clo) := Or.inr (by have := h.rd.ehi; omega)
  clear h hC hok hno hX hst
  go_enter Tryd.func64, Tryd.ntmps64
  go_wp2
  go_loopw [7, 8, 9] (fun v _ _ wr => ∃ acc q, Ac w wr lo R M B bs X cl n acc q v) (fun v _ _ _ => n - lenOf v)
  case atStart => exact ⟨[], p, Hst.out⟩
  case round =>
    obtain ⟨acc, q, hA⟩ := hrel
    obtain ⟨a0, c0, rfl⟩ := ownsRow_shape hA.own
    have HA := hide hA
    obtain ⟨k, hk⟩ : ∃ k, k = acc.length := ⟨_, rfl⟩
    have Hk : Hid (k = acc.length) := hk
    have hkn : k ≤ n := by rw [hk]; exact hA.le
    obtain ⟨f, hf, hXf⟩ := hA.eq
    rw [← hk]
    clear hA hk
    by_cases hlt : k < n
    · have hlti : (k : Int) < (n : Int) := by omega
      obtain ⟨f', rfl⟩ : ∃ f', f = f' + 1 := ⟨f - 1, by have := Hk.out; omega⟩
      have E0 : Hid (X = andThen (andThen (tk cl) fun s => rep s acc) (fun vt => if n < acc.length + vt.2 then bad 4 else lens cl n f' (acc ++ List.replicate vt.2 vt.1)) (leNum bs) (8 * bs.length) q) := by
        show X = _
        rw [hXf]
        simp only [lens]
        rw [if_neg (by have := Hk.out; omega)]
        simp only [andThen]
        cases tk cl (leNum bs) (8 * bs.length) q <;> rfl
      have Hf : Hid (n < acc.length + (f' + 1)) := hf
      clear hf hXf
      go_wp2_with fail
      refine calls_args (codeLength_c wr lo R M B bs q HA.out.mi C clo chi cl (HC.out.keep HA.out.fr (fun j h1 h2 e => by have := Hap.out; omega)) (by have := HC.out.elo; omega) a0 k c0 acc Hk.out (by have := HA.out.own; rw [← Hk.out] at this; exact own_lies this) ?hab (by have := Hk.out; omega) _ ⟨?ok1, ?no1⟩) rfl
      case hab =>
        intro ad e
        subst e
        have hv := HA.out.own
        rcases hv.2 with ⟨h1, h2⟩ | ⟨g, cap, cur, h1, h2, h3⟩
        · cases h1
        · cases h1
          have := (hv.lt g rfl).1
          show g ≠ B
          omega
      case no1 => (intro er w2 hx hF; exact ⟨rfl, Hno.out er w2 (E0.out.trans (then_err hx)) (HA.out.fr.join hF)⟩)
      intro vl t q2 w2 hx hR hF
      obtain ⟨s, qs, hs1, hs2⟩ := then_inv hx
      have hsb := tk_lt hs1 (by omega)
      obtain ⟨⟨ht1, ht2⟩, hv0, hv1⟩ := rep_fine hs2 (by omega) HA.out.good
      have E1 := E0.out.trans (then_ok hx)
      simp only at E1
      have HF2 := hide (HA.out.fr.join hF)
      have HM2 := hide (HA.out.mi.next hR hF)
      have hown2 : w2.ownsRow w.heap.size 3 1 (.slice a0 k c0) k (cellsZ acc) := by
        have := HA.out.own
        rw [← Hk.out] at this
        refine ownsRow_fr this fun j hj => hF.block j (this.lt j hj).2 (fun e => ?_)
        have := (this.lt j hj).1
        omega
      have Hown2 := hide hown2
      clear hx hR hF hs1 hs2 hown2
      by_cases htn : n < k + t
      · have hti : (n : Int) - (k : Int) < (t : Int) := by omega
        rw [if_pos (by rw [← Hk.out]; exact htn)] at E1
        have HE1 := hide E1
        clear E1
        go_wp2
        exact ⟨rfl, Hno.out 4 _ HE1.out HF2.out⟩
      · have hti : ¬ (n : Int) - (k : Int) < (t : Int) := by omega
        rw [if_neg (by rw [← Hk.out]; exact htn)] at E1
        have HE1 := hide E1
        clear E1
        go_wp2
        go_loopw [7, 29] (fun v iv wq => ∃ i : Nat, i ≤ t ∧ iv = .int .i64 (i : Int) ∧ ∃ a c, v = .slice a (k + i) c ∧ wq.ownsRow w.heap.size 3 1 (.slice a (k + i) c) (k + i) (cellsZ (acc ++ List.replicate i vl)) ∧ Mi wq lo R M B bs q2 ∧ Fr (fun k => k = B) w wq) (fun _ iv _ => t - (intOf iv).toNat)
        case atStart => exact ⟨0, Nat.zero_le _, rfl, a0, c0, rfl, by simpa using Hown2.out, HM2.out, HF2.out⟩
        case round =>
          obtain ⟨i, hi1, rfl, a1, c1, rfl, hown, hMi, hFr⟩ := hrel
          have Hown := hide hown
          have HMi := hide hMi
          have HFr := hide hFr
          obtain ⟨N, hN⟩ : ∃ N, N = k + i := ⟨_, rfl⟩
          have hNb : N ≤ 800 := by omega
          rw [← hN] at Hown ⊢
          have HN := hide hN
          clear hown hMi hFr hN
          by_cases hit : i < t
          · have hiti : (i : Int) < (t : Int) := by omega
            have hsz := HFr.out.size
            go_wp2_with (at_builtin; go_must (refine wpList_append_lies _ rfl _ _ 30 rfl w.heap.size 3 i0 (.int .i64 0) 1 8 Tryd.underlying30 hi hz0 hz1 hz2 rfl (by decide) (.slice a1 N c1) N (cellsZ (acc ++ List.replicate i vl)) rfl (Hown.out.alloc _) ⟨wr.heap.size, 0, none⟩ 1 1 [.int .i64 vl] rfl rfl (cell_one_new _ _ _) (fun x hx => by simp at hx; subst hx; rfl) (by decide) (by unfold maxLen; omega) (by omega) (by simp; omega) (wr.heap.size + 1) (by simp) ?_); intro g cap w3 hown3 hgrow hat hlt3)
            have f1 : Fr (fun k => (Value.slice a1 N c1).ownBlock = some k) (wr.alloc (.cells #[.int .i64 vl] 3)) w3 := ⟨hgrow.os, hgrow.tape, hgrow.output, hgrow.size, fun k hk hn => hgrow.block k hk (fun e => hn e.symm)⟩
            have f2 : Fr (fun k => (Value.slice a1 N c1).ownBlock = some k) wr w3 := ((Fr.of_alloc wr _).trans f1).mono fun k _ h => h.elim (fun x => x.elim) id
            have f3 : Fr (fun k => k = B) w w3 := (HFr.out.trans f2).mono fun j hj h => by
              rcases h with h | h
              · exact h
              · have := (Hown.out.lt j h).1; omega
            have HM3 : Mi w3 lo R M B bs q2 := by
              have hRl := HMi.out.rd.esz
              have hM2 := HMi.out.hM
              have hRw : R ≤ w.heap.size := Nat.le_trans HM2.out.hM Hhr.out
              refine ⟨HMi.out.rd.keep f2 (fun j _ h2 e => ?_), hM2, ?_⟩
              · have := (Hown.out.lt j e).1; omega
              · have hn : ¬ (Value.slice a1 N c1).ownBlock = some M := fun e => by
                  have := (Hown.out.lt M e).1
                  have := Hhm.out
                  omega
                rw [cell_blk (f2.block M (cell_lt HMi.out.ptr) hn)]
                exact HMi.out.ptr
            have HO3 : w3.ownsRow w.heap.size 3 1 (.slice (some ⟨g, 0, none⟩) (N + 1) cap) (N + 1) (cellsZ (acc ++ List.replicate (i + 1) vl)) := by
              rw [← rep_snoc, ← cellsZ_snoc]
              exact hown3
            have G1 := hide f3
            have G2 := hide HM3
            have G3 := hide HO3
            clear hown3 hgrow hat hlt3 f1 f2 f3 HM3 HO3
            go_roundw
            case rel => exact ⟨i + 1, by omega, by go_num, _, _, by rw [HN.out]; rfl, by have := HN.out; rw [show k + (i + 1) = N + 1 by omega]; exact G3.out, G2.out, G1.out⟩
            case measure => simp [intOf]; omega
          · have hiti : ¬ (i : Int) < (t : Int) := by omega
            have hie : i = t := by omega
            subst hie
            go_wp2
            go_roundw
            case rel =>
              refine ⟨acc ++ List.replicate i vl, q2, HMi.out, HFr.out, ?_, ?_, ⟨f', ?_, HE1.out⟩, fine_rep i HA.out.good ⟨hv0, hv1⟩⟩
              · rw [show (acc ++ List.replicate i vl).length = N by have := HN.out; have := Hk.out; simp; omega]; exact Hown.out
              · have := Hk.out; simp; omega
              · have := Hf.out; simp; omega
            case measure => have := HN.out; simp [lenOf]; omega
    · have hlti : ¬ (k : Int) < (n : Int) := by omega
      have hke : k = n := by omega
      subst hke
      obtain ⟨f', rfl⟩ : ∃ f', f = f' + 1 := ⟨f - 1, by have := Hk.out; omega⟩
      have E0 : Hid (X = .ok (acc, q)) := by
        show X = _
        rw [hXf]
        simp only [lens]
        rw [if_pos (by have := Hk.out; omega)]
        rfl
      clear hf hXf
      go_wp2
      exact Hok.out acc q _ a0 c0 E0.out Hk.out.symm HA.out.good (by have := HA.out.own; rw [← Hk.out] at this; exact this) HA.out.mi.rd HA.out.fr
end Go.Proofs.YtleeaofofofgmaaDoor
