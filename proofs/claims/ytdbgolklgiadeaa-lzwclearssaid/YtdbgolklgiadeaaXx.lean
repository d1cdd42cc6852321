/-
  lzw: advance.
-/
import Derived.Test.YtdbgolklgiadeaaXw
namespace Go.Proofs.Ytdbgolklgiadeaa
open Go.RowKit

/-- A step of the Reader. -/
def advq (V L k most : Nat) (q : Rq) : Rst :=
  if 0 < q.lt then putq most (q.out.getD q.fr 0) { q with fr := q.fr + 1, lt := q.lt - 1 }
  else if L < q.p + wid k q.rs.length then .fail 2
  else tkq k most (lowBits V q.p (wid k q.rs.length)) { q with p := q.p + wid k q.rs.length }

/-- What a step comes to. -/
def Advd (lo M B : Nat) (bs : List Nat) (k most : Nat) (oa : Option Addr) (oc : Nat) (rv ov : Value) (out : List Nat) (w : World) (e : Ending) (w' : World) : Rst → Prop
  | .fail er => e = .returned (.bool false) ∧ w'.heap[M]? = some (.cells (dcells (.slice none 0 0) er).toArray 71 (0, 0)) ∧ Fr (fun j => j = B ∨ Rmine M rv ov j) w w'
  | .fin => e = .returned (.bool false) ∧ w'.heap[M]? = some (.cells (dcells (.slice oa out.length oc) 0).toArray 71 (0, 0)) ∧ OwnB w' (M + 1) (.slice oa out.length oc) out ∧ Fr (fun j => j = B ∨ Rmine M rv ov j) w w'
  | .go q => e = .returned (.bool false) ∧ (∃ ra rc oa oc, Rx w' lo M B bs k most q ra rc oa oc ∧ Grown w rv (.slice ra q.rs.length rc) ∧ Grown w ov (.slice oa q.out.length oc)) ∧ Fr (fun j => j = B ∨ Rmine M rv ov j) w w'
  | .put q => e = .returned (.bool true) ∧ (∃ ra rc oa oc, Rx w' lo M B bs k most q ra rc oa oc ∧ Grown w rv (.slice ra q.rs.length rc) ∧ Grown w ov (.slice oa q.out.length oc)) ∧ Fr (fun j => j = B ∨ Rmine M rv ov j) w w'

theorem Putx.advd {lo M B : Nat} {bs : List Nat} {k most : Nat} {q : Rq} {b : Nat} {rv ov : Value} {w : World} {e : Ending} {w' : World} {oa : Option Addr} {oc : Nat} {out : List Nat} (h : Putx lo M B bs k most q b rv ov w e w') : Advd lo M B bs k most oa oc rv ov out w e w' (putq most b q) := by
  unfold putq
  by_cases hf : most ≤ q.out.length
  · rw [if_pos hf]
    obtain ⟨h1, h2, h3⟩ := h.full hf
    exact ⟨h1, h2, h3.mono fun _ _ e => Or.inr e⟩
  · rw [if_neg hf]
    obtain ⟨h1, ra, rc, oa', oc', h2, h3, h4, h5⟩ := h.fits (by omega)
    have el : (q.out ++ [b]).length = q.out.length + 1 := by simp
    exact ⟨h1, ⟨ra, rc, oa', oc', h2, h4, by show Grown w ov (.slice oa' (q.out ++ [b]).length oc'); rw [el]; exact h5⟩, h3.mono fun _ _ e => Or.inr e⟩

theorem Advd.pre {lo M B : Nat} {bs : List Nat} {k most : Nat} {oa : Option Addr} {oc : Nat} {rv ov : Value} {out : List Nat} {w w1 : World} {e : Ending} {w' : World} {r : Rst} (h : Advd lo M B bs k most oa oc rv ov out w1 e w' r) (F : Fr (fun j => j = B) w w1) : Advd lo M B bs k most oa oc rv ov out w e w' r := by
  have hF : ∀ {x y : World}, Fr (fun j => j = B) w x → Fr (fun j => j = B ∨ Rmine M rv ov j) x y → Fr (fun j => j = B ∨ Rmine M rv ov j) w y := fun a b => (a.trans b).mono fun _ _ e => e.elim Or.inl id
  have hG : ∀ {v v' : Value}, Grown w1 v v' → Grown w v v' := fun g => g.elim Or.inl fun g => Or.inr fun j hj => Nat.le_trans F.size (g j hj)
  cases r with
  | fail er => obtain ⟨h1, h2, h3⟩ := h; exact ⟨h1, h2, hF F h3⟩
  | fin => obtain ⟨h1, h2, h3, h4⟩ := h; exact ⟨h1, h2, h3, hF F h4⟩
  | go q => obtain ⟨h1, ⟨ra, rc, oa, oc, h2, h3, h4⟩, h5⟩ := h; exact ⟨h1, ⟨ra, rc, oa, oc, h2, hG h3, hG h4⟩, hF F h5⟩
  | put q => obtain ⟨h1, ⟨ra, rc, oa, oc, h2, h3, h4⟩, h5⟩ := h; exact ⟨h1, ⟨ra, rc, oa, oc, h2, hG h3, hG h4⟩, hF F h5⟩

/-- A code is taken. -/
theorem take_any (lo M B : Nat) (bs : List Nat) (k most : Nat) (q : Rq) (ra : Option Addr) (rc : Nat) (oa : Option Addr) (oc : Nat) (c : Nat) (w : World) (hk : 2 ≤ k ∧ k ≤ 8) (hc : c < 4096) (h : Rx w lo M B bs k most q ra rc oa oc) (hl : ∀ x ∈ (mkq k q).rs, x.2 ≤ 1000000) :
    Calls Try.prog 43 #[.pointer (some ⟨M, 0, none⟩), .int .i64 (c : Int)] w fun e w' => (∃ b, e = .returned (.bool b)) ∧ Advd lo M B bs k most oa oc (.slice ra q.rs.length rc) (.slice oa q.out.length oc) q.out w e w' (tkq k most c q) := by
  unfold tkq
  by_cases h1 : c = 2 ^ k
  · rw [if_pos h1, h1]
    exact (take_clear lo M B bs k most q ra rc oa oc w hk h).mono fun e w' ⟨he, hx, hf⟩ => ⟨⟨_, he⟩, he, ⟨ra, rc, oa, oc, hx, Or.inl (by cases ra <;> rfl), Or.inl rfl⟩, hf.mono fun _ _ e => Or.inr (Or.inl e)⟩
  rw [if_neg h1]
  by_cases h2 : c = 2 ^ k + 1
  · rw [if_pos h2, h2]
    exact (take_end lo M B bs k most q ra rc oa oc w hk h).mono fun e w' ⟨he, hx, ho, hf⟩ => ⟨⟨_, he⟩, he, hx, ho, hf.mono fun _ _ e => Or.inr (Or.inl e)⟩
  rw [if_neg h2]
  by_cases h3 : c < 2 ^ k
  · rw [if_pos h3]
    refine (take_value lo M B bs k most q ra rc oa oc c w hk h3 h).mono fun e w' hp => ⟨?_, hp.advd⟩
    by_cases hf : most ≤ (mkq k q).out.length
    · exact ⟨_, (hp.full hf).1⟩
    · exact ⟨_, (hp.fits (by show (mkq k q).out.length < most; omega)).1⟩
  rw [if_neg h3]
  refine (take_row lo M B bs k most q ra rc oa oc c w hk (by omega) hc h hl).mono fun e w' hp => ⟨⟨_, hp.ret⟩, ?_⟩
  cases hx : (mkq k q).rs[c - (2 ^ k + 2)]? with
  | none => exact ⟨hp.ret, hp.form (by simpa using hx), hp.fr.mono fun _ _ e => Or.inr e⟩
  | some fl =>
    obtain ⟨f, l⟩ := fl
    obtain ⟨ra', rc', h4, h5⟩ := hp.fits f l hx
    have ho := mkq_out k q
    refine ⟨hp.ret, ⟨ra', rc', oa, oc, ?_, h5, Or.inl (by cases oa <;> rfl)⟩, hp.fr.mono fun _ _ e => Or.inr e⟩
    have e : q.out.length = (mkq k q).out.length := by rw [ho]
    show Rx w' lo M B bs k most { mkq k q with fr := f, lt := l, lf := q.out.length, ll := l } ra' rc' oa oc
    rw [e]
    exact h4

/-- Bounds that a Reader keeps. -/
structure Rbd (k : Nat) (q : Rq) : Prop where
  mid : 0 < q.lt → q.fr < q.out.length ∧ q.lt ≤ 1000000
  rows : ∀ x ∈ (mkq k q).rs, x.2 ≤ 1000000

/-- The contract of advance. -/
theorem advance_c (lo M B : Nat) (bs : List Nat) (k most : Nat) (q : Rq) (ra : Option Addr) (rc : Nat) (oa : Option Addr) (oc : Nat) (w : World) (hk : 2 ≤ k ∧ k ≤ 8) (h : Rx w lo M B bs k most q ra rc oa oc) (hb : Rbd k q) :
    Calls Try.prog 32 #[.pointer (some ⟨M, 0, none⟩)] w fun e w' => Advd lo M B bs k most oa oc (.slice ra q.rs.length rc) (.slice oa q.out.length oc) q.out w e w' (advq (leNum bs) (8 * bs.length) k most q) := by
  unfold advq
  by_cases h0 : 0 < q.lt
  · rw [if_pos h0]
    exact (advance_byte lo M B bs k most q ra rc oa oc w h h0 (hb.mid h0).2 (hb.mid h0).1).mono fun e w' hp => hp.advd
  rw [if_neg h0]
  by_cases h1 : 8 * bs.length < q.p + wid k q.rs.length
  · rw [if_pos h1]
    exact (advance_short lo M B bs k most q ra rc oa oc w h (by omega) h1).mono fun e w' ⟨he, hx, hf⟩ => ⟨he, hx, hf.mono fun _ _ e => Or.inr (Or.inl e)⟩
  rw [if_neg h1]
  refine advance_code lo M B bs k most q ra rc oa oc w hk h (by omega) (by omega) _ fun w2 h2 hF2 => ?_
  have hw := wid_le k hk q.rs.length
  have hc : lowBits (leNum bs) q.p (wid k q.rs.length) < 4096 := by
    have h3 : lowBits (leNum bs) q.p (wid k q.rs.length) < 2 ^ wid k q.rs.length := by
      unfold lowBits
      exact Nat.mod_lt _ (Nat.two_pow_pos _)
    have h4 : 2 ^ wid k q.rs.length ≤ 2 ^ 12 := Nat.pow_le_pow_right (by omega) hw.2
    omega
  refine (take_any lo M B bs k most { q with p := q.p + wid k q.rs.length } ra rc oa oc _ w2 hk hc h2 ?_).mono fun e w' ⟨hx, hy⟩ => ⟨hx, hy.pre hF2⟩
  intro x hx
  refine hb.rows x ?_
  unfold mkq at hx ⊢
  split at hx
  · next hq => rw [if_pos hq]; exact hx
  · next hq => rw [if_neg hq]; exact hx
end Go.Proofs.Ytdbgolklgiadeaa
