/-
  lzw: a value is taken.
-/
import Derived.Test.YtdbgolklgiadeaaXo
namespace Go.Proofs.Ytdbgolklgiadeaa
open Go.RowKit

theorem own_keepR {w w' : World} {b : Nat} {v : Value} {rs : List (Nat × Nat)} {S : Nat → Prop} (h : OwnR w b v rs) (F : Fr S w w') (hS : ∀ j, v.ownBlock = some j → ¬ S j) : OwnR w' b v rs := ownsRow_fr h fun j hj => F.block j (World.ownsRow.lt h j hj).2 (hS j hj)
theorem own_keepB {w w' : World} {b : Nat} {v : Value} {bs : List Nat} {S : Nat → Prop} (h : OwnB w b v bs) (F : Fr S w w') (hS : ∀ j, v.ownBlock = some j → ¬ S j) : OwnB w' b v bs := ownsRow_fr h fun j hj => F.block j (World.ownsRow.lt h j hj).2 (hS j hj)

/-- Rows of unlike elements are unlike blocks. -/
theorem own_apart {w : World} {b : Nat} {v u : Value} {rs : List (Nat × Nat)} {bs : List Nat} (h : OwnR w b v rs) (g : OwnB w b u bs) (j : Nat) (hv : v.ownBlock = some j) (hu : u.ownBlock = some j) : False := by
  rcases h.2 with ⟨rfl, _⟩ | ⟨x, cap, cur, rfl, _, hx, _⟩
  · cases hv
  · rcases g.2 with ⟨rfl, _⟩ | ⟨y, cap', cur', rfl, _, hy, _⟩
    · cases hu
    · cases hv
      cases hu
      rw [hx] at hy
      cases hy

/-- A row was made, or none. -/
theorem Rx.made {w w1 : World} {lo M B : Nat} {bs : List Nat} {k most : Nat} {q : Rq} {ra : Option Addr} {rc : Nat} {oa : Option Addr} {oc : Nat} (h : Rx w lo M B bs k most q ra rc oa oc)
    (hm : Maked M (M + 1) k (rcells B k most q (.slice ra q.rs.length rc) (.slice oa q.out.length oc)) (.slice ra q.rs.length rc) q.rs q.lf q.ll w w1) :
    ∃ ra' rc', Rx w1 lo M B bs k most (mkq k q) ra' rc' oa oc ∧ Fr (fun j => j = M ∨ (Value.slice ra q.rs.length rc).ownBlock = some j) w w1 ∧ Grown w (.slice ra q.rs.length rc) (.slice ra' (mkq k q).rs.length rc') := by
  by_cases hc : q.ll ≠ 0 ∧ nextN k q.rs.length < 4096
  · obtain ⟨ra', rc', h1, h2, h3, h4⟩ := hm.some hc.1 hc.2
    have e : mkq k q = { q with rs := q.rs ++ [(q.lf, q.ll + 1)] } := by unfold mkq; rw [if_pos hc]
    have el : (mkq k q).rs.length = q.rs.length + 1 := by rw [e]; simp
    have eo : (mkq k q).out = q.out := by rw [e]
    refine ⟨ra', rc', ⟨?_, ?_, ?_, ?_, ?_, ?_, ?_, h.big, ?_⟩, h3, ?_⟩
    · rw [h1]
      simp only [rcells, el]
      rw [e]
      rfl
    · rw [e]
      exact h.rd.keep h3 (fun j _ hj e => by
        rcases e with e | e
        · omega
        · have := (World.ownsRow.lt h.rws j e).1; omega)
    · rw [el, e]; exact h2
    · rw [eo]
      exact own_keepB h.own h3 fun j hj e => by
        rcases e with e | e
        · have := (World.ownsRow.lt h.own j hj).1; omega
        · exact own_apart h.rws h.own j e hj
    · rw [el]; unfold nextN at hc ⊢; omega
    · rw [eo]; exact h.byt
    · rw [eo]; exact h.len
    · rw [e]; exact h.ll
    · rw [el]; exact h4
  · have hx : q.ll = 0 ∨ nextN k q.rs.length = 4096 := by
      have := h.next
      by_cases h0 : q.ll = 0
      · exact Or.inl h0
      · right
        by_cases h1 : nextN k q.rs.length < 4096
        · exact absurd ⟨h0, h1⟩ hc
        · omega
    obtain ⟨h1, h2⟩ := hm.none hx
    have e : mkq k q = q := by unfold mkq; rw [if_neg hc]
    rw [e]
    exact ⟨ra, rc, ⟨h1, h.rd.keep h2 (fun _ _ _ h => h.elim), own_keepR h.rws h2 (fun _ _ h => h), own_keepB h.own h2 (fun _ _ h => h), h.next, h.byt, h.len, h.big, h.ll⟩, h2.mono (fun _ _ h => h.elim), Or.inl rfl⟩

/-- The contract of makeRow at a Reader. -/
theorem Rx.make_c {w : World} {lo M B : Nat} {bs : List Nat} {k most : Nat} {q : Rq} {ra : Option Addr} {rc : Nat} {oa : Option Addr} {oc : Nat} (h : Rx w lo M B bs k most q ra rc oa oc) (hk : 2 ≤ k ∧ k ≤ 8) :
    Calls Try.prog 54 #[.pointer (some ⟨M, 0, none⟩)] w fun e w1 => e = .returned (.tuple #[]) ∧ ∃ ra' rc', Rx w1 lo M B bs k most (mkq k q) ra' rc' oa oc ∧ Fr (fun j => j = M ∨ (Value.slice ra q.rs.length rc).ownBlock = some j) w w1 ∧ Grown w (.slice ra q.rs.length rc) (.slice ra' (mkq k q).rs.length rc') :=
  (makeRow_c M (M + 1) k _ ra rc q.rs q.lf q.ll w hk h.obj rfl rfl rfl rfl rfl rfl h.rws (Nat.lt_succ_self M) (lt_of h.obj) h.next h.ll).mono fun _ _ ⟨he, hm⟩ => ⟨he, h.made hm⟩

end Go.Proofs.Ytdbgolklgiadeaa
