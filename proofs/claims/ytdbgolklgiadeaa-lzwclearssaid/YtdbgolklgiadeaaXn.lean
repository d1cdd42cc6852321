/-
  lzw: the Reader at work; a code is taken.
-/
import Derived.Test.YtdbgolklgiadeaaXl
namespace Go.Proofs.Ytdbgolklgiadeaa
open Go.RowKit

/-- Where a Reader stands. -/
structure Rq where
  p : Nat
  rs : List (Nat × Nat)
  lf : Nat
  ll : Nat
  fr : Nat
  lt : Nat
  out : List Nat

/-- What a code brings. -/
inductive Rst where
  | fail (e : Nat)
  | fin
  | go (q : Rq)
  | put (q : Rq)

/-- The row that is made ahead of a code. -/
def mkq (k : Nat) (q : Rq) : Rq := if q.ll ≠ 0 ∧ nextN k q.rs.length < 4096 then { q with rs := q.rs ++ [(q.lf, q.ll + 1)] } else q

/-- A value that is put out. -/
def putq (most b : Nat) (q : Rq) : Rst := if most ≤ q.out.length then .fail 6 else .put { q with out := q.out ++ [b] }

/-- A code. -/
def tkq (k most c : Nat) (q : Rq) : Rst :=
  if c = 2 ^ k then .go { q with rs := [], lf := 0, ll := 0 }
  else if c = 2 ^ k + 1 then .fin
  else if c < 2 ^ k then putq most c { mkq k q with lf := q.out.length, ll := 1 }
  else match (mkq k q).rs[c - (2 ^ k + 2)]? with
    | none => .fail 4
    | some (f, l) => .go { mkq k q with fr := f, lt := l, lf := q.out.length, ll := l }

/-- A Reader's cells. -/
abbrev rcells (B k most : Nat) (q : Rq) (rv ov : Value) : Array Value :=
  #[.pointer (some ⟨B, 0, none⟩), .int .i64 (k : Int), .int .i64 (most : Int), .int .i64 ((2 ^ k : Nat) : Int), .int .i64 ((nextN k q.rs.length : Nat) : Int), .int .i64 ((wid k q.rs.length : Nat) : Int), rv, .int .i64 (q.lf : Int), .int .i64 (q.ll : Int), .int .i64 (q.fr : Int), .int .i64 (q.lt : Int), ov, .int .i64 0, .bool false]

/-- A Reader at work. -/
structure Rx (w : World) (lo M B : Nat) (bs : List Nat) (k most : Nat) (q : Rq) (ra : Option Addr) (rc : Nat) (oa : Option Addr) (oc : Nat) : Prop where
  obj : w.heap[M]? = some (.cells (rcells B k most q (.slice ra q.rs.length rc) (.slice oa q.out.length oc)) 71 (0, 0))
  rd : Rd 84 w lo M B bs q.p (.slice none 0 0) 0
  rws : OwnR w (M + 1) (.slice ra q.rs.length rc) q.rs
  own : OwnB w (M + 1) (.slice oa q.out.length oc) q.out
  next : nextN k q.rs.length ≤ 4096
  byt : ∀ b ∈ q.out, b < 256
  len : q.out.length ≤ most
  big : most ≤ 1000000
  ll : q.ll ≤ 1000000

/-- The blocks that a Reader turns. -/
def Rmine (M : Nat) (rv ov : Value) (j : Nat) : Prop := j = M ∨ rv.ownBlock = some j ∨ ov.ownBlock = some j

/-- A row's block is the old one, or new. -/
def Grown (w : World) (v v' : Value) : Prop := v'.ownBlock = v.ownBlock ∨ ∀ j, v'.ownBlock = some j → w.heap.size ≤ j

theorem OwnR.shape {w : World} {lo n c : Nat} {a : Option Addr} {rs : List (Nat × Nat)} (h : OwnR w lo (.slice a n c) rs) : a = none → n = 0 ∧ c = 0 := by
  rintro rfl
  rcases h.2 with ⟨e, e0⟩ | ⟨g, cap, cur, hv, _⟩
  · obtain ⟨_, e2, e3⟩ := Value.slice.inj e
    exact ⟨e2, e3⟩
  · cases (Value.slice.inj hv).1

theorem OwnR.empty {w : World} {lo n c : Nat} {a : Option Addr} {rs : List (Nat × Nat)} (h : OwnR w lo (.slice a n c) rs) : OwnR w lo (.slice a 0 c) [] := by
  refine ⟨rfl, ?_⟩
  rcases h.2 with ⟨e, e0⟩ | ⟨g, cap, cur, hv, hg, hh, hr, hm, hs, ht⟩
  · obtain ⟨e1, _, e3⟩ := Value.slice.inj e
    exact Or.inl ⟨by rw [e1, e3], rfl⟩
  · obtain ⟨e1, _, e3⟩ := Value.slice.inj hv
    exact Or.inr ⟨g, cap, cur, by rw [e1, e3]; rfl, hg, hh, Nat.zero_le _, hm, hs, by simp [cellsR]⟩

set_option maxHeartbeats 1600000 in
set_option maxRecDepth 100000 in
/-- A Clear. -/
theorem take_clear (lo M B : Nat) (bs : List Nat) (k most : Nat) (q : Rq) (ra : Option Addr) (rc : Nat) (oa : Option Addr) (oc : Nat) (w : World) (hk : 2 ≤ k ∧ k ≤ 8) (h : Rx w lo M B bs k most q ra rc oa oc) :
    Calls Try.prog 43 #[.pointer (some ⟨M, 0, none⟩), .int .i64 ((2 ^ k : Nat) : Int)] w fun e w' => e = .returned (.bool false) ∧ Rx w' lo M B bs k most { q with rs := [], lf := 0, ll := 0 } ra rc oa oc ∧ Fr (fun j => j = M) w w' := by
  have m3 : w.cell? ⟨M, 3, none⟩ = some (.int .i64 ((2 ^ k : Nat) : Int)) := cell_of (o := 3) h.obj rfl
  have Hr := hide (restart_c M k _ ra q.rs.length rc w hk h.obj rfl rfl rfl h.rws.shape)
  have H := hide h
  clear h
  obtain ⟨P, hP⟩ : ∃ P, P = 2 ^ k := ⟨_, rfl⟩
  rw [← hP] at m3 ⊢
  have m3b : w.cell? ⟨M, 3, none⟩ = some (.int .i64 (P : Int)) := m3
  have t3 : ((P : Int) == (P : Int)) = true := beq_self_eq_true _
  clear m3 hP
  go_enter Try.func43, Try.ntmps43
  go_wp2_with fail
  refine Hr.out.mono ?_
  rintro e w1 ⟨rfl, h1, h2⟩
  have H1 := hide h1
  have H2 := hide h2
  clear h1 h2
  go_wp2_with fail
  go_ret
  refine ⟨rfl, ?_, H2.out⟩
  have hM1 : ∀ j, M + 1 ≤ j → ¬ (fun j => j = M) j := fun j hj e => by have e2 : j = M := e; omega
  refine ⟨H1.out, ?_, ?_, ?_, ?_, H.out.byt, H.out.len, H.out.big, Nat.zero_le _⟩
  · exact H.out.rd.keep H2.out (fun j _ hj e => by have e2 : j = M := e; omega)
  · exact ownsRow_fr H.out.rws.empty fun j hj => H2.out.block j (World.ownsRow.lt H.out.rws.empty j hj).2 (hM1 j (World.ownsRow.lt H.out.rws.empty j hj).1)
  · exact ownsRow_fr H.out.own fun j hj => H2.out.block j (World.ownsRow.lt H.out.own j hj).2 (hM1 j (World.ownsRow.lt H.out.own j hj).1)
  · have := H.out.next
    unfold nextN at this ⊢
    simp only [List.length_nil]
    omega
end Go.Proofs.Ytdbgolklgiadeaa
