/-
  The law InflateRuns: its states.
-/
import Derived.Test.YtleeaofofofgmaaDoorUd
import Derived.Test.YtleeaofofofgmaaDoorSe
namespace Go.Proofs.YtleeaofofofgmaaDoor
open Go.RowKit

/-- Where the law stands: the writer's bits, what is wanted, what a reader has come to. -/
structure Rst (w0 wr : World) (K : Nat) (g : Option Nat) (bl : List Nat) (vw : Value) (X Y : List Nat) : Prop where
  pk : Pk wr K g bl false
  bits : ∀ b ∈ bl, b < 2
  own : OwnB wr w0.heap.size vw X
  apK : vw.ownBlock ≠ some K
  apg : ∀ k, g = some k → vw.ownBlock ≠ some k
  ko : w0.heap.size ≤ K
  go : ∀ k, g = some k → w0.heap.size ≤ k
  fr : Fr (fun _ => False) w0 wr
  leads : Leads (bt bl) init ⟨bl.length, true, Y, .coded fixL fixD⟩

theorem fr_pk {w0 wr w1 : World} {K : Nat} {g : Option Nat} (h : Fr (fun _ => False) w0 wr) (hK : w0.heap.size ≤ K) (hg : ∀ k, g = some k → w0.heap.size ≤ k) (f : Fr (fun i => i = K ∨ g = some i) wr w1) : Fr (fun _ => False) w0 w1 :=
  (h.trans f).mono fun i hi e => by
    rcases e with e | e | e
    · exact e
    · omega
    · have := hg i e; omega

/-- The writer went on from one world to another. -/
structure Wrt (w w1 : World) (K : Nat) (g g1 : Option Nat) (bl1 : List Nat) : Prop where
  pk : Pk w1 K g1 bl1 false
  bits : ∀ b ∈ bl1, b < 2
  fr : Fr (fun i => i = K ∨ g = some i) w w1
  own : g1 = g ∨ ∃ k, g1 = some k ∧ w.heap.size ≤ k

theorem Wst.wrt {w w1 : World} {K : Nat} {g g1 : Option Nat} {bl bl1 : List Nat} {x n j : Nat} (h : Wst w w1 K g bl x n j g1 bl1) : Wrt w w1 K g g1 bl1 := ⟨h.pk, h.bits, h.fr, h.own⟩

theorem Wrt.trans {w w1 w2 : World} {K : Nat} {g g1 g2 : Option Nat} {bl1 bl2 : List Nat} (h : Wrt w w1 K g g1 bl1) (k : Wrt w1 w2 K g1 g2 bl2) : Wrt w w2 K g g2 bl2 := by
  refine ⟨k.pk, k.bits, step_frame h.fr h.own k.fr, ?_⟩
  rcases k.own with rfl | ⟨j, rfl, hj⟩
  · exact h.own
  · exact Or.inr ⟨j, rfl, Nat.le_trans h.fr.size hj⟩

/-- The writer has gone on; what is wanted lies where it lay. -/
theorem Rst.wrote {w0 wr w1 : World} {K : Nat} {g g1 : Option Nat} {bl bl1 : List Nat} {vw : Value} {X Y : List Nat} (h : Rst w0 wr K g bl vw X Y) (s : Wrt wr w1 K g g1 bl1) {Y' : List Nat} (hl : Leads (bt bl1) init ⟨bl1.length, true, Y', .coded fixL fixD⟩) : Rst w0 w1 K g1 bl1 vw X Y' := by
  have hsz := h.fr.size
  refine ⟨s.pk, s.bits, ?_, h.apK, ?_, h.ko, ?_, fr_pk h.fr h.ko h.go s.fr, hl⟩
  · exact ownsRow_fr h.own fun k hk => s.fr.block k (World.ownsRow.lt h.own k hk).2 (fun e => by
      rcases e with e | e
      · exact h.apK (by rw [hk, e])
      · exact h.apg k e hk)
  · intro k hk
    rcases s.own with e | ⟨k', e, hk'⟩
    · exact h.apg k (e ▸ hk)
    · rw [e] at hk
      cases hk
      intro hv
      have := (World.ownsRow.lt h.own _ hv).2
      omega
  · intro k hk
    rcases s.own with e | ⟨k', e, hk'⟩
    · exact h.go k (e ▸ hk)
    · rw [e] at hk
      cases hk
      omega

/-- What is wanted has grown; the writer lies where it lay. -/
theorem Rst.grew {w0 wr w1 w2 : World} {K : Nat} {g : Option Nat} {bl : List Nat} {vw vw2 : Value} {X X2 Y : List Nat} (h : Rst w0 wr K g bl vw X Y) (g0 : Fr (fun _ => False) wr w1) (o : OwnB w2 w0.heap.size vw2 X2) (f : Fr (fun i => vw.ownBlock = some i) w1 w2) (a : vw2.ownBlock = vw.ownBlock ∨ vw2.ownBlock = some w1.heap.size) : Rst w0 w2 K g bl vw2 X2 Y := by
  have o1 : OwnB w1 w0.heap.size vw X := ownsRow_fr h.own fun k hk => g0.block k (World.ownsRow.lt h.own k hk).2 (fun e => e)
  have hs := g0.size
  have p1 : Pk w1 K g bl false := h.pk.keep g0 (fun e => e) (fun _ _ e => e)
  refine ⟨p1.keep f (fun e => h.apK e) (fun k hk e => h.apg k hk e), h.bits, o, ?_, ?_, h.ko, h.go, frNew (h.fr.join g0) o1 f, h.leads⟩
  · rcases a with a | a
    · rw [a]; exact h.apK
    · rw [a]
      intro e
      cases e
      have := h.pk.blt
      omega
  · intro k hk
    rcases a with a | a
    · rw [a]; exact h.apg k hk
    · rw [a]
      intro e
      cases e
      have := h.pk.lts _ hk
      omega

theorem bt_le {bl bl1 : List Nat} {x n : Nat} (hb : ∀ b ∈ bl, b < 2) (h : bt bl1 = (bt bl).word x n) : (bt bl).le (bt bl1) := by
  rw [h]; exact Bt.put_le (bt_ok hb)

/-- A byte more. -/
theorem lead_lit {bl bl1 Y : List Nat} {s : Nat} (hs : s < 256) (hb : ∀ b ∈ bl, b < 2) (h : Leads (bt bl) init ⟨bl.length, true, Y, .coded fixL fixD⟩) (e : bt bl1 = (bt bl).word (fixW s) (fixN s)) : Leads (bt bl1) init ⟨bl1.length, true, Y ++ [s], .coded fixL fixD⟩ := by
  refine Leads.trans (h.more (bt_le hb e)) ?_ (by simp)
  have := lit_leads (bt_ok hb) true Y s hs
  rw [← e] at this
  have e2 : bl1.length = bl.length + fixN s := congrArg Bt.p e
  rw [e2]
  exact this

/-- A row more. -/
theorem lead_row {bl bl1 bl2 Y : List Nat} {n d : Nat} (hn : 3 ≤ n ∧ n ≤ 10) (hd : 1 ≤ d ∧ d ≤ 4) (hy : d ≤ Y.length) (hb : ∀ b ∈ bl, b < 2) (hb1 : ∀ b ∈ bl1, b < 2) (h : Leads (bt bl) init ⟨bl.length, true, Y, .coded fixL fixD⟩) (e : bt bl1 = (bt bl).word (fixW (254 + n)) (fixN (254 + n))) (e2 : bt bl2 = (bt bl1).word (d - 1) 5) :
    Leads (bt bl2) init ⟨bl2.length, true, grow d n Y, .coded fixL fixD⟩ := by
  refine Leads.trans (h.more ((bt_le hb e).trans (bt_le hb1 e2))) ?_ (by show Y.length ≤ _; rw [grow_len]; omega)
  have := mrow_leads (bt_ok hb) true Y n d hn hd hy
  rw [← e, ← e2] at this
  have e7 : fixN (254 + n) = 7 := by unfold fixN; rw [if_neg (by omega), if_neg (by omega), if_pos (by omega)]
  have e3 : bl2.length = bl.length + 12 := by
    have h1 : bl1.length = bl.length + fixN (254 + n) := congrArg Bt.p e
    have h2 : bl2.length = bl1.length + 5 := congrArg Bt.p e2
    omega
  rw [e3]
  exact this

/-- A row that goes too far back. -/
theorem bad_row {bl bl1 bl2 ob Y : List Nat} {n d : Nat} (hn : 3 ≤ n ∧ n ≤ 10) (hd : 1 ≤ d ∧ d ≤ 4) (hy : Y.length < d) (hb : ∀ b ∈ bl, b < 2) (hb1 : ∀ b ∈ bl1, b < 2) (hb2 : ∀ b ∈ bl2, b < 2) (h : Leads (bt bl) init ⟨bl.length, true, Y, .coded fixL fixD⟩) (e : bt bl1 = (bt bl).word (fixW (254 + n)) (fixN (254 + n))) (e2 : bt bl2 = (bt bl1).word (d - 1) 5)
    (ho : OutSt false bl2 ob ((bl2.length + 7) / 8) bl2.length) : AllOk ob 65536 (.error 4) := by
  have hnum : leNum ob = numL bl2 := by have := ho.num; simpa using this
  have hof : (bt bl2).of (leNum ob) (8 * ob.length) := by
    refine ⟨?_, ?_⟩
    · rw [hnum]; exact Nat.mod_eq_of_lt (bt_ok hb2)
    · show bl2.length ≤ _; rw [ho.len]; omega
  refine Or.inr ⟨by decide, ?_⟩
  have h1 := h.more ((bt_le hb e).trans (bt_le hb1 e2))
  refine h1 _ _ _ _ hof (by show Y.length ≤ 65536; omega) ?_
  refine mrow_bad (bt_ok hb) true Y n d hn hd hy ?_
  rw [← e, ← e2]
  exact hof

/-- The end. -/
theorem good_end {bl bl1 ob Y : List Nat} (hy : Y.length ≤ 65536) (hb : ∀ b ∈ bl, b < 2) (hb1 : ∀ b ∈ bl1, b < 2) (h : Leads (bt bl) init ⟨bl.length, true, Y, .coded fixL fixD⟩) (e : bt bl1 = (bt bl).word (fixW 256) (fixN 256))
    (ho : OutSt false bl1 ob ((bl1.length + 7) / 8) bl1.length) : ∃ p, AllOk ob 65536 (.ok (Y, p)) := by
  have hnum : leNum ob = numL bl1 := by have := ho.num; simpa using this
  have hof : (bt bl1).of (leNum ob) (8 * ob.length) := by
    refine ⟨?_, ?_⟩
    · rw [hnum]; exact Nat.mod_eq_of_lt (bt_ok hb1)
    · show bl1.length ≤ _; rw [ho.len]; omega
  refine ⟨bl.length + 7, Or.inr ⟨by decide, ?_⟩⟩
  refine h.more (bt_le hb e) _ _ _ _ hof hy ?_
  have hf := fin_leads (bt_ok hb) true Y
  rw [← e] at hf
  refine hf _ _ _ _ hof hy ?_
  exact .done (s := ⟨bl.length + 7, true, Y, .ahead⟩) rfl
end Go.Proofs.YtleeaofofofgmaaDoor
