import Derived.Test.YtkmgpapopgeldaaXc
namespace Go.Proofs.Ytkmgpapopgeldaa
open Go.RowKit

theorem write_low_eq (bl ob os : List Nat) (h : OutSt false bl ob ((bl.length + 7) / 8) bl.length) (hs : LowSt os bl.length) (hn : leNum os = numL bl) : ob = os := by
  have h1 : leNum ob = numL (bl.take bl.length) := by simpa using h.num
  rw [List.take_length] at h1
  exact leNum_inj ob os h.bytes hs.bytes (by rw [h.len, hs.len]) (by rw [h1, hn])
theorem write_high_eq (bl ob os : List Nat) (h : OutSt true bl ob ((bl.length + 7) / 8) bl.length) (hs : HighSt os bl.length) (hn : hiNum os bl.length = numH bl) : ob = os := by
  have h1 : beNum ob = numH (bl.take bl.length) * 2 ^ (8 * ((bl.length + 7) / 8) - bl.length) := by simpa using h.num
  rw [List.take_length] at h1
  refine beNum_inj ob os h.bytes hs.bytes (by rw [h.len, hs.len]) ?_
  rw [h1, hs.split, hn, hs.len]

/-- A state of BitsWrite's round. X: the writer that is written to; Y: the other one; K: the document's own. -/
structure WSt (hb : Bool) (T Ta T' Ta' : TypeId) (w0 : World) (N p3 pa py X Y K : Nat) (g gk : Option Nat) (os bl : List Nat) (w : World) : Prop where
  wr : Wr T w 0 X g os bl.length
  pk : Pk w K gk bl hb
  bits : ∀ b ∈ bl, b < 2
  c3 : w.heap[p3]? = some (.cells #[.bool hb] 4)
  ca : w.heap[pa]? = some (.cells #[.pointer (some ⟨X, 0, none⟩)] Ta)
  cy : w.heap[py]? = some (.cells #[.pointer (some ⟨Y, 0, none⟩)] Ta')
  idle : Wr T' w 0 Y none [] 0
  fr : Fr (fun _ => False) w0 w
  lt : ((p3 < N ∧ pa < N) ∧ (py < N ∧ X < N)) ∧ (Y < N ∧ K < N) ∧ N ≤ w.heap.size
  ge : ((w0.heap.size ≤ p3 ∧ w0.heap.size ≤ pa) ∧ (w0.heap.size ≤ py ∧ w0.heap.size ≤ X)) ∧ ((w0.heap.size ≤ Y ∧ w0.heap.size ≤ K) ∧ w0.heap.size ≤ N)
  ne : ((p3 ≠ X ∧ p3 ≠ K) ∧ (pa ≠ X ∧ pa ≠ K)) ∧ ((py ≠ X ∧ py ≠ K) ∧ (Y ≠ X ∧ Y ≠ K)) ∧ X ≠ K
  gr : (∀ k, g = some k → N ≤ k) ∧ (∀ k, gk = some k → N ≤ k) ∧ ∀ k, g = some k → gk ≠ some k

section
variable {hb : Bool} {T Ta T' Ta' : TypeId} {w0 : World} {N p3 pa py X Y K : Nat} {g gk : Option Nat} {os bl : List Nat} {w : World}
theorem WSt.far {w' : World} (h : WSt hb T Ta T' Ta' w0 N p3 pa py X Y K g gk os bl w) {S : Nat → Prop} (f : Fr S w w') (hS : ∀ k, k < w.heap.size → ¬ S k) : WSt hb T Ta T' Ta' w0 N p3 pa py X Y K g gk os bl w' := by
  have a1 := h.lt
  have a2 := h.ge
  have a3 := f.size
  refine ⟨h.wr.keep f (hS _ (by omega)) (fun k hk => hS k (h.wr.lts k hk)), h.pk.keep f (hS _ (by omega)) (fun k hk => hS k (h.pk.lts k hk)), h.bits, ?_, ?_, ?_, h.idle.keep f (hS _ (by omega)) (fun k hk => by cases hk), ?_, by omega, h.ge, h.ne, h.gr⟩
  · rw [f.block _ (lt_of h.c3) (hS _ (by omega))]; exact h.c3
  · rw [f.block _ (lt_of h.ca) (hS _ (by omega))]; exact h.ca
  · rw [f.block _ (lt_of h.cy) (hS _ (by omega))]; exact h.cy
  · have a4 := h.fr.size
    exact (h.fr.trans f).mono fun k hk h => by
      rcases h with h | h
      · exact h
      · exact hS k (by omega) h

theorem WSt.next (h : WSt hb T Ta T' Ta' w0 N p3 pa py X Y K g gk os bl w) {w1 w2 : World} {g' gk' : Option Nat} {os' bl' : List Nat}
    (h1 : Wr T w1 0 X g' os' bl'.length) (f1 : Fr (fun i => i = X ∨ g = some i) w w1) (e1 : g' = g ∨ ∃ k, g' = some k ∧ w.heap.size ≤ k)
    (h2 : Pk w2 K gk' bl' hb) (f2 : Fr (fun i => i = K ∨ gk = some i) w1 w2) (e2 : gk' = gk ∨ ∃ k, gk' = some k ∧ w1.heap.size ≤ k) (hbits : ∀ b ∈ bl', b < 2) :
    WSt hb T Ta T' Ta' w0 N p3 pa py X Y K g' gk' os' bl' w2 := by
  have a1 := h.lt
  have a2 := h.ge
  have a3 := f1.size
  have a4 := f2.size
  have a5 := h.ne
  obtain ⟨g1, g2, g3⟩ := h.gr
  have old : ∀ b, b < N → b ≠ X → b ≠ K → w2.heap[b]? = w.heap[b]? := by
    intro b hb1 hb2 hb3
    rw [f2.block b (by omega) (fun e => by
      rcases e with e | e
      · exact hb3 e
      · have := g2 b e; omega), f1.block b (by omega) (fun e => by
      rcases e with e | e
      · exact hb2 e
      · have := g1 b e; omega)]
  have hg' : ∀ k, g' = some k → N ≤ k := by
    rcases e1 with rfl | ⟨j, rfl, hj⟩
    · exact g1
    · intro k hk; cases hk; omega
  have hgk' : ∀ k, gk' = some k → N ≤ k := by
    rcases e2 with rfl | ⟨j, rfl, hj⟩
    · exact g2
    · intro k hk; cases hk; omega
  have hgg : ∀ k, g' = some k → gk ≠ some k := by
    rcases e1 with rfl | ⟨j, rfl, hj⟩
    · exact g3
    · intro k hk e; cases hk; have := h.pk.lts _ e; omega
  refine ⟨h1.keep f2 ?_ ?_, h2, hbits, ?_, ?_, ?_, ?_, ?_, by omega, h.ge, h.ne, hg', hgk', ?_⟩
  · rintro (e | e)
    · omega
    · have := g2 X e; omega
  · rintro k hk (e | e)
    · have := hg' k hk; omega
    · exact hgg k hk e
  · rw [old p3 (by omega) (by omega) (by omega)]; exact h.c3
  · rw [old pa (by omega) (by omega) (by omega)]; exact h.ca
  · rw [old py (by omega) (by omega) (by omega)]; exact h.cy
  · refine (h.idle.keep f1 ?_ (fun k hk => by cases hk)).keep f2 ?_ (fun k hk => by cases hk)
    · rintro (e | e)
      · omega
      · have := g1 Y e; omega
    · rintro (e | e)
      · omega
      · have := g2 Y e; omega
  · have a6 := h.fr.size
    refine ((h.fr.trans f1).trans f2).mono fun k hk e => ?_
    rcases e with (e | e | e) | e | e
    · exact e
    · omega
    · have := g1 k e; omega
    · omega
    · have := g2 k e; omega
  · intro k hk
    rcases e2 with rfl | ⟨j, rfl, hj⟩
    · exact hgg k hk
    · intro e; cases e; have := h1.lts k hk; omega
end

theorem cf25 (W : World) (a b c d e : Value) : (callFunc 25 #[a, b, c, d, e]).run Try.prog W = .ok (.enter 25 #[a, b, c, d, e]) W := by kernel_rfl

set_option maxHeartbeats 400000 in
theorem wput_low (X p3 p5 p6 p9 p10 : Nat) (x n : Int) (w : World) (Q : Ending → World → Prop) (h3 : w.cell? ⟨p3, 0, none⟩ = some (.bool false)) (h5 : w.cell? ⟨p5, 0, none⟩ = some (.pointer (some ⟨X, 0, none⟩))) (h9 : w.cell? ⟨p9, 0, none⟩ = some (.int .i64 x)) (h10 : w.cell? ⟨p10, 0, none⟩ = some (.int .i64 n))
    (hc : Calls Try.prog 27 #[.pointer (some ⟨X, 0, none⟩), .int .i64 x, .int .i64 n] w fun e w' => (e = .returned (.tuple #[]) ∧ Q e w') ∨ ((∃ er, e = errPanic er) ∧ Q e w')) :
    Calls Try.prog 25 #[.pointer (some ⟨p3, 0, none⟩), .pointer (some ⟨p6, 0, none⟩), .pointer (some ⟨p9, 0, none⟩), .pointer (some ⟨p10, 0, none⟩), .pointer (some ⟨p5, 0, none⟩)] w fun e w' => (e = .returned (.tuple #[]) ∧ Q e w') ∨ ((∃ er, e = errPanic er) ∧ Q e w') := by
  have Hc := hide hc
  clear hc
  go_enter Try.func25, Try.ntmps25
  go_wp2_with fail
  refine Hc.out.mono ?_
  rintro e w1 (⟨rfl, hq⟩ | ⟨⟨er, rfl⟩, hq⟩)
  · go_wp2
    go_end0
    exact Or.inl ⟨rfl, hq⟩
  · exact ⟨rfl, Or.inr ⟨⟨er, rfl⟩, hq⟩⟩
set_option maxHeartbeats 400000 in
theorem wput_high (X p3 p5 p6 p9 p10 : Nat) (x n : Int) (w : World) (Q : Ending → World → Prop) (h3 : w.cell? ⟨p3, 0, none⟩ = some (.bool true)) (h5 : w.cell? ⟨p6, 0, none⟩ = some (.pointer (some ⟨X, 0, none⟩))) (h9 : w.cell? ⟨p9, 0, none⟩ = some (.int .i64 x)) (h10 : w.cell? ⟨p10, 0, none⟩ = some (.int .i64 n))
    (hc : Calls Try.prog 26 #[.pointer (some ⟨X, 0, none⟩), .int .i64 x, .int .i64 n] w fun e w' => (e = .returned (.tuple #[]) ∧ Q e w') ∨ ((∃ er, e = errPanic er) ∧ Q e w')) :
    Calls Try.prog 25 #[.pointer (some ⟨p3, 0, none⟩), .pointer (some ⟨p6, 0, none⟩), .pointer (some ⟨p9, 0, none⟩), .pointer (some ⟨p10, 0, none⟩), .pointer (some ⟨p5, 0, none⟩)] w fun e w' => (e = .returned (.tuple #[]) ∧ Q e w') ∨ ((∃ er, e = errPanic er) ∧ Q e w') := by
  have Hc := hide hc
  clear hc
  go_enter Try.func25, Try.ntmps25
  go_wp2_with fail
  refine Hc.out.mono ?_
  rintro e w1 (⟨rfl, hq⟩ | ⟨⟨er, rfl⟩, hq⟩)
  · go_wp2
    go_end0
    exact Or.inl ⟨rfl, hq⟩
  · exact ⟨rfl, Or.inr ⟨⟨er, rfl⟩, hq⟩⟩
end Go.Proofs.Ytkmgpapopgeldaa
