/-
  A writer of bits as an object.
-/
import Derived.Test.YtdbgolklgiadeaaBe
import Derived.Deep.RegionHeld3
import Derived.Deep.DrawnRows
import Derived.BigRegion
import Derived.Deep.AppendLies
namespace Go.Proofs.Ytdbgolklgiadeaa
open Go.RowKit

set_option maxHeartbeats 800000 in
set_option maxRecDepth 100000 in
theorem fill_c (B g m L c : Nat) (last v : Int) (w : World) (h0 : w.cell? ⟨B, 2, none⟩ = some (.slice (some ⟨g, 0, none⟩) L c)) (h1 : w.cell? ⟨g, m, none⟩ = some (.int .u8 last)) (hf : w.frozen? ⟨g, m, none⟩ = false)
    (hv0 : 0 ≤ v) (hv1 : v < 256) (hm : (m : Int) ≤ 2147483648) (hL : L = m + 1) :
    Calls Try.prog 63 #[.pointer (some ⟨B, 2, none⟩), .int .i64 v] w fun e w' => e = .returned (.tuple #[]) ∧ w' = (w.setCell ⟨g, m, none⟩ (.int .u8 (bits .or .u8 last v))).drew := by
  have hw1 : IntKind.i64.wrap ((L : Int) - 1) = (m : Int) := by rw [wrap_i64_id _ (by omega) (by omega)]; omega
  have hw2 : IntKind.u8.wrap v = v := by rw [IntKind.wrap_u8']; omega
  have hm0 : (0 : Int) ≤ (m : Int) := by omega
  have hm1 : (m : Int) < (L : Int) := by omega
  clear hL
  go_enter Try.func63, Try.ntmps63
  go_region
  all_goals
    go_end0
    exact ⟨rfl, rfl⟩

theorem ret_tup2 {k1 k2 : IntKind} {a1 b1 a2 b2 : Int} (h1 : a1 = b1) (h2 : a2 = b2) :
    Ending.returned (.tuple #[.int k1 a1, .int k2 a2]) = .returned (.tuple #[.int k1 b1, .int k2 b2]) := by rw [h1, h2]

set_option maxHeartbeats 400000 in
set_option maxRecDepth 100000 in
theorem room_in (B wr s : Nat) (m : Int) (w : World) (h3 : w.cell? ⟨B, 3, none⟩ = some (.int .i64 wr)) (hf3 : w.frozen? ⟨B, 3, none⟩ = false)
    (hwr : (wr : Int) ≤ 2147483648) (hne : ¬ (wr : Int) % 8 = 0) (hm0 : 0 < m) (hm1 : m ≤ 24) (hs1 : (s : Int) ≤ m) (hs2 : wr % 8 + s ≤ 8) (hs3 : (s : Int) = m ∨ wr % 8 + s = 8) :
    Calls Try.prog 62 #[.pointer (some ⟨B, 2, none⟩), .int .i64 m] w fun e w' => e = .returned (.tuple #[.int .i64 (wr % 8 : Nat), .int .i64 s]) ∧ w' = w.setCell ⟨B, 3, none⟩ (.int .i64 ((wr + s : Nat) : Int)) := by
  have Hs : Hid (((s : Int) ≤ m ∧ wr % 8 + s ≤ 8) ∧ ((s : Int) = m ∨ wr % 8 + s = 8)) := ⟨⟨hs1, hs2⟩, hs3⟩
  have hq : ((wr : Int) % 8 == 0) = false := by simpa using hne
  clear hs1 hs2 hs3 hne
  go_enter Try.func62, Try.ntmps62
  go_wp2
  all_goals
    go_ret2
    obtain ⟨⟨hs1, hs2⟩, hs3⟩ := Hs.out
    exact ⟨ret_tup2 (by omega) (by omega), by congr 2; omega⟩

set_option maxHeartbeats 800000 in
set_option maxRecDepth 100000 in
theorem room_new (T : TypeId) (lo B wr s : Nat) (v ov : Value) (pos : Int) (m : Int) (os : List Nat) (w : World) (h : w.heap[B]? = some (.cells #[v, .int .i64 pos, ov, .int .i64 wr] T (0, 0)))
    (hown : w.ownsRow lo 5 1 ov os.length (cellsOf os)) (hlo : lo ≤ w.heap.size) (hap : ∀ k, ov.ownBlock = some k → k ≠ B)
    (hwr : (wr : Int) ≤ 2147483648) (hos : os.length ≤ 2147483648) (hne : (wr : Int) % 8 = 0) (hm0 : 0 < m) (hm1 : m ≤ 24) (hs1 : (s : Int) ≤ m) (hs2 : s ≤ 8) (hs3 : (s : Int) = m ∨ s = 8) :
    Calls Try.prog 62 #[.pointer (some ⟨B, 2, none⟩), .int .i64 m] w fun e w' => e = .returned (.tuple #[.int .i64 0, .int .i64 s]) ∧
      ∃ g cap w1, w1.ownsRow lo 5 1 (.slice (some ⟨g, 0, none⟩) (os.length + 1) cap) (os.length + 1) (cellsOf os ++ [.int .u8 0]) ∧ Fr (fun k => ov.ownBlock = some k) w w1 ∧ (ov.ownBlock = some g ∨ w.heap.size ≤ g) ∧ g ≠ B ∧
        w' = (w1.setCell ⟨B, 2, none⟩ (.slice (some ⟨g, 0, none⟩) (os.length + 1) cap)).setCell ⟨B, 3, none⟩ (.int .i64 ((wr + s : Nat) : Int)) := by
  obtain ⟨i0, hi, hz0, hz1, hz2⟩ := info_parts Try.info5
  obtain ⟨a0, c0, rfl⟩ := ownsRow_shape hown
  have hB := lt_of h
  have h2 := cell_of (o := 2) h rfl
  have h3 := cell_of (o := 3) h rfl
  have hf2 := frozen_of (o := 2) h
  have hf3 := frozen_of (o := 3) h
  have Hh := hide h
  have Hs : Hid (((s : Int) ≤ m ∧ s ≤ 8) ∧ ((s : Int) = m ∨ s = 8)) := ⟨⟨hs1, hs2⟩, hs3⟩
  have Hap := hide hap
  have hq : ((wr : Int) % 8 == 0) = true := by simpa using hne
  have Hne := hide hne
  clear hs1 hs2 hs3 hne h hap
  go_enter Try.func62, Try.ntmps62
  go_wp2_with (at_builtin; go_must (refine wpList_append_lies _ rfl _ _ 22 rfl lo 5 i0 (.int .u8 0) 1 1 Try.underlying22 hi hz0 hz1 hz2 rfl (by decide) (.slice a0 os.length c0) os.length (cellsOf os) rfl (hown.alloc _) ⟨w.heap.size, 0, none⟩ 1 1 [.int .u8 0] rfl rfl (cell_one_new _ _ _) (fun x hx => by simp at hx; subst hx; rfl) (by decide) (by unfold maxLen; omega) (by omega) (by simp; omega) (w.heap.size + 1) (by simp) ?_); intro g cap w1 hown1 hgrow hat hlt
               have hb1 := (hgrow.block B (by simp; omega) (fun e => Hap.out B e.symm rfl)).trans ((Below.heap_alloc _ _ _ hB).trans Hh.out)
               have q2 := cell_of (o := 2) hb1 rfl
               have q3 := cell_of (o := 3) hb1 rfl
               have z2 := frozen_of (o := 2) hb1
               have z3 := frozen_of (o := 3) hb1
               have Hown1 := hide hown1
               have Hgrow := hide hgrow
               have Hat := hide hat
               clear hown1 hgrow hat hlt hb1)
  all_goals
    go_ret2
    obtain ⟨⟨hs1, hs2⟩, hs3⟩ := Hs.out
    have hne := Hne.out
    refine ⟨ret_tup2 (by omega) (by omega), g, cap, w1, Hown1.out, ?_, ?_, ?_, ?_⟩
    · have f : Fr (fun k => (Value.slice a0 os.length c0).ownBlock = some k) (w.alloc (.cells #[.int .u8 0] 5)) w1 := ⟨Hgrow.out.os, Hgrow.out.tape, Hgrow.out.output, Hgrow.out.size, fun k hk hn => Hgrow.out.block k hk (fun e => hn e.symm)⟩
      exact ((Fr.of_alloc w _).trans f).mono fun k _ h => by
        rcases h with h | h
        · exact h.elim
        · exact h
    · rcases Hat.out with h | h
      · exact Or.inl h
      · exact Or.inr (by omega)
    · rcases Hat.out with h | h
      · exact Hap.out g h
      · omega
    · congr 2
      omega

/-- A writer at block B: the bytes os, of which wr bits are written; they lie in block g. -/
structure Wr (T : TypeId) (w : World) (lo B : Nat) (g : Option Nat) (os : List Nat) (wr : Nat) : Prop where
  eobj : ∃ v pos ov, w.heap[B]? = some (.cells #[v, .int .i64 pos, ov, .int .i64 wr] T (0, 0)) ∧ w.ownsRow lo 5 1 ov os.length (cellsOf os) ∧ ov.ownBlock = g
  eap : ∀ k, g = some k → k ≠ B
  elo : lo ≤ w.heap.size

theorem Wr.keep {T : TypeId} {w w' : World} {lo B : Nat} {g : Option Nat} {os : List Nat} {wr : Nat} (h : Wr T w lo B g os wr) {S : Nat → Prop} (f : Fr S w w') (hB : ¬ S B) (hg : ∀ k, g = some k → ¬ S k) : Wr T w' lo B g os wr := by
  obtain ⟨v, pos, ov, h1, h2, h3⟩ := h.eobj
  refine ⟨⟨v, pos, ov, ?_, ?_, h3⟩, h.eap, Nat.le_trans h.elo f.size⟩
  · rw [f.block B (lt_of h1) hB]; exact h1
  · exact ownsRow_fr h2 fun k hk => f.block k (h2.lt k hk).2 (hg k (h3 ▸ hk))

/-- A writer with room made in its last byte. -/
structure Mid (T : TypeId) (w : World) (lo B k : Nat) (init : List Nat) (last : Nat) (wr : Nat) : Prop where
  eobj : ∃ v pos cap, w.heap[B]? = some (.cells #[v, .int .i64 pos, .slice (some ⟨k, 0, none⟩) (init.length + 1) cap, .int .i64 wr] T (0, 0)) ∧ w.ownsRow lo 5 1 (.slice (some ⟨k, 0, none⟩) (init.length + 1) cap) (init.length + 1) (cellsOf (init ++ [last]))
  eap : k ≠ B
  elo : lo ≤ w.heap.size

theorem Wr.lts {T : TypeId} {w : World} {lo B : Nat} {g : Option Nat} {os : List Nat} {wr : Nat} (h : Wr T w lo B g os wr) : ∀ k, g = some k → k < w.heap.size := by
  obtain ⟨v, pos, ov, h1, h2, h3⟩ := h.eobj
  intro k hk
  exact (h2.lt k (h3.trans hk)).2

theorem room_w (T : TypeId) (lo B : Nat) (g : Option Nat) (os : List Nat) (wr s : Nat) (m : Int) (w : World) (h : Wr T w lo B g os wr) (hlen : os.length = (wr + 7) / 8) (hwr : wr ≤ 2147483000) (hm0 : 0 < m) (hm1 : m ≤ 24)
    (hs1 : (s : Int) ≤ m) (hs2 : wr % 8 + s ≤ 8) (hs3 : (s : Int) = m ∨ wr % 8 + s = 8) :
    Calls Try.prog 62 #[.pointer (some ⟨B, 2, none⟩), .int .i64 m] w fun e w' => e = .returned (.tuple #[.int .i64 (wr % 8 : Nat), .int .i64 s]) ∧
      ∃ k init last, (if wr % 8 = 0 then init = os ∧ last = 0 else os = init ++ [last]) ∧ Mid T w' lo B k init last (wr + s) ∧ Fr (fun i => i = B ∨ g = some i) w w' ∧ (g = some k ∨ w.heap.size ≤ k) := by
  obtain ⟨v, pos, ov, h1, h2, h3⟩ := h.eobj
  by_cases hz : wr % 8 = 0
  · refine (room_new T lo B wr s v ov pos m os w h1 h2 h.elo (fun k hk => h.eap k (h3 ▸ hk)) (by omega) (by omega) (by omega) hm0 hm1 hs1 (by omega) (by omega)).mono ?_
    rintro e w' ⟨rfl, k, cap, w1, hown, hf, hat, hkB, rfl⟩
    have hb1 : w1.heap[B]? = some (.cells #[v, .int .i64 pos, ov, .int .i64 wr] T (0, 0)) := by rw [hf.block B (lt_of h1) (fun e => h.eap B (h3 ▸ e) rfl)]; exact h1
    refine ⟨by rw [hz]; rfl, k, os, 0, by simp [hz], ⟨⟨v, pos, cap, ?_, ?_⟩, hkB, ?_⟩, ?_, ?_⟩
    · exact heap_setCell_own _ (heap_setCell_own _ hb1)
    · have e : cellsOf (os ++ [0]) = cellsOf os ++ [.int .u8 0] := by simp [cellsOf]
      rw [e]
      refine ownsRow_fr hown fun i hi => ?_
      have : i = k := by simpa [Value.ownBlock] using hi.symm
      subst this
      rw [Below.heap_setCell _ _ _ _ hkB, Below.heap_setCell _ _ _ _ hkB]
    · simp [World.setCell]; exact Nat.le_trans h.elo hf.size
    · exact ((hf.trans (Fr.of_setCell w1 ⟨B, 2, none⟩ _)).trans (Fr.of_setCell _ ⟨B, 3, none⟩ _)).mono fun i _ hi => by
        rcases hi with (hi | hi) | hi
        · exact Or.inr (h3 ▸ hi)
        · exact Or.inl hi
        · exact Or.inl hi
    · rw [h3] at hat; exact hat
  · have hos : os ≠ [] := by rintro rfl; simp at hlen; omega
    have hol : 0 < os.length := List.length_pos_iff.2 hos
    refine (room_in B wr s m w (cell_of (o := 3) h1 rfl) (frozen_of (o := 3) h1) (by omega) (by omega) hm0 hm1 hs1 hs2 hs3).mono ?_
    rintro e w' ⟨rfl, rfl⟩
    obtain ⟨k, cap, rfl, _, hk⟩ := h2.form hol
    have hkB : k ≠ B := h.eap k (by rw [← h3]; rfl)
    have el : os.dropLast.length + 1 = os.length := by rw [List.length_dropLast]; omega
    refine ⟨rfl, k, os.dropLast, os.getLast hos, by simp [hz, List.dropLast_concat_getLast], ⟨⟨v, pos, cap, ?_, ?_⟩, hkB, ?_⟩, ?_, ?_⟩
    · rw [el]; exact heap_setCell_own _ h1
    · rw [el, List.dropLast_concat_getLast]
      refine ownsRow_fr h2 fun i hi => ?_
      have : i = k := by simpa [Value.ownBlock] using hi.symm
      subst this
      exact Below.heap_setCell _ _ _ _ hkB
    · simp [World.setCell]; exact h.elo
    · exact (Fr.of_setCell w ⟨B, 3, none⟩ _).mono fun i _ hi => Or.inl hi
    · exact Or.inl (by rw [← h3]; rfl)

theorem fill_w (T : TypeId) (lo B k : Nat) (init : List Nat) (last b wr : Nat) (v : Int) (w : World) (h : Mid T w lo B k init last wr) (hv0 : 0 ≤ v) (hv1 : v < 256) (hi : init.length ≤ 2147483000) (hb : bits .or .u8 (last : Int) v = (b : Int)) :
    Calls Try.prog 63 #[.pointer (some ⟨B, 2, none⟩), .int .i64 v] w fun e w' => e = .returned (.tuple #[]) ∧ Wr T w' lo B (some k) (init ++ [b]) wr ∧ Fr (fun i => i = k) w w' := by
  obtain ⟨u, pos, cap, h1, h2⟩ := h.eobj
  have hc := h2.cellAt init.length (by omega)
  have hf := h2.frozenAt init.length
  have e0 : (cellsOf (init ++ [last]))[init.length]? = some (.int .u8 (last : Int)) := by simp [cellsOf]
  rw [e0] at hc
  refine (fill_c B k init.length (init.length + 1) cap last v w (cell_of (o := 2) h1 rfl) hc hf hv0 hv1 (by omega) rfl).mono ?_
  rintro e w' ⟨rfl, rfl⟩
  have hst := (h2.stored init.length (.int .u8 (bits .or .u8 (last : Int) v))).1
  have f : Fr (fun i => i = k) w ((w.setCell ⟨k, init.length, none⟩ (.int .u8 (bits .or .u8 (last : Int) v))).drew) := ((Fr.of_setCell w ⟨k, init.length, none⟩ _).trans (Fr.of_drewN _ 1)).mono fun i _ hi => by simpa using hi
  refine ⟨rfl, ⟨⟨u, pos, .slice (some ⟨k, 0, none⟩) (init.length + 1) cap, ?_, ?_, rfl⟩, fun i hi => by cases hi; exact h.eap, Nat.le_trans h.elo f.size⟩, f⟩
  · rw [f.block B (lt_of h1) (Ne.symm h.eap)]; exact h1
  · have e1 : (cellsOf (init ++ [last])).set init.length (.int .u8 (bits .or .u8 (last : Int) v)) = cellsOf (init ++ [b]) := by
      rw [hb]; simp [cellsOf]
    rw [e1] at hst
    have e2 : (init ++ [b]).length = init.length + 1 := by simp
    rw [e2]
    exact hst

set_option maxHeartbeats 400000 in
set_option maxRecDepth 100000 in
theorem low_put_bad (B : Nat) (x n : Int) (w : World) (h : n < 0 ∨ 24 < n) :
    Calls Try.prog 48 #[.pointer (some ⟨B, 0, none⟩), .int .i64 x, .int .i64 n] w fun e w' => (∃ er, e = errPanic er) ∧ w = w' := by
  go_enter Try.func48, Try.ntmps48
  go_wp2_with (go_at_call 57; refine (width_bad _ h _).mono ?_; rintro e w' ⟨rfl, rfl⟩)
  exact ⟨rfl, ⟨_, rfl⟩, rfl⟩

/-- The bits of an int as a number. -/
def numOf (x : Int) : Nat := (x % 18446744073709551616).toNat

theorem lowest_b (x : Int) (p s : Nat) (h : p + s ≤ 62) (w : World) :
    Calls Try.prog 60 #[.int .i64 (x / 2 ^ p), .int .i64 s] w fun e w' => e = .returned (.int .i64 (lowBits (numOf x) p s : Nat)) ∧ w = w' :=
  (lowest_c (x / 2 ^ p) s (by omega) w).mono fun e w' ⟨he, hw⟩ => ⟨by rw [he, int_bits x p s (by omega)]; rfl, hw⟩

theorem Mid.drew {T : TypeId} {w : World} {lo B k : Nat} {init : List Nat} {last wr : Nat} (h : Mid T w lo B k init last wr) : Mid T w.drew lo B k init last wr := ⟨h.eobj, h.eap, h.elo⟩

theorem put_frame {B k : Nat} {g g' : Option Nat} {w wr w1 w2 : World} (hF : Fr (fun i => i = B ∨ g = some i) w wr) (hG : g' = g ∨ ∃ k, g' = some k ∧ w.heap.size ≤ k) (hf1 : Fr (fun i => i = B ∨ g' = some i) wr w1) (hk1 : g' = some k ∨ wr.heap.size ≤ k)
    (hf2 : Fr (fun i => i = k) w1.drew w2) : Fr (fun i => i = B ∨ g = some i) w w2 ∧ (some k = g ∨ ∃ k', some k = some k' ∧ w.heap.size ≤ k') := by
  have hsz := hF.size
  have hd : Fr (fun _ => False) w1 w1.drew := Fr.of_drewN w1 1
  have hk : some k = g ∨ w.heap.size ≤ k := by
    rcases hk1 with h | h
    · rcases hG with e | ⟨j, e, hj⟩
      · exact Or.inl (by rw [← e, h])
      · rw [h] at e; cases e; exact Or.inr hj
    · exact Or.inr (by omega)
  refine ⟨(((hF.trans hf1).trans hd).trans hf2).mono fun i hi h => ?_, ?_⟩
  · rcases h with ((h | h) | h) | h
    · exact h
    · rcases h with h | h
      · exact Or.inl h
      · rcases hG with e | ⟨j, e, hj⟩
        · exact Or.inr (by rw [← e, h])
        · rw [h] at e; cases e; omega
    · exact h.elim
    · subst h
      rcases hk with h | h
      · exact Or.inr h.symm
      · omega
  · rcases hk with h | h
    · exact Or.inl h
    · exact Or.inr ⟨k, rfl, h⟩

/-- What room has left, low: the new last byte. -/
theorem low_room {os' init : List Nat} {last P s q : Nat} (hL : LowSt os' P) (hcase : if P % 8 = 0 then init = os' ∧ last = 0 else os' = init ++ [last]) (hs2 : P % 8 + s ≤ 8) (hs4 : 0 < s) (hq : q < 2 ^ s) :
    bits .or .u8 (last : Int) ((q * 2 ^ (P % 8) : Nat) : Int) = ((last + q * 2 ^ (P % 8) : Nat) : Int) ∧ q * 2 ^ (P % 8) < 256 ∧ LowSt (init ++ [last + q * 2 ^ (P % 8)]) (P + s) ∧ leNum (init ++ [last + q * 2 ^ (P % 8)]) = leNum os' + q * 2 ^ P := by
  obtain ⟨h1, h2, h3, h4⟩ : init.length = P / 8 ∧ (∀ b ∈ init, b < 256) ∧ last < 2 ^ (P % 8) ∧ leNum (init ++ [last]) = leNum os' := by
    split at hcase
    · next hz =>
      obtain ⟨rfl, rfl⟩ := hcase
      exact ⟨by rw [hL.len]; omega, hL.bytes, by rw [hz]; decide, by rw [leNum_append]; omega⟩
    · next hz =>
      obtain ⟨i', l', e, a, b, c, d⟩ := hL.room hz
      rw [hcase] at e
      obtain ⟨rfl, e2⟩ := List.append_inj' e rfl
      simp at e2
      subst e2
      exact ⟨a, b, c, by rw [hcase]⟩
  obtain ⟨k1, k2⟩ := low_put h1 h2 h3 (by rw [h4]; exact hL.num) hs2 hs4 hq
  have h5 : last + q * 2 ^ (P % 8) < 256 := k1.bytes _ (by simp)
  exact ⟨or_u8 (P % 8) _ _ h3 (by simp) h5, by omega, k1, by rw [k2, h4]⟩

set_option maxHeartbeats 1600000 in
set_option maxRecDepth 100000 in
theorem low_put_ok (lo B : Nat) (g : Option Nat) (os : List Nat) (wn n : Nat) (x : Int) (w : World) (h : Wr 84 w lo B g os wn) (hs : LowSt os wn) (hwr : wn ≤ 2147480000) (hn : n ≤ 24) :
    Calls Try.prog 48 #[.pointer (some ⟨B, 0, none⟩), .int .i64 x, .int .i64 n] w fun e w' => e = .returned (.tuple #[]) ∧
      ∃ g' os', Wr 84 w' lo B g' os' (wn + n) ∧ LowSt os' (wn + n) ∧ leNum os' = leNum os + lowBits (numOf x) 0 n * 2 ^ wn ∧ Fr (fun i => i = B ∨ g = some i) w w' ∧ (g' = g ∨ ∃ k, g' = some k ∧ w.heap.size ≤ k) := by
  have H := hide h
  have Hs := hide hs
  clear h hs
  go_enter Try.func48, Try.ntmps48
  go_wp2_with (go_at_call 57; refine (width_ok _ (by omega) (by omega) _).mono ?_; rintro e w' ⟨rfl, rfl⟩)
  go_loopw [6] (fun t w' => ∃ p g' os', p ≤ n ∧ t = .int .i64 (p : Nat) ∧ Wr 84 w' lo B g' os' (wn + p) ∧ LowSt os' (wn + p) ∧ leNum os' = leNum os + lowBits (numOf x) 0 p * 2 ^ wn ∧ Fr (fun i => i = B ∨ g = some i) w w' ∧ (g' = g ∨ ∃ k, g' = some k ∧ w.heap.size ≤ k)) (fun t _ => n - (intOf t).toNat)
  case atStart => exact ⟨0, g, os, Nat.zero_le _, rfl, H.out, Hs.out, by simp [lowBits_zero], Fr.refl _ _, Or.inl rfl⟩
  case round =>
    obtain ⟨p, g', os', hp, rfl, hW, hL, hN, hF, hG⟩ := hrel
    by_cases hlt : p < n
    · obtain ⟨s, hsv⟩ : ∃ s : Nat, s = min (n - p) (8 - (wn + p) % 8) := ⟨_, rfl⟩
      have hs1 : s ≤ n - p := by omega
      have hs2 : (wn + p) % 8 + s ≤ 8 := by omega
      have hs3 : s = n - p ∨ (wn + p) % 8 + s = 8 := by omega
      have hs4 : 0 < s := by omega
      have HW := hide hW
      have HL := hide hL
      have HN := hide hN
      have HF := hide hF
      have HG := hide hG
      obtain ⟨P, hP⟩ : ∃ P, P = wn + p := ⟨_, rfl⟩
      rw [← hP] at HW HL hs2 hs3
      have HP := hide hP
      have hP1 : P ≤ 2147483000 := by omega
      clear hsv hW hL hN hF hG hP
      go_wp2_with (go_at_call 62; refine (room_w 84 lo B g' os' P s _ _ HW.out HL.out.len hP1 (by omega) (by omega) (by omega) hs2 (by omega)).mono ?_; rintro e w1 ⟨rfl, k, init, last, hcase, hmid, hf1, hk1⟩)
      obtain ⟨q, hq⟩ : ∃ q, q = lowBits (numOf x) p s := ⟨_, rfl⟩
      have hqlt : q < 2 ^ s := by rw [hq]; exact lowBits_lt _ _ _
      obtain ⟨r1, r2, r3, r4⟩ := low_room HL.out hcase hs2 hs4 hqlt
      obtain ⟨V, hV⟩ : ∃ V, V = q * 2 ^ (P % 8) := ⟨_, rfl⟩
      rw [← hV] at r1 r2 r3 r4
      have hwq : IntKind.i64.wrap ((q : Int) * 2 ^ ((P : Int) % 8).toNat) = (V : Int) := by
        have e : (q : Int) * 2 ^ ((P : Int) % 8).toNat = (V : Int) := by
          rw [hV, show ((P : Int) % 8).toNat = P % 8 by omega]; simp
        rw [e, wrap_i64_id _ (by omega) (by omega)]
      have hil : init.length ≤ 2147483000 := by
        have := r3.len
        simp at this
        omega
      have R1 := hide r1
      have R3 := hide r3
      have R4 := hide r4
      have HM := hide hmid.drew
      have Hf1 := hide hf1
      have Hk1 := hide hk1
      have Hq := hide hq
      have hlow := lowest_b x p s (by omega)
      rw [← hq] at hlow
      have Hlow := hide hlow
      clear hlow hq hV r1 r3 r4 hmid hf1 hk1 hcase hqlt
      go_region_with (first
        | (go_at_call 60; refine (Hlow.out _).mono ?_; rintro e w' ⟨rfl, rfl⟩)
        | (go_at_call 63; refine (fill_w 84 lo B k init last (last + V) (P + s) (V : Int) _ HM.out (by omega) (by omega) hil R1.out).mono ?_; rintro e w2 ⟨rfl, hw2, hf2⟩))
      all_goals
        go_wp2
        obtain ⟨hF2, hG2⟩ := put_frame HF.out HG.out Hf1.out Hk1.out hf2
        have hP := HP.out
        have hPs : P + s = wn + (p + s) := by omega
        rw [hPs] at hw2
        have R3' := R3.out
        rw [hPs] at R3'
        refine ⟨⟨p + s, some k, init ++ [last + V], by omega, by simp, hw2, R3', ?_, hF2, hG2⟩, by simp [intOf]; omega⟩
        rw [R4.out, HN.out, Hq.out, lowBits_add, Nat.zero_add, hP, Nat.pow_add, Nat.add_mul]
        generalize lowBits (numOf x) p s = a
        rw [Nat.add_assoc, Nat.mul_comm (2 ^ wn), ← Nat.mul_assoc, Nat.mul_comm a]
    · go_wp2
      go_end0
      have e : p = n := by omega
      subst e
      exact ⟨rfl, g', os', hW, hL, hN, hF, hG⟩
end Go.Proofs.Ytdbgolklgiadeaa
