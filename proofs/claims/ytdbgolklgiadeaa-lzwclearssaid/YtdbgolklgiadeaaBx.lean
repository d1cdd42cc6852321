/-
  A writer of bits that lies anywhere in a block.
-/
import Derived.Test.YtdbgolklgiadeaaBw
namespace Go.Proofs.Ytdbgolklgiadeaa
open Go.RowKit

set_option maxHeartbeats 400000 in
set_option maxRecDepth 100000 in
theorem room_inO (B o wr s : Nat) (m : Int) (w : World) (h3 : w.cell? ⟨B, o + 2 + 1, none⟩ = some (.int .i64 wr)) (hf3 : w.frozen? ⟨B, o + 2 + 1, none⟩ = false)
    (hwr : (wr : Int) ≤ 2147483648) (hne : ¬ (wr : Int) % 8 = 0) (hm0 : 0 < m) (hm1 : m ≤ 24) (hs1 : (s : Int) ≤ m) (hs2 : wr % 8 + s ≤ 8) (hs3 : (s : Int) = m ∨ wr % 8 + s = 8) :
    Calls Try.prog 62 #[.pointer (some ⟨B, o + 2, none⟩), .int .i64 m] w fun e w' => e = .returned (.tuple #[.int .i64 (wr % 8 : Nat), .int .i64 s]) ∧ w' = w.setCell ⟨B, o + 2 + 1, none⟩ (.int .i64 ((wr + s : Nat) : Int)) := by
  have Hs : Hid (((s : Int) ≤ m ∧ wr % 8 + s ≤ 8) ∧ ((s : Int) = m ∨ wr % 8 + s = 8)) := ⟨⟨hs1, hs2⟩, hs3⟩
  have hq : ((wr : Int) % 8 == 0) = false := by simpa using hne
  clear hs1 hs2 hs3 hne
  go_enter Try.func62, Try.ntmps62
  go_wp2
  all_goals
    go_ret2
    obtain ⟨⟨hs1, hs2⟩, hs3⟩ := Hs.out
    exact ⟨ret_tup2 (by omega) (by omega), by congr 2; omega⟩
set_option maxHeartbeats 800000 in
set_option maxRecDepth 100000 in
theorem fill_cO (B o g m L c : Nat) (last v : Int) (w : World) (h0 : w.cell? ⟨B, o + 2, none⟩ = some (.slice (some ⟨g, 0, none⟩) L c)) (h1 : w.cell? ⟨g, m, none⟩ = some (.int .u8 last)) (hf : w.frozen? ⟨g, m, none⟩ = false)
    (hv0 : 0 ≤ v) (hv1 : v < 256) (hm : (m : Int) ≤ 2147483648) (hL : L = m + 1) :
    Calls Try.prog 63 #[.pointer (some ⟨B, o + 2, none⟩), .int .i64 v] w fun e w' => e = .returned (.tuple #[]) ∧ w' = (w.setCell ⟨g, m, none⟩ (.int .u8 (bits .or .u8 last v))).drew := by
  have hw1 : IntKind.i64.wrap ((L : Int) - 1) = (m : Int) := by rw [wrap_i64_id _ (by omega) (by omega)]; omega
  have hw2 : IntKind.u8.wrap v = v := by rw [IntKind.wrap_u8']; omega
  have hm0 : (0 : Int) ≤ (m : Int) := by omega
  have hm1 : (m : Int) < (L : Int) := by omega
  clear hL
  go_enter Try.func63, Try.ntmps63
  go_region
  all_goals
    go_end0
    exact ⟨rfl, rfl⟩

set_option maxHeartbeats 800000 in
set_option maxRecDepth 100000 in
theorem room_newO (T : TypeId) (lo B o wr s : Nat) (cs : Array Value) (ov : Value) (m : Int) (os : List Nat) (w : World) (h : w.heap[B]? = some (.cells cs T (0, 0))) (hc2 : cs[o + 2]? = some ov) (hc3 : cs[o + 2 + 1]? = some (.int .i64 wr))
    (hown : w.ownsRow lo 5 1 ov os.length (cellsOf os)) (hlo : lo ≤ w.heap.size) (hap : ∀ k, ov.ownBlock = some k → k ≠ B)
    (hwr : (wr : Int) ≤ 2147483648) (hos : os.length ≤ 2147483648) (hne : (wr : Int) % 8 = 0) (hm0 : 0 < m) (hm1 : m ≤ 24) (hs1 : (s : Int) ≤ m) (hs2 : s ≤ 8) (hs3 : (s : Int) = m ∨ s = 8) :
    Calls Try.prog 62 #[.pointer (some ⟨B, o + 2, none⟩), .int .i64 m] w fun e w' => e = .returned (.tuple #[.int .i64 0, .int .i64 s]) ∧
      ∃ g cap w1, w1.ownsRow lo 5 1 (.slice (some ⟨g, 0, none⟩) (os.length + 1) cap) (os.length + 1) (cellsOf os ++ [.int .u8 0]) ∧ Fr (fun k => ov.ownBlock = some k) w w1 ∧ (ov.ownBlock = some g ∨ w.heap.size ≤ g) ∧ g ≠ B ∧
        w' = (w1.setCell ⟨B, o + 2, none⟩ (.slice (some ⟨g, 0, none⟩) (os.length + 1) cap)).setCell ⟨B, o + 2 + 1, none⟩ (.int .i64 ((wr + s : Nat) : Int)) := by
  obtain ⟨i0, hi, hz0, hz1, hz2⟩ := info_parts Try.info5
  obtain ⟨a0, c0, rfl⟩ := ownsRow_shape hown
  have hB := lt_of h
  have h2 := cell_of (o := o + 2) h hc2
  have h3 := cell_of (o := o + 2 + 1) h hc3
  have hf2 := frozen_of (o := o + 2) h
  have hf3 := frozen_of (o := o + 2 + 1) h
  have Hh := hide h
  have Hs : Hid (((s : Int) ≤ m ∧ s ≤ 8) ∧ ((s : Int) = m ∨ s = 8)) := ⟨⟨hs1, hs2⟩, hs3⟩
  have Hap := hide hap
  have hq : ((wr : Int) % 8 == 0) = true := by simpa using hne
  have Hne := hide hne
  have Hc2 := hide hc2
  have Hc3 := hide hc3
  clear hs1 hs2 hs3 hne h hap hc2 hc3
  go_enter Try.func62, Try.ntmps62
  go_wp2_with (at_builtin; go_must (refine wpList_append_lies _ rfl _ _ 22 rfl lo 5 i0 (.int .u8 0) 1 1 Try.underlying22 hi hz0 hz1 hz2 rfl (by decide) (.slice a0 os.length c0) os.length (cellsOf os) rfl (hown.alloc _) ⟨w.heap.size, 0, none⟩ 1 1 [.int .u8 0] rfl rfl (cell_one_new _ _ _) (fun x hx => by simp at hx; subst hx; rfl) (by decide) (by unfold maxLen; omega) (by omega) (by simp; omega) (w.heap.size + 1) (by simp) ?_); intro g cap w1 hown1 hgrow hat hlt
               have hb1 := (hgrow.block B (by simp; omega) (fun e => Hap.out B e.symm rfl)).trans ((Below.heap_alloc _ _ _ hB).trans Hh.out)
               have q2 := cell_of (o := o + 2) hb1 Hc2.out
               have q3 := cell_of (o := o + 2 + 1) hb1 Hc3.out
               have z2 := frozen_of (o := o + 2) hb1
               have z3 := frozen_of (o := o + 2 + 1) hb1
               have Hown1 := hide hown1
               have Hgrow := hide hgrow
               have Hat := hide hat
               clear hown1 hgrow hat hlt hb1)
  all_goals
    go_ret2
    obtain ⟨⟨hs1, hs2⟩, hs3⟩ := Hs.out
    have hne := Hne.out
    refine ⟨ret_tup2 (by omega) (by omega), g, cap, w1, Hown1.out, ?_, ?_, ?_, ?_⟩
    · have f : Fr (fun k => (Value.slice a0 os.length c0).ownBlock = some k) (w.alloc (.cells #[.int .u8 0] 5)) w1 := ⟨Hgrow.out.os, Hgrow.out.tape, Hgrow.out.output, Hgrow.out.size, fun k hk hn => Hgrow.out.block k hk (fun e => hn e.symm)⟩
      exact ((Fr.of_alloc w _).trans f).mono fun k _ h => by
        rcases h with h | h
        · exact h.elim
        · exact h
    · rcases Hat.out with h | h
      · exact Or.inl h
      · exact Or.inr (by omega)
    · rcases Hat.out with h | h
      · exact Hap.out g h
      · omega
    · congr 2
      omega

/-- Cells that lie outside a writer's are as they were. -/
structure Cs2 (o : Nat) (cs cs' : Array Value) : Prop where
  size : cs'.size = cs.size
  keep : ∀ i, i ≠ o + 2 → i ≠ o + 2 + 1 → cs'[i]? = cs[i]?

theorem Cs2.refl (o : Nat) (cs : Array Value) : Cs2 o cs cs := ⟨rfl, fun _ _ _ => rfl⟩
theorem Cs2.trans {o : Nat} {a b c : Array Value} (h : Cs2 o a b) (k : Cs2 o b c) : Cs2 o a c := ⟨k.size.trans h.size, fun i h1 h2 => (k.keep i h1 h2).trans (h.keep i h1 h2)⟩

/-- A writer at cell o of block B: the bytes os, of which wr bits are written; they lie in block g. -/
structure Wo (T : TypeId) (w : World) (B o : Nat) (cs : Array Value) (g : Option Nat) (os : List Nat) (wr : Nat) : Prop where
  eobj : ∃ ov, w.heap[B]? = some (.cells cs T (0, 0)) ∧ cs[o + 2]? = some ov ∧ cs[o + 2 + 1]? = some (.int .i64 wr) ∧ w.ownsRow 0 5 1 ov os.length (cellsOf os) ∧ ov.ownBlock = g
  eap : ∀ k, g = some k → k ≠ B

theorem Wo.keep {T : TypeId} {w w' : World} {B o : Nat} {cs : Array Value} {g : Option Nat} {os : List Nat} {wr : Nat} (h : Wo T w B o cs g os wr) {S : Nat → Prop} (f : Fr S w w') (hB : ¬ S B) (hg : ∀ k, g = some k → ¬ S k) : Wo T w' B o cs g os wr := by
  obtain ⟨ov, h1, h2, h3, h4, h5⟩ := h.eobj
  refine ⟨⟨ov, ?_, h2, h3, ?_, h5⟩, h.eap⟩
  · rw [f.block B (lt_of h1) hB]; exact h1
  · exact ownsRow_fr h4 fun k hk => f.block k (h4.lt k hk).2 (hg k (h5 ▸ hk))

theorem Wo.lts {T : TypeId} {w : World} {B o : Nat} {cs : Array Value} {g : Option Nat} {os : List Nat} {wr : Nat} (h : Wo T w B o cs g os wr) : (∀ k, g = some k → k < w.heap.size) ∧ B < w.heap.size := by
  obtain ⟨ov, h1, h2, h3, h4, h5⟩ := h.eobj
  exact ⟨fun k hk => (h4.lt k (h5.trans hk)).2, lt_of h1⟩

/-- A writer with room made in its last byte. -/
structure MidO (T : TypeId) (w : World) (B o : Nat) (cs : Array Value) (k : Nat) (init : List Nat) (last : Nat) (wr : Nat) : Prop where
  eobj : ∃ cap, w.heap[B]? = some (.cells cs T (0, 0)) ∧ cs[o + 2]? = some (.slice (some ⟨k, 0, none⟩) (init.length + 1) cap) ∧ cs[o + 2 + 1]? = some (.int .i64 wr) ∧ w.ownsRow 0 5 1 (.slice (some ⟨k, 0, none⟩) (init.length + 1) cap) (init.length + 1) (cellsOf (init ++ [last]))
  eap : k ≠ B

theorem lt_of_get {cs : Array Value} {i : Nat} {v : Value} (h : cs[i]? = some v) : i < cs.size := by
  rcases Nat.lt_or_ge i cs.size with h1 | h1
  · exact h1
  · rw [Array.getElem?_eq_none h1] at h; cases h

theorem set_cs2 (o : Nat) (cs : Array Value) (u v : Value) : Cs2 o cs ((cs.setIfInBounds (o + 2) u).setIfInBounds (o + 2 + 1) v) :=
  ⟨by simp, fun i h1 h2 => by rw [Array.getElem?_setIfInBounds_ne (Ne.symm h2), Array.getElem?_setIfInBounds_ne (Ne.symm h1)]⟩
theorem set_cs2' (o : Nat) (cs : Array Value) (v : Value) : Cs2 o cs (cs.setIfInBounds (o + 2 + 1) v) :=
  ⟨by simp, fun i _ h2 => by rw [Array.getElem?_setIfInBounds_ne (Ne.symm h2)]⟩
theorem get_set {cs : Array Value} {i : Nat} {u : Value} (v : Value) (h : cs[i]? = some u) : (cs.setIfInBounds i v)[i]? = some v := by
  rw [Array.getElem?_setIfInBounds_self_of_lt (lt_of_get h)]

theorem room_wO (T : TypeId) (B o : Nat) (cs : Array Value) (g : Option Nat) (os : List Nat) (wr s : Nat) (m : Int) (w : World) (h : Wo T w B o cs g os wr) (hlen : os.length = (wr + 7) / 8) (hwr : wr ≤ 2147483000) (hm0 : 0 < m) (hm1 : m ≤ 24)
    (hs1 : (s : Int) ≤ m) (hs2 : wr % 8 + s ≤ 8) (hs3 : (s : Int) = m ∨ wr % 8 + s = 8) :
    Calls Try.prog 62 #[.pointer (some ⟨B, o + 2, none⟩), .int .i64 m] w fun e w' => e = .returned (.tuple #[.int .i64 (wr % 8 : Nat), .int .i64 s]) ∧
      ∃ k init last cs', (if wr % 8 = 0 then init = os ∧ last = 0 else os = init ++ [last]) ∧ MidO T w' B o cs' k init last (wr + s) ∧ Cs2 o cs cs' ∧ Fr (fun i => i = B ∨ g = some i) w w' ∧ (g = some k ∨ w.heap.size ≤ k) := by
  obtain ⟨ov, h1, c2, c3, h2, h3⟩ := h.eobj
  by_cases hz : wr % 8 = 0
  · refine (room_newO T 0 B o wr s cs ov m os w h1 c2 c3 h2 (Nat.zero_le _) (fun k hk => h.eap k (h3 ▸ hk)) (by omega) (by omega) (by omega) hm0 hm1 hs1 (by omega) (by omega)).mono ?_
    rintro e w' ⟨rfl, k, cap, w1, hown, hf, hat, hkB, rfl⟩
    have hb1 : w1.heap[B]? = some (.cells cs T (0, 0)) := by rw [hf.block B (lt_of h1) (fun e => h.eap B (h3 ▸ e) rfl)]; exact h1
    refine ⟨by rw [hz]; rfl, k, os, 0, _, by simp [hz], ⟨⟨cap, heap_setCell_own _ (heap_setCell_own _ hb1), ?_, ?_, ?_⟩, hkB⟩, set_cs2 _ _ _ _, ?_, ?_⟩
    · rw [Array.getElem?_setIfInBounds_ne (by omega)]; exact get_set _ c2
    · exact get_set (u := .int .i64 wr) _ (by rw [Array.getElem?_setIfInBounds_ne (by omega)]; exact c3)
    · have e : cellsOf (os ++ [0]) = cellsOf os ++ [.int .u8 0] := by simp [cellsOf]
      rw [e]
      refine ownsRow_fr hown fun i hi => ?_
      have : i = k := by simpa [Value.ownBlock] using hi.symm
      subst this
      rw [Below.heap_setCell _ _ _ _ hkB, Below.heap_setCell _ _ _ _ hkB]
    · exact ((hf.trans (Fr.of_setCell w1 ⟨B, o + 2, none⟩ _)).trans (Fr.of_setCell _ ⟨B, o + 2 + 1, none⟩ _)).mono fun i _ hi => by
        rcases hi with (hi | hi) | hi
        · exact Or.inr (h3 ▸ hi)
        · exact Or.inl hi
        · exact Or.inl hi
    · rw [h3] at hat; exact hat
  · have hos : os ≠ [] := by rintro rfl; simp at hlen; omega
    have hol : 0 < os.length := List.length_pos_iff.2 hos
    refine (room_inO B o wr s m w (cell_of (o := o + 2 + 1) h1 c3) (frozen_of (o := o + 2 + 1) h1) (by omega) (by omega) hm0 hm1 hs1 hs2 hs3).mono ?_
    rintro e w' ⟨rfl, rfl⟩
    obtain ⟨k, cap, rfl, _, hk⟩ := h2.form hol
    have hkB : k ≠ B := h.eap k (by rw [← h3]; rfl)
    have el : os.dropLast.length + 1 = os.length := by rw [List.length_dropLast]; omega
    refine ⟨rfl, k, os.dropLast, os.getLast hos, _, by simp [hz, List.dropLast_concat_getLast], ⟨⟨cap, heap_setCell_own _ h1, ?_, get_set _ c3, ?_⟩, hkB⟩, set_cs2' _ _ _, ?_, ?_⟩
    · rw [el, Array.getElem?_setIfInBounds_ne (by omega)]; exact c2
    · rw [el, List.dropLast_concat_getLast]
      refine ownsRow_fr h2 fun i hi => ?_
      have : i = k := by simpa [Value.ownBlock] using hi.symm
      subst this
      exact Below.heap_setCell _ _ _ _ hkB
    · exact (Fr.of_setCell w ⟨B, o + 2 + 1, none⟩ _).mono fun i _ hi => Or.inl hi
    · exact Or.inl (by rw [← h3]; rfl)

theorem fill_wO (T : TypeId) (B o : Nat) (cs : Array Value) (k : Nat) (init : List Nat) (last b wr : Nat) (v : Int) (w : World) (h : MidO T w B o cs k init last wr) (hv0 : 0 ≤ v) (hv1 : v < 256) (hi : init.length ≤ 2147483000) (hb : bits .or .u8 (last : Int) v = (b : Int)) :
    Calls Try.prog 63 #[.pointer (some ⟨B, o + 2, none⟩), .int .i64 v] w fun e w' => e = .returned (.tuple #[]) ∧ Wo T w' B o cs (some k) (init ++ [b]) wr ∧ Fr (fun i => i = k) w w' := by
  obtain ⟨cap, h1, c2, c3, h2⟩ := h.eobj
  have hc := h2.cellAt init.length (by omega)
  have hf := h2.frozenAt init.length
  have e0 : (cellsOf (init ++ [last]))[init.length]? = some (.int .u8 (last : Int)) := by simp [cellsOf]
  rw [e0] at hc
  refine (fill_cO B o k init.length (init.length + 1) cap last v w (cell_of (o := o + 2) h1 c2) hc hf hv0 hv1 (by omega) rfl).mono ?_
  rintro e w' ⟨rfl, rfl⟩
  have hst := (h2.stored init.length (.int .u8 (bits .or .u8 (last : Int) v))).1
  have f : Fr (fun i => i = k) w ((w.setCell ⟨k, init.length, none⟩ (.int .u8 (bits .or .u8 (last : Int) v))).drew) := ((Fr.of_setCell w ⟨k, init.length, none⟩ _).trans (Fr.of_drewN _ 1)).mono fun i _ hi => by simpa using hi
  refine ⟨rfl, ⟨⟨.slice (some ⟨k, 0, none⟩) (init.length + 1) cap, ?_, c2, c3, ?_, rfl⟩, fun i hi => by cases hi; exact h.eap⟩, f⟩
  · rw [f.block B (lt_of h1) (Ne.symm h.eap)]; exact h1
  · have e1 : (cellsOf (init ++ [last])).set init.length (.int .u8 (bits .or .u8 (last : Int) v)) = cellsOf (init ++ [b]) := by
      rw [hb]; simp [cellsOf]
    rw [e1] at hst
    have e2 : (init ++ [b]).length = init.length + 1 := by simp
    rw [e2]
    exact hst

theorem MidO.drew {T : TypeId} {w : World} {B o : Nat} {cs : Array Value} {k : Nat} {init : List Nat} {last wr : Nat} (h : MidO T w B o cs k init last wr) : MidO T w.drew B o cs k init last wr := ⟨h.eobj, h.eap⟩

set_option maxHeartbeats 1600000 in
set_option maxRecDepth 100000 in
theorem low_putO (T : TypeId) (B o : Nat) (cs : Array Value) (g : Option Nat) (os : List Nat) (wn n : Nat) (x : Int) (w : World) (h : Wo T w B o cs g os wn) (hs : LowSt os wn) (hwr : wn ≤ 2147480000) (hn : n ≤ 24) :
    Calls Try.prog 48 #[.pointer (some ⟨B, o, none⟩), .int .i64 x, .int .i64 n] w fun e w' => e = .returned (.tuple #[]) ∧
      ∃ cs' g' os', Wo T w' B o cs' g' os' (wn + n) ∧ Cs2 o cs cs' ∧ LowSt os' (wn + n) ∧ leNum os' = leNum os + lowBits (numOf x) 0 n * 2 ^ wn ∧ Fr (fun i => i = B ∨ g = some i) w w' ∧ (g' = g ∨ ∃ k, g' = some k ∧ w.heap.size ≤ k) := by
  have H := hide h
  have Hs := hide hs
  clear h hs
  go_enter Try.func48, Try.ntmps48
  go_wp2_with (go_at_call 57; refine (width_ok _ (by omega) (by omega) _).mono ?_; rintro e w' ⟨rfl, rfl⟩)
  go_loopw [6] (fun t w' => ∃ p cs' g' os', p ≤ n ∧ t = .int .i64 (p : Nat) ∧ Wo T w' B o cs' g' os' (wn + p) ∧ Cs2 o cs cs' ∧ LowSt os' (wn + p) ∧ leNum os' = leNum os + lowBits (numOf x) 0 p * 2 ^ wn ∧ Fr (fun i => i = B ∨ g = some i) w w' ∧ (g' = g ∨ ∃ k, g' = some k ∧ w.heap.size ≤ k)) (fun t _ => n - (intOf t).toNat)
  case atStart => exact ⟨0, cs, g, os, Nat.zero_le _, rfl, H.out, Cs2.refl _ _, Hs.out, by simp [lowBits_zero], Fr.refl _ _, Or.inl rfl⟩
  case round =>
    obtain ⟨p, cs1, g', os', hp, rfl, hW, hC, hL, hN, hF, hG⟩ := hrel
    by_cases hlt : p < n
    · obtain ⟨s, hsv⟩ : ∃ s : Nat, s = min (n - p) (8 - (wn + p) % 8) := ⟨_, rfl⟩
      have hs1 : s ≤ n - p := by omega
      have hs2 : (wn + p) % 8 + s ≤ 8 := by omega
      have hs3 : s = n - p ∨ (wn + p) % 8 + s = 8 := by omega
      have hs4 : 0 < s := by omega
      have HW := hide hW
      have HC := hide hC
      have HL := hide hL
      have HN := hide hN
      have HF := hide hF
      have HG := hide hG
      obtain ⟨P, hP⟩ : ∃ P, P = wn + p := ⟨_, rfl⟩
      rw [← hP] at HW HL hs2 hs3
      have HP := hide hP
      have hP1 : P ≤ 2147483000 := by omega
      clear hsv hW hC hL hN hF hG hP
      go_wp2_with (go_at_call 62; refine (room_wO T B o cs1 g' os' P s _ _ HW.out HL.out.len hP1 (by omega) (by omega) (by omega) hs2 (by omega)).mono ?_; rintro e w1 ⟨rfl, k, init, last, cs2, hcase, hmid, hc2, hf1, hk1⟩)
      obtain ⟨q, hq⟩ : ∃ q, q = lowBits (numOf x) p s := ⟨_, rfl⟩
      have hqlt : q < 2 ^ s := by rw [hq]; exact lowBits_lt _ _ _
      obtain ⟨r1, r2, r3, r4⟩ := low_room HL.out hcase hs2 hs4 hqlt
      obtain ⟨V, hV⟩ : ∃ V, V = q * 2 ^ (P % 8) := ⟨_, rfl⟩
      rw [← hV] at r1 r2 r3 r4
      have hwq : IntKind.i64.wrap ((q : Int) * 2 ^ ((P : Int) % 8).toNat) = (V : Int) := by
        have e : (q : Int) * 2 ^ ((P : Int) % 8).toNat = (V : Int) := by
          rw [hV, show ((P : Int) % 8).toNat = P % 8 by omega]; simp
        rw [e, wrap_i64_id _ (by omega) (by omega)]
      have hil : init.length ≤ 2147483000 := by
        have := r3.len
        simp at this
        omega
      have R1 := hide r1
      have R3 := hide r3
      have R4 := hide r4
      have HM := hide hmid.drew
      have HC2 := hide hc2
      have Hf1 := hide hf1
      have Hk1 := hide hk1
      have Hq := hide hq
      have hlow := lowest_b x p s (by omega)
      rw [← hq] at hlow
      have Hlow := hide hlow
      clear hlow hq hV r1 r3 r4 hmid hc2 hf1 hk1 hcase hqlt
      go_region_with (first
        | (go_at_call 60; refine (Hlow.out _).mono ?_; rintro e w' ⟨rfl, rfl⟩)
        | (go_at_call 63; refine (fill_wO T B o cs2 k init last (last + V) (P + s) (V : Int) _ HM.out (by omega) (by omega) hil R1.out).mono ?_; rintro e w2 ⟨rfl, hw2, hf2⟩))
      all_goals
        go_wp2
        obtain ⟨hF2, hG2⟩ := put_frame HF.out HG.out Hf1.out Hk1.out hf2
        have hP := HP.out
        have hPs : P + s = wn + (p + s) := by omega
        rw [hPs] at hw2
        have R3' := R3.out
        rw [hPs] at R3'
        refine ⟨⟨p + s, cs2, some k, init ++ [last + V], by omega, by simp, hw2, HC.out.trans HC2.out, R3', ?_, hF2, hG2⟩, by simp [intOf]; omega⟩
        rw [R4.out, HN.out, Hq.out, lowBits_add, Nat.zero_add, hP, Nat.pow_add, Nat.add_mul]
        generalize lowBits (numOf x) p s = a
        rw [Nat.add_assoc, Nat.mul_comm (2 ^ wn), ← Nat.mul_assoc, Nat.mul_comm a]
    · go_wp2
      go_end0
      have e : p = n := by omega
      subst e
      exact ⟨rfl, cs1, g', os', hW, hC, hL, hN, hF, hG⟩

end Go.Proofs.Ytdbgolklgiadeaa
