/-
  The document's own reader of bits.
-/
import Derived.Test.YtdbgolklgiadeaaBe
namespace Go.Proofs.Ytdbgolklgiadeaa
open Go.RowKit

theorem bit_low (l : List Nat) (h : ∀ b ∈ l, b < 256) (p b : Nat) (hb : b = l.getD (p / 8) 0) : b / 2 ^ (p % 8) % 2 = lowBits (leNum l) p 1 := by
  have := piece_low l h p 1 (by omega)
  rw [← hb] at this
  simpa using this

theorem and_one (b k : Nat) (hb : b < 256) : bits .and .i64 (wrap64 ((b : Int) / 2 ^ k)) 1 = ((b / 2 ^ k % 2 : Nat) : Int) := by
  have e : ((b : Int) / 2 ^ k) = ((b / 2 ^ k : Nat) : Int) := by simp
  have h1 : b / 2 ^ k ≤ b := Nat.div_le_self _ _
  rw [e]
  generalize b / 2 ^ k = q at *
  rw [wrap64_id _ (by omega) (by omega)]
  have := mask_i64 (q : Int) 1 (by decide)
  simpa using this

set_option maxHeartbeats 400000 in
set_option maxRecDepth 100000 in
theorem one_low (R D o n c p b : Nat) (w : World) (h0 : w.cell? ⟨R, 0, none⟩ = some (.slice (some ⟨D, o, none⟩) n c)) (h1 : w.cell? ⟨R, 1, none⟩ = some (.int .i64 p))
    (h2 : w.cell? ⟨R, 2, none⟩ = some (.bool false)) (hf : w.frozen? ⟨R, 1, none⟩ = false) (hb : w.cell? ⟨D, o + p / 8, none⟩ = some (.int .u8 b)) (hn : (n : Int) ≤ 2147483648) (hp : (p : Int) < 8 * n) (hb8 : (b : Int) < 256) :
    Calls Try.prog 39 #[.pointer (some ⟨R, 0, none⟩)] w fun e w' => e = .returned (.int .i64 (b / 2 ^ (p % 8) % 2 : Nat)) ∧ Moved R (p + 1) w w' := by
  have hi0 : (0 : Int) ≤ (p : Int) / 8 := by omega
  have hi1 : (p : Int) / 8 < n := by omega
  go_enter Try.func39, Try.ntmps39
  go_wp2
  go_quiet (fail)
  go_wp2
  go_ret
  exact ⟨ret_int (and_one _ _ (by omega)), ⟨nq, setCell_drewN_eq (by omega)⟩⟩

/-- The document's own reader of bits, at block R. -/
structure Rf (w : World) (R : Nat) (sv : Value) (bs : List Nat) (p : Nat) (hg : Bool) : Prop where
  eobj : ∃ sh, w.heap[R]? = some (.cells #[sv, .int .i64 p, .bool hg, .bool sh] 61 (0, 0))
  elies : Lies w sv bs
  eapart : bs ≠ [] → ∀ ad n c, sv = .slice (some ad) n c → ad.block ≠ R
  epos : p ≤ 8 * bs.length
  ebytes : ∀ b ∈ bs, b < 256
  elen : bs.length ≤ 2147483648

set_option maxHeartbeats 400000 in
set_option maxRecDepth 100000 in
theorem rleft_c (R n c : Nat) (a : Option Addr) (p : Nat) (w : World) (h0 : w.cell? ⟨R, 0, none⟩ = some (.slice a n c)) (h1 : w.cell? ⟨R, 1, none⟩ = some (.int .i64 p))
    (hn : (n : Int) ≤ 2147483648) (hp : (p : Int) ≤ 17179869184) :
    Calls Try.prog 38 #[.pointer (some ⟨R, 0, none⟩)] w fun e w' => e = .returned (.int .i64 (8 * n - p)) ∧ ∃ k, w' = w.drewN k := by
  go_enter Try.func38, Try.ntmps38
  go_wp2
  go_quiet (fail)
  go_wp2
  go_ret
  exact ⟨rfl, _, rfl⟩

theorem Rf.facts {w : World} {R : Nat} {sv : Value} {bs : List Nat} {p : Nat} {hg : Bool} (h : Rf w R sv bs p hg) :
    ∃ a c, w.cell? ⟨R, 0, none⟩ = some (.slice a bs.length c) ∧ w.cell? ⟨R, 1, none⟩ = some (.int .i64 p) ∧ w.cell? ⟨R, 2, none⟩ = some (.bool hg) ∧ (∃ sh, w.cell? ⟨R, 3, none⟩ = some (.bool sh)) ∧ w.frozen? ⟨R, 1, none⟩ = false ∧ w.frozen? ⟨R, 3, none⟩ = false ∧ Bytes w R a bs := by
  obtain ⟨sh, ho⟩ := h.eobj
  have c0 := cell_of (o := 0) ho rfl
  have c1 := cell_of (o := 1) ho rfl
  have c2 := cell_of (o := 2) ho rfl
  have c3 := cell_of (o := 3) ho rfl
  rcases h.elies with ⟨rfl, rfl⟩ | ⟨ad, c, rfl, hc⟩
  · exact ⟨none, 0, c0, c1, c2, ⟨sh, c3⟩, frozen_of ho, frozen_of ho, Or.inl rfl⟩
  · refine ⟨some ad, c, c0, c1, c2, ⟨sh, c3⟩, frozen_of ho, frozen_of ho, ?_⟩
    by_cases hl : bs = []
    · exact Or.inl hl
    · obtain ⟨b, o, sp⟩ := ad
      have hap := h.eapart hl _ _ _ rfl
      have hlen : 0 < bs.length := List.length_pos_iff.2 hl
      have hspot : sp = none := by
        have := hc 0 (.int .u8 ((bs[0] : Nat) : Int)) (by simp [cellsOf, List.getElem?_eq_getElem hlen])
        simpa [Addr.add] using World.cell?_spot this
      subst hspot
      refine Or.inr ⟨b, o, rfl, hap, fun i hi => ?_⟩
      have := hc i (.int .u8 ((bs.getD i 0 : Nat) : Int)) (by simp [cellsOf, List.getElem?_map, List.getElem?_eq_getElem hi])
      rw [add_none] at this
      exact this

theorem Lies.keep {w w' : World} {sv : Value} {bs : List Nat} (h : Lies w sv bs) (hs : bs ≠ [] → ∀ ad n c, sv = .slice (some ad) n c → w'.heap[ad.block]? = w.heap[ad.block]?) : Lies w' sv bs := by
  rcases h with h | ⟨ad, c, rfl, hc⟩
  · exact Or.inl h
  · refine Or.inr ⟨ad, c, rfl, fun j u hu => ?_⟩
    have hne : bs ≠ [] := by
      rintro rfl
      simp [cellsOf] at hu
    have e : (ad.add j).block = ad.block := by unfold Addr.add; split <;> rfl
    rw [World.cell?_of_block (w := w) (by rw [e]; exact hs hne ad _ _ rfl)]
    exact hc j u hu

theorem Rf.moved {w w' : World} {R : Nat} {sv : Value} {bs : List Nat} {p q : Nat} {hg : Bool} (h : Rf w R sv bs p hg) (hm : Moved R q w w') (hq : q ≤ 8 * bs.length) : Rf w' R sv bs q hg := by
  obtain ⟨sh, ho⟩ := h.eobj
  have f := Fr.of_moved hm
  refine ⟨⟨sh, ?_⟩, h.elies.keep (fun hne ad n c e => ?_), h.eapart, hq, h.ebytes, h.elen⟩
  · obtain ⟨k, rfl⟩ := hm.eq
    exact heap_setCell_own _ ho
  · obtain ⟨k, rfl⟩ := hm.eq
    exact Below.heap_setCell _ _ _ _ (h.eapart hne _ _ _ e)

theorem Rf.drewN {w : World} {R : Nat} {sv : Value} {bs : List Nat} {p : Nat} {hg : Bool} (h : Rf w R sv bs p hg) (k : Nat) : Rf (w.drewN k) R sv bs p hg :=
  ⟨h.eobj, h.elies, h.eapart, h.epos, h.ebytes, h.elen⟩

theorem Rf.keep {w w' : World} {R : Nat} {sv : Value} {bs : List Nat} {p : Nat} {hg : Bool} (h : Rf w R sv bs p hg) {S : Nat → Prop} (f : Fr S w w') (hR : ¬ S R) (hS : bs ≠ [] → ∀ ad n c, sv = .slice (some ad) n c → ad.block < w.heap.size ∧ ¬ S ad.block) : Rf w' R sv bs p hg := by
  obtain ⟨sh, ho⟩ := h.eobj
  exact ⟨⟨sh, by rw [f.block R (lt_of ho) hR]; exact ho⟩, h.elies.keep (fun hne ad n c e => f.block _ (hS hne ad n c e).1 (hS hne ad n c e).2), h.eapart, h.epos, h.ebytes, h.elen⟩

theorem ref_left (w : World) (R : Nat) (sv : Value) (bs : List Nat) (p : Nat) (hg : Bool) (h : Rf w R sv bs p hg) :
    Calls Try.prog 38 #[.pointer (some ⟨R, 0, none⟩)] w fun e w' => e = .returned (.int .i64 (8 * bs.length - p)) ∧ ∃ k, w' = w.drewN k := by
  obtain ⟨a, c, f0, f1, f2, _, f3, _, f4⟩ := h.facts
  have h1 := h.elen
  have h2 := h.epos
  exact rleft_c R bs.length c a p w f0 f1 (by omega) (by omega)

theorem ref_one_low (w : World) (R : Nat) (sv : Value) (bs : List Nat) (p : Nat) (h : Rf w R sv bs p false) (hp : p < 8 * bs.length) :
    Calls Try.prog 39 #[.pointer (some ⟨R, 0, none⟩)] w fun e w' => e = .returned (.int .i64 (lowBits (leNum bs) p 1 : Nat)) ∧ Rf w' R sv bs (p + 1) false ∧ Moved R (p + 1) w w' := by
  obtain ⟨a, c, f0, f1, f2, _, f3, _, f4⟩ := h.facts
  have h1 := h.elen
  rcases f4 with rfl | ⟨D, o, rfl, hD, hc⟩
  · simp at hp
  · refine (one_low R D o bs.length c p _ w f0 f1 f2 f3 (hc (p / 8) (by omega)) (by omega) (by omega) (by have := byte_lt h.ebytes (p / 8); omega)).mono ?_
    rintro e w' ⟨rfl, hm⟩
    exact ⟨by rw [bit_low bs h.ebytes p _ rfl], h.moved hm (by omega), hm⟩

theorem ref_low_step (V p i : Nat) (hi : i < 24) : bits .or .i64 ((lowBits V p i : Nat) : Int) (wrap64 (((lowBits V (p + i) 1 : Nat) : Int) * 2 ^ i)) = ((lowBits V p (i + 1) : Nat) : Int) := by
  have e : ((lowBits V (p + i) 1 : Nat) : Int) * 2 ^ i = ((lowBits V (p + i) 1 * 2 ^ i : Nat) : Int) := by simp
  have h1 := lowBits_lt V p i
  have h2 := lowBits_lt V p (i + 1)
  have h3 := lowBits_add V p i 1
  have h4 : (2:Nat) ^ (i + 1) ≤ 2 ^ 24 := Nat.pow_le_pow_right (by decide) (by omega)
  have h5 : (2:Nat) ^ 24 = 16777216 := by decide
  have h6 : lowBits V (p + i) 1 * 2 ^ i = 2 ^ i * lowBits V (p + i) 1 := Nat.mul_comm _ _
  rw [e, wrap64_id _ (by omega) (by omega), or_i64 i _ _ h1 (by simp) (by omega)]
  omega

set_option maxHeartbeats 800000 in
set_option maxRecDepth 100000 in
theorem ref_take_low (w : World) (R : Nat) (sv : Value) (bs : List Nat) (p n : Nat) (h : Rf w R sv bs p false) (hn : n ≤ 24) (hle : p + n ≤ 8 * bs.length) :
    Calls Try.prog 28 #[.pointer (some ⟨R, 0, none⟩), .int .i64 n] w fun e w' => e = .returned (.tuple #[.int .i64 (lowBits (leNum bs) p n : Nat), .bool true]) ∧ Rf w' R sv bs (p + n) false ∧ Fr (fun k => k = R) w w' := by
  have hlen := h.elen
  have H := hide h
  clear h
  go_enter Try.func28, Try.ntmps28
  go_wp2_with (go_at_call 38; refine (ref_left _ R sv bs p false H.out).mono ?_; rintro e w' ⟨rfl, k, rfl⟩)
  go_loopw [6, 7] (fun x i wr => ∃ j P : Nat, j ≤ n ∧ P = p + j ∧ i = .int .i64 j ∧ x = .int .i64 (lowBits (leNum bs) p j : Nat) ∧ Rf wr R sv bs P false ∧ Fr (fun k => k = R) w wr) (fun _ i _ => n - (intOf i).toNat)
  case atStart => exact ⟨0, p, Nat.zero_le _, rfl, rfl, by simp [lowBits_zero], H.out.drewN k, (Fr.of_drewN w k).mono (fun _ _ h => h.elim)⟩
  case round =>
    obtain ⟨j, P, hj, hP, rfl, rfl, hR, hF⟩ := hrel
    by_cases hlt : j < n
    · obtain ⟨a, c, f0, f1, f2, _, _, _, _⟩ := hR.facts
      have HS := hide (ref_low_step (leNum bs) p j (by omega))
      rw [← hP] at HS
      have HR := hide hR
      have HP := hide hP
      have hP8 : P < 8 * bs.length := by omega
      clear hR hP
      go_wp2_with (go_at_call 39; refine (ref_one_low _ R sv bs P HR.out hP8).mono ?_; rintro e w1 ⟨rfl, hR1, hm⟩)
      exact ⟨⟨j + 1, P + 1, by omega, by rw [HP.out]; omega, by simp, by rw [HS.out], hR1, hF.join (Fr.of_moved hm)⟩, by simp [intOf]; omega⟩
    · go_wp2
      go_ret2
      have e : j = n := by omega
      subst e
      exact ⟨rfl, hP ▸ hR, hF⟩

set_option maxHeartbeats 800000 in
set_option maxRecDepth 100000 in
theorem ref_take_no (w : World) (R : Nat) (sv : Value) (bs : List Nat) (p : Nat) (n : Int) (hg : Bool) (h : Rf w R sv bs p hg) (hbad : (n < 0 ∨ 24 < n) ∨ (8 * bs.length : Nat) < p + n) :
    Calls Try.prog 28 #[.pointer (some ⟨R, 0, none⟩), .int .i64 n] w fun e w' => e = .returned (.tuple #[.int .i64 0, .bool false]) ∧ Rf w' R sv bs p hg ∧ Fr (fun k => k = R) w w' := by
  obtain ⟨a, c, f0, f1, f2, ⟨sh, f3⟩, _, f5, _⟩ := h.facts
  have hlen := h.elen
  have fin : ∀ k, Rf ((w.setCell ⟨R, 3, none⟩ (.bool true)).drewN k) R sv bs p hg ∧ Fr (fun k => k = R) w ((w.setCell ⟨R, 3, none⟩ (.bool true)).drewN k) := by
    intro k
    obtain ⟨sh, ho⟩ := h.eobj
    refine ⟨⟨⟨true, heap_setCell_own _ ho⟩, h.elies.keep (fun hne ad n c e => Below.heap_setCell _ _ _ _ (h.eapart hne _ _ _ e)), h.eapart, h.epos, h.ebytes, h.elen⟩, ?_⟩
    exact ((Fr.of_setCell w ⟨R, 3, none⟩ (.bool true)).trans (Fr.of_drewN _ k)).mono fun i _ h => by simpa using h
  have Fin := hide fin
  have H := hide h
  clear h fin
  by_cases h1 : n < 0
  · go_enter Try.func28, Try.ntmps28
    go_wp2
    go_ret2
    exact ⟨rfl, Fin.out 0⟩
  · by_cases h2 : 24 < n
    · go_enter Try.func28, Try.ntmps28
      go_wp2
      go_ret2
      exact ⟨rfl, Fin.out 0⟩
    · have h3 : 8 * (bs.length : Int) - p < n := by omega
      clear hbad
      go_enter Try.func28, Try.ntmps28
      go_wp2_with (go_at_call 38; refine (ref_left _ R sv bs p hg H.out).mono ?_; rintro e w' ⟨rfl, k, rfl⟩)
      go_ret2
      exact ⟨rfl, Fin.out k⟩
end Go.Proofs.Ytdbgolklgiadeaa
