/-
  The document's own writer of bits: Put.
-/
import Derived.Test.YtleeaofofofgmaaDoorUa
import Derived.Test.YtleeaofofofgmaaDoorNf
namespace Go.Proofs.YtleeaofofofgmaaDoor
open Go.RowKit

/-- Bits as they lie in memory. -/
def intsOf (bl : List Nat) : List Value := bl.map fun b => .int .i64 ((b : Nat) : Int)

theorem intsOf_length (bl : List Nat) : (intsOf bl).length = bl.length := by simp [intsOf]

theorem intsOf_append (bl : List Nat) (b : Nat) : intsOf (bl ++ [b]) = intsOf bl ++ [.int .i64 (b : Int)] := by simp [intsOf]

/-- The document's own writer of bits, at block K. -/
structure Pk (w : World) (K : Nat) (g : Option Nat) (bl : List Nat) (hb : Bool) : Prop where
  eobj : ∃ ov, w.heap[K]? = some (.cells #[ov, .bool hb] 43 (0, 0)) ∧ w.ownsRow 0 3 1 ov bl.length (intsOf bl) ∧ ov.ownBlock = g
  eap : ∀ k, g = some k → k ≠ K

theorem Pk.keep {w w' : World} {K : Nat} {g : Option Nat} {bl : List Nat} {hb : Bool} (h : Pk w K g bl hb) {S : Nat → Prop} (f : Fr S w w') (hK : ¬ S K) (hg : ∀ k, g = some k → ¬ S k) : Pk w' K g bl hb := by
  obtain ⟨ov, h1, h2, h3⟩ := h.eobj
  refine ⟨⟨ov, ?_, ?_, h3⟩, h.eap⟩
  · rw [f.block K (lt_of h1) hK]; exact h1
  · exact ownsRow_fr h2 fun k hk => f.block k (h2.lt k hk).2 (hg k (h3 ▸ hk))

theorem Pk.lts {w : World} {K : Nat} {g : Option Nat} {bl : List Nat} {hb : Bool} (h : Pk w K g bl hb) : ∀ k, g = some k → k < w.heap.size := by
  obtain ⟨ov, h1, h2, h3⟩ := h.eobj
  intro k hk
  exact (h2.lt k (h3.trans hk)).2

theorem Pk.blt {w : World} {K : Nat} {g : Option Nat} {bl : List Nat} {hb : Bool} (h : Pk w K g bl hb) : K < w.heap.size := by
  obtain ⟨ov, h1, h2, h3⟩ := h.eobj
  exact lt_of h1

theorem step_frame {K : Nat} {g g1 : Option Nat} {w wr w1 : World} (hF : Fr (fun i => i = K ∨ g = some i) w wr) (hG : g1 = g ∨ ∃ k, g1 = some k ∧ w.heap.size ≤ k) (h1 : Fr (fun i => i = K ∨ g1 = some i) wr w1) : Fr (fun i => i = K ∨ g = some i) w w1 :=
  (hF.trans h1).mono (fun i hi h => by
    rcases h with h | h | h
    · exact h
    · exact Or.inl h
    · rcases hG with rfl | ⟨k, rfl, hk⟩
      · exact Or.inr h
      · cases h; omega)

theorem put_bit_w (x : Int) (i : Nat) (h : i ≤ 60) : bits .and .i64 (wrap64 (x / 2 ^ i)) 1 = ((lowBits (bitsOf x) i 1 : Nat) : Int) := by
  rw [← put_bit x i h]
  have h1 := mask_i64 (wrap64 (x / 2 ^ i)) 1 (by decide)
  have h2 := mask_i64 (x / 2 ^ i) 1 (by decide)
  simp only [Int.pow_one, show (2:Int) - 1 = 1 by decide] at h1 h2
  rw [h1, h2]
  generalize x / 2 ^ i = y
  unfold wrap64
  omega

/-- One bit has been packed: the world behind the append, and behind the store. -/
theorem pk_step {w w1 : World} {K : Nat} {ov : Value} {bl : List Nat} {hb : Bool} {b k cap H : Nat} (h : w.heap[K]? = some (.cells #[ov, .bool hb] 43 (0, 0))) (hap : ∀ k, ov.ownBlock = some k → k ≠ K)
    (hf : Fr (fun i => ov.ownBlock = some i) w w1) (hown : w1.ownsRow 0 3 1 (.slice (some ⟨k, 0, none⟩) (bl.length + 1) cap) (bl.length + 1) (intsOf bl ++ [.int .i64 (b : Int)])) (hat : ov.ownBlock = some k ∨ k = H) (hH : w.heap.size ≤ H) :
    Pk (w1.setCell ⟨K, 0, none⟩ (.slice (some ⟨k, 0, none⟩) (bl.length + 1) cap)) K (some k) (bl ++ [b]) hb ∧ Fr (fun i => i = K ∨ ov.ownBlock = some i) w (w1.setCell ⟨K, 0, none⟩ (.slice (some ⟨k, 0, none⟩) (bl.length + 1) cap)) := by
  have hK := lt_of h
  have hkK : k ≠ K := by
    rcases hat with h1 | h1
    · exact hap k h1
    · omega
  have h1 : w1.heap[K]? = some (.cells #[ov, .bool hb] 43 (0, 0)) := by rw [hf.block K hK (fun e => hap K e rfl)]; exact h
  refine ⟨⟨⟨.slice (some ⟨k, 0, none⟩) (bl.length + 1) cap, ?_, ?_, rfl⟩, fun j e => by cases e; exact hkK⟩, ?_⟩
  · show (w1.heap.modify K _)[K]? = _
    simp [Array.getElem?_modify, h1]
  · rw [List.length_append, intsOf_append]
    exact ownsRow_fr hown fun j hj => Below.heap_setCell _ _ _ _ (by cases hj; exact hkK)
  · exact (hf.trans (Fr.of_setCell w1 ⟨K, 0, none⟩ _)).mono fun i _ h => by
      rcases h with h | h
      · exact Or.inr h
      · exact Or.inl h

set_option maxHeartbeats 800000 in
set_option maxRecDepth 100000 in
theorem pk_put_low (K : Nat) (g : Option Nat) (bl : List Nat) (n : Nat) (x : Int) (w : World) (h : Pk w K g bl false) (hbl : ∀ b ∈ bl, b < 2) (hn : n ≤ 24) (hlen : bl.length ≤ 100000) :
    Calls Tryd.prog 19 #[.pointer (some ⟨K, 0, none⟩), .int .i64 x, .int .i64 n] w fun e w' => e = .returned (.tuple #[]) ∧ ∃ g' bl', Pk w' K g' bl' false ∧ PutSt false bl bl' x n n ∧ Fr (fun i => i = K ∨ g = some i) w w' ∧ (g' = g ∨ ∃ k, g' = some k ∧ w.heap.size ≤ k) := by
  obtain ⟨i0, hi0, hz0, hz1, hz2⟩ := info_parts Tryd.info3
  have H := hide h
  have Hbl := hide hbl
  clear h hbl
  go_enter Tryd.func19, Tryd.ntmps19
  go_wp2_with fail
  go_loopw [6] (fun t wr => ∃ (i : Nat) (g' : Option Nat) (bl' : List Nat), t = .int .i64 i ∧ i ≤ n ∧ Pk wr K g' bl' false ∧ PutSt false bl bl' x n i ∧ Fr (fun i => i = K ∨ g = some i) w wr ∧ (g' = g ∨ ∃ k, g' = some k ∧ w.heap.size ≤ k)) (fun t _ => n - (intOf t).toNat)
  case atStart => exact ⟨0, g, bl, rfl, by omega, H.out, ⟨rfl, Hbl.out, by simp [lowBits_zero]⟩, Fr.refl _ _, Or.inl rfl⟩
  case round =>
    obtain ⟨i, g1, bl1, rfl, hi, hP, hS, hF, hG⟩ := hrel
    by_cases hlt : i < n
    · obtain ⟨ov, ho, hown, hob⟩ := hP.eobj
      have hap : ∀ k, ov.ownBlock = some k → k ≠ K := fun k hk => hP.eap k (hob.symm.trans hk)
      obtain ⟨a0, c0, rfl⟩ := ownsRow_shape hown
      have c00 := cell_of (o := 0) ho rfl
      have c01 := cell_of (o := 1) ho rfl
      obtain ⟨b, hb⟩ : ∃ b, b = lowBits (bitsOf x) i 1 := ⟨_, rfl⟩
      have hb1 := put_bit x i (by omega)
      have hb2 := put_bit_w x i (by omega)
      rw [← hb] at hb1 hb2
      have hl1 : bl1.length ≤ 100024 := by have := hS.1; omega
      have hnext := put_low bl bl1 x n i hS
      rw [← hb] at hnext
      have Hnext := hide hnext
      have Ho := hide ho
      have Hap := hide hap
      have Hob := hide hob
      have HF := hide hF
      have HG := hide hG
      have hKl := lt_of ho
      have hil : (i : Int) ≤ 24 := by omega
      clear hb hnext ho hap hob hF hG hS hP
      go_wp2_with (at_builtin; go_must (refine wpList_append_lies _ rfl _ _ 30 rfl 0 3 i0 (.int .i64 0) 1 8 Tryd.underlying30 hi0 hz0 hz1 hz2 rfl (by decide) (.slice a0 bl1.length c0) bl1.length (intsOf bl1) rfl (hown.alloc _) ⟨wr.heap.size, 0, none⟩ 1 1 [.int .i64 (b : Int)] rfl rfl (cell_one_new _ _ _) (fun x hx => by simp at hx; subst hx; rfl) (by decide) (by unfold maxLen; omega) (by omega) (by simp) (wr.heap.size + 1) (by simp) ?_); intro k cap w1 hown1 hgrow hat hlt1
                   have hbK := (hgrow.block K (by simp; omega) (fun e => Hap.out K e.symm rfl)).trans ((Below.heap_alloc _ _ _ hKl).trans Ho.out)
                   have q2 := cell_of (o := 0) hbK rfl
                   have q3 := frozen_of (o := 0) hbK
                   have Hown1 := hide hown1
                   have Hgrow := hide hgrow
                   have Hat := hide hat
                   clear hown1 hgrow hat hlt1 hbK)
      have f : Fr (fun k => (Value.slice a0 bl1.length c0).ownBlock = some k) wr w1 := by
        have f1 : Fr (fun k => (Value.slice a0 bl1.length c0).ownBlock = some k) (wr.alloc (.cells #[.int .i64 (b : Int)] 3)) w1 := ⟨Hgrow.out.os, Hgrow.out.tape, Hgrow.out.output, Hgrow.out.size, fun k hk hn => Hgrow.out.block k hk (fun e => hn e.symm)⟩
        exact ((Fr.of_alloc wr _).trans f1).mono fun k _ h => by
          rcases h with h | h
          · exact h.elim
          · exact h
      obtain ⟨r1, r2⟩ := pk_step Ho.out Hap.out f Hown1.out Hat.out (by omega)
      rw [Hob.out] at r2
      refine ⟨⟨i + 1, some k, _, by simp, by omega, r1, Hnext.out, step_frame HF.out HG.out r2, ?_⟩, by simp [intOf]; omega⟩
      have hs := HF.out.size
      rcases Hat.out with h1 | h1
      · rw [← h1, Hob.out]; exact HG.out
      · exact Or.inr ⟨k, rfl, by omega⟩
    · have : i = n := by omega
      subst this
      go_wp2
      go_end0
      exact ⟨rfl, g1, bl1, hP, hS, hF, hG⟩
end Go.Proofs.YtleeaofofofgmaaDoor
