/-
  lzw: LzwClears' state.
-/
import Derived.Test.YtdbgolklgiadeaaYo
import Derived.Deep.Matrix
import Derived.Test.YtdbgolklgiadeaaYu
namespace Go.Proofs.Ytdbgolklgiadeaa
open Go.RowKit

/-- A slice of slices of bytes that came in. -/
structure IsRows (w : World) (a : Option Addr) (len : Nat) (ls : List (List Nat)) : Prop where
  n : ls.length = len
  bytes : ∀ x ∈ ls, ∀ b ∈ x, b < 256
  lies : ∀ i, i < len → ∃ ad a' c', a = some ad ∧ w.cell? (ad.add i) = some (.slice a' (ls.getD i []).length c') ∧ Lies w (.slice a' (ls.getD i []).length c') (ls.getD i [])

theorem IsRows.fr {w w' : World} {a : Option Addr} {len : Nat} {ls : List (List Nat)} (h : IsRows w a len ls) (f : Fr (fun _ => False) w w') : IsRows w' a len ls := ⟨h.n, h.bytes, fun i hi => by
  obtain ⟨ad, a', c', e, hc, hl⟩ := h.lies i hi
  exact ⟨ad, a', c', e, (cell_blk (f.block _ (cell_lt hc) (fun e => e))).trans hc, lies_frS hl f fun _ _ _ _ _ hS => hS⟩⟩

theorem open_rows {H : Type} {enc : TypeId × Value → H} {W : World} {base : Nat} {held : Bool} {a : Option Addr} {len cap : Nat} {d : DataW H} {ps : List MemPlace}
    (h : DataW.Trod enc Try.prog W base (fun _ => true) held 57 (.slice a len cap) d ps) : ∃ ls, IsRows W a len ls := by
  obtain ⟨fuel, hf⟩ := h
  rcases Go.Deep.open_int_rows Try.underlying57 Try.underlying22 Try.underlying5 (by kernel_rfl) (by kernel_rfl) hf with ⟨hcs, _⟩ | ⟨x, l, c, A, L, C, Z, hcs, _, hl, hm, _, hr⟩
  · simp [Value.cells] at hcs
    obtain ⟨rfl, rfl, rfl⟩ := hcs
    exact ⟨[], rfl, by simp, fun i hi => absurd hi (Nat.not_lt_zero _)⟩
  · simp [Value.cells] at hcs
    obtain ⟨rfl, rfl, rfl⟩ := hcs
    have hrow : ∀ i, i < len → IsRow .u8 W (A i) (L i) (C i) (Z i) := by
      intro i hi
      obtain ⟨h1, h2, h3, h4, h5, h6, h7⟩ := hr i (by omega)
      cases hA : A i with
      | none =>
        have := h6 hA
        refine Or.inl ⟨rfl, by omega, this, List.eq_nil_of_length_eq_zero (by omega)⟩
      | some a' => exact Or.inr ⟨a', rfl, h2, h3, h4, fun j hj => (h7 a' hA).2 j (by omega), h5⟩
    have hget : ∀ i, i < len → ((List.range len).map fun r => bytesOf (L r) (Z r)).getD i [] = bytesOf (L i) (Z i) := by
      intro i hi
      simp [List.getD_eq_getElem?_getD, List.getElem?_map, List.getElem?_range hi]
    refine ⟨(List.range len).map fun r => bytesOf (L r) (Z r), by simp, ?_, ?_⟩
    · intro y hy
      simp only [List.mem_map, List.mem_range] at hy
      obtain ⟨i, hi, rfl⟩ := hy
      exact (hrow i hi).bytes.2.1
    · intro i hi
      obtain ⟨b1, b2, b3, _⟩ := (hrow i hi).bytes
      rw [hget i hi]
      exact ⟨x, A i, C i, rfl, by rw [b1]; exact (hr i (by omega)).1, b3⟩

/-- The document's writer of bits with its row's block. -/
structure Pg (w : World) (K : Nat) (g : Option Nat) (v p : Nat) : Prop where
  it : ∃ bl, Pk w K g bl false ∧ (∀ b ∈ bl, b < 2) ∧ bl.length = p ∧ numL bl = v

theorem Pg.put {w : World} {K v p : Nat} {g : Option Nat} (h : Pg w K g v p) (x n : Nat) (hn : n ≤ 24) (hx : x < 2 ^ n) (hp : p ≤ 1000000) :
    Calls Try.prog 26 #[.pointer (some ⟨K, 0, none⟩), .int .i64 (x : Int), .int .i64 (n : Int)] w fun e w' => e = .returned (.tuple #[]) ∧ ∃ g', Pg w' K g' (v + x * 2 ^ p) (p + n) ∧ Fr (fun j => j = K ∨ g = some j) w w' ∧ (g' = g ∨ ∃ k, g' = some k ∧ w.heap.size ≤ k) := by
  obtain ⟨bl, h1, h2, h3, h4⟩ := h.it
  refine (pk_put_low K g bl n x w h1 h2 hn (by omega)).mono ?_
  rintro e w' ⟨rfl, g', bl', a1, ⟨a2, a3, a4⟩, a5, a6⟩
  have hx2 : lowBits (bitsOf (x : Int)) 0 n = x := by
    have h24 : 2 ^ n ≤ 2 ^ 24 := Nat.pow_le_pow_right (by omega) hn
    have e : bitsOf (x : Int) = x := by unfold bitsOf; omega
    rw [e]
    unfold lowBits
    simp [Nat.mod_eq_of_lt hx]
  rw [if_neg (by simp), hx2, h3, h4] at a4
  exact ⟨rfl, g', ⟨⟨bl', a1, a3, by omega, a4⟩⟩, a5, a6⟩

theorem Pg.out {w : World} {K v p : Nat} {g : Option Nat} (h : Pg w K g v p) (hp : p ≤ 1000000) :
    Calls Try.prog 27 #[.pointer (some ⟨K, 0, none⟩)] w fun e w' => ∃ Z c, e = .returned (.slice (some ⟨w.heap.size, 0, none⟩) Z.length c) ∧ Lies w' (.slice (some ⟨w.heap.size, 0, none⟩) Z.length c) Z ∧ (∀ b ∈ Z, b < 256) ∧ Z.length = (p + 7) / 8 ∧ leNum Z = v ∧ v < 2 ^ p ∧ Fr (fun _ => False) w w' := by
  obtain ⟨bl, h1, h2, h3, h4⟩ := h.it
  exact (Pw.out (lo := 0) ⟨⟨g, bl, h1, h2, h3, h4, fun _ _ => Nat.zero_le _⟩, Nat.zero_le _⟩ hp)

theorem Pg.keep {w w' : World} {K v p : Nat} {g : Option Nat} (h : Pg w K g v p) {S : Nat → Prop} (f : Fr S w w') (hK : ¬ S K) (hg : ∀ k, g = some k → ¬ S k) : Pg w' K g v p := by
  obtain ⟨bl, h1, h2, h3, h4⟩ := h.it
  exact ⟨⟨bl, h1.keep f hK hg, h2, h3, h4⟩⟩

/-- What LzwClears has written: out is what a reader comes to, want what the law keeps. -/
structure Wc (w0 wr : World) (K k : Nat) (oa : Option Addr) (oc : Nat) (out want : List Nat) (many N : Nat) : Prop where
  it : ∃ g v p s, Pg wr K g v p ∧ (∀ most, out.length ≤ most → Led k most v p s) ∧ s.out = out ∧ s.rows.length = many - 1 ∧ (many = 0 ↔ s.last = []) ∧ p ≤ 9 * N ∧ (∀ j, g = some j → w0.heap.size ≤ j ∧ (Value.slice oa want.length oc).ownBlock ≠ some j ∧ j ≠ K)
  mx : many + 2 ≤ 2 ^ k
  own : OwnB wr w0.heap.size (.slice oa want.length oc) want
  apart : (Value.slice oa want.length oc).ownBlock ≠ some K
  k0 : w0.heap.size ≤ K
  kl : K < wr.heap.size
  fr : Fr (fun _ => False) w0 wr
  bytes : ∀ b ∈ want, b < 256

/-- A put keeps what the law keeps. -/
theorem Wc.puts {w0 wr w' : World} {K k : Nat} {oa : Option Addr} {oc : Nat} {out want : List Nat} {many N many' N' : Nat} {out' : List Nat} {g g' : Option Nat} {v p : Nat} {s : Zs}
    (h : Wc w0 wr K k oa oc out want many N) (hg : ∀ j, g = some j → w0.heap.size ≤ j ∧ (Value.slice oa want.length oc).ownBlock ≠ some j ∧ j ≠ K) (a1 : Pg w' K g' v p) (hf : Fr (fun j => j = K ∨ g = some j) wr w') (hgg : g' = g ∨ ∃ k, g' = some k ∧ wr.heap.size ≤ k)
    (hL : ∀ most, out'.length ≤ most → Led k most v p s) (ho : s.out = out') (hr : s.rows.length = many' - 1) (hm : many' = 0 ↔ s.last = []) (hp : p ≤ 9 * N') (hmx : many' + 2 ≤ 2 ^ k) : Wc w0 w' K k oa oc out' want many' N' := by
  have hkl := h.kl
  have hlt := h.own.lt
  refine ⟨⟨g', v, p, s, a1, hL, ho, hr, hm, hp, fun j hj => ?_⟩, hmx, ?_, h.apart, h.k0, Nat.lt_of_lt_of_le hkl hf.size, ?_, h.bytes⟩
  · rcases hgg with e | ⟨j', e, hj'⟩
    · exact hg j (e ▸ hj)
    · rw [e] at hj
      injection hj with hj
      subst hj
      exact ⟨Nat.le_trans h.fr.size hj', fun e2 => by have := (hlt _ e2).2; omega, by omega⟩
  · refine ownsRow_fr h.own fun j hj => hf.block j (hlt j hj).2 ?_
    rintro (e | e)
    · exact h.apart (e ▸ hj)
    · exact (hg j e).2.1 hj
  · exact frJ h.fr hf fun j hj => hj.elim (fun e => by rw [e]; exact h.k0) (fun e => (hg j e).1)

theorem Wc.clear {w0 wr : World} {K k : Nat} {oa : Option Addr} {oc : Nat} {out want : List Nat} {many N : Nat} (hk : 2 ≤ k ∧ k ≤ 8) (h : Wc w0 wr K k oa oc out want many N) (hN : N ≤ 20000) :
    Calls Try.prog 26 #[.pointer (some ⟨K, 0, none⟩), .int .i64 ((2 ^ k : Nat) : Int), .int .i64 ((k + 1 : Nat) : Int)] wr fun e w' => e = .returned (.tuple #[]) ∧ Wc w0 w' K k oa oc out want 0 (N + 1) := by
  obtain ⟨g, v, p, s, h1, h2, h3, h4, h5, h6, h7⟩ := h.it
  have hP : 4 ≤ 2 ^ k := Nat.pow_le_pow_right (n := 2) (by omega) hk.1
  have hmx := h.mx
  have hw : wid k s.rows.length = k + 1 := by rw [h4]; exact wid_few k _ (by omega)
  refine (h1.put (2 ^ k) (k + 1) (by omega) (Nat.pow_lt_pow_right (by omega) (by omega)) (by omega)).mono ?_
  rintro e w' ⟨rfl, g', a1, a2, a3⟩
  refine ⟨rfl, h.puts (s := ⟨p + (k + 1), [], [], s.out⟩) h7 a1 a2 a3 (fun most hm => ?_) h3 rfl ⟨fun _ => rfl, fun _ => rfl⟩ (by omega) (by omega)⟩
  have := (h2 most hm).clear (by rw [hw]; exact Nat.pow_lt_pow_right (by omega) (by omega))
  rw [hw] at this
  exact this

theorem Wc.put {w0 wr : World} {K k : Nat} {oa : Option Addr} {oc : Nat} {out want : List Nat} {many N x : Nat} (hk : 2 ≤ k ∧ k ≤ 8) (h : Wc w0 wr K k oa oc out want many N) (hN : N ≤ 20000) (hm : many + 2 < 2 ^ k) (hx : x < 2 ^ k) :
    Calls Try.prog 26 #[.pointer (some ⟨K, 0, none⟩), .int .i64 (x : Int), .int .i64 ((k + 1 : Nat) : Int)] wr fun e w' => e = .returned (.tuple #[]) ∧ Wc w0 w' K k oa oc (out ++ [x]) want (many + 1) (N + 1) := by
  obtain ⟨g, v, p, s, h1, h2, h3, h4, h5, h6, h7⟩ := h.it
  have hP := pow_le k hk.2
  have hw : wid k s.rows.length = k + 1 := by rw [h4]; exact wid_few k _ (by omega)
  have hxk : x < 2 ^ (k + 1) := by rw [Nat.pow_succ]; omega
  refine (h1.put x (k + 1) (by omega) hxk (by omega)).mono ?_
  rintro e w' ⟨rfl, g', a1, a2, a3⟩
  have hrow : rowOf k x s = some [x] := by unfold rowOf; rw [if_pos hx]
  refine ⟨rfl, h.puts (s := onward k s [x]) h7 a1 a2 a3 (fun most hmo => ?_) ?_ ?_ ⟨fun e => by omega, fun e => by cases e⟩ (by omega) (by omega)⟩
  · rw [List.length_append, List.length_singleton] at hmo
    have := (h2 most (by omega)).row (c := x) (x := [x]) (by rw [hw]; exact hxk) (by omega) (by omega) hrow (by rw [h3]; simp; omega)
    rw [hw] at this
    exact this
  · show s.out ++ [x] = _
    rw [h3]
  · show (made k s [x]).length = _
    unfold made
    by_cases hl : s.last = []
    · rw [if_neg (fun e => e.1 hl), h4]
      have := h5.2 hl
      omega
    · have hm0 : many ≠ 0 := fun e => hl (h5.1 e)
      rw [if_pos ⟨hl, by unfold nextN; omega⟩, List.length_append, h4]
      simp
      omega

/-- What the law keeps grows. -/
theorem Wc.app {w0 wr w' : World} {K k : Nat} {oa oa' : Option Addr} {oc oc' : Nat} {out want : List Nat} {many N x : Nat} (h : Wc w0 wr K k oa oc out want many N) (hx : x < 256)
    (hO : OwnB w' w0.heap.size (.slice oa' (want ++ [x]).length oc') (want ++ [x])) {H : Nat} (hH : wr.heap.size ≤ H) (hf : Fr (fun j => (Value.slice oa want.length oc).ownBlock = some j) wr w') (hb : (Value.slice oa' (want ++ [x]).length oc').ownBlock = (Value.slice oa want.length oc).ownBlock ∨ (Value.slice oa' (want ++ [x]).length oc').ownBlock = some H) :
    Wc w0 w' K k oa' oc' out (want ++ [x]) many N := by
  obtain ⟨g, v, p, s, h1, h2, h3, h4, h5, h6, h7⟩ := h.it
  have hkl := h.kl
  have hgl : ∀ j, g = some j → j < wr.heap.size := by
    obtain ⟨bl, q1, _⟩ := h1.it
    exact q1.lts
  refine ⟨⟨g, v, p, s, h1.keep hf (fun e => h.apart e) (fun j hj e => (h7 j hj).2.1 e), h2, h3, h4, h5, h6, fun j hj => ⟨(h7 j hj).1, ?_, (h7 j hj).2.2⟩⟩, h.mx, hO, ?_, h.k0, Nat.lt_of_lt_of_le hkl hf.size, ?_, ?_⟩
  · rcases hb with e | e
    · rw [e]; exact (h7 j hj).2.1
    · rw [e]
      have := hgl j hj
      intro e2
      injection e2 with e2
      omega
  · rcases hb with e | e
    · rw [e]; exact h.apart
    · rw [e]
      intro e2
      injection e2 with e2
      omega
  · exact frJ h.fr hf fun j hj => (World.ownsRow.lt h.own j hj).1
  · intro b hb
    rcases List.mem_append.1 hb with hb | hb
    · exact h.bytes b hb
    · simp only [List.mem_singleton] at hb
      omega

/-- A stream of a number that means nothing. -/
theorem Led.bad {k most v p : Nat} {s : Zs} (hk : 2 ≤ k ∧ k ≤ 8) (h : Led k most v p s) (h0 : s.rows = []) (h1 : s.last = []) {Z : List Nat} (hZ : Z.length = (p + (k + 1) + 7) / 8) (hv : leNum Z = v + (2 ^ k + 2) * 2 ^ p) : ReadOk Z (k : Int) (most : Int) (.error 4) := by
  refine Or.inr ⟨by omega, by omega, by omega, ?_⟩
  have e1 : (k : Int).toNat = k := by omega
  have e2 : (most : Int).toNat = most := by omega
  rw [e1, e2]
  have hw : wid k s.rows.length = k + 1 := by rw [h0]; rfl
  have hlt : 2 ^ k + 2 < 2 ^ (k + 1) := by
    have h2 : 2 ^ 2 ≤ 2 ^ k := Nat.pow_le_pow_right (by omega) hk.1
    rw [Nat.pow_succ]
    omega
  obtain ⟨q1, q2⟩ := led_bits (V := leNum Z) (v := v) (c := 2 ^ k + 2) (p := p) (m := k + 1) (by rw [hv, Nat.mod_eq_of_lt (led_lt h.lt hlt)]) h.lt
  have e : codeAt (leNum Z) k s = 2 ^ k + 2 := by unfold codeAt; rw [h.at_, hw]; exact q2
  refine h.run _ _ _ q1 (by omega) (.form (by rw [h.at_, hw]; omega) (by rw [e]; omega) (by rw [e]; omega) ?_)
  rw [e]
  unfold rowOf
  simp [h1]
end Go.Proofs.Ytdbgolklgiadeaa
