/-
  lzw: LzwClears' ends.
-/
import Derived.Test.YtdbgolklgiadeaaYx
import Derived.Laws.AppendOwnNone
namespace Go.Proofs.Ytdbgolklgiadeaa
open Go.RowKit

theorem Wc.keepF {w0 wr w' : World} {K k : Nat} {oa : Option Addr} {oc : Nat} {out want : List Nat} {many N : Nat} (h : Wc w0 wr K k oa oc out want many N) (f : Fr (fun _ => False) wr w') : Wc w0 w' K k oa oc out want many N := by
  obtain ⟨g, v, p, s, h1, h2⟩ := h.it
  exact ⟨⟨g, v, p, s, h1.keep f (fun e => e) (fun _ _ e => e), h2⟩, h.mx, ownsRow_fr h.own fun j hj => f.block j (h.own.lt j hj).2 (fun e => e), h.apart, h.k0, Nat.lt_of_lt_of_le h.kl f.size, h.fr.join f, h.bytes⟩

/-- End is put; H: what was laid before. -/
theorem Wc.end_ {w0 wr w1 : World} {K k : Nat} {oa : Option Addr} {oc : Nat} {out want : List Nat} {many N : Nat} (hk : 2 ≤ k ∧ k ≤ 8) (h : Wc w0 wr K k oa oc out want many N) (hN : N ≤ 20000) (f : Fr (fun _ => False) wr w1) :
    Calls Try.prog 26 #[.pointer (some ⟨K, 0, none⟩), .int .i64 ((2 ^ k + 1 : Nat) : Int), .int .i64 ((k + 1 : Nat) : Int)] w1 fun e w' => e = .returned (.tuple #[]) ∧ Fr (fun j => w0.heap.size ≤ j ∧ j < wr.heap.size) w1 w' ∧ OwnB w' w0.heap.size (.slice oa want.length oc) want ∧
      ∃ g v p, Pg w' K g v p ∧ p ≤ 9 * (N + 1) ∧ ∀ Z : List Nat, Z.length = (p + 7) / 8 → leNum Z = v → ReadOk Z (k : Int) (out.length : Int) (.ok out) := by
  obtain ⟨g, v, p, s, h1, h2, h3, h4, h5, h6, h7⟩ := h.it
  have hmx := h.mx
  have hkl := h.kl
  have hlt := h.own.lt
  have hP4 : 4 ≤ 2 ^ k := Nat.pow_le_pow_right (n := 2) (by omega) hk.1
  have hw : wid k s.rows.length = k + 1 := by rw [h4]; exact wid_few k _ (by omega)
  have hlt2 : 2 ^ k + 1 < 2 ^ (k + 1) := by rw [Nat.pow_succ]; omega
  have hgl : ∀ j, g = some j → j < wr.heap.size := by
    obtain ⟨bl, q1, _⟩ := h1.it
    exact q1.lts
  have h1' : Pg w1 K g v p := h1.keep f (fun e => e) (fun _ _ e => e)
  refine (h1'.put (2 ^ k + 1) (k + 1) (by omega) hlt2 (by omega)).mono ?_
  rintro e w' ⟨rfl, g', a1, a2, a3⟩
  refine ⟨rfl, a2.mono fun j _ e => e.elim (fun e => by rw [e]; exact ⟨h.k0, hkl⟩) (fun e => ⟨(h7 j e).1, hgl j e⟩), ?_, g', _, _, a1, by omega, fun Z hZ hv => ?_⟩
  · refine ownsRow_fr (ownsRow_fr h.own fun j hj => f.block j (hlt j hj).2 (fun e => e)) fun j hj => a2.block j (Nat.lt_of_lt_of_le (hlt j hj).2 f.size) ?_
    rintro (e | e)
    · exact h.apart (e ▸ hj)
    · exact (h7 j e).2.1 hj
  · have := (h2 out.length (Nat.le_refl _)).read hk (Z := Z) (by rw [hw]; exact hZ) hv
    rw [h3] at this
    exact this

/-- The writer's own bits. -/
structure Wl (wr : World) (K k N n : Nat) (a0 : Option Addr) (c0 : Nat) (bl : List Nat) : Prop where
  cell : wr.cell? ⟨K, 0, none⟩ = some (.slice a0 bl.length c0)
  own : wr.ownsRow 0 3 1 (.slice a0 bl.length c0) bl.length (intsOf bl)
  bits : ∀ b ∈ bl, b < 2
  len : bl.length ≤ 9 * N
  led : ∃ s, (∀ most, n ≤ most → Led k most (numL bl) bl.length s) ∧ wid k s.rows.length = k + 1

theorem Wc.lies {w0 wr : World} {K k : Nat} {oa : Option Addr} {oc : Nat} {out want : List Nat} {many N : Nat} (hk : 2 ≤ k ∧ k ≤ 8) (h : Wc w0 wr K k oa oc out want many N) : ∃ a0 c0 bl, Wl wr K k N out.length a0 c0 bl := by
  obtain ⟨g, v, p, s, h1, h2, h3, h4, h5, h6, h7⟩ := h.it
  have hP : 4 ≤ 2 ^ k := Nat.pow_le_pow_right (n := 2) (by omega) hk.1
  have hmx := h.mx
  have hw : wid k s.rows.length = k + 1 := by rw [h4]; exact wid_few k _ (by omega)
  obtain ⟨bl, q1, q2, q3, q4⟩ := h1.it
  obtain ⟨ov, ho, hown, hob⟩ := q1.eobj
  obtain ⟨a0, c0, rfl⟩ := ownsRow_shape hown
  exact ⟨a0, c0, bl, cell_of (o := 0) ho rfl, hown, q2, by omega, s, fun most hm => by rw [q3, q4]; exact h2 most hm, hw⟩

theorem wpList_clone {w : World} {ops : Array Oper} {rest : List Oper} {o : Oper} {a : Act} {Q : Exit → Act → World → Prop} (hgd : o.guard = none) (s x : Operand)
    (ho : o.op = .call { callee := .builtin .append, args := #[s, x], argTypes := #[31, 31] }) (H : Nat) (hs : a.eval s = .slice (some ⟨H, 0, none⟩) 0 0) (hown : w.ownsRow H 3 1 (.slice (some ⟨H, 0, none⟩) 0 0) 0 [])
    (sv : Value) (bl : List Nat) (hx : a.eval x = sv) (hl : w.ownsRow 0 3 1 sv bl.length (intsOf bl)) (h63 : bl.length ≤ 1000000) (hbase : H ≤ w.heap.size)
    (h : ∀ a' c w', w'.ownsRow H 3 1 (.slice a' bl.length c) bl.length (intsOf bl) → Fr (fun i => i = H) w w' → wpList Try.prog ops Q rest (a.put o.dst (.slice a' bl.length c)) w') : wpList Try.prog ops Q (o :: rest) a w := by
  obtain ⟨i0, hi, hz0, hz1, hz2⟩ := info_parts Try.info3
  rcases hl with ⟨hl0, ⟨rfl, hn⟩ | ⟨g, cap, cur, rfl, hb, hg, hnc, hcm, hcs, htk⟩⟩
  · refine wpList_append_own_none hgd s x 31 ho H 3 i0 1 Try.underlying31 hi _ 0 [] hs hown hx ?_
    have hnil : bl = [] := List.eq_nil_of_length_eq_zero hn
    subst hnil
    exact h (some ⟨H, 0, none⟩) 0 w hown (Fr.refl _ _)
  · refine wpList_append_own w hgd s x 31 ho H 3 i0 (.int .i64 0) 1 8 Try.underlying31 hi hz0 hz1 hz2 rfl (by decide) _ 0 [] hs hown ⟨g, 0, none⟩ bl.length cap (intsOf bl) hx (by simp [intsOf_length]) ?_ ?_ (by unfold maxLen; omega) (by omega) hbase ?_
    · intro j u hj
      have hjl : j < bl.length * 1 := by
        have := (List.getElem?_eq_some_iff.1 hj).1
        rw [intsOf_length] at this
        omega
      rw [← htk, List.getElem?_take, if_pos hjl] at hj
      have : cur[j]? = some u := by rw [← Array.getElem?_toList]; exact hj
      have h5 := cell_of (o := j) hg this
      by_cases h0 : j = 0
      · subst h0
        simpa [Addr.add] using h5
      · simpa [Addr.add, h0] using h5
    · intro u hu
      simp only [intsOf, List.mem_map] at hu
      obtain ⟨b, _, rfl⟩ := hu
      rfl
    · intro v' w' h1 h2 h3
      rw [Nat.zero_add, List.nil_append] at h1
      obtain ⟨a', c, rfl⟩ := ownsRow_shape h1
      refine h a' c w' h1 ⟨h2.os, h2.tape, h2.output, h2.size, fun k hk hn => h2.block k hk (fun e => hn ?_)⟩
      have e1 : some k = some H := e
      injection e1

/-- The second writer. -/
structure Wb (w : World) (H A B K k most P : Nat) (hd : Bool) : Prop where
  it : ∃ g v p s, Pg w K g v p ∧ Led k most v p s ∧ wid k s.rows.length = k + 1 ∧ (hd = true → s.rows = [] ∧ s.last = []) ∧ p ≤ P ∧ (∀ j, g = some j → H ≤ j ∧ (j < A ∨ B ≤ j))
  k_ : H ≤ K ∧ (K < A ∨ B ≤ K)
  b_ : H ≤ B ∧ B ≤ w.heap.size

theorem Wb.clear {w : World} {H A B K k most P : Nat} {hd : Bool} (hk : 2 ≤ k ∧ k ≤ 8) (h : Wb w H A B K k most P hd) (hP : P ≤ 900000) :
    Calls Try.prog 26 #[.pointer (some ⟨K, 0, none⟩), .int .i64 ((2 ^ k : Nat) : Int), .int .i64 ((k + 1 : Nat) : Int)] w fun e w' => e = .returned (.tuple #[]) ∧ Wb w' H A B K k most (P + 9) true ∧ Fr (fun j => H ≤ j ∧ (j < A ∨ B ≤ j)) w w' := by
  obtain ⟨g, v, p, s, h1, h2, hw, h3, h4, h5⟩ := h.it
  obtain ⟨hb1, hb2⟩ := h.b_
  refine (h1.put (2 ^ k) (k + 1) (by omega) (Nat.pow_lt_pow_right (by omega) (by omega)) (by omega)).mono ?_
  rintro e w' ⟨rfl, g', a1, a2, a3⟩
  refine ⟨rfl, ⟨⟨g', _, _, ⟨p + (k + 1), [], [], s.out⟩, a1, ?_, rfl, fun _ => ⟨rfl, rfl⟩, by omega, fun j hj => ?_⟩, h.k_, hb1, Nat.le_trans hb2 a2.size⟩, a2.mono fun j _ e => e.elim (fun e => by rw [e]; exact h.k_) (h5 j)⟩
  · have := h2.clear (by rw [hw]; exact Nat.pow_lt_pow_right (by omega) (by omega))
    rw [hw] at this
    exact this
  · rcases a3 with e | ⟨j', e, hj'⟩
    · exact h5 j (e ▸ hj)
    · rw [e] at hj
      injection hj with hj
      omega

theorem Wb.bad {w : World} {H A B K k most P : Nat} (hk : 2 ≤ k ∧ k ≤ 8) (h : Wb w H A B K k most P true) (hP : P ≤ 900000) :
    Calls Try.prog 26 #[.pointer (some ⟨K, 0, none⟩), .int .i64 ((2 ^ k + 2 : Nat) : Int), .int .i64 ((k + 1 : Nat) : Int)] w fun e w' => e = .returned (.tuple #[]) ∧ Fr (fun j => H ≤ j ∧ (j < A ∨ B ≤ j)) w w' ∧
      ∃ g v p, Pg w' K g v p ∧ p ≤ P + 9 ∧ ∀ Z : List Nat, Z.length = (p + 7) / 8 → leNum Z = v → ReadOk Z (k : Int) (most : Int) (.error 4) := by
  obtain ⟨g, v, p, s, h1, h2, hw, h3, h4, h5⟩ := h.it
  have hP4 : 4 ≤ 2 ^ k := Nat.pow_le_pow_right (n := 2) (by omega) hk.1
  have hlt2 : 2 ^ k + 2 < 2 ^ (k + 1) := by rw [Nat.pow_succ]; omega
  refine (h1.put (2 ^ k + 2) (k + 1) (by omega) hlt2 (by omega)).mono ?_
  rintro e w' ⟨rfl, g', a1, a2, a3⟩
  refine ⟨rfl, a2.mono fun j _ e => e.elim (fun e => by rw [e]; exact h.k_) (h5 j), g', _, _, a1, by omega, fun Z hZ hv => ?_⟩
  exact h2.bad hk (h3 rfl).1 (h3 rfl).2 hZ hv
end Go.Proofs.Ytdbgolklgiadeaa
