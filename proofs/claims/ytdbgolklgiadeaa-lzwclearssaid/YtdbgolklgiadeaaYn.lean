/-
  lzw: awake; LzwReads.
-/
import Derived.Test.YtdbgolklgiadeaaYm
namespace Go.Proofs.Ytdbgolklgiadeaa
open Go.RowKit

theorem calls_args {P : Program} {f : Nat} {args args' : Array Value} {w : World} {Q : Ending → World → Prop} (h : Calls P f args w Q) (e : args' = args) : Calls P f args' w Q := by rw [e]; exact h

/-- Values are bytes. -/
theorem ZRuns.bytes {V L k most : Nat} (hk : 2 ≤ k ∧ k ≤ 8) {s : Zs} {r : Except Nat (List Nat)} (h : ZRuns V L k most s r) (h1 : ∀ b ∈ s.out, b < 256) (h2 : ∀ b ∈ s.last, b < 256) (h3 : ∀ x ∈ s.rows, ∀ b ∈ x, b < 256) : ∀ b ∈ outZ r, b < 256 := by
  have hP := pow_le k hk.2
  induction h with
  | short h => intro b hb; cases hb
  | clear h hc hr ih => exact ih h1 (fun b hb => by cases hb) (fun x hx => by cases hx)
  | fin h hc => exact h1
  | form h a1 a2 hr => intro b hb; cases hb
  | full h a1 a2 hx hm => intro b hb; cases hb
  | @row s x r h a1 a2 hx hm hr ih =>
    have hd : ∀ l : List Nat, (∀ b ∈ l, b < 256) → l.headD 0 < 256 := by
      intro l hl
      cases l with
      | nil => simp
      | cons a t => exact hl a (by simp)
    have hxb : ∀ b ∈ x, b < 256 := by
      unfold rowOf at hx
      split at hx
      · injection hx with hx
        subst hx
        intro b hb
        simp at hb
        omega
      split at hx
      · cases hx
      split at hx
      · cases hx
      split at hx
      · injection hx with hx
        subst hx
        intro b hb
        rcases List.mem_append.1 hb with hb | hb
        · exact h2 b hb
        · simp only [List.mem_singleton] at hb
          rw [hb]
          exact hd _ h2
      · exact h3 x (List.mem_of_getElem? hx)
    refine ih (fun b hb => ?_) hxb (fun y hy => ?_)
    · rcases List.mem_append.1 hb with hb | hb
      · exact h1 b hb
      · exact hxb b hb
    · have hy : y ∈ made k s x := hy
      unfold made at hy
      split at hy
      · rcases List.mem_append.1 hy with hy | hy
        · exact h3 y hy
        · simp only [List.mem_singleton] at hy
          intro b hb
          rw [hy] at hb
          rcases List.mem_append.1 hb with hb | hb
          · exact h2 b hb
          · simp only [List.mem_singleton] at hb
            rw [hb]
            exact hd _ hxb
      · exact h3 y hy

theorem ReadOk.bytes {bs : List Nat} {size most : Int} {r : Except Nat (List Nat)} (h : ReadOk bs size most r) : ∀ b ∈ outZ r, b < 256 := by
  rcases h with ⟨_, rfl⟩ | ⟨h1, h2, h3, h4⟩
  · intro b hb; cases hb
  · exact h4.bytes (by omega) (fun b hb => by cases hb) (fun b hb => by cases hb) (fun x hx => by cases hx)

theorem read_at (sv : Value) (bs : List Nat) (size most : Int) (w : World) (h : Lies w sv bs) (hlt : ∀ b ∈ bs, b < 256) (hlen : bs.length ≤ 2147483648) (hm : most ≤ 999990) :
    Calls Try.prog 12 #[sv, .int .i64 size, .int .i64 most] w fun e w' => ∃ r a c, ReadOk bs size most r ∧ e = .returned (.tuple #[.slice a (outZ r).length c, .int .i64 ((errZ r : Nat) : Int)]) ∧ Lies w' (.slice a (outZ r).length c) (outZ r) ∧ Fr (fun _ => False) w w' :=
  (read_c sv bs size most w h hlt hlen hm).mono fun _ _ ⟨r, a, c, h1, h2, h3, h4⟩ => ⟨r, a, c, h1, h2, lies_ownB h3, h4⟩

theorem rread_at (sv : Value) (bs : List Nat) (size most : Int) (w : World) (h : Lies w sv bs) (hlt : ∀ b ∈ bs, b < 256) (hlen : bs.length ≤ 2147483648) (hm : most ≤ 999990) :
    Calls Try.prog 13 #[sv, .int .i64 size, .int .i64 most] w fun e w' => ∃ r a c, ReadOk bs size most r ∧ e = .returned (.tuple #[.slice a (outZ r).length c, .int .i64 ((errZ r : Nat) : Int)]) ∧ Lies w' (.slice a (outZ r).length c) (outZ r) ∧ Fr (fun _ => False) w w' :=
  (rread_c sv bs size most w h hlt hlen hm).mono fun _ _ ⟨r, a, c, h1, h2, h3, h4⟩ => ⟨r, a, c, h1, h2, lies_ownB h3, h4⟩

/-- Read of bytes that are written out. -/
theorem read_lit (bs : List Nat) (size most : Int) (r : Except Nat (List Nat)) (hk : ReadOk bs size most r) (w : World) (o : Obj) (ho : o = .cells (cellsOf bs).toArray 5) (n c D : Nat) (hD : D = w.heap.size) (hn : n = bs.length) (hlt : ∀ b ∈ bs, b < 256) (hlen : bs.length ≤ 2147483648) (hm : most ≤ 999990) :
    Calls Try.prog 12 #[.slice (some ⟨D, 0, none⟩) n c, .int .i64 size, .int .i64 most] (w.alloc o) fun e w' => ∃ a c, e = .returned (.tuple #[.slice a (outZ r).length c, .int .i64 ((errZ r : Nat) : Int)]) ∧ Lies w' (.slice a (outZ r).length c) (outZ r) ∧ Fr (fun _ => False) w w' := by
  subst ho
  subst hD
  subst hn
  refine (read_at _ bs size most _ (lies_lit w bs c) hlt hlen hm).mono ?_
  rintro e w' ⟨r', a, c', h1, h2, h3, h4⟩
  obtain rfl := h1.det hk
  exact ⟨a, c', h2, h3, (Fr.of_alloc w _).join h4⟩

/-- Write of bytes that are written out. -/
theorem write_lit (bs : List Nat) (k : Nat) (hk : 2 ≤ k ∧ k ≤ 8) (w : World) (o : Obj) (ho : o = .cells (cellsOf bs).toArray 5) (n c D : Nat) (hD : D = w.heap.size) (hn : n = bs.length) (hlt : ∀ b ∈ bs, b < 2 ^ k) (hlen : bs.length ≤ 1048576) :
    Calls Try.prog 19 #[.slice (some ⟨D, 0, none⟩) n c, .int .i64 (k : Int)] (w.alloc o) fun e w' => ∃ Z a c, e = .returned (.tuple #[.slice a Z.length c, .int .i64 0]) ∧ Lies w' (.slice a Z.length c) Z ∧ (∀ b ∈ Z, b < 256) ∧ Z.length ≤ 2 * bs.length + bs.length / 4 + 16 ∧
      (∀ most : Nat, bs.length ≤ most → ReadOk Z (k : Int) (most : Int) (.ok bs)) ∧ Fr (fun _ => False) w w' := by
  subst ho
  subst hD
  subst hn
  have hP := pow_le k hk.2
  refine (write_c _ c bs k _ hk (lies_lit w bs c) (fun b hb => by have := hlt b hb; omega) hlt hlen).mono ?_
  rintro e w' ⟨Z, a, c', h1, h2, h3, h4, h5, h6⟩
  refine ⟨Z, a, c', h1, lies_ownB h2, h3, h4, fun most hm => Or.inr ⟨by omega, by omega, by omega, ?_⟩, (Fr.of_alloc w _).join h6⟩
  have e1 : (k : Int).toNat = k := by omega
  have e2 : (most : Int).toNat = most := by omega
  rw [e1, e2]
  exact h5 most hm

theorem known_a : ReadOk [140, 10] 2 9 (.ok [1, 2]) := by
  refine Or.inr ⟨by decide, by decide, by decide, ?_⟩
  show ZRuns (leNum [140, 10]) 16 2 9 zinit (.ok [1, 2])
  refine .clear (by decide) (by decide) ?_
  refine .row (x := [1]) (by decide) (by decide) (by decide) (by decide) (by decide) ?_
  refine .row (x := [2]) (by decide) (by decide) (by decide) (by decide) (by decide) ?_
  exact .fin (by decide) (by decide)

set_option maxHeartbeats 1600000 in
set_option maxRecDepth 100000 in
/-- The first sentence of each law. -/
theorem awake_c (w : World) : Calls Try.prog 11 #[] w fun e w' => e = .returned (.bool true) ∧ Fr (fun _ => False) w w' := by
  go_enter Try.func11, Try.ntmps11
  go_wp2_with fail
  refine (calls_args (read_lit [140, 10] 2 9 _ known_a w _ rfl 2 2 w.heap.size rfl rfl (by decide) (by decide) (by decide)) (by rfl)).mono ?_
  rintro e w1 ⟨a1, c1, rfl, hL1, hF1⟩
  have HL1 := hide hL1
  have HF1 := hide hF1
  clear hL1 hF1
  simp only [outZ, errZ, List.length_nil, List.length_cons] at HL1 ⊢
  go_wp2_with fail
  refine (calls_args (write_lit [1, 2, 1, 2, 3] 2 (by decide) w1 _ rfl 5 5 w1.heap.size rfl rfl (by decide) (by decide)) (by rfl)).mono ?_
  rintro e w2 ⟨Z, a2, c2, rfl, hL2, hZ, hZl, hR, hF2⟩
  have HL2 := hide hL2
  have HZ := hide hZ
  have HR := hide (hR 9 (by decide))
  have HF2 := hide (HF1.out.join hF2)
  have hZl2 : Z.length ≤ 100 := Nat.le_trans hZl (by decide)
  have hF12 := hide hF2
  clear hL2 hZ hR hF2 hZl
  go_wp2_with fail
  refine (calls_args (rread_at (.slice a2 Z.length c2) Z 2 9 w2 HL2.out HZ.out (by omega) (by decide)) (by rfl)).mono ?_
  rintro e w3 ⟨r, a3, c3, h1, rfl, hL3, hF3⟩
  obtain rfl := h1.det HR.out
  have HF3 := hide (HF2.out.join hF3)
  have s1 := str_lies (lies_false (lies_false HL1.out hF12.out) hF3) (by decide)
  have s3 := str_lies hL3 (by simp only [outZ]; decide)
  simp only [outZ, errZ, List.length_cons, List.length_nil] at s1 s3 ⊢
  have q1 : ((strOf [1, 2]).toList == [1, 2]) = true := by rw [ByteArray.toList_eq]; decide
  have q3 : ((strOf [1, 2, 1, 2, 3]).toList == [1, 2, 1, 2, 3]) = true := by rw [ByteArray.toList_eq]; decide
  clear h1 hL3 hF3
  go_wp2
  go_ret
  exact ⟨rfl, HF3.out⟩

set_option maxHeartbeats 1600000 in
set_option maxRecDepth 100000 in
/-- LzwReads. -/
theorem reads_c (a : Option Addr) (n c : Nat) (bs : List Nat) (sz m : Int) (w : World) (hn : n = bs.length) (h : Lies w (.slice a n c) bs) (hlt : ∀ b ∈ bs, b < 256) :
    Calls Try.prog 3 #[.slice a n c, .int .i64 sz, .int .i64 m] w fun e w' => e = .returned (.bool true) ∧ Fr (fun _ => False) w w' := by
  have HL := hide h
  have Hlt := hide hlt
  have Hn := hide hn
  clear h hlt hn
  go_enter Try.func3, Try.ntmps3
  go_wp2_with fail
  refine (awake_c w).mono ?_
  rintro e w0 ⟨rfl, hF0⟩
  have HF0 := hide hF0
  clear hF0
  by_cases hbig : 12000 < n
  · have hbi : (12000 : Int) < n := by omega
    go_wp2
    go_ret
    exact ⟨rfl, HF0.out⟩
  have hbi : ¬ (12000 : Int) < n := by omega
  by_cases hbm : 131072 < m
  · go_wp2
    go_ret
    exact ⟨rfl, HF0.out⟩
  have hln : bs.length ≤ 12000 := by have := Hn.out; omega
  go_wp2_with fail
  refine (read_at (.slice a n c) bs sz m w0 (lies_false HL.out HF0.out) Hlt.out (by omega) (by omega)).mono ?_
  rintro e w1 ⟨r1, a1, c1, hA1, rfl, hL1, hF1⟩
  have HF1 := hide (HF0.out.join hF1)
  have HL1 := hide hL1
  have HA1 := hide hA1
  clear hF1 hL1 hA1
  obtain ⟨X, hX⟩ : ∃ X, X = (outZ r1).length := ⟨_, rfl⟩
  obtain ⟨V, hV⟩ : ∃ V, V = errZ r1 := ⟨_, rfl⟩
  rw [← hX, ← hV]
  rw [← hX] at HL1
  have HXU := hide (And.intro hX hV)
  clear hX hV
  go_wp2_with fail
  refine (rread_at (.slice a n c) bs sz m w1 (lies_false HL.out HF1.out) Hlt.out (by omega) (by omega)).mono ?_
  rintro e w2 ⟨r2, a2, c2, hA2, rfl, hL2, hF2⟩
  obtain rfl := hA2.det HA1.out
  have hx256 : ∀ b ∈ outZ r2, b < 256 := HA1.out.bytes
  rw [← HXU.out.1, ← HXU.out.2]
  rw [← HXU.out.1] at hL2
  have HF2 := hide (HF1.out.join hF2)
  have s1 := str_lies (lies_false HL1.out hF2) hx256
  have s2 := str_lies hL2 hx256
  clear hF2 hL2 hA2 hx256
  go_wp2
  go_ret
  exact ⟨rfl, HF2.out⟩
end Go.Proofs.Ytdbgolklgiadeaa
