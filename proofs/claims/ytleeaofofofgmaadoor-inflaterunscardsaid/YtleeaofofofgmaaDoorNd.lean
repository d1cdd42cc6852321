/-
  The laws' own readings of known streams.
-/
import Derived.Test.YtleeaofofofgmaaDoorNc
namespace Go.Proofs.YtleeaofofofgmaaDoor
open Go.RowKit

/-- Whether the program's variables are as they are laid. -/
structure Gw (w : World) : Prop where
  gl : Gl w
  pos : 0 < w.heap.size

theorem Gw.fr {w w' : World} (h : Gw w) (hF : Fr (fun _ => False) w w') : Gw w' := ⟨h.gl.keep hF (fun h => h), Nat.lt_of_lt_of_le h.pos hF.size⟩

/-- All at bytes that lie in memory. -/
theorem all_at (sv : Value) (bs : List Nat) (most : Int) (w : World) (h : Lies w sv bs) (hlt : ∀ b ∈ bs, b < 256) (hlen : bs.length ≤ 2147483648) (hm : most ≤ 2147483647) (hg : Gw w) :
    Calls Tryd.prog 11 #[sv, .int .i64 most] w fun e w' => ∃ r a c, AllOk bs most r ∧ e = .returned (.tuple #[.slice a (outOf r).length c, .int .i64 (usedOf r : Int), .int .i64 (errOf r : Int)]) ∧ Lies w' (.slice a (outOf r).length c) (outOf r) ∧ Fr (fun _ => False) w w' :=
  (all_c sv bs most w h hlt hlen hm hg.gl hg.pos).mono fun _ _ ⟨r, a, c, h1, h2, h3, h4⟩ => ⟨r, a, c, h1, h2, lies_own h3, h4⟩

/-- All at a list of bytes that is written out. -/
theorem all_lit (bs : List Nat) (most : Int) (r : Except Nat (List Nat × Nat)) (hk : AllOk bs most r) (w : World) (o : Obj) (ho : o = .cells (cellsOf bs).toArray 5) (n c D : Nat) (hD : D = w.heap.size) (hn : n = bs.length) (hlt : ∀ b ∈ bs, b < 256) (hlen : bs.length ≤ 2147483648) (hm : most ≤ 2147483647) (hg : Gw w) :
    Calls Tryd.prog 11 #[.slice (some ⟨D, 0, none⟩) n c, .int .i64 most] (w.alloc o) fun e w' => ∃ a c, e = .returned (.tuple #[.slice a (outOf r).length c, .int .i64 (usedOf r : Int), .int .i64 (errOf r : Int)]) ∧ Lies w' (.slice a (outOf r).length c) (outOf r) ∧ Fr (fun _ => False) w w' := by
  subst ho
  subst hD
  subst hn
  refine (all_at _ bs most _ (lies_lit w bs c) hlt hlen hm (hg.fr (Fr.of_alloc w _))).mono ?_
  rintro e w' ⟨r', a, c', h1, h2, h3, h4⟩
  obtain rfl := h1.det hk
  exact ⟨a, c', h2, h3, (Fr.of_alloc w _).join h4⟩

theorem lies_fr {w w' : World} {sv : Value} {bs : List Nat} (h : Lies w sv bs) (hF : Fr (fun _ => False) w w') : Lies w' sv bs := by
  rcases h with h | ⟨ad, c, h1, h2⟩
  · exact Or.inl h
  · exact Or.inr ⟨ad, c, h1, fun j u hu => by
      have := h2 j u hu
      rw [cell_blk (hF.block _ (cell_lt this) (fun h => h))]
      exact this⟩

set_option maxHeartbeats 800000 in
set_option maxRecDepth 100000 in
theorem awake_c (w : World) (hg : Gw w) : Calls Tryd.prog 10 #[] w fun e w' => e = .returned (.bool true) ∧ Fr (fun _ => False) w w' := by
  have HG := hide hg
  clear hg
  go_enter Tryd.func10, Tryd.ntmps10
  go_wp2_with fail
  refine (calls_args (all_lit [3, 0] 9 _ known0 w _ rfl 2 2 w.heap.size rfl rfl (by decide) (by decide) (by decide) HG.out) (by rfl)).mono ?_
  rintro e w1 ⟨a1, c1, rfl, _, hF1⟩
  have HG1 := hide (HG.out.fr hF1)
  have HF1 := hide hF1
  clear hF1
  simp only [outOf, usedOf, errOf, List.length_nil]
  go_wp2_with fail
  refine (calls_args (all_lit [1, 2, 0, 253, 255, 7, 8, 9] 9 _ known1 w1 _ rfl 8 8 w1.heap.size rfl rfl (by decide) (by decide) (by decide) HG1.out) (by rfl)).mono ?_
  rintro e w2 ⟨a2, c2, rfl, hL2, hF2⟩
  have HF2 := hide (HF1.out.join hF2)
  have hs := str_lies hL2 (by decide)
  simp only [outOf, usedOf, errOf, List.length_cons, List.length_nil] at hs ⊢
  clear hL2 hF2
  have hq : ((strOf [7, 8]).toList == [7, 8]) = true := by rw [ByteArray.toList_eq]; decide
  go_wp2
  go_ret
  exact ⟨rfl, HF2.out⟩

set_option maxHeartbeats 1600000 in
set_option maxRecDepth 100000 in
theorem known_c (w : World) (hg : Gw w) : Calls Tryd.prog 9 #[] w fun e w' => e = .returned (.bool true) ∧ Fr (fun _ => False) w w' := by
  have HG := hide hg
  clear hg
  go_enter Tryd.func9, Tryd.ntmps9
  go_wp2_with fail
  refine (awake_c w HG.out).mono ?_
  rintro e w0 ⟨rfl, hF0⟩
  have HG0 := hide (HG.out.fr hF0)
  have HF0 := hide hF0
  clear hF0
  go_wp2_with fail
  refine (calls_args (all_lit [203, 72, 205, 201, 201, 7, 0] 99 _ known2 w0 _ rfl 7 7 w0.heap.size rfl rfl (by decide) (by decide) (by decide) HG0.out) (by rfl)).mono ?_
  rintro e w1 ⟨a1, c1, rfl, hL1, hF1⟩
  have HG1 := hide (HG0.out.fr hF1)
  have HF1 := hide (HF0.out.join hF1)
  have HL1 := hide hL1
  simp only [outOf, usedOf, errOf, List.length_cons, List.length_nil]
  clear hL1 hF1
  go_wp2_with fail
  refine (calls_args (all_lit [7, 0] 99 _ known3 w1 _ rfl 2 2 w1.heap.size rfl rfl (by decide) (by decide) (by decide) HG1.out) (by rfl)).mono ?_
  rintro e w2 ⟨a2, c2, rfl, _, hF2⟩
  have HG2 := hide (HG1.out.fr hF2)
  have HF2 := hide hF2
  simp only [outOf, usedOf, errOf, List.length_nil]
  clear hF2
  go_wp2_with fail
  refine (calls_args (all_lit [1, 2, 0, 253, 254, 1, 2] 99 _ known4 w2 _ rfl 7 7 w2.heap.size rfl rfl (by decide) (by decide) (by decide) HG2.out) (by rfl)).mono ?_
  rintro e w3 ⟨a3, c3, rfl, _, hF3⟩
  have HG3 := hide (HG2.out.fr hF3)
  have HF3 := hide (HF2.out.join hF3)
  simp only [outOf, usedOf, errOf, List.length_nil]
  clear hF3
  go_wp2_with fail
  refine (calls_args (all_at (.slice none 0 0) [] 99 w3 (Or.inl ⟨rfl, rfl⟩) (by decide) (by decide) (by decide) HG3.out) (by rfl)).mono ?_
  rintro e w4 ⟨r4, a4, c4, hA4, rfl, _, hF4⟩
  obtain rfl := hA4.det known5
  have HG4 := hide (HG3.out.fr hF4)
  have HF4 := hide (HF3.out.join hF4)
  simp only [outOf, usedOf, errOf, List.length_nil]
  clear hF4 hA4
  go_wp2_with fail
  refine (calls_args (all_lit [3, 0] (-1) _ known6 w4 _ rfl 2 2 w4.heap.size rfl rfl (by decide) (by decide) (by decide) HG4.out) (by rfl)).mono ?_
  rintro e w5 ⟨a5, c5, rfl, _, hF5⟩
  have HG5 := hide (HG4.out.fr hF5)
  have HF5 := hide (HF4.out.join hF5)
  simp only [outOf, usedOf, errOf, List.length_nil]
  clear hF5
  go_wp2_with fail
  refine (calls_args (all_lit [5, 255, 255] 99 _ known7 w5 _ rfl 3 3 w5.heap.size rfl rfl (by decide) (by decide) (by decide) HG5.out) (by rfl)).mono ?_
  rintro e w6 ⟨a6, c6, rfl, _, hF6⟩
  have HF6 := hide (HF5.out.join hF6)
  have hs := str_lies (lies_fr HL1.out HF6.out) (by decide)
  simp only [outOf, usedOf, errOf, List.length_cons, List.length_nil] at hs ⊢
  have hq : ((strOf [104, 101, 108, 108, 111]).toList == [104, 101, 108, 108, 111]) = true := by rw [ByteArray.toList_eq]; decide
  clear hF6
  go_wp2
  go_ret
  exact ⟨rfl, HF1.out.join HF6.out⟩
end Go.Proofs.YtleeaofofofgmaaDoor
