import Derived.Test.YtgjbinbhmbgidaaC
import Derived.Lib.SlBytesConst
namespace Go.Proofs.Ytgjbinbhmbgidaa
open Go.RowKit

theorem iend_c (T c : Nat) (w : World) (ht : IsTab w T) :
    Calls Try.prog 12 #[.pointer (some ⟨T, 0, none⟩), .string ⟨#[73, 69, 78, 68]⟩, .slice none 0 c] w fun e w' => e = .returned (.int .u32 2923585666) ∧ Fr (fun _ => False) w w' :=
  (chunk_c T ⟨#[73, 69, 78, 68]⟩ none c [] w ht (by decide) (Lies.nil _ _) (by decide)).mono fun e w' ⟨he, hf⟩ => ⟨he.trans (ret_int (by decide +kernel)), hf⟩

theorem cell_at {w : World} {b o : Nat} {cs : Array Value} {T : TypeId} {fz : Nat × Nat} (h : w.heap[b]? = some (.cells cs T fz)) : w.cell? ⟨b, o, none⟩ = cs[o]? := by
  simp [World.cell?, h]
theorem lies_lit (w : World) (bs : List Nat) (cs : Array Value) (hcs : cs = (bs.map fun b => Value.int .u8 ((b : Nat) : Int)).toArray) (hb : ∀ b ∈ bs, b < 256) (fz : Nat × Nat) : Lies (w.alloc (.cells cs 5 fz)) (some ⟨w.heap.size, 0, none⟩) bs := by
  subst hcs
  refine ⟨hb, fun j hj => ⟨_, rfl, ?_⟩⟩
  rw [add_none, cell_at (heap_alloc_new _ _)]
  simp [List.getElem?_eq_getElem hj]

theorem conv22 (w : World) (C : Array Value) (n c : Nat) : (convert 22 22 (.slice (some ⟨w.heap.size, 0, none⟩) n c)).run Try.prog (w.alloc (.cells C 5)) = .ok (.slice (some ⟨w.heap.size, 0, none⟩) n c) (w.alloc (.cells C 5 (C.size, C.size + 1))) := Lib.run_convert_bytes_const w 22 5 C n c Try.underlying22 Try.underlying5

theorem abc_c (fz : Nat × Nat) (W : World) (c : Nat) : Calls Try.prog 17 #[.slice (some ⟨W.heap.size, 0, none⟩) 3 c] (W.alloc (.cells #[.int .u8 97, .int .u8 98, .int .u8 99] 5 fz)) fun e w' => e = .returned (.int .u32 38600999) ∧ (W.alloc (.cells #[.int .u8 97, .int .u8 98, .int .u8 99] 5 fz)) = w' :=
  (adler_c (some ⟨W.heap.size, 0, none⟩) c [97, 98, 99] _ (lies_lit W [97, 98, 99] _ rfl (by decide) _) (by decide)).mono fun e w' ⟨he, hf⟩ => ⟨he.trans (ret_int (by decide +kernel)), hf⟩

set_option maxHeartbeats 400000 in
theorem awake_c (w : World) : Calls Try.prog 9 #[] w fun e w' => e = .returned (.bool true) ∧ Fr (fun _ => False) w w' := by
  go_enter Try.func9, Try.ntmps9
  go_wp2_with fail
  refine (new_c w).mono ?_
  rintro e w1 ⟨T, rfl, ht, hf⟩
  have Ht := hide ht
  have Hf := hide hf
  clear ht hf
  go_wp2_with fail
  refine (iend_c T 0 w1 Ht.out).mono ?_
  rintro e w2 ⟨rfl, hf⟩
  have Hf2 := hide (Hf.out.join hf)
  clear hf
  have hcv := conv22
  go_wp2_with fail
  refine (abc_c _ w2 3).mono ?_
  rintro e w3 ⟨rfl, rfl⟩
  go_wp2
  go_ret
  exact ⟨rfl, Hf2.out.join (Fr.of_alloc _ _)⟩

/-- The chapter's second example of Adler. -/
theorem wiki_c (fz : Nat × Nat) (W : World) (c : Nat) : Calls Try.prog 15 #[.int .u32 1, .slice (some ⟨W.heap.size, 0, none⟩) 9 c] (W.alloc (.cells #[.int .u8 87, .int .u8 105, .int .u8 107, .int .u8 105, .int .u8 112, .int .u8 101, .int .u8 100, .int .u8 105, .int .u8 97] 5 fz)) fun e w' => e = .returned (.int .u32 300286872) ∧ (W.alloc (.cells #[.int .u8 87, .int .u8 105, .int .u8 107, .int .u8 105, .int .u8 112, .int .u8 101, .int .u8 100, .int .u8 105, .int .u8 97] 5 fz)) = w' :=
  (adlerMore_c 1 (some ⟨W.heap.size, 0, none⟩) c [87, 105, 107, 105, 112, 101, 100, 105, 97] _ (by decide) (lies_lit W [87, 105, 107, 105, 112, 101, 100, 105, 97] _ rfl (by decide) _) (by decide)).mono fun e w' ⟨he, hf⟩ => ⟨he.trans (ret_int (by decide +kernel)), hf⟩
theorem nine_c (fz : Nat × Nat) (T : Nat) (W : World) (c : Nat) (ht : IsTab W T) : Calls Try.prog 11 #[.pointer (some ⟨T, 0, none⟩), .int .u32 0, .slice (some ⟨W.heap.size, 0, none⟩) 9 c] (W.alloc (.cells #[.int .u8 49, .int .u8 50, .int .u8 51, .int .u8 52, .int .u8 53, .int .u8 54, .int .u8 55, .int .u8 56, .int .u8 57] 5 fz)) fun e w' => e = .returned (.int .u32 3421780262) ∧ (W.alloc (.cells #[.int .u8 49, .int .u8 50, .int .u8 51, .int .u8 52, .int .u8 53, .int .u8 54, .int .u8 55, .int .u8 56, .int .u8 57] 5 fz)) = w' :=
  (more_0 T (some ⟨W.heap.size, 0, none⟩) c [49, 50, 51, 52, 53, 54, 55, 56, 57] _ (ht.keep (Fr.of_alloc _ _) (fun h => h)) (lies_lit W [49, 50, 51, 52, 53, 54, 55, 56, 57] _ rfl (by decide) _) (by decide)).mono fun e w' ⟨he, hf⟩ => ⟨he.trans (ret_int (by decide +kernel)), hf⟩
theorem seven_c (T : Nat) (w : World) (ht : IsTab w T) : Calls Try.prog 11 #[.pointer (some ⟨T, 0, none⟩), .int .u32 7, .slice none 0 0] w fun e w' => e = .returned (.int .u32 7) ∧ w = w' :=
  (more_c T 7#32 none 0 [] w ht (Lies.nil _ _) (by decide)).mono fun e w' ⟨he, hf⟩ => ⟨he.trans (ret_int (by decide +kernel)), hf⟩
theorem nought_c (T : Nat) (w : World) (ht : IsTab w T) : Calls Try.prog 12 #[.pointer (some ⟨T, 0, none⟩), .string ⟨#[]⟩, .slice none 0 0] w fun e w' => e = .returned (.int .u32 0) ∧ Fr (fun _ => False) w w' :=
  (chunk_c T ⟨#[]⟩ none 0 [] w ht (by decide) (Lies.nil _ _) (by decide)).mono fun e w' ⟨he, hf⟩ => ⟨he.trans (ret_int (by decide +kernel)), hf⟩
theorem one_c (w : World) : Calls Try.prog 17 #[.slice none 0 0] w fun e w' => e = .returned (.int .u32 1) ∧ w = w' :=
  (adler_c none 0 [] w (Lies.nil _ _) (by decide)).mono fun e w' ⟨he, hf⟩ => ⟨he.trans (ret_int (by decide +kernel)), hf⟩

set_option maxHeartbeats 400000 in
theorem known_c (w : World) : Calls Try.prog 8 #[] w fun e w' => e = .returned (.bool true) ∧ Fr (fun _ => False) w w' := by
  have hcv := conv22
  go_enter Try.func8, Try.ntmps8
  go_wp2_with fail
  refine (awake_c w).mono ?_
  rintro e w1 ⟨rfl, hf1⟩
  have Hf1 := hide hf1
  clear hf1
  go_wp2_with fail
  refine (new_c w1).mono ?_
  rintro e w2 ⟨T, rfl, ht, hf⟩
  have Ht := hide ht
  have Hf := hide (Hf1.out.join hf)
  clear ht hf Hf1
  go_wp2_with fail
  refine (nine_c _ T w2 9 Ht.out).mono ?_
  rintro e w3 ⟨rfl, rfl⟩
  have Ht3 := hide (Ht.out.keep (Fr.of_alloc w2 (.cells #[.int .u8 49, .int .u8 50, .int .u8 51, .int .u8 52, .int .u8 53, .int .u8 54, .int .u8 55, .int .u8 56, .int .u8 57] 5 (9, 10))) (fun h => h))
  have Hf3 := hide (Hf.out.join (Fr.of_alloc w2 (.cells #[.int .u8 49, .int .u8 50, .int .u8 51, .int .u8 52, .int .u8 53, .int .u8 54, .int .u8 55, .int .u8 56, .int .u8 57] 5 (9, 10))))
  clear Hf Ht
  generalize w2.alloc (.cells #[.int .u8 49, .int .u8 50, .int .u8 51, .int .u8 52, .int .u8 53, .int .u8 54, .int .u8 55, .int .u8 56, .int .u8 57] 5 (9, 10)) = w3 at *
  go_wp2_with fail
  refine (seven_c T w3 Ht3.out).mono ?_
  rintro e w4 ⟨rfl, rfl⟩
  go_wp2_with fail
  refine (nought_c T w3 Ht3.out).mono ?_
  rintro e w4 ⟨rfl, hf⟩
  have Hf4 := hide (Hf3.out.join hf)
  clear hf
  go_wp2_with fail
  refine (one_c w4).mono ?_
  rintro e w5 ⟨rfl, rfl⟩
  go_wp2_with fail
  refine (wiki_c _ w4 9).mono ?_
  rintro e w5 ⟨rfl, rfl⟩
  go_wp2
  go_ret
  exact ⟨rfl, Hf4.out.join (Fr.of_alloc _ _)⟩
end Go.Proofs.Ytgjbinbhmbgidaa
