/-
  chunk: words appended.
-/
import Derived.Test.YtflapcaaaipoeaaCp
namespace Go.Proofs.Ytflapcaaaipoeaa
open Go.RowKit Go.Lib
set_option linter.unusedVariables false

/-- A number as four bytes, highest first. -/
def wd4 (n : Nat) : List Nat := [n / 16777216 % 256, n / 65536 % 256, n / 256 % 256, n % 256]
theorem wd4_lt (n : Nat) : ∀ b ∈ wd4 n, b < 256 := by
  intro b hb
  simp only [wd4, List.mem_cons, List.not_mem_nil, or_false] at hb
  omega
theorem wd4_w32 {n : Nat} (h : n < 4294967296) (bs : List Nat) : w32 (wd4 n ++ bs) = n := by
  simp only [w32, wd4, List.getD_eq_getElem?_getD, List.cons_append, List.nil_append, List.getElem?_cons_zero, List.getElem?_cons_succ, Option.getD_some]
  omega

theorem u8w (z m : Nat) (h : z % 256 = m) : IntKind.u8.wrap (z : Int) = (m : Int) := by rw [IntKind.wrap_u8']; omega
theorem word_alloc (w : World) (c0 c1 c2 c3 : Nat) (h0 : c0 < 256) (h1 : c1 < 256) (h2 : c2 < 256) (h3 : c3 < 256) : Lies (w.alloc (.cells #[.int .u8 c0, .int .u8 c1, .int .u8 c2, .int .u8 c3] 5)) (some ⟨w.heap.size, 0, none⟩) [c0, c1, c2, c3] := by
  refine ⟨fun b hb => ?_, fun j hj => ⟨_, rfl, ?_⟩⟩
  · simp only [List.mem_cons, List.not_mem_nil, or_false] at hb
    omega
  · rw [add_none]
    simp only [World.cell?]
    rw [heap_alloc_new]
    match j, hj with
    | 0, _ => rfl
    | 1, _ => rfl
    | 2, _ => rfl
    | 3, _ => rfl

set_option maxHeartbeats 400000 in
theorem appendWord_c (v : Value) (bs : List Nat) (n : Nat) (base : Nat) (w : World) (ho : OwnB w base v bs) (hn : n < 4294967296) (hl : bs.length ≤ 1000000) (hbase : base ≤ w.heap.size) :
    Calls Try.prog 28 #[v, .int .u32 (n : Int)] w fun e w' => ∃ v', e = .returned v' ∧ OwnB w' base v' (bs ++ wd4 n) ∧ Fr (fun i => v.ownBlock = some i) w w' := by
  obtain ⟨a, c, rfl, hc, _, hob⟩ := ho.form
  obtain ⟨c0, e0⟩ : ∃ c0, c0 = n / 16777216 % 256 := ⟨_, rfl⟩
  obtain ⟨c1, e1⟩ : ∃ c1, c1 = n / 65536 % 256 := ⟨_, rfl⟩
  obtain ⟨c2, e2⟩ : ∃ c2, c2 = n / 256 % 256 := ⟨_, rfl⟩
  obtain ⟨c3, e3⟩ : ∃ c3, c3 = n % 256 := ⟨_, rfl⟩
  have hw : wd4 n = [c0, c1, c2, c3] := by rw [e0, e1, e2, e3]; rfl
  have k0 : IntKind.u8.wrap ((n : Int) / 16777216) = (c0 : Int) := by rw [IntKind.wrap_u8']; omega
  have k1 : IntKind.u8.wrap ((n : Int) / 65536) = (c1 : Int) := by rw [IntKind.wrap_u8']; omega
  have k2 : IntKind.u8.wrap ((n : Int) / 256) = (c2 : Int) := by rw [IntKind.wrap_u8']; omega
  have k3 : IntKind.u8.wrap (n : Int) = (c3 : Int) := by rw [IntKind.wrap_u8']; omega
  have hla := word_alloc w c0 c1 c2 c3 (by omega) (by omega) (by omega) (by omega)
  have HO := hide (ho.keep (Fr.of_alloc w (.cells #[.int .u8 c0, .int .u8 c1, .int .u8 c2, .int .u8 c3] 5)) (fun _ _ h => h))
  have HL := hide hla
  have HW := hide hw
  have h63 : Hid (bs.length + [c0, c1, c2, c3].length ≤ 140737488355328) := by show _ ≤ _; simp only [List.length_cons, List.length_nil]; omega
  have hbs : Hid (base ≤ (w.alloc (.cells #[.int .u8 c0, .int .u8 c1, .int .u8 c2, .int .u8 c3] 5)).heap.size) := by show _ ≤ _; simp; omega
  have Hob := hide hob
  clear e0 e1 e2 e3 hla hw ho hl hbase hob
  go_enter Try.func28, Try.ntmps28
  go_wp2_with (at_builtin; go_must (refine wpList_appBn rfl _ _ rfl base _ bs rfl HO.out (some ⟨w.heap.size, 0, none⟩) 4 4 [c0, c1, c2, c3] rfl rfl HL.out (fun h => by cases h) h63.out hbs.out ?_); intro v' w2 h1 h2)
  go_ret
  rw [HW.out]
  refine ⟨_, rfl, h1, ((Fr.of_alloc w _).trans h2).mono fun i hi h => ?_⟩
  rcases h with h | h
  · exact h.elim
  · exact h
end Go.Proofs.Ytflapcaaaipoeaa
