/-
  chunk: files cut; the law's awake.
-/
import Derived.Test.YtflapcaaaipoeaaCv
namespace Go.Proofs.Ytflapcaaaipoeaa
open Go.RowKit Go.Lib
set_option linter.unusedVariables false

theorem pl_all (l : List Ck) : pl l l.length = sigL ++ (l.map encL).flatten := by unfold pl; rw [List.take_length]
theorem start_ok {r : List Nat} (h : r.length + 8 ≤ 262144) : startE (sigL ++ r) = 0 := by
  unfold startE
  have e : (sigL ++ r).length = 8 + r.length := by simp [sigL]; omega
  rw [e, if_neg (by omega), if_neg (by omega), if_pos (take_app (show sigL.length = 8 from rfl))]
theorem cut_sig {r : List Nat} (h : r.length + 8 ≤ 262144) : cutV (sigL ++ r) = match runC (8 + r.length + 1) r with
    | .error e => .error e
    | .ok (l, q) => if 0 < q.length then .error 4 else .ok l := by
  have e : (sigL ++ r).length = 8 + r.length := by simp [sigL]; omega
  have e2 : (sigL ++ r).drop 8 = r := drop_app rfl
  unfold cutV
  rw [start_ok h, if_neg (by simp), e, e2]
  rfl

theorem cut_yes {l : List Ck} (hg : ∀ c ∈ l, GoodC c) (he : Ends l) (hn : (pl l l.length).length ≤ 262144) : cutV (pl l l.length) = .ok l := by
  rw [pl_all] at hn ⊢
  have e : (sigL ++ (l.map encL).flatten).length = 8 + ((l.map encL).flatten).length := by simp [sigL]; omega
  have := run_join l [] (8 + ((l.map encL).flatten).length + 1) hg he (by rw [List.append_nil]; omega)
  rw [List.append_nil] at this
  rw [cut_sig (by omega), this]
  rfl
theorem cut_more {l : List Ck} (x : Nat) (hg : ∀ c ∈ l, GoodC c) (he : Ends l) (hn : (pl l l.length).length + 1 ≤ 262144) : cutV (pl l l.length ++ [x]) = .error 4 := by
  rw [pl_all] at hn ⊢
  have e : (sigL ++ (l.map encL).flatten).length = 8 + ((l.map encL).flatten).length := by simp [sigL]; omega
  have e2 : ((l.map encL).flatten ++ [x]).length = ((l.map encL).flatten).length + 1 := by simp
  rw [List.append_assoc, cut_sig (by omega), run_join l [x] _ hg he (by omega)]
  rfl
theorem cut_take {l : List Ck} {m : Nat} (hg : ∀ c ∈ l, GoodC c) (he : Ends l) (hn : (pl l l.length).length ≤ 262144) (hm : m < (pl l l.length).length) : cutV ((pl l l.length).take m) = .error 2 := by
  rw [pl_all] at hn hm ⊢
  have e : (sigL ++ (l.map encL).flatten).length = 8 + ((l.map encL).flatten).length := by simp [sigL]; omega
  by_cases h8 : m < 8
  · have hl : ((sigL ++ (l.map encL).flatten).take m).length = m := by rw [List.length_take]; omega
    have hs : startE ((sigL ++ (l.map encL).flatten).take m) = 2 := by unfold startE; rw [hl, if_neg (by omega), if_pos h8]
    unfold cutV
    rw [hs, if_pos (by decide)]
  · have e3 : (sigL ++ (l.map encL).flatten).take m = sigL ++ ((l.map encL).flatten).take (m - 8) := by
      rw [List.take_append, show sigL.length = 8 from rfl, List.take_of_length_le (show sigL.length ≤ m by show 8 ≤ m; omega)]
    have hl : (((l.map encL).flatten).take (m - 8)).length = m - 8 := by rw [List.length_take]; omega
    rw [e3, cut_sig (by omega), run_take l (m - 8) _ hg he (by omega) (by omega)]
theorem cut_bad {l : List Ck} {c : Ck} (hc : GoodC c) (s4 : List Nat) (h4 : s4.length = 4) (hs : w32 s4 ≠ sumOf c.1 c.2) (hg : ∀ x ∈ l, GoodC x) (hn : ∀ x ∈ l, x.1 ≠ sIend) (hl : (sigL ++ ((l.map encL).flatten ++ (wd4 c.2.length ++ strBytes c.1 ++ c.2 ++ s4))).length ≤ 262144) :
    cutV (sigL ++ ((l.map encL).flatten ++ (wd4 c.2.length ++ strBytes c.1 ++ c.2 ++ s4))) = .error 5 := by
  rw [List.length_append, show sigL.length = 8 from rfl] at hl
  rw [cut_sig (by omega), run_bad hc s4 h4 hs l hg hn _ (by omega)]

/-- The law's three. -/
def l3 : List Ck := [(sHead, List.replicate 13 0), (sIdat, []), (sIend, [])]
theorem good3 : ∀ c ∈ l3, GoodC c := by
  intro c hc
  unfold l3 at hc
  simp only [List.mem_cons, List.not_mem_nil, or_false] at hc
  rcases hc with rfl | rfl | rfl
  · exact ⟨by decide +kernel, by decide, by decide⟩
  · exact ⟨by decide +kernel, by decide, by decide⟩
  · exact ⟨by decide +kernel, by decide, by decide⟩
theorem ends3 : Ends l3 := ⟨by decide, fun i hi => by
  have : i < 2 := by have := hi; simp [l3] at this; omega
  match i, this with
  | 0, _ => decide
  | 1, _ => decide, rfl⟩
theorem order3 : orderE l3 = 0 := by
  unfold orderE
  rw [if_pos (by decide +kernel)]
theorem kinds3 : kindsB l3 = true := by decide +kernel
theorem size3 : sizeL l3 = 57 := by decide
theorem join3 : joinV l3 = .ok (pl l3 3) := by
  unfold joinV
  rw [kinds3, if_neg (by simp), size3, if_pos (by decide)]
  rfl
theorem len3 : (pl l3 3).length = 57 := by
  have := pl_length kinds3 3 (by decide)
  rw [this]; decide
theorem cut3 : cutV (pl l3 3) = .ok l3 := cut_yes good3 ends3 (by show (pl l3 3).length ≤ _; rw [len3]; decide)

theorem makeK (n : Nat) (hn : n ≤ 5000000) : ∃ zs : Array Value, (∀ W : World, (Instr.makeSlice 22 (.int .i64 (n : Int)) (.int .i64 (n : Int))).run Try.prog W = .ok (.slice (some ⟨W.heap.size, 0, none⟩) n n) (W.alloc (.cells zs 5))) ∧ zs.size = n ∧ ∀ i, i < n → zs[i]? = some (.int .u8 0) := by
  obtain ⟨i0, hi, hz0, hz1, hz2⟩ := info_parts Try.info5
  refine ⟨madeCells (Value.int .u8 0).cells (n * 1), fun W => ?_, by simp [size_madeCells], fun i hi => ?_⟩
  · have := run_make (P := Try.prog) W 22 5 i0 (.int .u8 0) Try.underlying22 hi hz0 .i64 .i64 n n (by omega) (Int.le_refl _) (by rw [hz2]; omega) (by omega)
    rw [hz1] at this
    simpa using this
  · simp [madeCells, hi, Value.cells, Nat.mod_one]

theorem lies3 (w : World) (zs : Array Value) (hz : ∀ i, i < 13 → zs[i]? = some (.int .u8 0)) : LiesC ((w.alloc (.cells zs 5)).alloc (.cells #[.string sHead, .slice (some ⟨w.heap.size, 0, none⟩) 13 13, .string sIdat, .slice none 0 0, .string sIend, .slice none 0 0] 51)) (some ⟨w.heap.size + 1, 0, none⟩) l3 := by
  have hA := heap_alloc_new (w.alloc (.cells zs 5)) (.cells #[.string sHead, .slice (some ⟨w.heap.size, 0, none⟩) 13 13, .string sIdat, .slice none 0 0, .string sIend, .slice none 0 0] 51)
  have e : (w.alloc (.cells zs 5)).heap.size = w.heap.size + 1 := by simp
  rw [e] at hA
  have hB : ((w.alloc (.cells zs 5)).alloc (.cells #[.string sHead, .slice (some ⟨w.heap.size, 0, none⟩) 13 13, .string sIdat, .slice none 0 0, .string sIend, .slice none 0 0] 51)).heap[w.heap.size]? = some (.cells zs 5 (0, 0)) := by
    rw [Below.heap_alloc _ _ _ (by simp)]; exact heap_alloc_new _ _
  intro i hi
  have hi3 : i < 3 := hi
  match i, hi3 with
  | 0, _ =>
    refine ⟨w.heap.size + 1, 0, some ⟨w.heap.size, 0, none⟩, 13, rfl, ⟨?_, ?_, ⟨?_, ?_⟩, fun h => (by cases h), ?_, ?_, ?_⟩⟩
    · simp only [World.cell?]; rw [hA]; rfl
    · simp only [World.cell?]; rw [hA]; rfl
    · intro b hb; have : b = 0 := List.eq_of_mem_replicate (show b ∈ List.replicate 13 0 from hb); omega
    · intro j hj
      have hj13 : j < 13 := hj
      refine ⟨_, rfl, ?_⟩
      rw [add_none]
      simp only [World.cell?]
      rw [hB, Nat.zero_add]
      show zs[j]? = _
      rw [hz j hj13]
      have : ((l3.getD 0 default).2).getD j 0 = 0 := by
        show (List.replicate 13 0).getD j 0 = 0
        rw [List.getD_eq_getElem?_getD, List.getElem?_replicate]
        split <;> rfl
      rw [this]; rfl
    · show sHead.size ≤ _; decide
    · show 13 ≤ _; decide
    · show 13 ≤ 13; decide
  | 1, _ =>
    refine ⟨w.heap.size + 1, 0, none, 0, rfl, ⟨?_, ?_, Lies.nil _ _, fun _ => ⟨rfl, rfl⟩, ?_, ?_, ?_⟩⟩
    · simp only [World.cell?]; rw [hA]; rfl
    · simp only [World.cell?]; rw [hA]; rfl
    · show sIdat.size ≤ _; decide
    · show 0 ≤ _; decide
    · show 0 ≤ 0; decide
  | 2, _ =>
    refine ⟨w.heap.size + 1, 0, none, 0, rfl, ⟨?_, ?_, Lies.nil _ _, fun _ => ⟨rfl, rfl⟩, ?_, ?_, ?_⟩⟩
    · simp only [World.cell?]; rw [hA]; rfl
    · simp only [World.cell?]; rw [hA]; rfl
    · show sIend.size ≤ _; decide
    · show 0 ≤ _; decide
    · show 0 ≤ 0; decide

set_option maxHeartbeats 1600000 in
set_option maxRecDepth 20000 in
theorem awake_c (w : World) : Calls Try.prog 7 #[] w fun e w' => e = .returned (.bool true) ∧ Fr (fun _ => False) w w' := by
  obtain ⟨zs, hmk, hzs, hz0⟩ := makeK 13 (by decide)
  have hmk2 : ∀ W : World, (Instr.makeSlice 22 (.int .i64 13) (.int .i64 13)).run Try.prog W = .ok (.slice (some ⟨W.heap.size, 0, none⟩) 13 13) (W.alloc (.cells zs 5)) := hmk
  have hl := lies3 w zs hz0
  have HL := hide hl
  have hf1 : Fr (fun _ => False) w ((w.alloc (.cells zs 5)).alloc (.cells #[.string sHead, .slice (some ⟨w.heap.size, 0, none⟩) 13 13, .string sIdat, .slice none 0 0, .string sIend, .slice none 0 0] 51)) := (Fr.of_alloc _ _).join (Fr.of_alloc _ _)
  have HF := hide hf1
  have hj := join_c (some ⟨w.heap.size + 1, 0, none⟩) 3 l3 _ hl (by decide)
  have HJ := hide hj
  have hcr1 := critical_c ⟨#[73, 68, 65, 84]⟩
  have hcr2 := critical_c ⟨#[116, 82, 78, 83]⟩
  rw [show critB ⟨#[73, 68, 65, 84]⟩ = true by decide +kernel] at hcr1
  rw [show critB ⟨#[116, 82, 78, 83]⟩ = false by decide +kernel] at hcr2
  have hs1 : (⟨#[73, 68, 65, 84]⟩ : ByteArray).size ≤ maxLen := by decide
  have hs2 : (⟨#[116, 82, 78, 83]⟩ : ByteArray).size ≤ maxLen := by decide
  clear hl hf1 hj hzs hz0
  go_enter Try.func7, Try.ntmps7
  go_wp2_with fail
  refine HJ.out.mono ?_
  rintro e w1 ⟨hout, hf2⟩
  unfold JoinOut at hout
  rw [join3] at hout
  obtain ⟨v, rfl, ho⟩ := hout
  obtain ⟨va, vc, hv, hvc, hvn, _⟩ := ho.form
  rw [len3] at hv
  subst hv
  have hct := cut_c va vc (pl l3 3) w1 ho.lies hvc (by
    rcases ho.own with ⟨hv, _⟩ | ⟨g, cap, cur, fz, hv, _, _, _, _, hm, _⟩
    · cases hv
    · cases hv; exact hm)
  rw [len3] at hct
  have HC := hide hct
  have HF1 := hide (HF.out.join hf2)
  clear hct hf2 HJ HF HL ho hvc hvn
  go_wp2_with fail
  refine HC.out.mono ?_
  rintro e w2 ⟨hout, hf3⟩
  unfold CutOut at hout
  rw [cut3] at hout
  obtain ⟨v, rfl, ho⟩ := hout
  obtain ⟨⟨xa, xc, hx, hxc, _, _⟩, _⟩ := ho.form
  rw [show l3.length = 3 from rfl] at hx hxc
  subst hx
  have HO := hide ho
  have hli := ho.lies
  have HLi := hide hli
  obtain ⟨b, o, d, cap, rfl, hck⟩ := hli 1 (by decide)
  have hk1 := hck.kind
  rw [show (l3.getD 1 default).1 = sIdat from rfl] at hk1
  have hor := order_c (some ⟨b, o, none⟩) xc l3 w2 HLi.out (by decide) hxc
  rw [order3, show l3.length = 3 from rfl] at hor
  have HOR := hide hor
  have HF2 := hide (HF1.out.join hf3)
  have hbe : (sIdat.toList == [73, 68, 65, 84]) = true := by rw [eqL]; rfl
  generalize sIdat = sd at hk1 hbe
  clear hor hf3 HF1 hck hli ho HC hmk hmk2
  go_wp2_with fail
  refine HOR.out.mono ?_
  rintro e w3 ⟨rfl, hf4⟩
  have HF3 := hide (HF2.out.join hf4)
  clear hf4 HF2 HOR
  go_wp2_with fail
  refine (hcr1 _ hs1).mono ?_
  rintro e w4 ⟨rfl, rfl⟩
  go_wp2_with fail
  refine (hcr2 _ hs2).mono ?_
  rintro e w4 ⟨rfl, rfl⟩
  go_wp2
  go_ret
  exact ⟨rfl, HF3.out⟩
end Go.Proofs.Ytflapcaaaipoeaa
