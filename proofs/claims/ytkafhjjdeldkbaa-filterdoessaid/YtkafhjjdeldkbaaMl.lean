/-
  filter: the law's cost, its closure, its awake.
-/
import Derived.Test.YtkafhjjdeldkbaaMk
namespace Go.Proofs.Ytkafhjjdeldkbaa
open Go.RowKit Go.Lib
set_option linter.unusedVariables false

theorem min_abs (b : Nat) (h : b < 256) : (if 256 - (b : Int) < (b : Int) then 256 - (b : Int) else (b : Int)) = ((absV b : Nat) : Int) := by
  unfold absV
  split <;> split <;> omega

set_option maxHeartbeats 1600000 in
theorem cost_c (kind back : Nat) (a a2 : Option Addr) (c c2 : Nat) (xs ys : List Nat) (w : World) (hk : kind ≤ 4) (hb : 1 ≤ back ∧ back ≤ 8) (hx : Lies w a xs) (hn : a = none → c = 0 ∧ xs = []) (hy : Lies w a2 ys) (hm : ys.length = 0 ∨ ys.length = xs.length) (hl : xs.length ≤ 4000) :
    Calls Try.prog 17 #[.int .i64 (kind : Int), .slice a xs.length c, .slice a2 ys.length c2, .int .i64 (back : Int)] w fun e w' => e = .returned (.int .i64 ((costV (doV kind xs ys back) : Nat) : Int)) ∧ Fr (fun _ => False) w w' := by
  have HC := hide (rdo_yes kind back a a2 c c2 xs ys w hk hb hx hn hy hm hl)
  have hD := doV_length kind xs ys back
  have hDn : (doV kind xs ys back).length ≤ 4000 := by omega
  have HDl := hide hD
  have Hlt := hide (doV_lt kind xs ys back)
  clear hx hn hy hm hk hb hD
  generalize doV kind xs ys back = D at *
  go_enter Try.func17, Try.ntmps17
  go_wp2_with fail
  refine (HC.out).mono ?_
  rintro e w1 ⟨v, rfl, ho, hf1⟩
  obtain ⟨va, vc, rfl, _⟩ := ho.form
  have HLD := hide ho.lies
  have HF1 := hide hf1
  clear ho hf1
  go_wp2
  go_loopw [11, 12] (fun s i wr => ∃ (q z : Nat), q ≤ D.length ∧ i = .int .i64 q ∧ s = .int .i64 (z : Int) ∧ Hid (z = costV (D.take q)) ∧ Fr (fun _ => False) w1 wr) (fun _ i _ => D.length - (intOf i).toNat)
  case atStart => exact ⟨0, 0, by omega, rfl, rfl, rfl, Fr.refl _ _⟩
  case round =>
    obtain ⟨q, z, hq, rfl, rfl, Hz, hf⟩ := hrel
    have HF := hide hf
    have hz : z ≤ 512000 := by rw [Hz.out]; exact cost_take_le Hlt.out hDn q
    clear hf
    by_cases hlq : q < D.length
    · obtain ⟨ad, rfl, hck0⟩ := HLD.out.2 q hlq
      have hck := cell_fr HF.out hck0 (fun h => h)
      have hbk : D.getD q 0 < 256 := Hlt.out _ (getD_mem D q hlq)
      have HT := hide (cost_snoc D q hlq)
      clear hck0
      generalize D.getD q 0 = b at hck hbk HT
      have hmin := min_abs b hbk
      have habs := abs_le hbk
      generalize absV b = av at *
      have q0 : (0 : Int) ≤ (q : Int) := by omega
      have q1 : (q : Int) < (D.length : Int) := by omega
      go_wp2
      go_region
      all_goals
        go_wp2
        go_roundw
        case rel => exact ⟨q + 1, z + av, by omega, by go_num, by go_num, by show _ = _; rw [HT.out, Hz.out], HF.out.join (Fr.of_drewN wr 1)⟩
        case measure => simp [intOf]; omega
    · go_wp2
      go_ret
      rw [List.take_of_length_le (by omega)] at Hz
      exact ⟨ret_int (by rw [Hz.out]), HF1.out.join HF.out⟩

theorem bytes_ne {a b : ByteArray} (h : a ≠ b) : (a.toList == b.toList) = false := by
  rw [ByteArray.toList_eq, ByteArray.toList_eq]
  rw [beq_eq_false_iff_ne]
  intro e
  apply h
  cases a; cases b
  simp at e
  simp [e]
theorem eqB (k s : ByteArray) : (k.toList == s.toList) = decide (k = s) := by
  by_cases h : k = s
  · subst h; simp
  · rw [bytes_ne h]; simp [h]
theorem eqL (k : ByteArray) (L : List UInt8) : (k.toList == L) = decide (k = ⟨L.toArray⟩) := by
  rw [← eqB]
  congr 1
  rw [ByteArray.toList_eq]

/-- The law's closure: how far a byte is from what is foretold. -/
theorem clos_c (x a b c p q r : Nat) (w : World) (hx : x < 256) (ha : a < 256) (hb : b < 256) (hc : c < 256) (h1 : w.cell? ⟨p, 0, none⟩ = some (.int .u8 (a : Int))) (h2 : w.cell? ⟨q, 0, none⟩ = some (.int .u8 (b : Int))) (h3 : w.cell? ⟨r, 0, none⟩ = some (.int .u8 (c : Int))) :
    Calls Try.prog 15 #[.int .u8 (x : Int), .pointer (some ⟨p, 0, none⟩), .pointer (some ⟨q, 0, none⟩), .pointer (some ⟨r, 0, none⟩)] w fun e w' => e = .returned (.int .i64 (dist ((a : Int) + b - c) x)) ∧ w = w' := by
  go_enter Try.func15, Try.ntmps15
  go_wp2
  all_goals
    go_ret
    refine ⟨ret_int ?_, rfl⟩
    unfold dist
    split <;> omega

theorem three_alloc (w : World) (x y z : Nat) (hx : x < 256) (hy : y < 256) (hz : z < 256) : Lies (w.alloc (.cells #[.int .u8 (x : Int), .int .u8 (y : Int), .int .u8 (z : Int)] 5)) (some ⟨w.heap.size, 0, none⟩) [x, y, z] := by
  refine ⟨fun b hb => ?_, fun j hj => ⟨_, rfl, ?_⟩⟩
  · simp at hb
    rcases hb with rfl | rfl | rfl <;> assumption
  · rw [add_none]
    simp only [World.cell?]
    rw [heap_alloc_new]
    match j, hj with
    | 0, _ => rfl
    | 1, _ => rfl
    | 2, _ => rfl

theorem awake_do (w : World) : Calls Try.prog 8 #[.int .i64 4, .slice (some ⟨w.heap.size, 0, none⟩) 3 3, .slice (some ⟨w.heap.size + 1, 0, none⟩) 3 3, .int .i64 1] ((w.alloc (.cells #[.int .u8 9, .int .u8 8, .int .u8 7] 5)).alloc (.cells #[.int .u8 1, .int .u8 2, .int .u8 3] 5))
    fun e w' => ∃ v, e = .returned (.tuple #[v, .bool true]) ∧ OwnB w' w.heap.size v (doV 4 [9, 8, 7] [1, 2, 3] 1) ∧ Fr (fun _ => False) w w' := by
  have hA := three_alloc w 9 8 7 (by decide) (by decide) (by decide)
  have hB := three_alloc (w.alloc (.cells #[.int .u8 ((9 : Nat) : Int), .int .u8 ((8 : Nat) : Int), .int .u8 ((7 : Nat) : Int)] 5)) 1 2 3 (by decide) (by decide) (by decide)
  have hf := (Fr.of_alloc w (.cells #[.int .u8 ((9 : Nat) : Int), .int .u8 ((8 : Nat) : Int), .int .u8 ((7 : Nat) : Int)] 5)).join (Fr.of_alloc _ (.cells #[.int .u8 ((1 : Nat) : Int), .int .u8 ((2 : Nat) : Int), .int .u8 ((3 : Nat) : Int)] 5))
  have h := do_yes 4 1 _ _ 3 3 [9, 8, 7] [1, 2, 3] _ (by decide) (by decide) (hA.keep (Fr.of_alloc _ _) (fun _ _ h => h)) hB (by decide) (by decide)
  have e : ∀ o : Obj, (w.alloc o).heap.size = w.heap.size + 1 := fun o => by simp
  rw [e] at h
  exact h.mono (fun e w' ⟨v, h1, h2, h3⟩ => ⟨v, h1, h2.base hf.size, hf.join h3⟩)
theorem awake_undo (w : World) (a : Option Addr) (c base : Nat) (ho : OwnB w base (.slice a 3 c) (doV 4 [9, 8, 7] [1, 2, 3] 1)) : Calls Try.prog 10 #[.int .i64 4, .slice a 3 c, .slice (some ⟨w.heap.size, 0, none⟩) 3 3, .int .i64 1] (w.alloc (.cells #[.int .u8 1, .int .u8 2, .int .u8 3] 5))
    fun e w' => ∃ v, e = .returned (.tuple #[v, .bool true]) ∧ OwnB w' w.heap.size v [9, 8, 7] ∧ Fr (fun _ => False) w w' := by
  have hB := three_alloc w 1 2 3 (by decide) (by decide) (by decide)
  have hf := Fr.of_alloc w (.cells #[.int .u8 ((1 : Nat) : Int), .int .u8 ((2 : Nat) : Int), .int .u8 ((3 : Nat) : Int)] 5)
  have hl : (doV 4 [9, 8, 7] [1, 2, 3] 1).length = 3 := doV_length _ _ _ _
  have h := undo_yes 4 1 a _ c 3 (doV 4 [9, 8, 7] [1, 2, 3] 1) [1, 2, 3] _ (by decide) (by decide) (ho.lies.keep hf (fun _ _ h => h)) hB (.inr hl.symm) (by rw [hl]; decide)
  rw [hl, undo_do 4 1 (by decide) (by decide) (by decide)] at h
  exact h.mono (fun e w' ⟨v, h1, h2, h3⟩ => ⟨v, h1, h2.base hf.size, hf.join h3⟩)

set_option maxHeartbeats 1600000 in
theorem awake_c (w : World) : Calls Try.prog 7 #[] w fun e w' => e = .returned (.bool true) ∧ Fr (fun _ => False) w w' := by
  have HD := hide (awake_do w)
  have HU := hide awake_undo
  have hl : (doV 4 [9, 8, 7] [1, 2, 3] 1).length = 3 := doV_length _ _ _ _
  have HL := hide hl
  clear hl
  generalize doV 4 [9, 8, 7] [1, 2, 3] 1 = D at *
  go_enter Try.func7, Try.ntmps7
  go_wp2_with fail
  refine HD.out.mono ?_
  rintro e w1 ⟨v, rfl, ho, hf1⟩
  obtain ⟨va, vc, rfl, _⟩ := ho.form
  rw [HL.out] at ho ⊢
  have HU1 := hide (HU.out w1 va vc _ ho)
  have HF1 := hide hf1
  clear ho hf1 HU HD
  go_wp2_with fail
  refine HU1.out.mono ?_
  rintro e w2 ⟨v, rfl, ho, hf2⟩
  obtain ⟨va2, vc2, rfl, _⟩ := ho.form
  have hcv := conv_str vc2 ho.lies
  rw [show ([9, 8, 7] : List Nat).length = 3 from rfl] at hcv ⊢
  have hbe : ((strOf [9, 8, 7]).toList == [9, 8, 7]) = true := by rw [eqL]; rfl
  generalize strOf [9, 8, 7] = st at *
  have hp := paeth_c 1 5 3 w2 (by decide) (by decide) (by decide)
  rw [show paethV 1 5 3 = 3 by decide +kernel] at hp
  have hp2 : Calls Try.prog 14 #[.int .u8 1, .int .u8 5, .int .u8 3] w2 fun e w' => e = .returned (.int .u8 3) ∧ w2 = w' := hp
  have HP := hide hp2
  have HF2 := hide (HF1.out.join hf2)
  clear ho hf2 hp hp2 HF1 HU1
  go_wp2_with fail
  refine HP.out.mono ?_
  rintro e w3 ⟨rfl, rfl⟩
  go_wp2
  go_ret
  exact ⟨rfl, HF2.out⟩
end Go.Proofs.Ytkafhjjdeldkbaa
