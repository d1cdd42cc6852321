/-
  lzw: Write of what may not be written; LzwKnown.
-/
import Derived.Test.YtdbgolklgiadeaaYo
namespace Go.Proofs.Ytdbgolklgiadeaa
open Go.RowKit

set_option maxHeartbeats 800000 in
set_option maxRecDepth 100000 in
/-- A size that may not be. -/
theorem write_size (a : Option Addr) (n c : Nat) (s : Int) (w : World) (hs : s < 2 ∨ 8 < s) :
    Calls Try.prog 19 #[.slice a n c, .int .i64 s] w fun e w' => e = .returned (.tuple #[.slice none 0 0, .int .i64 1]) ∧ w = w' := by
  have Hs := hide (sizeMay_no s hs w)
  clear hs
  go_enter Try.func19, Try.ntmps19
  go_wp2_with fail
  refine Hs.out.mono ?_
  rintro e w1 ⟨rfl, rfl⟩
  go_wp2
  go_ret2
  exact ⟨rfl, rfl⟩

set_option maxHeartbeats 800000 in
set_option maxRecDepth 100000 in
/-- Values that are too great. -/
theorem write_great (a : Option Addr) (c : Nat) (bs : List Nat) (k : Nat) (w : World) (hk : 2 ≤ k ∧ k ≤ 8) (h : Lies w (.slice a bs.length c) bs) (hb : ∀ b ∈ bs, b < 256) (hlen : bs.length ≤ 2147483648) (hbk : ¬ ∀ b ∈ bs, b < 2 ^ k) :
    Calls Try.prog 19 #[.slice a bs.length c, .int .i64 (k : Int)] w fun e w' => e = .returned (.tuple #[.slice none 0 0, .int .i64 1]) ∧ w = w' := by
  have Hs := hide (sizeMay_ok k hk w)
  obtain ⟨P, hP⟩ : ∃ P, P = 2 ^ k := ⟨_, rfl⟩
  have hPi : (2 : Int) ^ k = (P : Int) := by rw [hP]; simp
  have hPb : P ≤ 256 := by rw [hP]; exact pow_le k hk.2
  have Ha := hide (allBelow_c a c bs P w h hb hlen)
  have hall : decide (∀ b ∈ bs, b < P) = false := decide_eq_false (by rw [hP]; exact hbk)
  rw [hall] at Ha
  have hk0 : ¬ (k : Int) < 0 := by omega
  clear h hb hbk hP hall
  go_enter Try.func19, Try.ntmps19
  go_wp2_with fail
  refine Hs.out.mono ?_
  rintro e w1 ⟨rfl, rfl⟩
  go_wp2_with fail
  refine Ha.out.mono ?_
  rintro e w1 ⟨rfl, rfl⟩
  go_wp2
  go_ret2
  exact ⟨rfl, rfl⟩

set_option maxHeartbeats 800000 in
set_option maxRecDepth 100000 in
/-- More values than may be. -/
theorem write_long (a : Option Addr) (c : Nat) (bs : List Nat) (k n : Nat) (w : World) (hn : n = bs.length) (hk : 2 ≤ k ∧ k ≤ 8) (h : Lies w (.slice a bs.length c) bs) (hb : ∀ b ∈ bs, b < 256) (hlen : bs.length ≤ 2147483648) (hbk : ∀ b ∈ bs, b < 2 ^ k) (hl : 1048576 < bs.length) :
    Calls Try.prog 19 #[.slice a n c, .int .i64 (k : Int)] w fun e w' => e = .returned (.tuple #[.slice none 0 0, .int .i64 3]) ∧ w = w' := by
  have Hs := hide (sizeMay_ok k hk w)
  obtain ⟨P, hP⟩ : ∃ P, P = 2 ^ k := ⟨_, rfl⟩
  have hPi : (2 : Int) ^ k = (P : Int) := by rw [hP]; simp
  have hPb : P ≤ 256 := by rw [hP]; exact pow_le k hk.2
  have Ha := hide (allBelow_c a c bs P w h hb hlen)
  have hall : decide (∀ b ∈ bs, b < P) = true := decide_eq_true (by rw [hP]; exact hbk)
  rw [hall, ← hn] at Ha
  have hk0 : ¬ (k : Int) < 0 := by omega
  have hbig : (1048576 : Int) < (n : Int) := by omega
  clear h hb hbk hP hall hn hl hlen
  go_enter Try.func19, Try.ntmps19
  go_wp2_with fail
  refine Hs.out.mono ?_
  rintro e w1 ⟨rfl, rfl⟩
  go_wp2_with fail
  refine Ha.out.mono ?_
  rintro e w1 ⟨rfl, rfl⟩
  go_wp2
  go_ret2
  exact ⟨rfl, rfl⟩

theorem makeB (n : Nat) (hn : n ≤ 5000000) : ∀ W : World, (Instr.makeSlice 22 (.int .i64 (n : Int)) (.int .i64 (n : Int))).run Try.prog W = .ok (.slice (some ⟨W.heap.size, 0, none⟩) n n) (W.alloc (.cells (cellsOf (List.replicate n 0)).toArray 5)) := by
  obtain ⟨i0, hi, hz0, hz1, hz2⟩ := info_parts Try.info5
  intro W
  have := run_make (P := Try.prog) W 22 5 i0 (.int .u8 0) Try.underlying22 hi hz0 .i64 .i64 n n (by omega) (Int.le_refl _) (by rw [hz2]; omega) (by omega)
  rw [hz1] at this
  have e : madeCells (Value.int .u8 0).cells (n * 1) = (cellsOf (List.replicate n 0)).toArray := by
    apply Array.ext'
    rw [Nat.mul_one]
    show (madeCells #[.int .u8 0] n).toList = _
    rw [toList_madeCells_one]
    simp [cellsOf]
  rw [← e]
  simpa using this

theorem known_1 : ReadOk [140, 10] 1 9 (.error 1) := Or.inl ⟨by decide, rfl⟩
theorem known_2 : ReadOk [140, 10] 9 9 (.error 1) := Or.inl ⟨by decide, rfl⟩
theorem known_3 : ReadOk [140, 10] 2 (-1) (.error 1) := Or.inl ⟨by decide, rfl⟩
theorem known_4 : ReadOk [140, 10] 2 1 (.error 6) := by
  refine Or.inr ⟨by decide, by decide, by decide, ?_⟩
  show ZRuns (leNum [140, 10]) 16 2 1 zinit (.error 6)
  refine .clear (by decide) (by decide) ?_
  refine .row (x := [1]) (by decide) (by decide) (by decide) (by decide) (by decide) ?_
  exact .full (x := [2]) (by decide) (by decide) (by decide) (by decide) (by decide)
theorem known_5 : ReadOk [140] 2 9 (.error 2) := by
  refine Or.inr ⟨by decide, by decide, by decide, ?_⟩
  show ZRuns (leNum [140]) 8 2 9 zinit (.error 2)
  refine .clear (by decide) (by decide) ?_
  refine .row (x := [1]) (by decide) (by decide) (by decide) (by decide) (by decide) ?_
  exact .short (by decide)
theorem known_6 : ReadOk [5] 2 0 (.ok []) := by
  refine Or.inr ⟨by decide, by decide, by decide, ?_⟩
  show ZRuns (leNum [5]) 8 2 0 zinit (.ok [])
  exact .fin (by decide) (by decide)
theorem known_7 : ReadOk [6] 2 9 (.error 4) := by
  refine Or.inr ⟨by decide, by decide, by decide, ?_⟩
  show ZRuns (leNum [6]) 8 2 9 zinit (.error 4)
  exact .form (by decide) (by decide) (by decide) (by decide)

set_option maxHeartbeats 3200000 in
set_option maxRecDepth 100000 in
theorem known_c (w : World) : Calls Try.prog 10 #[] w fun e w' => e = .returned (.bool true) ∧ Fr (fun _ => False) w w' := by
  have hmk := makeB 1048577 (by omega)
  obtain ⟨Zs0, hZs⟩ : ∃ l, l = List.replicate 1048577 0 := ⟨_, rfl⟩
  have hZl : Hid (Zs0.length = 1048577) := by show _ = _; rw [hZs, List.length_replicate]
  have hZb : Hid (∀ b ∈ Zs0, b = 0) := by intro b hb; rw [hZs] at hb; exact List.eq_of_mem_replicate hb
  obtain ⟨zs, hzs⟩ : ∃ zs, zs = (cellsOf Zs0).toArray := ⟨_, rfl⟩
  rw [← hZs, ← hzs] at hmk
  have hmk2 : ∀ W : World, (Instr.makeSlice 22 (.int .i64 1048577) (.int .i64 1048577)).run Try.prog W = .ok (.slice (some ⟨W.heap.size, 0, none⟩) 1048577 1048577) (W.alloc (.cells zs 5)) := hmk
  have Hzs := hide hzs
  clear hmk hzs hZs
  go_enter Try.func10, Try.ntmps10
  go_wp2_with fail
  refine (awake_c w).mono ?_
  rintro e w0 ⟨rfl, hF0⟩
  have HF0 := hide hF0
  clear hF0
  go_wp2_with fail
  refine (calls_args (read_lit [140, 10] 1 9 _ known_1 w0 _ rfl 2 2 w0.heap.size rfl rfl (by decide) (by decide) (by decide)) (by rfl)).mono ?_
  rintro e w1 ⟨a1, c1, rfl, _, hF1⟩
  have HF1 := hide (HF0.out.join hF1)
  clear hF1
  simp only [outZ, errZ, List.length_nil]
  go_wp2_with fail
  refine (calls_args (read_lit [140, 10] 9 9 _ known_2 w1 _ rfl 2 2 w1.heap.size rfl rfl (by decide) (by decide) (by decide)) (by rfl)).mono ?_
  rintro e w2 ⟨a2, c2, rfl, _, hF2⟩
  have HF2 := hide (HF1.out.join hF2)
  clear hF2
  simp only [outZ, errZ, List.length_nil]
  go_wp2_with fail
  refine (calls_args (read_lit [140, 10] 2 (-1) _ known_3 w2 _ rfl 2 2 w2.heap.size rfl rfl (by decide) (by decide) (by decide)) (by rfl)).mono ?_
  rintro e w3 ⟨a3, c3, rfl, _, hF3⟩
  have HF3 := hide (HF2.out.join hF3)
  clear hF3
  simp only [outZ, errZ, List.length_nil]
  go_wp2_with fail
  refine (calls_args (read_lit [140, 10] 2 1 _ known_4 w3 _ rfl 2 2 w3.heap.size rfl rfl (by decide) (by decide) (by decide)) (by rfl)).mono ?_
  rintro e w4 ⟨a4, c4, rfl, _, hF4⟩
  have HF4 := hide (HF3.out.join hF4)
  clear hF4
  simp only [outZ, errZ, List.length_nil]
  go_wp2_with fail
  refine (calls_args (read_lit [140] 2 9 _ known_5 w4 _ rfl 1 1 w4.heap.size rfl rfl (by decide) (by decide) (by decide)) (by rfl)).mono ?_
  rintro e w5 ⟨a5, c5, rfl, _, hF5⟩
  have HF5 := hide (HF4.out.join hF5)
  clear hF5
  simp only [outZ, errZ, List.length_nil]
  go_wp2_with fail
  refine (calls_args (read_lit [5] 2 0 _ known_6 w5 _ rfl 1 1 w5.heap.size rfl rfl (by decide) (by decide) (by decide)) (by rfl)).mono ?_
  rintro e w6 ⟨a6, c6, rfl, _, hF6⟩
  have HF6 := hide (HF5.out.join hF6)
  clear hF6
  simp only [outZ, errZ, List.length_nil]
  go_wp2_with fail
  refine (calls_args (read_lit [6] 2 9 _ known_7 w6 _ rfl 1 1 w6.heap.size rfl rfl (by decide) (by decide) (by decide)) (by rfl)).mono ?_
  rintro e w7 ⟨a7, c7, rfl, _, hF7⟩
  have HF7 := hide (HF6.out.join hF7)
  clear hF7
  simp only [outZ, errZ, List.length_nil]
  go_wp2_with fail
  obtain ⟨v8, hv8⟩ : ∃ v, v = w7.alloc (.cells (cellsOf [4]).toArray 5) := ⟨_, rfl⟩
  have HF8 : Hid (Fr (fun _ => False) w v8) := by rw [hv8]; exact HF7.out.join (Fr.of_alloc _ _)
  refine (calls_args (write_great (some ⟨w7.heap.size, 0, none⟩) 1 [4] 2 (w7.alloc (.cells (cellsOf [4]).toArray 5)) (by decide) (lies_lit w7 [4] 1) (by decide) (by decide) (by decide)) (by rfl)).mono ?_
  rintro e w8 ⟨rfl, rfl⟩
  rw [← hv8]
  clear hv8
  go_wp2_with fail
  obtain ⟨v9, hv9⟩ : ∃ v, v = v8.alloc (.cells zs 5) := ⟨_, rfl⟩
  have HF9 : Hid (Fr (fun _ => False) w v9) := by rw [hv9]; exact HF8.out.join (Fr.of_alloc _ _)
  have HL9 : Hid (Lies v9 (.slice (some ⟨v8.heap.size, 0, none⟩) Zs0.length 1048577) Zs0) := by rw [hv9, Hzs.out]; exact lies_lit v8 Zs0 1048577
  rw [← hv9]
  obtain ⟨D9, hD9⟩ : ∃ D, D = v8.heap.size := ⟨_, rfl⟩
  rw [← hD9] at HL9 ⊢
  clear hv9 hmk2 hD9
  refine (calls_args (write_long (some ⟨D9, 0, none⟩) 1048577 Zs0 8 1048577 v9 hZl.out.symm (by decide) HL9.out (fun b hb => by rw [hZb.out b hb]; decide) (by rw [hZl.out]; decide) (fun b hb => by rw [hZb.out b hb]; decide) (by rw [hZl.out]; decide)) (by rfl)).mono ?_
  rintro e w9 ⟨rfl, rfl⟩
  go_wp2_with fail
  refine (calls_args (newReader_no (.slice none 0 0) 1 1 v9 ⟨none, 0, 0, rfl⟩ (by decide)) (by rfl)).mono ?_
  rintro e w10 ⟨M, rfl, hD, _, hF10⟩
  have Hdone := hide (doneR_c M true w10 hD.cells.1)
  have Herr := hide (errR_c M 1 w10 hD.cells.2)
  have HF10 := hide (HF9.out.join hF10)
  clear hD hF10
  go_wp2_with fail
  refine (calls_args Hdone.out (by rfl)).mono ?_
  rintro e w11 ⟨rfl, rfl⟩
  go_wp2_with fail
  refine (calls_args Herr.out (by rfl)).mono ?_
  rintro e w12 ⟨rfl, rfl⟩
  go_wp2
  go_ret
  exact ⟨rfl, HF10.out⟩
end Go.Proofs.Ytdbgolklgiadeaa
