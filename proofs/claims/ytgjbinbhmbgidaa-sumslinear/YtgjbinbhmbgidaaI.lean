/-
  SumsLinear: sums go with exclusive or.
-/
import Derived.Test.YtgjbinbhmbgidaaG
namespace Go.Proofs.Ytgjbinbhmbgidaa
open Go.RowKit

theorem crcR_noughts (n : Nat) (f : Nat → Nat) (r s : BitVec 32) : crcR (r ^^^ s) ((List.range n).map f) = crcR r ((List.range n).map f) ^^^ crcR s (List.replicate n 0) := by
  have h := crcR_lin n f (fun _ => 0) r s
  simp only [Nat.xor_zero] at h
  rw [h]
  congr 2
  simp [List.map_const']

theorem crc_linear (n : Nat) (f g : Nat → Nat) : crc 0#32 ((List.range n).map f) ^^^ crc 0#32 ((List.range n).map g) = crc 0#32 ((List.range n).map fun i => f i ^^^ g i) ^^^ crc 0#32 (List.replicate n 0) := by
  have nn : ∀ x y : BitVec 32, ~~~ x ^^^ ~~~ y = x ^^^ y := by
    intro x y
    apply BitVec.eq_of_getLsbD_eq
    intro i hi
    simp [hi]
  unfold crc
  rw [nn, nn]
  have h1 := crcR_lin n f g (~~~ 0#32) 0#32
  have h2 := crcR_noughts n g 0#32 (~~~ 0#32)
  rw [BitVec.xor_zero] at h1
  rw [BitVec.zero_xor] at h2
  rw [h1, h2, BitVec.xor_assoc]

theorem take_range (bs : List Nat) (n : Nat) (hn : n ≤ bs.length) : bs.take n = (List.range n).map fun i => bs.getD i 0 := by
  apply List.ext_getElem?
  intro i
  rw [List.getElem?_take, List.getElem?_map]
  by_cases h : i < n
  · rw [if_pos h, List.getElem?_range h]
    simp [List.getElem?_eq_getElem (show i < bs.length by omega)]
  · rw [if_neg h, List.getElem?_eq_none (by simpa using h)]; rfl

/-- A row of n places in the making: its first k hold f. -/
def Laid (w : World) (C n : Nat) (f : Nat → Nat) (k : Nat) : Prop := ∃ cs : Array Value, w.heap[C]? = some (.cells cs 5 (0, 0)) ∧ cs.size = n ∧ ∀ i, i < k → cs[i]? = some (.int .u8 ((f i : Nat) : Int))

theorem Laid.next {w w' : World} {C n : Nat} {f : Nat → Nat} {k m : Nat} (h : Laid w C n f k) (hk : k < n) (e : w' = (w.setCell ⟨C, k, none⟩ (.int .u8 ((f k : Nat) : Int))).drewN m) : Laid w' C n f (k + 1) := by
  obtain ⟨cs, h1, h2, h3⟩ := h
  subst e
  refine ⟨_, heap_setCell_own _ h1, by simpa using h2, fun i hi => ?_⟩
  rw [Array.getElem?_setIfInBounds]
  by_cases e : k = i
  · subst e; simp [h2, hk]
  · rw [if_neg e]; exact h3 i (by omega)
theorem Laid.lies {w : World} {C n : Nat} {f : Nat → Nat} (h : Laid w C n f n) (hf : ∀ i, i < n → f i < 256) : Lies w (some ⟨C, 0, none⟩) ((List.range n).map f) := by
  obtain ⟨cs, h1, h2, h3⟩ := h
  refine ⟨fun b hb => ?_, fun j hj => ⟨_, rfl, ?_⟩⟩
  · obtain ⟨i, hi, rfl⟩ := List.mem_map.1 hb
    exact hf i (List.mem_range.1 hi)
  · simp only [List.length_map, List.length_range] at hj
    rw [add_none, cell_at h1, Nat.zero_add, h3 j hj]
    simp [List.getElem?_range hj]

/-- What make gives. -/
theorem make_c (n : Nat) (hn : n ≤ 1000000) : ∃ zs : Array Value, (∀ W : World, (Instr.makeSlice 22 (.int .i64 (n : Int)) (.int .i64 (n : Int))).run Try.prog W = .ok (.slice (some ⟨W.heap.size, 0, none⟩) n n) (W.alloc (.cells zs 5))) ∧ zs.size = n ∧ ∀ i, i < n → zs[i]? = some (.int .u8 0) := by
  obtain ⟨i0, hi, hz0, hz1, hz2⟩ := info_parts Try.info5
  refine ⟨madeCells (Value.int .u8 0).cells (n * 1), fun W => ?_, by simp [size_madeCells], fun i hi => ?_⟩
  · have := run_make (P := Try.prog) W 22 5 i0 (.int .u8 0) Try.underlying22 hi hz0 .i64 .i64 n n (by omega) (Int.le_refl _) (by rw [hz2]; omega) (by omega)
    rw [hz1] at this
    simpa using this
  · simp [madeCells, hi, Value.cells, Nat.mod_one]

set_option maxHeartbeats 400000 in
theorem linear_long (a0 a1 : Option Addr) (l0 c0 l1 c1 : Nat) (w : World) (h0 : (3000 : Int) < (l0 : Int)) (h1 : (3000 : Int) < (l1 : Int)) :
    Calls Try.prog 7 #[.slice a0 l0 c0, .slice a1 l1 c1] w fun e w' => e = .returned (.bool true) ∧ Fr (fun _ => False) w w' := by
  go_enter Try.func7, Try.ntmps7
  go_wp2_with fail
  refine (awake_c w).mono ?_
  rintro e w1 ⟨rfl, hf1⟩
  have Hf1 := hide hf1
  clear hf1
  go_wp2
  all_goals
    go_ret
    exact ⟨rfl, Hf1.out⟩

set_option maxHeartbeats 1600000 in
theorem linear_main (a0 a1 : Option Addr) (c0 c1 : Nat) (xs ys : List Nat) (n : Nat) (w : World) (hx : Lies w a0 xs) (hy : Lies w a1 ys) (hc0 : xs.length ≤ c0) (hc1 : ys.length ≤ c1)
    (hmin : (if ys.length < xs.length then (ys.length : Int) else (xs.length : Int)) = (n : Int)) (hn0 : n ≤ xs.length) (hn1 : n ≤ ys.length) (hn : (n : Int) ≤ 3000) :
    Calls Try.prog 7 #[.slice a0 xs.length c0, .slice a1 ys.length c1] w fun e w' => e = .returned (.bool true) ∧ Fr (fun _ => False) w w' := by
  obtain ⟨zs, hmk, hzs, hz0⟩ := make_c n (by omega)
  have HZ := hide hzs
  have HZ0 := hide hz0
  clear hzs hz0
  go_enter Try.func7, Try.ntmps7
  go_wp2_with fail
  refine (awake_c w).mono ?_
  rintro e w1 ⟨rfl, hf1⟩
  have Hf1 := hide hf1
  clear hf1
  go_wp2_with fail
  refine (new_c w1).mono ?_
  rintro e w2 ⟨T, rfl, ht, hf⟩
  have Ht := hide ht
  have Hf := hide (Hf1.out.join hf)
  have Hx := hide (hx.keep Hf.out (fun _ _ h => h))
  have Hy := hide (hy.keep Hf.out (fun _ _ h => h))
  clear ht hf Hf1 hx hy
  go_wp2
  have H0 : Hid (∀ o : Obj, (w2.alloc o).heap[w2.heap.size]? = some o) := heap_alloc_new w2
  go_loopw [8] (fun i wr => ∃ k : Nat, k ≤ n ∧ i = .int .i64 k ∧ Laid wr w2.heap.size n (fun i => xs.getD i 0 ^^^ ys.getD i 0) k ∧ Fr (fun _ => False) w2 wr) (fun i _ => n - (intOf i).toNat)
  case atStart => exact ⟨0, by omega, rfl, ⟨zs, H0.out _, HZ.out, by simp⟩, Fr.of_alloc w2 _⟩
  case round =>
    obtain ⟨k, hk, rfl, hM, hF⟩ := hrel
    by_cases hlt : k < n
    · clear hmk hmin
      obtain ⟨v, hv, hfz⟩ : ∃ v, wr.cell? ⟨w2.heap.size, k, none⟩ = some v ∧ wr.frozen? ⟨w2.heap.size, k, none⟩ = false := by
        obtain ⟨cs, h1, h2, h3⟩ := hM
        exact ⟨_, cell_of h1 (Array.getElem?_eq_getElem (show k < cs.size by omega)), frozen_of h1⟩
      have HM := hide hM
      have HF := hide hF
      obtain ⟨ad0, rfl, e0⟩ := Hx.out.2 k (by omega)
      obtain ⟨ad1, rfl, e1⟩ := Hy.out.2 k (by omega)
      have b0 : xs.getD k 0 < 256 := Hx.out.1 _ (getD_mem xs k (by omega))
      have b1 : ys.getD k 0 < 256 := Hy.out.1 _ (getD_mem ys k (by omega))
      have g0 := cell_fr hF e0 (fun h => h)
      have g1 := cell_fr hF e1 (fun h => h)
      have n0 : ad0.add k ≠ ⟨w2.heap.size, k, none⟩ := fun h => by
        have := World.block_lt_of_cell? _ _ e0
        rw [h] at this
        simp at this
      have n1 : ad1.add k ≠ ⟨w2.heap.size, k, none⟩ := fun h => by
        have := World.block_lt_of_cell? _ _ e1
        rw [h] at this
        simp at this
      have hx8 := u8_xor_nat _ _ b0 b1
      have HN := fun w' (e : w' = (wr.setCell ⟨w2.heap.size, k, none⟩ (.int .u8 ((xs.getD k 0 ^^^ ys.getD k 0 : Nat) : Int))).drewN 1) => HM.out.next (m := 1) hlt e
      have HNN := hide HN
      clear hM hF e0 e1 HN
      generalize xs.getD k 0 ^^^ ys.getD k 0 = z at hx8 HNN
      generalize xs.getD k 0 = x at g0 b0 hx8
      generalize ys.getD k 0 = y at g1 b1 hx8
      have s0 : ∀ u, (wr.setCell ⟨w2.heap.size, k, none⟩ u).drew.cell? (ad0.add k) = some (.int .u8 (x : Int)) := fun u => by
        rw [World.cell?_drew, World.cell?_setCell_other _ _ _ _ (Ne.symm n0)]; exact g0
      have s1 : ∀ u, (wr.setCell ⟨w2.heap.size, k, none⟩ u).drew.cell? (ad1.add k) = some (.int .u8 (y : Int)) := fun u => by
        rw [World.cell?_drew, World.cell?_setCell_other _ _ _ _ (Ne.symm n1)]; exact g1
      have S0 := hide s0
      have S1 := hide s1
      clear s0 s1 n0 n1
      have h0 : (0 : Int) ≤ (k : Int) := by omega
      have h1 : (k : Int) < (n : Int) := by omega
      have h2 : (k : Int) < (xs.length : Int) := by omega
      have h3 : (k : Int) < (ys.length : Int) := by omega
      go_wp2
      go_region_held3 (fun w' => w'.cell? (ad0.add k) = some (.int .u8 (x : Int)) ∧ w'.cell? (ad1.add k) = some (.int .u8 (y : Int))) (first | exact ⟨S0.out _, S1.out _⟩ | go_keep) (fail)
      go_wp2
      go_roundw
      case rel =>
        refine ⟨k + 1, by omega, by go_num, HNN.out _ rfl, ?_⟩
        exact ((HF.out.trans (Fr.of_setCell wr ⟨w2.heap.size, k, none⟩ (.int .u8 (z : Int)))).trans (Fr.of_drewN _ 1)).mono fun i hi h => by
          rcases h with (h | h) | h
          · exact h
          · exact absurd h (Nat.ne_of_lt hi)
          · exact h
      case measure => simp [intOf]; omega
    · have e : n = k := by omega
      subst e
      have hX := Hx.out.keep hF (fun _ _ h => h)
      have hY := Hy.out.keep hF (fun _ _ h => h)
      have hT := Ht.out.keep hF (fun h => h)
      have hC := hM.lies (fun i hi => Nat.xor_lt_two_pow (n := 8) (hX.1 _ (getD_mem xs i (by omega))) (hY.1 _ (getD_mem ys i (by omega))))
      have HE := hide (crc_linear n (fun i => xs.getD i 0) (fun i => ys.getD i 0))
      have lx := take_range xs n hn0
      have ly := take_range ys n hn1
      have lex : (xs.take n).length = n := by simp; omega
      have ley : (ys.take n).length = n := by simp; omega
      have Q1 : Hid (∀ W, Fr (fun _ => False) wr W → Calls Try.prog 11 #[.pointer (some ⟨T, 0, none⟩), .int .u32 0, .slice a0 n c0] W fun e w' => e = .returned (.int .u32 ((crc 0#32 ((List.range n).map fun i => xs.getD i 0)).toNat : Int)) ∧ W = w') := fun W f => by
        have := more_0 T a0 c0 (xs.take n) W (hT.keep f (fun h => h)) ((hX.take n).keep f (fun _ _ h => h)) (by omega)
        rw [lex, lx] at this
        exact this
      have Q2 : Hid (∀ W, Fr (fun _ => False) wr W → Calls Try.prog 11 #[.pointer (some ⟨T, 0, none⟩), .int .u32 0, .slice a1 n c1] W fun e w' => e = .returned (.int .u32 ((crc 0#32 ((List.range n).map fun i => ys.getD i 0)).toNat : Int)) ∧ W = w') := fun W f => by
        have := more_0 T a1 c1 (ys.take n) W (hT.keep f (fun h => h)) ((hY.take n).keep f (fun _ _ h => h)) (by omega)
        rw [ley, ly] at this
        exact this
      have Q3 : Hid (∀ W, Fr (fun _ => False) wr W → Calls Try.prog 11 #[.pointer (some ⟨T, 0, none⟩), .int .u32 0, .slice (some ⟨w2.heap.size, 0, none⟩) n n] W fun e w' => e = .returned (.int .u32 ((crc 0#32 ((List.range n).map fun i => xs.getD i 0 ^^^ ys.getD i 0)).toNat : Int)) ∧ W = w') := fun W f => by
        have := more_0 T (some ⟨w2.heap.size, 0, none⟩) n ((List.range n).map fun i => xs.getD i 0 ^^^ ys.getD i 0) W (hT.keep f (fun h => h)) (hC.keep f (fun _ _ h => h)) (by simp; omega)
        simpa using this
      have Q4 : Hid (Calls Try.prog 11 #[.pointer (some ⟨T, 0, none⟩), .int .u32 0, .slice (some ⟨wr.heap.size, 0, none⟩) n n] (wr.drew.alloc (.cells zs 5)) fun e w' => e = .returned (.int .u32 ((crc 0#32 (List.replicate n 0)).toNat : Int)) ∧ wr.drew.alloc (.cells zs 5) = w') := by
        have hz : Lies (wr.drew.alloc (.cells zs 5)) (some ⟨wr.heap.size, 0, none⟩) (List.replicate n 0) := by
          refine ⟨fun b hb => by rw [(List.mem_replicate.1 hb).2]; decide, fun j hj => ⟨_, rfl, ?_⟩⟩
          rw [List.length_replicate] at hj
          have hh : (wr.drew.alloc (.cells zs 5)).heap[wr.heap.size]? = some (.cells zs 5) := heap_alloc_new wr.drew _
          rw [add_none, cell_at hh, Nat.zero_add, HZ0.out j hj]
          simp [hj]
        have := more_0 T (some ⟨wr.heap.size, 0, none⟩) n (List.replicate n 0) _ (hT.keep ((Fr.of_drewN wr 1).join (Fr.of_alloc _ (.cells zs 5))) (fun h => h)) hz (by simp; omega)
        rw [List.length_replicate] at this
        exact this
      have HF := hide (Hf.out.join hF)
      have FA : Hid (Fr (fun _ => False) wr wr.drew) := Fr.of_drewN wr 1
      have FB : Hid (∀ o : Obj, Fr (fun _ => False) wr (wr.drew.alloc o)) := fun o => (Fr.of_drewN wr 1).join (Fr.of_alloc _ o)
      clear hX hY hT hC lx ly lex ley hM hF Hx Hy Ht Hf HZ HZ0 H0
      generalize crc 0#32 ((List.range n).map fun i => xs.getD i 0 ^^^ ys.getD i 0) = sC at HE Q3
      generalize crc 0#32 ((List.range n).map fun i => xs.getD i 0) = sA at HE Q1
      generalize crc 0#32 ((List.range n).map fun i => ys.getD i 0) = sB at HE Q2
      generalize crc 0#32 (List.replicate n 0) = sZ at HE Q4
      have he : bits .xor .u32 (sA.toNat : Int) (sB.toNat : Int) = bits .xor .u32 (sC.toNat : Int) (sZ.toNat : Int) := by
        rw [u32_xor_nat _ _ sA.isLt sB.isLt, u32_xor_nat _ _ sC.isLt sZ.isLt, ← BitVec.toNat_xor, ← BitVec.toNat_xor, HE.out]
      clear HE
      have i0 : (0 : Int) ≤ (n : Int) := by omega
      have i1 : n ≤ c0 := by omega
      have i2 : n ≤ c1 := by omega
      have i3 : (n : Int) ≤ (c0 : Int) := by omega
      have i4 : (n : Int) ≤ (c1 : Int) := by omega
      go_wp2
      go_region_held3 (fun w' => Fr (fun _ => False) wr w') (first | exact FA.out | exact FB.out _) ((go_at_call 11; first
        | (refine Calls.mono (calls_args (Q1.out _ ?f) ?e) ?_; case e => rfl
           case f => first | exact FA.out | exact FB.out _
           rintro e w' ⟨rfl, rfl⟩)
        | (refine Calls.mono (calls_args (Q2.out _ ?f) ?e) ?_; case e => rfl
           case f => first | exact FA.out | exact FB.out _
           rintro e w' ⟨rfl, rfl⟩)
        | (refine Calls.mono (calls_args (Q3.out _ ?f) ?e) ?_; case e => rfl
           case f => first | exact FA.out | exact FB.out _
           rintro e w' ⟨rfl, rfl⟩)
        | (refine Calls.mono (calls_args Q4.out ?e) ?_; case e => rfl
           rintro e w' ⟨rfl, rfl⟩)))
      all_goals
        go_wp2
        go_ret
        exact ⟨rfl, HF.out.join (FB.out _)⟩

theorem IsRow.le {w : World} {a : Option Addr} {len cap : Nat} {zs : List Int} (h : IsRow .u8 w a len cap zs) : len ≤ cap := by
  rcases h with ⟨_, rfl, rfl, _⟩ | ⟨x, _, h, _⟩
  · omega
  · exact h

theorem sumsLinear_walk (a0 : Option Addr) (len0 cap0 : Nat) (z0 : List Int) (a1 : Option Addr) (len1 cap1 : Nat) (z1 : List Int) (w : World) (w0 : IsRow .u8 w a0 len0 cap0 z0) (w1 : IsRow .u8 w a1 len1 cap1 z1) :
    Calls Try.prog 7 #[.slice a0 len0 cap0, .slice a1 len1 cap1] w fun e w' => e = .returned (.bool true) ∧ Below w.heap.size w w' := by
  have fin : Calls Try.prog 7 #[.slice a0 len0 cap0, .slice a1 len1 cap1] w fun e w' => e = .returned (.bool true) ∧ Fr (fun _ => False) w w' := by
    by_cases h : (3000 : Int) < (len0 : Int) ∧ (3000 : Int) < (len1 : Int)
    · exact linear_long a0 a1 len0 cap0 len1 cap1 w h.1 h.2
    · obtain ⟨e0, hl0⟩ := w0.bytes
      obtain ⟨e1, hl1⟩ := w1.bytes
      have := linear_main a0 a1 cap0 cap1 (bytesOf len0 z0) (bytesOf len1 z1) (min len0 len1) w hl0 hl1 (by rw [e0]; exact w0.le) (by rw [e1]; exact w1.le) (by rw [e0, e1]; split <;> omega) (by rw [e0]; omega) (by rw [e1]; omega) (by omega)
      rw [e0, e1] at this
      exact this
  exact fin.mono fun e w' ⟨he, f⟩ => ⟨he, f.below (Nat.le_refl _) (fun k h => h.elim)⟩
end Go.Proofs.Ytgjbinbhmbgidaa
