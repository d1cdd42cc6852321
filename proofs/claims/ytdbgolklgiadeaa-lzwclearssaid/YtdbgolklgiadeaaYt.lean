/-
  lzw: the document's own writer of bits.
-/
import Derived.Test.YtdbgolklgiadeaaYp
namespace Go.Proofs.Ytdbgolklgiadeaa
open Go.RowKit

theorem Try.info3 : (Try.prog.info? 3).map (fun i => (i.zero, i.size, i.bytes)) = some (some (.int .i64 0), 1, 8) := by kernel_rfl



/-- The bits of an int as a number. -/
def bitsOf (x : Int) : Nat := (x % 18446744073709551616).toNat

/-- The number of a list of bits, the lowest first. -/
def numL : List Nat → Nat
  | [] => 0
  | b :: l => b + 2 * numL l

/-- The number of a list of bits, the highest first. -/
def numH (l : List Nat) : Nat := l.foldl (fun a b => 2 * a + b) 0

theorem numL_append (l : List Nat) (b : Nat) : numL (l ++ [b]) = numL l + b * 2 ^ l.length := by
  induction l with
  | nil => simp [numL]
  | cons a l ih =>
    simp only [List.cons_append, numL, ih, List.length_cons, Nat.pow_succ]
    have : b * (2 ^ l.length * 2) = 2 * (b * 2 ^ l.length) := by rw [← Nat.mul_assoc, Nat.mul_comm]
    omega

theorem numH_append (l : List Nat) (b : Nat) : numH (l ++ [b]) = 2 * numH l + b := by simp [numH, List.foldl_append]

theorem numL_lt (l : List Nat) (h : ∀ b ∈ l, b < 2) : numL l < 2 ^ l.length := by
  induction l with
  | nil => simp [numL]
  | cons a l ih =>
    have h1 := h a (by simp)
    have h2 := ih (fun b hb => h b (by simp [hb]))
    simp only [numL, List.length_cons, Nat.pow_succ]
    omega

theorem take_one (l : List Nat) (i : Nat) (h : i < l.length) : l.take (i + 1) = l.take i ++ [l.getD i 0] := by
  rw [List.take_succ_eq_append_getElem h]
  simp [List.getElem?_eq_getElem h]

theorem leNum_set (l : List Nat) (k d : Nat) (h : k < l.length) : leNum (l.set k (l.getD k 0 + d)) = leNum l + d * 2 ^ (8 * k) := by
  induction l generalizing k with
  | nil => simp at h
  | cons a l ih =>
    cases k with
    | zero => simp [leNum]; omega
    | succ k =>
      have := ih k (by simpa using h)
      simp only [List.set_cons_succ, leNum, List.getD_cons_succ, this]
      rw [show 8 * (k + 1) = 8 + 8 * k by omega, Nat.pow_add]
      have : d * (2 ^ 8 * 2 ^ (8 * k)) = 256 * (d * 2 ^ (8 * k)) := by
        rw [show (2:Nat) ^ 8 = 256 by decide, Nat.mul_left_comm]
      omega

/-- What Out has laid behind i bits. -/
structure OutSt (hb : Bool) (bl ob : List Nat) (L i : Nat) : Prop where
  len : ob.length = L
  bytes : ∀ b ∈ ob, b < 256
  num : if hb = true then beNum ob = numH (bl.take i) * 2 ^ (8 * L - i) else leNum ob = numL (bl.take i)

theorem set_bytesU {ob : List Nat} {k r : Nat} (h : ∀ b ∈ ob, b < 256) (hr : r < 256) : ∀ b ∈ ob.set k r, b < 256 := by
  intro b hb
  rcases List.mem_or_eq_of_mem_set hb with h1 | h1
  · exact h b h1
  · omega

theorem out_low (bl ob : List Nat) (L i : Nat) (h : OutSt false bl ob L i) (hbl : ∀ b ∈ bl, b < 2) (hi : i < bl.length) (hL : bl.length ≤ 8 * L) :
    ∃ r : Nat, r < 256 ∧ bits .or .u8 ((ob.getD (i / 8) 0 : Nat) : Int) ((bl.getD i 0 * 2 ^ (i % 8) : Nat) : Int) = (r : Int) ∧ OutSt false bl (ob.set (i / 8) r) L (i + 1) := by
  have hk : i / 8 < ob.length := by rw [h.len]; omega
  have hn : leNum ob = numL (bl.take i) := by simpa using h.num
  have hlt : leNum ob < 2 ^ i := by
    have := numL_lt (bl.take i) (fun b hb => hbl b (List.mem_of_mem_take hb))
    rw [List.length_take, Nat.min_eq_left (by omega)] at this
    omega
  have hb1 : bl.getD i 0 < 2 := by
    rw [List.getD_eq_getElem?_getD, List.getElem?_eq_getElem hi]
    exact hbl _ (List.getElem_mem hi)
  have hbyte := byte_le ob h.bytes (i / 8)
  have hlast : ob.getD (i / 8) 0 < 2 ^ (i % 8) := by
    rw [← hbyte]
    have h1 : leNum ob / 2 ^ (8 * (i / 8)) < 2 ^ (i % 8) := by
      rw [Nat.div_lt_iff_lt_mul (pow_pos2 _), ← Nat.pow_add, show i % 8 + 8 * (i / 8) = i by omega]
      exact hlt
    exact Nat.lt_of_le_of_lt (Nat.mod_le _ _) h1
  have h2 := mul_lt_pow (q := bl.getD i 0) (s := 1) (a := i % 8) (by simpa using hb1)
  have h3 : (2:Nat) ^ (i % 8 + 1) ≤ 2 ^ 8 := Nat.pow_le_pow_right (by decide) (by omega)
  have h4 : (2:Nat) ^ 8 = 256 := by decide
  refine ⟨ob.getD (i / 8) 0 + bl.getD i 0 * 2 ^ (i % 8), by omega, or_u8 (i % 8) _ _ hlast (Nat.mul_mod_left _ _) (by omega), ?_⟩
  refine ⟨by rw [List.length_set]; exact h.len, set_bytesU h.bytes (by omega), ?_⟩
  rw [if_neg (by simp), leNum_set _ _ _ hk, take_one bl i hi, numL_append, hn, List.length_take, Nat.min_eq_left (by omega), Nat.mul_assoc, ← Nat.pow_add, show i % 8 + 8 * (i / 8) = i by omega]

/-- What Put has packed of x's n lowest bits. -/
def PutSt (hb : Bool) (bl0 bl : List Nat) (x : Int) (n i : Nat) : Prop :=
  bl.length = bl0.length + i ∧ (∀ b ∈ bl, b < 2) ∧ if hb = true then numH bl = numH bl0 * 2 ^ i + lowBits (bitsOf x) (n - i) i else numL bl = numL bl0 + lowBits (bitsOf x) 0 i * 2 ^ bl0.length

theorem bitl_lt {bl : List Nat} {b : Nat} (h : ∀ b ∈ bl, b < 2) (hb : b < 2) : ∀ c ∈ bl ++ [b], c < 2 := by
  intro c hc
  simp only [List.mem_append, List.mem_singleton] at hc
  rcases hc with h1 | h1
  · exact h c h1
  · omega

theorem put_low (bl0 bl : List Nat) (x : Int) (n i : Nat) (h : PutSt false bl0 bl x n i) : PutSt false bl0 (bl ++ [lowBits (bitsOf x) i 1]) x n (i + 1) := by
  obtain ⟨h1, h2, h3⟩ := h
  have hb := lowBits_lt (bitsOf x) i 1
  refine ⟨by simp; omega, bitl_lt h2 (by simpa using hb), ?_⟩
  rw [if_neg (by simp)] at h3
  rw [if_neg (by simp), numL_append, h3, lowBits_add (bitsOf x) 0 i 1, h1, Nat.zero_add, Nat.add_mul, Nat.pow_add]
  have : lowBits (bitsOf x) i 1 * (2 ^ bl0.length * 2 ^ i) = 2 ^ i * lowBits (bitsOf x) i 1 * 2 ^ bl0.length := by
    rw [Nat.mul_comm (2 ^ i), Nat.mul_assoc, Nat.mul_comm (2 ^ i)]
  omega

/-- The bit that Put reckons. -/
theorem put_bit (x : Int) (i : Nat) (h : i ≤ 60) : bits .and .i64 (x / 2 ^ i) 1 = ((lowBits (bitsOf x) i 1 : Nat) : Int) := by
  have h1 := mask_i64 (x / 2 ^ i) 1 (by decide)
  have h2 := int_bits x i 1 (by omega)
  simp only [Int.pow_one, show (2:Int) - 1 = 1 by decide] at h1
  rw [h1]
  simpa [bitsOf] using h2



/-- Bits as they lie in memory. -/
def intsOf (bl : List Nat) : List Value := bl.map fun b => .int .i64 ((b : Nat) : Int)

theorem intsOf_length (bl : List Nat) : (intsOf bl).length = bl.length := by simp [intsOf]

theorem intsOf_append (bl : List Nat) (b : Nat) : intsOf (bl ++ [b]) = intsOf bl ++ [.int .i64 (b : Int)] := by simp [intsOf]

/-- The document's own writer of bits, at block K. -/
structure Pk (w : World) (K : Nat) (g : Option Nat) (bl : List Nat) (hb : Bool) : Prop where
  eobj : ∃ ov, w.heap[K]? = some (.cells #[ov, .bool hb] 54 (0, 0)) ∧ w.ownsRow 0 3 1 ov bl.length (intsOf bl) ∧ ov.ownBlock = g
  eap : ∀ k, g = some k → k ≠ K

theorem Pk.keep {w w' : World} {K : Nat} {g : Option Nat} {bl : List Nat} {hb : Bool} (h : Pk w K g bl hb) {S : Nat → Prop} (f : Fr S w w') (hK : ¬ S K) (hg : ∀ k, g = some k → ¬ S k) : Pk w' K g bl hb := by
  obtain ⟨ov, h1, h2, h3⟩ := h.eobj
  refine ⟨⟨ov, ?_, ?_, h3⟩, h.eap⟩
  · rw [f.block K (lt_of h1) hK]; exact h1
  · exact ownsRow_fr h2 fun k hk => f.block k (h2.lt k hk).2 (hg k (h3 ▸ hk))

theorem Pk.lts {w : World} {K : Nat} {g : Option Nat} {bl : List Nat} {hb : Bool} (h : Pk w K g bl hb) : ∀ k, g = some k → k < w.heap.size := by
  obtain ⟨ov, h1, h2, h3⟩ := h.eobj
  intro k hk
  exact (h2.lt k (h3.trans hk)).2

theorem Pk.blt {w : World} {K : Nat} {g : Option Nat} {bl : List Nat} {hb : Bool} (h : Pk w K g bl hb) : K < w.heap.size := by
  obtain ⟨ov, h1, h2, h3⟩ := h.eobj
  exact lt_of h1

theorem step_frame {K : Nat} {g g1 : Option Nat} {w wr w1 : World} (hF : Fr (fun i => i = K ∨ g = some i) w wr) (hG : g1 = g ∨ ∃ k, g1 = some k ∧ w.heap.size ≤ k) (h1 : Fr (fun i => i = K ∨ g1 = some i) wr w1) : Fr (fun i => i = K ∨ g = some i) w w1 :=
  (hF.trans h1).mono (fun i hi h => by
    rcases h with h | h | h
    · exact h
    · exact Or.inl h
    · rcases hG with rfl | ⟨k, rfl, hk⟩
      · exact Or.inr h
      · cases h; omega)

theorem put_bit_w (x : Int) (i : Nat) (h : i ≤ 60) : bits .and .i64 (wrap64 (x / 2 ^ i)) 1 = ((lowBits (bitsOf x) i 1 : Nat) : Int) := by
  rw [← put_bit x i h]
  have h1 := mask_i64 (wrap64 (x / 2 ^ i)) 1 (by decide)
  have h2 := mask_i64 (x / 2 ^ i) 1 (by decide)
  simp only [Int.pow_one, show (2:Int) - 1 = 1 by decide] at h1 h2
  rw [h1, h2]
  generalize x / 2 ^ i = y
  unfold wrap64
  omega

/-- One bit has been packed: the world behind the append, and behind the store. -/
theorem pk_step {w w1 : World} {K : Nat} {ov : Value} {bl : List Nat} {hb : Bool} {b k cap H : Nat} (h : w.heap[K]? = some (.cells #[ov, .bool hb] 54 (0, 0))) (hap : ∀ k, ov.ownBlock = some k → k ≠ K)
    (hf : Fr (fun i => ov.ownBlock = some i) w w1) (hown : w1.ownsRow 0 3 1 (.slice (some ⟨k, 0, none⟩) (bl.length + 1) cap) (bl.length + 1) (intsOf bl ++ [.int .i64 (b : Int)])) (hat : ov.ownBlock = some k ∨ k = H) (hH : w.heap.size ≤ H) :
    Pk (w1.setCell ⟨K, 0, none⟩ (.slice (some ⟨k, 0, none⟩) (bl.length + 1) cap)) K (some k) (bl ++ [b]) hb ∧ Fr (fun i => i = K ∨ ov.ownBlock = some i) w (w1.setCell ⟨K, 0, none⟩ (.slice (some ⟨k, 0, none⟩) (bl.length + 1) cap)) := by
  have hK := lt_of h
  have hkK : k ≠ K := by
    rcases hat with h1 | h1
    · exact hap k h1
    · omega
  have h1 : w1.heap[K]? = some (.cells #[ov, .bool hb] 54 (0, 0)) := by rw [hf.block K hK (fun e => hap K e rfl)]; exact h
  refine ⟨⟨⟨.slice (some ⟨k, 0, none⟩) (bl.length + 1) cap, ?_, ?_, rfl⟩, fun j e => by cases e; exact hkK⟩, ?_⟩
  · show (w1.heap.modify K _)[K]? = _
    simp [Array.getElem?_modify, h1]
  · rw [List.length_append, intsOf_append]
    exact ownsRow_fr hown fun j hj => Below.heap_setCell _ _ _ _ (by cases hj; exact hkK)
  · exact (hf.trans (Fr.of_setCell w1 ⟨K, 0, none⟩ _)).mono fun i _ h => by
      rcases h with h | h
      · exact Or.inr h
      · exact Or.inl h

set_option maxHeartbeats 800000 in
set_option maxRecDepth 1000000 in
theorem pk_put_low (K : Nat) (g : Option Nat) (bl : List Nat) (n : Nat) (x : Int) (w : World) (h : Pk w K g bl false) (hbl : ∀ b ∈ bl, b < 2) (hn : n ≤ 24) (hlen : bl.length ≤ 1000000) :
    Calls Try.prog 26 #[.pointer (some ⟨K, 0, none⟩), .int .i64 x, .int .i64 n] w fun e w' => e = .returned (.tuple #[]) ∧ ∃ g' bl', Pk w' K g' bl' false ∧ PutSt false bl bl' x n n ∧ Fr (fun i => i = K ∨ g = some i) w w' ∧ (g' = g ∨ ∃ k, g' = some k ∧ w.heap.size ≤ k) := by
  obtain ⟨i0, hi0, hz0, hz1, hz2⟩ := info_parts Try.info3
  have H := hide h
  have Hbl := hide hbl
  clear h hbl
  go_enter Try.func26, Try.ntmps26
  go_wp2_with fail
  go_loopw [6] (fun t wr => ∃ (i : Nat) (g' : Option Nat) (bl' : List Nat), t = .int .i64 i ∧ i ≤ n ∧ Pk wr K g' bl' false ∧ PutSt false bl bl' x n i ∧ Fr (fun i => i = K ∨ g = some i) w wr ∧ (g' = g ∨ ∃ k, g' = some k ∧ w.heap.size ≤ k)) (fun t _ => n - (intOf t).toNat)
  case atStart => exact ⟨0, g, bl, rfl, by omega, H.out, ⟨rfl, Hbl.out, by simp [lowBits_zero]⟩, Fr.refl _ _, Or.inl rfl⟩
  case round =>
    obtain ⟨i, g1, bl1, rfl, hi, hP, hS, hF, hG⟩ := hrel
    by_cases hlt : i < n
    · obtain ⟨ov, ho, hown, hob⟩ := hP.eobj
      have hap : ∀ k, ov.ownBlock = some k → k ≠ K := fun k hk => hP.eap k (hob.symm.trans hk)
      obtain ⟨a0, c0, rfl⟩ := ownsRow_shape hown
      have c00 := cell_of (o := 0) ho rfl
      have c01 := cell_of (o := 1) ho rfl
      obtain ⟨b, hb⟩ : ∃ b, b = lowBits (bitsOf x) i 1 := ⟨_, rfl⟩
      have hb1 := put_bit x i (by omega)
      have hb2 := put_bit_w x i (by omega)
      rw [← hb] at hb1 hb2
      have hl1 : bl1.length ≤ 1000024 := by have := hS.1; omega
      have hnext := put_low bl bl1 x n i hS
      rw [← hb] at hnext
      have Hnext := hide hnext
      have Ho := hide ho
      have Hap := hide hap
      have Hob := hide hob
      have HF := hide hF
      have HG := hide hG
      have hKl := lt_of ho
      have hil : (i : Int) ≤ 24 := by omega
      clear hb hnext ho hap hob hF hG hS hP
      go_wp2_with (at_builtin; go_must (refine wpList_append_lies _ rfl _ _ 31 rfl 0 3 i0 (.int .i64 0) 1 8 Try.underlying31 hi0 hz0 hz1 hz2 rfl (by decide) (.slice a0 bl1.length c0) bl1.length (intsOf bl1) rfl (hown.alloc _) ⟨wr.heap.size, 0, none⟩ 1 1 [.int .i64 (b : Int)] rfl rfl (cell_one_new _ _ _) (fun x hx => by simp at hx; subst hx; rfl) (by decide) (by unfold maxLen; omega) (by omega) (by simp) (wr.heap.size + 1) (by simp) ?_); intro k cap w1 hown1 hgrow hat hlt1
                   have hbK := (hgrow.block K (by simp; omega) (fun e => Hap.out K e.symm rfl)).trans ((Below.heap_alloc _ _ _ hKl).trans Ho.out)
                   have q2 := cell_of (o := 0) hbK rfl
                   have q3 := frozen_of (o := 0) hbK
                   have Hown1 := hide hown1
                   have Hgrow := hide hgrow
                   have Hat := hide hat
                   clear hown1 hgrow hat hlt1 hbK)
      have f : Fr (fun k => (Value.slice a0 bl1.length c0).ownBlock = some k) wr w1 := by
        have f1 : Fr (fun k => (Value.slice a0 bl1.length c0).ownBlock = some k) (wr.alloc (.cells #[.int .i64 (b : Int)] 3)) w1 := ⟨Hgrow.out.os, Hgrow.out.tape, Hgrow.out.output, Hgrow.out.size, fun k hk hn => Hgrow.out.block k hk (fun e => hn e.symm)⟩
        exact ((Fr.of_alloc wr _).trans f1).mono fun k _ h => by
          rcases h with h | h
          · exact h.elim
          · exact h
      obtain ⟨r1, r2⟩ := pk_step Ho.out Hap.out f Hown1.out Hat.out (by omega)
      rw [Hob.out] at r2
      refine ⟨⟨i + 1, some k, _, by simp, by omega, r1, Hnext.out, step_frame HF.out HG.out r2, ?_⟩, by simp [intOf]; omega⟩
      have hs := HF.out.size
      rcases Hat.out with h1 | h1
      · rw [← h1, Hob.out]; exact HG.out
      · exact Or.inr ⟨k, rfl, by omega⟩
    · have : i = n := by omega
      subst this
      go_wp2
      go_end0
      exact ⟨rfl, g1, bl1, hP, hS, hF, hG⟩

theorem leNum_zero (L : Nat) : leNum (List.replicate L 0) = 0 := by
  induction L with
  | zero => rfl
  | succ L ih => simp [List.replicate_succ, leNum, ih]

theorem beNum_zero (L : Nat) : beNum (List.replicate L 0) = 0 := by
  induction L with
  | zero => rfl
  | succ L ih => simp [List.replicate_succ, beNum, ih]

theorem shl_u8 (b t : Nat) (hb : b < 2) (ht : t ≤ 7) : IntKind.u8.wrap ((b : Int) * 2 ^ t) = ((b * 2 ^ t : Nat) : Int) := by
  have e : (b : Int) * 2 ^ t = ((b * 2 ^ t : Nat) : Int) := by simp
  have h2 := mul_lt_pow (q := b) (s := 1) (a := t) (by simpa using hb)
  have h3 : (2:Nat) ^ (t + 1) ≤ 2 ^ 8 := Nat.pow_le_pow_right (by decide) (by omega)
  have h4 : (2:Nat) ^ 8 = 256 := by decide
  have h5 := pow_pos2 t
  rw [e, IntKind.wrap_u8']
  omega

set_option maxHeartbeats 1600000 in
set_option maxRecDepth 1000000 in
theorem pk_out_low (K : Nat) (g : Option Nat) (bl : List Nat) (w : World) (h : Pk w K g bl false) (hbl : ∀ b ∈ bl, b < 2) (hlen : bl.length ≤ 1000000) :
    Calls Try.prog 27 #[.pointer (some ⟨K, 0, none⟩)] w fun e w' => ∃ ob c, e = .returned (.slice (some ⟨w.heap.size, 0, none⟩) ob.length c) ∧ Lies w' (.slice (some ⟨w.heap.size, 0, none⟩) ob.length c) ob ∧ OutSt false bl ob ((bl.length + 7) / 8) bl.length ∧ Fr (fun _ => False) w w' := by
  obtain ⟨i0, hi0, hz0, hz1, hz2⟩ := info_parts Try.info5
  obtain ⟨L, hL⟩ : ∃ L, L = (bl.length + 7) / 8 := ⟨_, rfl⟩
  rw [← hL]
  have hLi : ((bl.length : Int) + 7) / 8 = (L : Int) := by omega
  have hLb : bl.length ≤ 8 * L := by omega
  have hL2 : L ≤ 1000000 := by omega
  obtain ⟨ov, ho, hown, hob⟩ := h.eobj
  obtain ⟨a0, c0, rfl⟩ := ownsRow_shape hown
  have c00 := cell_of (o := 0) ho rfl
  have c01 := cell_of (o := 1) ho rfl
  have hKl := lt_of ho
  have hlI : (bl.length : Int) ≤ 1000000 := by omega
  have H := hide h
  have Hbl := hide hbl
  have Ho := hide ho
  have Hown := hide hown
  have HL := hide hL
  clear h hbl ho hown hL
  go_enter Try.func27, Try.ntmps27
  go_wp2_with (at_make; go_must (refine wpList_make_full _ rfl _ _ 22 rfl 0 5 i0 (.int .u8 0) 1 Try.underlying22 hi0 hz0 hz1 .i64 .i64 (((bl.length : Int) + 7) / 8) (((bl.length : Int) + 7) / 8) L rfl rfl hLi hLi (by rw [hz2]; omega) (by unfold maxLen; omega) (Nat.zero_le _) ?_); intro w1 hown1 hgrow)
  have f1 : Fr (fun _ => False) w w1 := ⟨hgrow.os, hgrow.tape, hgrow.output, hgrow.size, fun k hk _ => hgrow.block k hk (by simp)⟩
  have hk1 := (hown1.lt w.heap.size rfl).2
  have e1 : (madeCells (Value.int .u8 0).cells (L * 1)).toList = cellsOf (List.replicate L 0) := by
    rw [Nat.mul_one]
    show (madeCells #[.int .u8 0] L).toList = _
    rw [toList_madeCells_one]
    simp [cellsOf]
  rw [e1] at hown1
  have F1 := hide f1
  have Hown1 := hide hown1
  clear f1 hown1 hgrow e1
  go_wp2_with fail
  go_loopw [4] (fun t wr => ∃ (i : Nat) (ob : List Nat), t = .int .i64 i ∧ i ≤ bl.length ∧ OutSt false bl ob L i ∧ wr.ownsRow 0 5 1 (.slice (some ⟨w.heap.size, 0, none⟩) L L) L (cellsOf ob) ∧ Fr (fun k => k = w.heap.size) w1 wr) (fun t _ => bl.length - (intOf t).toNat)
  case atStart =>
    refine ⟨0, List.replicate L 0, rfl, by omega, ⟨by simp, by simp, ?_⟩, Hown1.out, Fr.refl _ _⟩
    simp [leNum_zero, numL]
  case round =>
    obtain ⟨i, ob, rfl, hi, hS, hown, hF⟩ := hrel
    have hf : Fr (fun _ => False) w wr := (F1.out.trans hF).mono fun k hk h => by
      rcases h with h | h
      · exact h
      · omega
    have c00' : wr.cell? ⟨K, 0, none⟩ = some (.slice a0 bl.length c0) := (World.cell?_of_block (hf.block K hKl (fun h => h))).trans c00
    have c01' : wr.cell? ⟨K, 1, none⟩ = some (.bool false) := (World.cell?_of_block (hf.block K hKl (fun h => h))).trans c01
    by_cases hlt : i < bl.length
    · obtain ⟨D, rfl⟩ : ∃ D, a0 = some ⟨D, 0, none⟩ := by
        rcases Hown.out.2 with ⟨_, e⟩ | ⟨D, cap, cur, e, _⟩
        · omega
        · cases e; exact ⟨D, rfl⟩
      have hD := (Hown.out.lt D rfl).2
      obtain ⟨b, hb⟩ : ∃ b, b = bl.getD i 0 := ⟨_, rfl⟩
      have hb2 : b < 2 := by
        rw [hb, List.getD_eq_getElem?_getD, List.getElem?_eq_getElem hlt]
        exact Hbl.out _ (List.getElem_mem hlt)
      have d0 : w.cell? ⟨D, 0 + i, none⟩ = some (.int .i64 (b : Int)) := by
        have := Hown.out.cells (g := D) rfl i (.int .i64 (b : Int)) (by rw [hb]; simp [intsOf, List.getElem?_map, List.getElem?_eq_getElem hlt])
        rw [add_none] at this; exact this
      have d1 : wr.cell? ⟨D, i, none⟩ = some (.int .i64 (b : Int)) := by
        rw [Nat.zero_add] at d0
        exact (World.cell?_of_block (hf.block D hD (fun h => h))).trans d0
      obtain ⟨q, hq⟩ : ∃ q, q = i / 8 := ⟨_, rfl⟩
      obtain ⟨s, hs⟩ : ∃ s, s = i % 8 := ⟨_, rfl⟩
      have hqI : (i : Int) / 8 = (q : Int) := by omega
      have hsI : (i : Int) % 8 = (s : Int) := by omega
      have hq0 : (0 : Int) ≤ (q : Int) := by omega
      have hq1 : (q : Int) < (L : Int) := by omega
      have hs7 : s ≤ 7 := by omega
      have hs7I : (s : Int) ≤ 7 := by omega
      obtain ⟨r, hr1, hr2, hr3⟩ := out_low bl ob L i hS Hbl.out hlt hLb
      rw [← hq, ← hb, ← hs] at hr2
      rw [← hq] at hr3
      have hobl := hS.len
      obtain ⟨la, hla⟩ : ∃ la, la = ob.getD q 0 := ⟨_, rfl⟩
      rw [← hla] at hr2
      have d2 : wr.cell? ⟨w.heap.size, q, none⟩ = some (.int .u8 (la : Int)) := by
        have hc := hown.cellAt q (by omega)
        rw [hc, hla]
        simp [cellsOf, List.getElem?_map, List.getElem?_eq_getElem (show q < ob.length by omega)]
      have d3 := hown.frozenAt q
      have hw8 : IntKind.u8.wrap (b : Int) = (b : Int) := by rw [IntKind.wrap_u8']; omega
      have hsh : IntKind.u8.wrap ((b : Int) * 2 ^ s) = ((b * 2 ^ s : Nat) : Int) := shl_u8 b s hb2 (by omega)
      have hr4 : bits .or .u8 (la : Int) ((b : Int) * 2 ^ s) = (r : Int) := by rw [← hr2]; simp
      have hDk : ¬ D = w.heap.size := by omega
      have hKk : ¬ K = w.heap.size := by omega
      have hiI : (i : Int) < (bl.length : Int) := by omega
      have hi0' : (0 : Int) ≤ (i : Int) := by omega
      have HF := hide hF
      have HO := hide hown
      have Hr3 := hide hr3
      have Hf := hide hf
      clear hF hown hr3 hf hla hq hs hb d0 hS hobl
      go_wp2_with fail
      go_region
      all_goals
        go_wp2
        refine ⟨⟨i + 1, ob.set q r, by simp, by omega, Hr3.out, ?_, ?_⟩, (by simp [intOf]; omega)⟩
        · have hst := (HO.out.stored q (.int .u8 (r : Int))).1
          have e : (cellsOf ob).set q (.int .u8 (r : Int)) = cellsOf (ob.set q r) := by simp [cellsOf, List.map_set]
          rw [e] at hst
          exact hst.drew
        · exact ((HF.out.trans (Fr.of_setCell wr ⟨w.heap.size, q, none⟩ (.int .u8 (r : Int)))).trans (Fr.of_drewN _ 1)).mono fun k _ h => by
            rcases h with (h | h) | h
            · exact h
            · exact h
            · exact h.elim
    · have : i = bl.length := by omega
      subst this
      go_wp2
      go_ret
      have hlie : Lies wr (.slice (some ⟨w.heap.size, 0, none⟩) ob.length L) ob := lies_own (by rw [hS.len]; exact hown)
      exact ⟨ob, L, by rw [hS.len]; rfl, hlie, hS, hf⟩

/-- The document's writer of bits: v, p: its bits. -/
structure Pw (w : World) (lo K : Nat) (v p : Nat) : Prop where
  it : ∃ g bl, Pk w K g bl false ∧ (∀ b ∈ bl, b < 2) ∧ bl.length = p ∧ numL bl = v ∧ ∀ j, g = some j → lo ≤ j
  lo_ : lo ≤ K

theorem Pw.fr {w w' : World} {lo K v p : Nat} (h : Pw w lo K v p) (f : Fr (fun _ => False) w w') : Pw w' lo K v p := by
  obtain ⟨g, bl, h1, h2, h3, h4, h5⟩ := h.it
  exact ⟨⟨g, bl, h1.keep f (fun e => e) (fun _ _ e => e), h2, h3, h4, h5⟩, h.lo_⟩

theorem Pw.frS {w w' : World} {lo K v p : Nat} (h : Pw w lo K v p) {S : Nat → Prop} (f : Fr S w w') (hS : ∀ j, lo ≤ j → j < w.heap.size → ¬ S j) : Pw w' lo K v p := by
  obtain ⟨g, bl, h1, h2, h3, h4, h5⟩ := h.it
  exact ⟨⟨g, bl, h1.keep f (hS _ h.lo_ h1.blt) (fun j e => hS j (h5 j e) (h1.lts j e)), h2, h3, h4, h5⟩, h.lo_⟩

/-- A code is put. -/
theorem Pw.put {w : World} {lo K v p : Nat} (h : Pw w lo K v p) (x n : Nat) (hn : n ≤ 24) (hx : x < 2 ^ n) (hp : p ≤ 1000000) (hlo : lo ≤ w.heap.size) :
    Calls Try.prog 26 #[.pointer (some ⟨K, 0, none⟩), .int .i64 (x : Int), .int .i64 (n : Int)] w fun e w' => e = .returned (.tuple #[]) ∧ Pw w' lo K (v + x * 2 ^ p) (p + n) ∧ Fr (fun j => lo ≤ j) w w' := by
  obtain ⟨g, bl, h1, h2, h3, h4, h5⟩ := h.it
  refine (pk_put_low K g bl n x w h1 h2 hn (by omega)).mono ?_
  rintro e w' ⟨rfl, g', bl', a1, ⟨a2, a3, a4⟩, a5, a6⟩
  have hx2 : lowBits (bitsOf (x : Int)) 0 n = x := by
    have h24 : 2 ^ n ≤ 2 ^ 24 := Nat.pow_le_pow_right (by omega) hn
    have e : bitsOf (x : Int) = x := by unfold bitsOf; omega
    rw [e]
    unfold lowBits
    simp [Nat.mod_eq_of_lt hx]
  rw [if_neg (by simp), hx2, h3, h4] at a4
  refine ⟨rfl, ⟨⟨g', bl', a1, a3, by omega, a4, fun j hj => ?_⟩, h.lo_⟩, a5.mono fun j _ e => e.elim (fun e => by rw [e]; exact h.lo_) (h5 j)⟩
  rcases a6 with e | ⟨j', e, hj'⟩
  · exact h5 j (e ▸ hj)
  · rw [e] at hj
    injection hj with hj
    omega

/-- The bytes. -/
theorem Pw.out {w : World} {lo K v p : Nat} (h : Pw w lo K v p) (hp : p ≤ 1000000) :
    Calls Try.prog 27 #[.pointer (some ⟨K, 0, none⟩)] w fun e w' => ∃ Z c, e = .returned (.slice (some ⟨w.heap.size, 0, none⟩) Z.length c) ∧ Lies w' (.slice (some ⟨w.heap.size, 0, none⟩) Z.length c) Z ∧ (∀ b ∈ Z, b < 256) ∧ Z.length = (p + 7) / 8 ∧ leNum Z = v ∧ v < 2 ^ p ∧ Fr (fun _ => False) w w' := by
  obtain ⟨g, bl, h1, h2, h3, h4, h5⟩ := h.it
  refine (pk_out_low K g bl w h1 h2 (by omega)).mono ?_
  rintro e w' ⟨Z, c, rfl, hl, ho, hf⟩
  have hn := ho.num
  rw [if_neg (by simp), List.take_length, h4] at hn
  refine ⟨Z, c, rfl, hl, ho.bytes, by rw [ho.len, h3], hn, ?_, hf⟩
  rw [← h4, ← h3]
  exact numL_lt bl h2

/-- A stream that ends with End. -/
theorem Led.read {k most v p : Nat} {s : Zs} (hk : 2 ≤ k ∧ k ≤ 8) (h : Led k most v p s) {Z : List Nat} (hZ : Z.length = (p + wid k s.rows.length + 7) / 8) (hv : leNum Z = v + (2 ^ k + 1) * 2 ^ p) : ReadOk Z (k : Int) (most : Int) (.ok s.out) := by
  refine Or.inr ⟨by omega, by omega, by omega, ?_⟩
  have e1 : (k : Int).toNat = k := by omega
  have e2 : (most : Int).toNat = most := by omega
  rw [e1, e2]
  have hw := wid_le k hk s.rows.length
  have hlt : 2 ^ k + 1 < 2 ^ wid k s.rows.length := by
    have h1 : 2 ^ (k + 1) ≤ 2 ^ wid k s.rows.length := Nat.pow_le_pow_right (by omega) hw.1
    have h2 : 2 ^ 2 ≤ 2 ^ k := Nat.pow_le_pow_right (by omega) hk.1
    rw [Nat.pow_succ] at h1
    omega
  refine h.fin ?_ (by omega)
  rw [hv, Nat.mod_eq_of_lt (led_lt h.lt hlt)]
end Go.Proofs.Ytdbgolklgiadeaa
