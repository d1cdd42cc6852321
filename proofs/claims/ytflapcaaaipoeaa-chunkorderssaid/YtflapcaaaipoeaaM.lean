/-
  Plain mathematics of CRC-32 and Adler-32: no program is named here.
-/
import Derived.WalkKit
import Derived.Laws.BitsAllLaws
namespace Go.Proofs.Ytflapcaaaipoeaa
open Go.RowKit

/-- One bit of CRC-32: what the polynomial leaves. -/
def step1 (r : BitVec 32) : BitVec 32 := (r >>> 1) ^^^ (if r.getLsbD 0 then 0xEDB88320#32 else 0#32)

/-- n bits of it. -/
def steps : Nat → BitVec 32 → BitVec 32
  | 0, r => r
  | n + 1, r => steps n (step1 r)

theorem steps_succ (n : Nat) (r : BitVec 32) : steps (n + 1) r = step1 (steps n r) := by
  induction n generalizing r with
  | zero => rfl
  | succ n ih => exact ih (step1 r)

theorem low_bit (y : BitVec 32) : y.getLsbD 0 = decide (y.toNat % 2 = 1) := by
  simp [BitVec.getLsbD, Nat.testBit_zero]

theorem step1_one (y : BitVec 32) (h : y.toNat % 2 = 1) : ((step1 y).toNat : Int) = bits .xor .u32 ((y.toNat : Int) / 2) 3988292384 := by
  have hy := y.isLt
  have e : ((y.toNat : Int) / 2) = ((y.toNat / 2 : Nat) : Int) := by omega
  rw [e, show (3988292384 : Int) = ((3988292384 : Nat) : Int) from rfl, u32_xor_nat _ _ (by omega) (by decide)]
  unfold step1
  rw [low_bit, decide_eq_true h]
  simp [BitVec.toNat_xor, BitVec.toNat_ushiftRight, Nat.shiftRight_eq_div_pow]
theorem step1_nought (y : BitVec 32) (h : y.toNat % 2 ≠ 1) : ((step1 y).toNat : Int) = (y.toNat : Int) / 2 := by
  unfold step1
  rw [low_bit, decide_eq_false h]
  simp [BitVec.toNat_ushiftRight, Nat.shiftRight_eq_div_pow]
theorem and_one (y : BitVec 32) : (bits .and .u32 (y.toNat : Int) 1 == 1) = decide (y.toNat % 2 = 1) := by
  have hy := y.isLt
  rw [show (1 : Int) = ((1 : Nat) : Int) from rfl, u32_and_nat _ _ (by omega) (by decide), Nat.and_one_is_mod]
  rcases Nat.mod_two_eq_zero_or_one y.toNat with h | h <;> rw [h] <;> rfl

theorem step1_lin (x y : BitVec 32) : step1 (x ^^^ y) = step1 x ^^^ step1 y := by
  unfold step1
  rw [BitVec.getLsbD_xor, BitVec.ushiftRight_xor_distrib]
  cases x.getLsbD 0 <;> cases y.getLsbD 0 <;> simp
  · rw [BitVec.xor_assoc]
  · rw [BitVec.xor_assoc, BitVec.xor_assoc, BitVec.xor_comm (3988292384#32)]
  · rw [BitVec.xor_assoc, ← BitVec.xor_assoc (3988292384#32), BitVec.xor_comm (3988292384#32), BitVec.xor_assoc (y >>> 1), BitVec.xor_self, BitVec.xor_zero]
theorem steps_lin (n : Nat) (x y : BitVec 32) : steps n (x ^^^ y) = steps n x ^^^ steps n y := by
  induction n generalizing x y with
  | zero => rfl
  | succ n ih => simp only [steps]; rw [step1_lin, ih]

theorem step1_inj {x y : BitVec 32} (h : step1 x = step1 y) : x = y := by
  have hb : ∀ z : BitVec 32, (step1 z).getLsbD 31 = z.getLsbD 0 := by
    intro z
    unfold step1
    rw [BitVec.getLsbD_xor, BitVec.getLsbD_ushiftRight]
    cases z.getLsbD 0 <;> simp
  have h0 : x.getLsbD 0 = y.getLsbD 0 := by rw [← hb, ← hb, h]
  have h1 : x >>> 1 = y >>> 1 := by
    unfold step1 at h
    rw [h0] at h
    have := congrArg (· ^^^ (if y.getLsbD 0 then 0xEDB88320#32 else 0#32)) h
    simpa [BitVec.xor_assoc] using this
  apply BitVec.eq_of_getLsbD_eq
  intro i hi
  cases i with
  | zero => exact h0
  | succ i =>
    have := congrArg (fun z => BitVec.getLsbD z i) h1
    simpa [BitVec.getLsbD_ushiftRight, Nat.add_comm] using this
theorem steps_inj (n : Nat) {x y : BitVec 32} (h : steps n x = steps n y) : x = y := by
  induction n generalizing x y with
  | zero => exact h
  | succ n ih => exact step1_inj (ih h)

theorem steps_shift (n : Nat) (x : BitVec 32) (h : ∀ i, i < n → x.getLsbD i = false) : steps n x = x >>> n := by
  induction n generalizing x with
  | zero => simp [steps]
  | succ n ih =>
    have h1 : step1 x = x >>> 1 := by unfold step1; rw [h 0 (by omega)]; simp
    simp only [steps]
    rw [h1, ih]
    · apply BitVec.eq_of_getLsbD_eq
      intro i hi
      simp [BitVec.getLsbD_ushiftRight]
      congr 1; omega
    · intro i hi
      rw [BitVec.getLsbD_ushiftRight]
      exact h _ (by omega)

/-- One byte of CRC-32. -/
def upd (r : BitVec 32) (b : Nat) : BitVec 32 := steps 8 (r ^^^ BitVec.ofNat 32 b)
/-- Many bytes. -/
def crcR (r : BitVec 32) (bs : List Nat) : BitVec 32 := bs.foldl upd r
/-- The sum of what was ahead and of many bytes. -/
def crc (s : BitVec 32) (bs : List Nat) : BitVec 32 := ~~~ crcR (~~~ s) bs

theorem crc_append (s : BitVec 32) (a b : List Nat) : crc (crc s a) b = crc s (a ++ b) := by
  simp [crc, crcR, List.foldl_append]
theorem crc_nil (s : BitVec 32) : crc s [] = s := by simp [crc, crcR]

/-- What the table does is what the bits do. -/
theorem upd_table (r : BitVec 32) (c : Nat) (hc : c < 256) : steps 8 (BitVec.ofNat 32 (r.toNat % 256 ^^^ c)) ^^^ (r >>> 8) = upd r c := by
  have e : r ^^^ BitVec.ofNat 32 c = BitVec.ofNat 32 (r.toNat % 256 ^^^ c) ^^^ ((r >>> 8) <<< 8) := by
    apply BitVec.eq_of_getLsbD_eq
    intro i hi
    simp only [BitVec.getLsbD_xor, BitVec.getLsbD_ofNat, BitVec.getLsbD_shiftLeft, BitVec.getLsbD_ushiftRight, Nat.testBit_xor]
    rw [show (256 : Nat) = 2 ^ 8 from rfl, Nat.testBit_mod_two_pow]
    by_cases h : i < 8
    · simp [h, hi, BitVec.getLsbD]
    · have : c.testBit i = false := Nat.testBit_lt_two_pow (Nat.lt_of_lt_of_le hc (by
        rw [show (256 : Nat) = 2 ^ 8 from rfl]; exact Nat.pow_le_pow_right (by decide) (by omega)))
      have e8 : 8 + (i - 8) = i := by omega
      simp [h, hi, this, e8]
  unfold upd
  rw [e, steps_lin]
  congr 1
  rw [steps_shift]
  · apply BitVec.eq_of_getLsbD_eq
    intro i hi
    simp only [BitVec.getLsbD_shiftLeft, BitVec.getLsbD_ushiftRight]
    by_cases h : 8 + i < 32
    · simp [h]
    · simp [h, BitVec.getLsbD_of_ge r (8 + i) (by omega)]
  · intro i hi
    simp [BitVec.getLsbD_shiftLeft]; omega

/-- Linear, over two rows of bytes of one length. -/
theorem crcR_lin (n : Nat) (f g : Nat → Nat) (r s : BitVec 32) :
    crcR (r ^^^ s) ((List.range n).map fun i => f i ^^^ g i) = crcR r ((List.range n).map f) ^^^ crcR s ((List.range n).map g) := by
  induction n with
  | zero => rfl
  | succ n ih =>
    simp only [crcR] at ih
    simp only [crcR, List.range_succ, List.map_append, List.foldl_append, List.map_cons, List.map_nil, List.foldl_cons, List.foldl_nil]
    rw [ih]
    unfold upd
    rw [← steps_lin]
    congr 1
    rw [show BitVec.ofNat 32 (f n ^^^ g n) = BitVec.ofNat 32 (f n) ^^^ BitVec.ofNat 32 (g n) by
      apply BitVec.eq_of_getLsbD_eq; intro i hi; simp only [BitVec.getLsbD_xor, BitVec.getLsbD_ofNat, Nat.testBit_xor]; simp [hi]]
    ac_rfl

/-- Adler's two halves, a byte on. -/
def adStep (p : Nat × Nat) (b : Nat) : Nat × Nat := ((p.1 + b) % 65521, (p.2 + (p.1 + b) % 65521) % 65521)
def adR (p : Nat × Nat) (bs : List Nat) : Nat × Nat := bs.foldl adStep p
/-- The halves of a sum, and the sum of halves. -/
def halves (s : Nat) : Nat × Nat := (s % 65536, s / 65536)
def ofHalves (p : Nat × Nat) : Nat := p.2 * 65536 + p.1
def adler (s : Nat) (bs : List Nat) : Nat := ofHalves (adR (halves s) bs)

theorem adR_lt (p : Nat × Nat) (bs : List Nat) (M : Nat) (hM : 65521 ≤ M) (h1 : p.1 < M) (h2 : p.2 < M) : (adR p bs).1 < M ∧ (adR p bs).2 < M := by
  induction bs generalizing p with
  | nil => exact ⟨h1, h2⟩
  | cons b bs ih => exact ih (adStep p b) (by simp only [adStep]; omega) (by simp only [adStep]; omega)
theorem halves_of (p : Nat × Nat) (h : p.1 < 65536) : halves (ofHalves p) = p := by
  obtain ⟨x, y⟩ := p
  simp only [halves, ofHalves, Prod.mk.injEq] at *
  omega
theorem adler_append (s : Nat) (a b : List Nat) : adler (adler s a) b = adler s (a ++ b) := by
  have h := adR_lt (halves s) a (65536 + s / 65536) (by omega) (by simp only [halves]; omega) (by simp only [halves]; omega)
  have h1 : (adR (halves s) a).1 < 65536 := by
    have := adR_lt (halves s) a 65536
    clear h
    induction a generalizing s with
    | nil => simp only [adR, List.foldl_nil, halves]; omega
    | cons c a ih =>
      have : ∀ (q : Nat × Nat) (l : List Nat), q.1 < 65536 → (adR q l).1 < 65536 := by
        intro q l
        induction l generalizing q with
        | nil => exact fun h => h
        | cons d l ih => exact fun _ => ih (adStep q d) (by simp only [adStep]; omega)
      exact this _ _ (by simp only [halves]; omega)
  unfold adler
  rw [halves_of _ h1]
  simp [adR, List.foldl_append]
theorem adler_nil (s : Nat) : adler s [] = s := by
  simp only [adler, adR, List.foldl_nil, ofHalves, halves]; omega
theorem adler_lt (s : Nat) (bs : List Nat) (h : s < 4294967296) : adler s bs < 4294967296 := by
  have := adR_lt (halves s) bs 65536 (by decide) (by simp only [halves]; omega) (by simp only [halves]; omega)
  simp only [adler, ofHalves]; omega

/-- CRC-32 bit by bit. -/
def bitR (r : BitVec 32) (f : Nat → Bool) : Nat → BitVec 32
  | 0 => r
  | n + 1 => step1 (bitR r f n ^^^ (if f n then 1#32 else 0#32))
/-- The first n bits as a word. -/
def word (f : Nat → Bool) : Nat → BitVec 32
  | 0 => 0#32
  | n + 1 => word f n ^^^ (if f n then BitVec.twoPow 32 n else 0#32)

theorem word_bit (f : Nat → Bool) (n : Nat) (hn : n ≤ 32) (i : Nat) : (word f n).getLsbD i = (decide (i < n) && f i) := by
  induction n with
  | zero => simp [word]
  | succ n ih =>
    have ih := ih (by omega)
    simp only [word, BitVec.getLsbD_xor]
    rw [ih]
    by_cases e : i = n
    · subst e
      cases f i <;> simp [BitVec.getLsbD_twoPow]; omega
    · have e1 : decide (i < n + 1) = decide (i < n) := by simp; omega
      have e2 : (if f n then BitVec.twoPow 32 n else 0#32).getLsbD i = false := by
        split
        · simp [BitVec.getLsbD_twoPow]; omega
        · simp
      rw [e1, e2]; simp
theorem steps_top (n : Nat) (hn : n < 32) : steps n (BitVec.twoPow 32 n) = 1#32 := by
  rw [steps_shift]
  · apply BitVec.eq_of_getLsbD_eq
    intro i hi
    rw [BitVec.getLsbD_ushiftRight, BitVec.getLsbD_twoPow]
    cases i with
    | zero => simp [hn]
    | succ i => simp
  · intro i hi
    rw [BitVec.getLsbD_twoPow]; simp; omega
theorem steps_zero (n : Nat) : steps n 0#32 = 0#32 := by
  rw [steps_shift] <;> simp
theorem bitR_word (r : BitVec 32) (f : Nat → Bool) (n : Nat) (hn : n ≤ 32) : bitR r f n = steps n (r ^^^ word f n) := by
  induction n with
  | zero => simp [bitR, word, steps]
  | succ n ih =>
    have e : (if f n then 1#32 else 0#32) = steps n (if f n then BitVec.twoPow 32 n else 0#32) := by
      split
      · rw [steps_top n (by omega)]
      · rw [steps_zero]
    simp only [bitR, word]
    rw [ih (by omega), e, ← steps_lin, steps_succ, BitVec.xor_assoc]
theorem bitR_add (r : BitVec 32) (f : Nat → Bool) (m n : Nat) : bitR r f (m + n) = bitR (bitR r f m) (fun i => f (m + i)) n := by
  induction n with
  | zero => rfl
  | succ n ih => rw [← Nat.add_assoc]; simp only [bitR]; rw [ih]
theorem bitR_congr (r : BitVec 32) (f g : Nat → Bool) (n : Nat) (h : ∀ i, i < n → f i = g i) : bitR r f n = bitR r g n := by
  induction n with
  | zero => rfl
  | succ n ih => simp only [bitR]; rw [ih (fun i hi => h i (by omega)), h n (by omega)]
theorem bitR_inj (r s : BitVec 32) (f : Nat → Bool) (n : Nat) (h : bitR r f n = bitR s f n) : r = s := by
  induction n with
  | zero => exact h
  | succ n ih =>
    simp only [bitR] at h
    have := congrArg (· ^^^ (if f n then 1#32 else 0#32)) (step1_inj h)
    exact ih (by simpa [BitVec.xor_assoc] using this)

/-- Rows of bits that are unlike only within 32 beside one another have unlike sums. -/
theorem burst (r : BitVec 32) (f g : Nat → Bool) (p n : Nat) (hn : p + 32 ≤ n) (hout : ∀ j, (j < p ∨ p + 32 ≤ j) → f j = g j) (h : bitR r f n = bitR r g n) : ∀ i, i < 32 → f (p + i) = g (p + i) := by
  obtain ⟨m, rfl⟩ : ∃ m, n = p + 32 + m := ⟨n - (p + 32), by omega⟩
  rw [bitR_add r f (p + 32) m, bitR_add r g (p + 32) m, bitR_congr _ (fun i => f (p + 32 + i)) (fun i => g (p + 32 + i)) m (fun i _ => hout _ (by omega))] at h
  have h1 := bitR_inj _ _ _ _ h
  rw [bitR_add r f p 32, bitR_add r g p 32, bitR_congr r f g p (fun i hi => hout i (by omega)), bitR_word _ _ 32 (by omega), bitR_word _ _ 32 (by omega)] at h1
  have h2 := congrArg (bitR r g p ^^^ ·) (steps_inj 32 h1)
  have h3 : word (fun i => f (p + i)) 32 = word (fun i => g (p + i)) 32 := by simpa [← BitVec.xor_assoc] using h2
  intro i hi
  have h4 : (word (fun i => f (p + i)) 32).getLsbD i = (word (fun i => g (p + i)) 32).getLsbD i := by rw [h3]
  rw [word_bit _ _ (by omega), word_bit _ _ (by omega)] at h4
  rw [decide_eq_true hi] at h4
  exact h4

/-- Bit j of bytes, each from its lowest on. -/
def bitAt (bs : List Nat) (j : Nat) : Bool := (bs.getD (j / 8) 0).testBit (j % 8)

theorem upd_bits (r : BitVec 32) (b : Nat) (hb : b < 256) : upd r b = bitR r (fun i => b.testBit i) 8 := by
  rw [bitR_word _ _ 8 (by omega)]
  unfold upd
  congr 2
  apply BitVec.eq_of_getLsbD_eq
  intro i hi
  rw [word_bit _ _ (by omega), BitVec.getLsbD_ofNat]
  by_cases h : i < 8
  · simp [h, hi]
  · have : b.testBit i = false := Nat.testBit_lt_two_pow (Nat.lt_of_lt_of_le hb (by
      rw [show (256 : Nat) = 2 ^ 8 from rfl]; exact Nat.pow_le_pow_right (by decide) (by omega)))
    simp [this]
theorem crcR_bits (r : BitVec 32) (bs : List Nat) (hb : ∀ b ∈ bs, b < 256) : crcR r bs = bitR r (bitAt bs) (8 * bs.length) := by
  have : ∀ k, k ≤ bs.length → crcR r (bs.take k) = bitR r (bitAt bs) (8 * k) := by
    intro k
    induction k with
    | zero => intro _; rfl
    | succ k ih =>
      intro hk
      rw [List.take_succ_eq_append_getElem (by omega), show 8 * (k + 1) = 8 * k + 8 by omega, bitR_add, ← ih (by omega)]
      simp only [crcR, List.foldl_append, List.foldl_cons, List.foldl_nil]
      rw [upd_bits _ _ (hb _ (List.getElem_mem _))]
      refine bitR_congr _ _ _ 8 fun i hi => ?_
      unfold bitAt
      rw [show (8 * k + i) / 8 = k by omega, show (8 * k + i) % 8 = i by omega]
      simp [List.getD_eq_getElem?_getD, List.getElem?_eq_getElem (show k < bs.length by omega)]
  have := this bs.length (Nat.le_refl _)
  rwa [List.take_length] at this

/-- Bytes with some of the bits from p on turned, as n's bits say: the first k of them. -/
def turned (bs : List Nat) (p n : Nat) : Nat → List Nat
  | 0 => bs
  | k + 1 => if n.testBit k then (turned bs p n k).set ((p + k) / 8) ((turned bs p n k).getD ((p + k) / 8) 0 ^^^ 2 ^ ((p + k) % 8)) else turned bs p n k
theorem turned_length (bs : List Nat) (p n k : Nat) : (turned bs p n k).length = bs.length := by
  induction k with
  | zero => rfl
  | succ k ih => simp only [turned]; split <;> simp [ih]
theorem turned_byte (bs : List Nat) (p n k : Nat) (hb : ∀ b ∈ bs, b < 256) : ∀ b ∈ turned bs p n k, b < 256 := by
  induction k with
  | zero => exact hb
  | succ k ih =>
    simp only [turned]
    split
    · intro b hm
      rcases List.mem_or_eq_of_mem_set hm with h | h
      · exact ih b h
      · rw [h]
        refine Nat.xor_lt_two_pow (n := 8) ?_ (Nat.pow_lt_pow_right (by decide) (by omega))
        rw [List.getD_eq_getElem?_getD]
        cases e : (turned bs p n k)[(p + k) / 8]? with
        | none => simp
        | some x => exact ih x (List.mem_of_getElem? e)
    · exact ih
theorem turned_bit (bs : List Nat) (p n k : Nat) (hk : p + k ≤ 8 * bs.length) (j : Nat) : bitAt (turned bs p n k) j = (bitAt bs j ^^ (decide (p ≤ j ∧ j < p + k) && n.testBit (j - p))) := by
  induction k with
  | zero =>
    have : decide (p ≤ j ∧ j < p + 0) = false := decide_eq_false (by omega)
    rw [this]; simp [turned]
  | succ k ih =>
    have ih := ih (by omega)
    have hl := turned_length bs p n k
    have key : bitAt (turned bs p n (k + 1)) j = (bitAt (turned bs p n k) j ^^ (decide (j = p + k) && n.testBit k)) := by
      simp only [turned]
      split
      · next ht =>
        rw [ht]
        unfold bitAt
        by_cases e : j / 8 = (p + k) / 8
        · rw [e]
          simp only [List.getD_eq_getElem?_getD]
          rw [List.getElem?_set_self (by omega)]
          simp only [Option.getD_some, Nat.testBit_xor, Nat.testBit_two_pow]
          congr 1
          simp; omega
        · simp only [List.getD_eq_getElem?_getD]
          rw [List.getElem?_set_ne (by omega)]
          have : decide (j = p + k) = false := decide_eq_false fun h => e (by rw [h])
          rw [this]; simp
      · next ht => simp at ht; rw [ht]; simp
    rw [key, ih]
    by_cases e : j = p + k
    · subst e
      have e1 : decide (p ≤ p + k ∧ p + k < p + k) = false := by simp
      have e2 : decide (p ≤ p + k ∧ p + k < p + (k + 1)) = true := by simp
      rw [e1, e2]; simp
    · have e1 : decide (p ≤ j ∧ j < p + (k + 1)) = decide (p ≤ j ∧ j < p + k) := by
        rw [decide_eq_decide]; omega
      rw [e1]; simp [e]

theorem burst_bytes (r : BitVec 32) (bs : List Nat) (p n : Nat) (hb : ∀ b ∈ bs, b < 256) (hp : p + 32 ≤ 8 * bs.length) (hn0 : n ≠ 0) (hn : n < 4294967296) : crcR r bs ≠ crcR r (turned bs p n 32) := by
  intro h
  rw [crcR_bits r bs hb, crcR_bits r _ (turned_byte bs p n 32 hb), turned_length] at h
  have := burst r _ _ p _ hp (fun j hj => by
    rw [turned_bit bs p n 32 hp j]
    have : decide (p ≤ j ∧ j < p + 32) = false := by simp; omega
    rw [this]; simp) h
  refine hn0 (Nat.eq_of_testBit_eq fun i => ?_)
  rw [Nat.zero_testBit]
  by_cases hi : i < 32
  · have h1 := this i hi
    rw [turned_bit bs p n 32 hp] at h1
    have h2 : decide (p ≤ p + i ∧ p + i < p + 32) = true := by simp; omega
    rw [h2, Nat.add_sub_cancel_left] at h1
    cases hh : n.testBit i
    · rfl
    · rw [hh] at h1; simp at h1
  · exact Nat.testBit_lt_two_pow (Nat.lt_of_lt_of_le hn (by
      rw [show (4294967296 : Nat) = 2 ^ 32 from rfl]; exact Nat.pow_le_pow_right (by decide) (by omega)))
end Go.Proofs.Ytflapcaaaipoeaa
