/-
  Texts of the seat, put together: Bm Ba Bd Be Bh Hm Im Aa Bw Bx Ha Hb Hc Hd Hw Wm He.
-/
import Derived.WalkKit
import Derived.Test.YtdpmpllbdoefdaaGreatDoorRows
import Derived.WalkSpells
import Derived.WalkLawsBesides
import Derived.Deep.QuietTactic
import Derived.BigQuiet
import Derived.Defers
import Derived.Recover
import Derived.Deep.RegionHeld3
import Derived.Deep.DrawnRows
import Derived.BigRegion
import Derived.Deep.AppendLies
import Derived.Laws.MakeOwn
import Derived.Laws.OwnMore
import Derived.Deep.RegionHeldLaw
namespace Go.Proofs.YtdpmpllbdoefdaaGreatDoor
open Go.RowKit
theorem pow_split (n : Nat) (hn : n ≤ 64) : (18446744073709551616 : Nat) = 2 ^ n * 2 ^ (64 - n) := by
  rw [← Nat.pow_add, show n + (64 - n) = 64 by omega]
theorem pow_le62 (n : Nat) (hn : n ≤ 62) : (2 : Nat) ^ n ≤ 4611686018427387904 := by
  have h := Nat.pow_le_pow_right (n := 2) (by decide) hn
  have e : (2 : Nat) ^ 62 = 4611686018427387904 := by decide
  omega
theorem pow_pos2 (n : Nat) : 0 < (2 : Nat) ^ n := Nat.pow_pos (by decide)
theorem wrap_i64_id (x : Int) (h0 : -9223372036854775808 ≤ x) (h1 : x < 9223372036854775808) : IntKind.i64.wrap x = x := by
  simp [IntKind.wrap, IntKind.bits, IntKind.signed]; omega
theorem wrap64_id (x : Int) (h0 : -9223372036854775808 ≤ x) (h1 : x < 9223372036854775808) : wrap64 x = x := by
  unfold wrap64; omega
theorem mask_i64 (x : Int) (n : Nat) (hn : n ≤ 62) : bits .and .i64 x (2 ^ n - 1) = x % 2 ^ n := by
  have hp := pow_le62 n hn
  have hp0 := pow_pos2 n
  have e1 : ((2:Int) ^ n - 1) = ((2 ^ n - 1 : Nat) : Int) := by
    rw [Int.natCast_sub hp0]; simp
  have e2 : (BitVec.ofInt 64 ((2:Int) ^ n - 1)).toNat = 2 ^ n - 1 := by
    rw [e1, BitVec.toNat_ofInt]; omega
  have e3 : ((x % (18446744073709551616 : Int)).toNat % 2 ^ n : Nat) = (x % 2 ^ n).toNat := by
    have h1 : (0:Int) ≤ x % 18446744073709551616 := by omega
    have h3 : ((18446744073709551616 : Nat) : Int) = 2 ^ n * 2 ^ (64 - n) := by
      rw [pow_split n (by omega)]; simp
    have h4 : (x % 18446744073709551616) % 2 ^ n = x % 2 ^ n := by
      rw [show (18446744073709551616 : Int) = ((18446744073709551616 : Nat) : Int) from rfl, h3]
      exact Int.emod_emod_of_dvd x (Int.dvd_mul_right _ _)
    have h2 : (((x % (18446744073709551616 : Int)).toNat % 2 ^ n : Nat) : Int) = (x % 18446744073709551616) % 2 ^ n := by
      rw [Int.natCast_emod, Int.toNat_of_nonneg h1]; simp
    omega
  have e5 : (BitVec.ofInt 64 x).toNat = (x % (18446744073709551616 : Int)).toNat := by
    rw [BitVec.toNat_ofInt]; rfl
  have e6 : (BitVec.ofInt 64 x &&& BitVec.ofInt 64 ((2:Int) ^ n - 1)).toNat = (x % 2 ^ n).toNat := by
    rw [BitVec.toNat_and, e2, e5, Nat.and_two_pow_sub_one_eq_mod, e3]
  have hi0 : (0:Int) < 2 ^ n := by exact_mod_cast hp0
  have e7 : (0:Int) ≤ x % 2 ^ n := Int.emod_nonneg _ (by omega)
  have e8 : x % 2 ^ n < 2 ^ n := Int.emod_lt_of_pos _ hi0
  have e10 : ((2:Int) ^ n) = ((2 ^ n : Nat) : Int) := by simp
  have e9 : ((2:Int) ^ n) ≤ 4611686018427387904 := by rw [e10]; omega
  clear e10
  have e4 : (bits .and .i64 x (2 ^ n - 1)) = IntKind.i64.wrap (((x % 2 ^ n).toNat : Nat) : Int) := by
    exact congrArg (fun n : Nat => IntKind.i64.wrap (n : Int)) e6
  rw [e4, wrap_i64_id] <;> omega
theorem or_i64 (i a b : Nat) (ha : a < 2 ^ i) (hb : b % 2 ^ i = 0) (hs : a + b < 4611686018427387904) : bits .or .i64 (a : Int) (b : Int) = (a : Int) + b := by
  have e1 : (BitVec.ofInt 64 (a : Int)).toNat = a := by rw [BitVec.toNat_ofInt]; omega
  have e2 : (BitVec.ofInt 64 (b : Int)).toNat = b := by rw [BitVec.toNat_ofInt]; omega
  have e3 : (BitVec.ofInt 64 (a : Int) ||| BitVec.ofInt 64 (b : Int)).toNat = a + b := by
    rw [BitVec.toNat_or, e1, e2, Nat.or_comm, nat_join i b a hb ha]; omega
  have e4 : bits .or .i64 (a : Int) (b : Int) = IntKind.i64.wrap ((a + b : Nat) : Int) := by
    exact congrArg (fun n : Nat => IntKind.i64.wrap (n : Int)) e3
  rw [e4, wrap_i64_id] <;> omega
theorem or_i64' (i a b : Nat) (ha : a < 2 ^ i) (hb : b % 2 ^ i = 0) (hs : a + b < 4611686018427387904) : bits .or .i64 (b : Int) (a : Int) = (b : Int) + a := by
  have e1 : (BitVec.ofInt 64 (a : Int)).toNat = a := by rw [BitVec.toNat_ofInt]; omega
  have e2 : (BitVec.ofInt 64 (b : Int)).toNat = b := by rw [BitVec.toNat_ofInt]; omega
  have e3 : (BitVec.ofInt 64 (b : Int) ||| BitVec.ofInt 64 (a : Int)).toNat = a + b := by
    rw [BitVec.toNat_or, e1, e2, nat_join i b a hb ha]; omega
  have e4 : bits .or .i64 (b : Int) (a : Int) = IntKind.i64.wrap ((a + b : Nat) : Int) := by
    exact congrArg (fun n : Nat => IntKind.i64.wrap (n : Int)) e3
  rw [e4, wrap_i64_id] <;> omega
def leNum : List Nat → Nat
  | [] => 0
  | b :: l => b + 256 * leNum l
theorem byte_le (l : List Nat) (h : ∀ b ∈ l, b < 256) (k : Nat) : leNum l / 2 ^ (8 * k) % 256 = l.getD k 0 := by
  induction l generalizing k with
  | nil => simp [leNum]
  | cons b l ih =>
    have hb : b < 256 := h b (by simp)
    cases k with
    | zero => simp [leNum]; omega
    | succ k =>
      have e : 2 ^ (8 * (k + 1)) = 256 * 2 ^ (8 * k) := by
        rw [show 8 * (k + 1) = 8 + 8 * k by omega, Nat.pow_add]
      have e2 : (b + 256 * leNum l) / 256 = leNum l := by omega
      rw [leNum, e, ← Nat.div_div_eq_div_mul, e2]
      simpa using ih (fun x hx => h x (by simp [hx])) k
def lowBits (V p n : Nat) : Nat := V / 2 ^ p % 2 ^ n
theorem lowBits_lt (V p n : Nat) : lowBits V p n < 2 ^ n := Nat.mod_lt _ (pow_pos2 n)
theorem lowBits_zero (V p : Nat) : lowBits V p 0 = 0 := by simp [lowBits, Nat.mod_one]
theorem lowBits_add (V p m n : Nat) : lowBits V p (m + n) = lowBits V p m + 2 ^ m * lowBits V (p + m) n := by
  unfold lowBits
  rw [Nat.pow_add, Nat.mod_mul, Nat.pow_add, ← Nat.div_div_eq_div_mul]
theorem piece_low (l : List Nat) (h : ∀ b ∈ l, b < 256) (p s : Nat) (hs : p % 8 + s ≤ 8) : l.getD (p / 8) 0 / 2 ^ (p % 8) % 2 ^ s = lowBits (leNum l) p s := by
  rw [← byte_le l h (p / 8)]
  unfold lowBits
  have e : (256 : Nat) = 2 ^ (p % 8) * 2 ^ (8 - p % 8) := by
    rw [← Nat.pow_add, show p % 8 + (8 - p % 8) = 8 by omega]
  have e1 : leNum l / 2 ^ (8 * (p / 8)) % 256 / 2 ^ (p % 8) = leNum l / 2 ^ p % 2 ^ (8 - p % 8) := by
    rw [e, Nat.mod_mul_right_div_self, Nat.div_div_eq_div_mul, ← Nat.pow_add, show 8 * (p / 8) + p % 8 = p by omega]
  rw [e1]
  have e2 : (2:Nat) ^ (8 - p % 8) = 2 ^ s * 2 ^ (8 - p % 8 - s) := by
    rw [← Nat.pow_add, show s + (8 - p % 8 - s) = 8 - p % 8 by omega]
  rw [e2, Nat.mod_mul_right_mod]
theorem int_bits (x : Int) (p s : Nat) (h : p + s ≤ 64) : (x / 2 ^ p) % 2 ^ s = ((lowBits (x % 18446744073709551616).toNat p s : Nat) : Int) := by
  have h0 : (0:Int) ≤ x % 18446744073709551616 := by omega
  have hX : (((x % 18446744073709551616).toNat : Nat) : Int) = x % 18446744073709551616 := Int.toNat_of_nonneg h0
  have e0 : ((lowBits (x % 18446744073709551616).toNat p s : Nat) : Int) = (x % 18446744073709551616) / 2 ^ p % 2 ^ s := by
    simp only [lowBits, Int.natCast_emod, Int.natCast_ediv, Int.natCast_pow, hX]
    rfl
  rw [e0]
  have hp : (0:Int) < 2 ^ p := by exact_mod_cast pow_pos2 p
  have e1 : x = x % 18446744073709551616 + 2 ^ p * (2 ^ s * (2 ^ (64 - p - s) * (x / 18446744073709551616))) := by
    have : (2:Int) ^ p * (2 ^ s * (2 ^ (64 - p - s) * (x / 18446744073709551616))) = 18446744073709551616 * (x / 18446744073709551616) := by
      rw [← Int.mul_assoc, ← Int.mul_assoc, ← Int.pow_add, ← Int.pow_add, show p + s + (64 - p - s) = 64 by omega]
      rfl
    rw [this]; omega
  generalize x % 18446744073709551616 = X at *
  generalize 2 ^ (64 - p - s) * (x / 18446744073709551616) = K at *
  rw [e1, Int.add_mul_ediv_left _ _ (by omega), Int.add_mul_emod_self_left]
theorem leNum_append (l : List Nat) (b : Nat) : leNum (l ++ [b]) = leNum l + b * 2 ^ (8 * l.length) := by
  induction l with
  | nil => simp [leNum]
  | cons a l ih =>
    simp only [List.cons_append, leNum, ih, List.length_cons]
    rw [show 8 * (l.length + 1) = 8 + 8 * l.length by omega, Nat.pow_add]
    have : b * (2 ^ 8 * 2 ^ (8 * l.length)) = 256 * (b * 2 ^ (8 * l.length)) := by
      rw [show (2:Nat) ^ 8 = 256 by decide, Nat.mul_left_comm]
    omega
structure LowSt (os : List Nat) (wr : Nat) : Prop where
  len : os.length = (wr + 7) / 8
  bytes : ∀ b ∈ os, b < 256
  num : leNum os < 2 ^ wr
theorem mul_lt_pow {q s a : Nat} (h : q < 2 ^ s) : q * 2 ^ a + 2 ^ a ≤ 2 ^ (a + s) := by
  rw [Nat.pow_add, Nat.mul_comm (2 ^ a)]
  have := Nat.mul_le_mul_right (2 ^ a) (show q + 1 ≤ 2 ^ s from h)
  rw [Nat.add_mul] at this
  omega
theorem low_put {init : List Nat} {last wr s q : Nat} (hl : init.length = wr / 8) (hb : ∀ b ∈ init, b < 256) (hlast : last < 2 ^ (wr % 8)) (hn : leNum (init ++ [last]) < 2 ^ wr) (hs : wr % 8 + s ≤ 8) (hs0 : 0 < s) (hq : q < 2 ^ s) :
    LowSt (init ++ [last + q * 2 ^ (wr % 8)]) (wr + s) ∧ leNum (init ++ [last + q * 2 ^ (wr % 8)]) = leNum (init ++ [last]) + q * 2 ^ wr := by
  have e : leNum (init ++ [last + q * 2 ^ (wr % 8)]) = leNum (init ++ [last]) + q * 2 ^ wr := by
    rw [leNum_append, leNum_append, hl, Nat.add_mul, Nat.mul_assoc, ← Nat.pow_add, show wr % 8 + 8 * (wr / 8) = wr by omega]
    omega
  have h1 := mul_lt_pow (a := wr % 8) hq
  have h2 := mul_lt_pow (a := wr) hq
  have h3 : (2:Nat) ^ (wr % 8 + s) ≤ 2 ^ 8 := Nat.pow_le_pow_right (by decide) hs
  have h4 : (2:Nat) ^ 8 = 256 := by decide
  refine ⟨⟨?_, ?_, by rw [e]; omega⟩, e⟩
  · simp [hl]; omega
  · intro b hb'
    simp only [List.mem_append, List.mem_singleton] at hb'
    rcases hb' with h | h
    · exact hb b h
    · omega
theorem LowSt.room {os : List Nat} {wr : Nat} (h : LowSt os wr) (hne : wr % 8 ≠ 0) : ∃ init last, os = init ++ [last] ∧ init.length = wr / 8 ∧ (∀ b ∈ init, b < 256) ∧ last < 2 ^ (wr % 8) ∧ last < 256 := by
  have hl := h.len
  have hos : os ≠ [] := by rintro rfl; simp at hl; omega
  refine ⟨os.dropLast, os.getLast hos, (List.dropLast_concat_getLast hos).symm, by rw [List.length_dropLast]; omega, fun b hb => h.bytes b (List.dropLast_subset _ hb), ?_, h.bytes _ (List.getLast_mem hos)⟩
  have hn := h.num
  rw [← List.dropLast_concat_getLast hos, leNum_append, List.length_dropLast] at hn
  generalize os.getLast hos = last at *
  rw [show 8 * (os.length - 1) = 8 * (wr / 8) by omega] at hn
  have e : (2:Nat) ^ wr = 2 ^ (wr % 8) * 2 ^ (8 * (wr / 8)) := by rw [← Nat.pow_add, show wr % 8 + 8 * (wr / 8) = wr by omega]
  rw [e] at hn
  exact Nat.lt_of_mul_lt_mul_right (Nat.lt_of_le_of_lt (Nat.le_add_left _ _) hn)
theorem or_u8 (i a b : Nat) (ha : a < 2 ^ i) (hb : b % 2 ^ i = 0) (hs : a + b < 256) : bits .or .u8 (a : Int) (b : Int) = ((a + b : Nat) : Int) := by
  rw [u8_or_nat a b (by omega) (by omega), Nat.or_comm, nat_join i b a hb ha]
  omega
end Go.Proofs.YtdpmpllbdoefdaaGreatDoor
namespace Go.Proofs.YtdpmpllbdoefdaaGreatDoor
open Go.RowKit
theorem hide {p : Prop} (h : p) : Hid p := h
theorem ret_int {k : IntKind} {a b : Int} (h : a = b) : Ending.returned (.int k a) = .returned (.int k b) := by rw [h]
set_option maxHeartbeats 400000 in
set_option maxRecDepth 100000 in
theorem lowest_c (x : Int) (n : Nat) (hn : n ≤ 62) (w : World) :
    Calls Tryz.prog 87 #[.int .i64 x, .int .i64 n] w fun e w' => e = .returned (.int .i64 (x % 2 ^ n)) ∧ w = w' := by
  have hp := pow_le62 n hn
  have hp0 := pow_pos2 n
  have e10 : ((2:Int) ^ n) = ((2 ^ n : Nat) : Int) := by simp
  have e1 : wrap64 (wrap64 ((2:Int) ^ n) - 1) = 2 ^ n - 1 := by
    rw [e10]; unfold wrap64; omega
  have He1 : Hid (wrap64 (wrap64 ((2:Int) ^ n) - 1) = 2 ^ n - 1) := e1
  clear e1 e10 hp hp0
  go_enter Tryz.func87, Tryz.ntmps87
  go_wp2
  go_ret
  exact ⟨ret_int (by rw [He1.out, mask_i64 x n hn]), rfl⟩
set_option maxHeartbeats 400000 in
set_option maxRecDepth 100000 in
theorem width_ok (n : Int) (h0 : 0 ≤ n) (h1 : n ≤ 24) (w : World) :
    Calls Tryz.prog 84 #[.int .i64 n] w fun e w' => e = .returned (.tuple #[]) ∧ w = w' := by
  go_enter Tryz.func84, Tryz.ntmps84
  go_wp2
  go_end0
  exact ⟨rfl, rfl⟩
theorem ret_tup3 {k1 k2 k3 : IntKind} {a1 b1 a2 b2 a3 b3 : Int} (h1 : a1 = b1) (h2 : a2 = b2) (h3 : a3 = b3) :
    Ending.returned (.tuple #[.int k1 a1, .int k2 a2, .int k3 a3]) = .returned (.tuple #[.int k1 b1, .int k2 b2, .int k3 b3]) := by rw [h1, h2, h3]
theorem setCell_drewN_eq {w : World} {n : Nat} {a : Addr} {k : IntKind} {x y : Int} (h : x = y) : (w.drewN n).setCell a (.int k x) = (w.setCell a (.int k y)).drewN n := by rw [h]; rfl
def Bytes (w : World) (B : Nat) (a : Option Addr) (bs : List Nat) : Prop :=
  bs = [] ∨ ∃ D o, a = some ⟨D, o, none⟩ ∧ D ≠ B ∧ ∀ i, i < bs.length → w.cell? ⟨D, o + i, none⟩ = some (.int .u8 ((bs.getD i 0 : Nat) : Int))
theorem setCell_same {w : World} {a : Addr} {v : Value} (h : w.cell? a = some v) : w.setCell a v = w := by
  obtain ⟨b, o, s⟩ := a
  cases w with
  | mk heap tape drawn os output =>
  simp only [World.setCell, World.mk.injEq, and_true]
  apply Array.ext_getElem?
  intro i
  rw [Array.getElem?_modify]
  split
  · next e =>
    subst e
    simp only [World.cell?] at h
    split at h
    · next c el fz he =>
      rw [he]
      split at h
      · cases h
      · simp only [Option.map_some, Option.some.injEq]
        split
        · next e1 e2 => exact absurd e2 e1
        · congr 1
          apply Array.ext_getElem?
          intro j
          rw [Array.getElem?_setIfInBounds]
          split
          · next e3 =>
            subst e3
            split
            · exact h.symm
            · next e4 => rw [Array.getElem?_eq_none (by simpa using e4)]
          · rfl
    · cases h
  · rfl
theorem setCell_setCell (w : World) (a : Addr) (u v : Value) : (w.setCell a u).setCell a v = w.setCell a v := by
  cases w with
  | mk heap tape drawn os output =>
  simp only [World.setCell, World.mk.injEq, and_true]
  apply Array.ext_getElem?
  intro i
  simp only [Array.getElem?_modify]
  split
  · cases heap[i]? with
    | none => rfl
    | some o =>
      simp only [Option.map_some, Option.some.injEq]
      cases o <;> simp
      split <;> simp
  · rfl
structure Moved (B p : Nat) (w w' : World) : Prop where
  eq : ∃ k, w' = (w.setCell ⟨B, 1, none⟩ (.int .i64 (p : Int))).drewN k
theorem Moved.cell {B p : Nat} {w w' : World} (h : Moved B p w w') {a : Addr} (ha : a ≠ ⟨B, 1, none⟩) : w'.cell? a = w.cell? a := by
  obtain ⟨k, rfl⟩ := h.eq
  rw [World.cell?_drewN, World.cell?_setCell_other _ _ _ _ (Ne.symm ha)]
theorem Moved.own {B p : Nat} {w w' : World} (h : Moved B p w w') {v : Value} (hv : w.cell? ⟨B, 1, none⟩ = some v) : w'.cell? ⟨B, 1, none⟩ = some (.int .i64 p) := by
  obtain ⟨k, rfl⟩ := h.eq
  rw [World.cell?_drewN]; simp [World.cell?_setCell_same, hv]
theorem Moved.frozen {B p : Nat} {w w' : World} (h : Moved B p w w') (a : Addr) : w'.frozen? a = w.frozen? a := by
  obtain ⟨k, rfl⟩ := h.eq
  simp
theorem Moved.trans {B p q : Nat} {w w' w'' : World} (h : Moved B p w w') (g : Moved B q w' w'') : Moved B q w w'' := by
  obtain ⟨k, rfl⟩ := h.eq
  obtain ⟨k', rfl⟩ := g.eq
  refine ⟨k + k', ?_⟩
  rw [show ((w.setCell ⟨B, 1, none⟩ (.int .i64 (p : Int))).drewN k).setCell ⟨B, 1, none⟩ (.int .i64 (q : Int)) = ((w.setCell ⟨B, 1, none⟩ (.int .i64 (p : Int))).setCell ⟨B, 1, none⟩ (.int .i64 (q : Int))).drewN k from rfl, setCell_setCell]
  simp only [World.drewN, Nat.add_assoc]
theorem Moved.start {B p : Nat} {w : World} (h : w.cell? ⟨B, 1, none⟩ = some (.int .i64 p)) (k : Nat) : Moved B p w (w.drewN k) := ⟨k, by rw [setCell_same h]⟩
theorem Moved.bytes {B p : Nat} {w w' : World} (h : Moved B p w w') {a : Option Addr} {bs : List Nat} (hb : Bytes w B a bs) : Bytes w' B a bs := by
  rcases hb with hb | ⟨D, o, e, hD, hc⟩
  · exact Or.inl hb
  · exact Or.inr ⟨D, o, e, hD, fun i hi => by rw [h.cell (fun e => hD (congrArg Addr.block e))]; exact hc i hi⟩
theorem byte_lt {l : List Nat} (h : ∀ b ∈ l, b < 256) (k : Nat) : l.getD k 0 < 256 := by
  rw [List.getD_eq_getElem?_getD]
  cases e : l[k]? with
  | none => simp
  | some b => simpa using h b (List.mem_of_getElem? e)
theorem low_step (l : List Nat) (h : ∀ b ∈ l, b < 256) (p g s n b : Nat) (hb : b = l.getD ((p + g) / 8) 0) (hg : g + s ≤ n) (hn : n ≤ 24) (hs : (p + g) % 8 + s ≤ 8) :
    bits .or .i64 ((lowBits (leNum l) p g : Nat) : Int) (wrap64 (wrap64 (b : Int) / 2 ^ ((p + g) % 8) % 2 ^ s * 2 ^ g)) = ((lowBits (leNum l) p (g + s) : Nat) : Int) := by
  have hb2 := byte_lt h ((p + g) / 8)
  subst hb
  have e1 : (((l.getD ((p + g) / 8) 0 : Nat) : Int) / 2 ^ ((p + g) % 8) % 2 ^ s * 2 ^ g) = ((lowBits (leNum l) (p + g) s * 2 ^ g : Nat) : Int) := by
    rw [← piece_low l h (p + g) s hs]; simp
  have h1 := lowBits_lt (leNum l) p g
  have h2 := lowBits_lt (leNum l) p (g + s)
  have h3 := lowBits_add (leNum l) p g s
  have h4 : (2:Nat) ^ (g + s) ≤ 2 ^ 24 := Nat.pow_le_pow_right (by decide) (by omega)
  have h5 : (2:Nat) ^ 24 = 16777216 := by decide
  have h6 : lowBits (leNum l) (p + g) s * 2 ^ g = 2 ^ g * lowBits (leNum l) (p + g) s := Nat.mul_comm _ _
  rw [wrap64_id ((l.getD ((p + g) / 8) 0 : Nat) : Int) (by omega) (by omega), e1, wrap64_id _ (by omega) (by omega), or_i64 g _ _ h1 (by simp) (by omega)]
  omega
abbrev errPanic (n : Int) : Ending := .panicked [{ v := .iface 24 (.int .i64 n), recovered := false }]
end Go.Proofs.YtdpmpllbdoefdaaGreatDoor
namespace Go.Proofs.YtdpmpllbdoefdaaGreatDoor
open Go.RowKit
theorem Tryz.info5 : (Tryz.prog.info? 5).map (fun i => (i.zero, i.size, i.bytes)) = some (some (.int .u8 0), 1, 1) := by kernel_rfl
theorem nilB (w : World) (a : Option Addr) (n c n' c' : Nat) : (binOp .eql 22 (.slice a n c) (.slice none n' c')).run Tryz.prog w = .ok (.bool a.isNone) w := Lib.run_eql_slice_nil w _ _ a n c n' c' Tryz.underlying22
def cellsOf (bs : List Nat) : List Value := bs.map fun b => .int .u8 ((b : Nat) : Int)
theorem cellsOf_length (bs : List Nat) : (cellsOf bs).length = bs.length := by simp [cellsOf]
theorem cellsOf_one (bs : List Nat) : ∀ u ∈ cellsOf bs, u.oneCell' = true := by
  intro u hu
  simp only [cellsOf, List.mem_map] at hu
  obtain ⟨b, _, rfl⟩ := hu
  rfl
set_option maxHeartbeats 400000 in
set_option maxRecDepth 100000 in
theorem clone_nil (w : World) : Calls Tryz.prog 39 #[.slice none 0 0] w fun e w' => e = .returned (.slice none 0 0) ∧ w = w' := by
  have q := nilB
  go_enter Tryz.func39, Tryz.ntmps39
  go_wp2
  go_ret
  exact ⟨rfl, rfl⟩
set_option maxHeartbeats 400000 in
set_option maxRecDepth 100000 in
theorem clone_some (ad : Addr) (c : Nat) (bs : List Nat) (w : World) (hc : ∀ j u, (cellsOf bs)[j]? = some u → w.cell? (ad.add j) = some u) (hlen : bs.length ≤ 2147483648) :
    Calls Tryz.prog 39 #[.slice (some ad) bs.length c] w fun e w' => ∃ v, e = .returned v ∧ w'.ownsRow w.heap.size 5 1 v bs.length (cellsOf bs) ∧ Below w.heap.size w w' := by
  obtain ⟨i0, hi, hz0, hz1, hz2⟩ := info_parts Tryz.info5
  have hnews : ∀ j u, (cellsOf bs)[j]? = some u → (w.alloc (.cells #[] 5)).cell? (ad.add j) = some u := by
    intro j u hu
    have := hc j u hu
    have hb := World.block_lt_of_cell? w _ this
    rw [World.cell?_alloc_lt _ _ _ hb]; exact this
  have hone := cellsOf_one bs
  have hl : (cellsOf bs).length = bs.length * 1 := by simp [cellsOf_length]
  generalize cellsOf bs = news at *
  generalize bs.length = m at *
  have q := nilB
  go_enter Tryz.func39, Tryz.ntmps39
  go_wp2_with (at_builtin; refine wpList_append_own _ rfl _ _ 22 rfl w.heap.size 5 i0 (.int .u8 0) 1 1 Tryz.underlying22 hi hz0 hz1 hz2 rfl (by decide) (.slice (some ⟨w.heap.size, 0, none⟩) 0 0) 0 [] rfl (World.ownsRow_made _ #[] 0 (Nat.le_refl _) (by unfold maxLen; omega) rfl) ad m c news rfl hl hnews hone (by unfold maxLen; omega) (by omega) (by simp) ?_; intro v' w3 hown' hgrow3 hnil3)
  go_ret
  exact ⟨_, rfl, by simpa using hown', Below.grown ((Below.refl _ _).alloc (Nat.le_refl _) _) hgrow3 (by simp) (fun k hk => by simp [Value.ownBlock] at hk; omega)⟩
def Lies (w : World) (sv : Value) (bs : List Nat) : Prop :=
  (sv = .slice none 0 0 ∧ bs = []) ∨ ∃ ad c, sv = .slice (some ad) bs.length c ∧ ∀ j u, (cellsOf bs)[j]? = some u → w.cell? (ad.add j) = some u
theorem ownsRow_shape {w : World} {lo : Nat} {e : TypeId} {size : Nat} {v : Value} {n : Nat} {xs : List Value} (h : w.ownsRow lo e size v n xs) : ∃ a c, v = .slice a n c := by
  rcases h.2 with ⟨h, hn⟩ | ⟨g, cap, cur, hv, _⟩
  · exact ⟨none, 0, by rw [h, hn]⟩
  · exact ⟨_, _, hv⟩
theorem clone_c (sv : Value) (bs : List Nat) (w : World) (h : Lies w sv bs) (hlen : bs.length ≤ 2147483648) :
    Calls Tryz.prog 39 #[sv] w fun e w' => ∃ a c, e = .returned (.slice a bs.length c) ∧ w'.ownsRow w.heap.size 5 1 (.slice a bs.length c) bs.length (cellsOf bs) ∧ Below w.heap.size w w' := by
  rcases h with ⟨rfl, rfl⟩ | ⟨ad, c, rfl, hc⟩
  · exact (clone_nil w).mono fun e w' ⟨he, hw⟩ => ⟨none, 0, he, hw ▸ World.ownsRow_nil _ _ _ _, hw ▸ Below.refl _ _⟩
  · exact (clone_some ad c bs w hc hlen).mono fun e w' ⟨v, he, ho, hb⟩ => by
      obtain ⟨a, c, rfl⟩ := ownsRow_shape ho
      exact ⟨a, c, he, ho, hb⟩
end Go.Proofs.YtdpmpllbdoefdaaGreatDoor
namespace Go.Proofs.YtdpmpllbdoefdaaGreatDoor
open Go.RowKit
structure Fr (S : Nat → Prop) (w w' : World) : Prop where
  os : w'.os = w.os
  tape : w'.tape = w.tape
  output : w'.output = w.output
  size : w.heap.size ≤ w'.heap.size
  block : ∀ k, k < w.heap.size → ¬ S k → w'.heap[k]? = w.heap[k]?
theorem Fr.refl (S : Nat → Prop) (w : World) : Fr S w w := ⟨rfl, rfl, rfl, Nat.le_refl _, fun _ _ _ => rfl⟩
theorem Fr.trans {S S' : Nat → Prop} {a b c : World} (h : Fr S a b) (k : Fr S' b c) : Fr (fun i => S i ∨ S' i) a c :=
  ⟨k.os.trans h.os, k.tape.trans h.tape, k.output.trans h.output, Nat.le_trans h.size k.size, fun i hi hs =>
    (k.block i (Nat.lt_of_lt_of_le hi h.size) (fun x => hs (Or.inr x))).trans (h.block i hi (fun x => hs (Or.inl x)))⟩
theorem Fr.mono {S S' : Nat → Prop} {a b : World} (h : Fr S a b) (hs : ∀ k, k < a.heap.size → S k → S' k) : Fr S' a b :=
  ⟨h.os, h.tape, h.output, h.size, fun i hi hn => h.block i hi (fun x => hn (hs i hi x))⟩
theorem Fr.below {S : Nat → Prop} {a b : World} (h : Fr S a b) {B : Nat} (hB : B ≤ a.heap.size) (hs : ∀ k, S k → B ≤ k) : Below B a b :=
  ⟨h.os, h.tape, h.output, h.size, fun k hk => h.block k (by omega) (fun x => by have := hs k x; omega)⟩
theorem Fr.of_below {B : Nat} {a b : World} (h : Below B a b) : Fr (fun k => B ≤ k) a b :=
  ⟨h.os, h.tape, h.output, h.size, fun k _ hn => h.block k (by omega)⟩
theorem Fr.of_drewN (w : World) (k : Nat) : Fr (fun _ => False) w (w.drewN k) := ⟨rfl, rfl, rfl, Nat.le_refl _, fun _ _ _ => rfl⟩
theorem Fr.of_setCell (w : World) (a : Addr) (v : Value) : Fr (fun k => k = a.block) w (w.setCell a v) :=
  ⟨rfl, rfl, rfl, by simp [World.setCell], fun k _ hn => Below.heap_setCell _ _ _ _ hn⟩
theorem Fr.of_alloc (w : World) (o : Obj) : Fr (fun _ => False) w (w.alloc o) :=
  ⟨rfl, rfl, rfl, by simp, fun k hk _ => Below.heap_alloc _ _ _ hk⟩
theorem Fr.of_moved {B p : Nat} {w w' : World} (h : Moved B p w w') : Fr (fun k => k = B) w w' := by
  obtain ⟨k, rfl⟩ := h.eq
  exact (((Fr.of_setCell w ⟨B, 1, none⟩ (.int .i64 p))).trans (Fr.of_drewN _ k)).mono (fun i _ hi => by simpa using hi)
structure Rd (T : TypeId) (w : World) (lo hi B : Nat) (bs : List Nat) (pos : Nat) (ov : Value) (wr : Int) : Prop where
  elo : lo ≤ B
  ehi : B < hi
  esz : hi ≤ w.heap.size
  epos : pos ≤ 8 * bs.length
  ebytes : ∀ b ∈ bs, b < 256
  elen : bs.length ≤ 2147483648
  eobj : ∃ v, w.heap[B]? = some (.cells #[v, .int .i64 pos, ov, .int .i64 wr] T (0, 0)) ∧ w.ownsRow lo 5 1 v bs.length (cellsOf bs) ∧ ∀ k, v.ownBlock = some k → k ≠ B ∧ k < hi
theorem ownsRow_fr {w w' : World} {lo : Nat} {e : TypeId} {size : Nat} {v : Value} {n : Nat} {xs : List Value} (h : w.ownsRow lo e size v n xs) (hs : ∀ k, v.ownBlock = some k → w'.heap[k]? = w.heap[k]?) : w'.ownsRow lo e size v n xs := by
  obtain ⟨h1, h2⟩ := h
  refine ⟨h1, ?_⟩
  rcases h2 with h2 | ⟨g, cap, cur, hv, hg, hh, r⟩
  · exact Or.inl h2
  · exact Or.inr ⟨g, cap, cur, hv, hg, by rw [hs g (by rw [hv]; rfl)]; exact hh, r⟩
theorem Rd.keep {T : TypeId} {w w' : World} {lo hi B : Nat} {bs : List Nat} {pos : Nat} {ov : Value} {wr : Int} (h : Rd T w lo hi B bs pos ov wr) {S : Nat → Prop} (f : Fr S w w') (hS : ∀ k, lo ≤ k → k < hi → ¬ S k) : Rd T w' lo hi B bs pos ov wr := by
  obtain ⟨v, h1, h2, h3⟩ := h.eobj
  have hsz := h.esz
  have hlo := h.elo
  have hhi := h.ehi
  refine ⟨h.elo, h.ehi, Nat.le_trans h.esz f.size, h.epos, h.ebytes, h.elen, v, ?_, ?_, h3⟩
  · rw [f.block B (by omega) (hS B h.elo h.ehi)]; exact h1
  · refine ownsRow_fr h2 fun k hk => f.block k (by have := (h3 k hk).2; omega) (hS k ?_ (h3 k hk).2)
    exact (h2.lt k hk).1
theorem add_none (b o i : Nat) : (⟨b, o, none⟩ : Addr).add i = ⟨b, o + i, none⟩ := by
  unfold Addr.add
  split
  · next h => subst h; rfl
  · rfl
theorem Rd.facts {T : TypeId} {w : World} {lo hi B : Nat} {bs : List Nat} {pos : Nat} {ov : Value} {wr : Int} (h : Rd T w lo hi B bs pos ov wr) :
    ∃ a c, w.cell? ⟨B, 0, none⟩ = some (.slice a bs.length c) ∧ w.cell? ⟨B, 1, none⟩ = some (.int .i64 pos) ∧ w.frozen? ⟨B, 1, none⟩ = false ∧ Bytes w B a bs := by
  obtain ⟨v, h1, h2, h3⟩ := h.eobj
  have hf : w.frozen? ⟨B, 1, none⟩ = false := by simp [World.frozen?, h1]
  have hc1 : w.cell? ⟨B, 1, none⟩ = some (.int .i64 pos) := by simp [World.cell?, h1]
  have hc0 : w.cell? ⟨B, 0, none⟩ = some v := by simp [World.cell?, h1]
  rcases h2.2 with ⟨rfl, hn⟩ | ⟨g, cap, cur, rfl, hg, hh, hr, hm, hs, ht⟩
  · exact ⟨none, 0, by rw [hc0, hn], hc1, hf, Or.inl (List.eq_nil_of_length_eq_zero hn)⟩
  · refine ⟨some ⟨g, 0, none⟩, cap, hc0, hc1, hf, Or.inr ⟨g, 0, rfl, (h3 g rfl).1, fun i hi => ?_⟩⟩
    have := h2.cells (g := g) rfl i (.int .u8 ((bs.getD i 0 : Nat) : Int)) (by
      simp [cellsOf, List.getElem?_map, List.getElem?_eq_getElem hi])
    rw [add_none] at this; exact this
theorem Rd.moved {T : TypeId} {w w' : World} {lo hi B : Nat} {bs : List Nat} {pos p : Nat} {ov : Value} {wr : Int} (h : Rd T w lo hi B bs pos ov wr) (hm : Moved B p w w') (hp : p ≤ 8 * bs.length) : Rd T w' lo hi B bs p ov wr := by
  obtain ⟨v, h1, h2, h3⟩ := h.eobj
  have f := Fr.of_moved hm
  refine ⟨h.elo, h.ehi, Nat.le_trans h.esz f.size, hp, h.ebytes, h.elen, v, ?_, ?_, h3⟩
  · obtain ⟨k, rfl⟩ := hm.eq
    show (w.heap.modify B _)[B]? = _
    simp [Array.getElem?_modify, h1]
  · have hsz := h.esz
    exact ownsRow_fr h2 fun k hk => f.block k (by have := (h3 k hk).2; omega) (h3 k hk).1
theorem Rd.drewN {T : TypeId} {w : World} {lo hi B : Nat} {bs : List Nat} {pos : Nat} {ov : Value} {wr : Int} (h : Rd T w lo hi B bs pos ov wr) (k : Nat) : Rd T (w.drewN k) lo hi B bs pos ov wr :=
  h.keep (Fr.of_drewN w k) (fun _ _ _ h => h)
theorem cell_of {w : World} {b o : Nat} {cs : Array Value} {T : TypeId} {v : Value} (h : w.heap[b]? = some (.cells cs T (0, 0))) (hv : cs[o]? = some v) : w.cell? ⟨b, o, none⟩ = some v := by
  simp [World.cell?, h, hv]
theorem frozen_of {w : World} {b o : Nat} {cs : Array Value} {T : TypeId} (h : w.heap[b]? = some (.cells cs T (0, 0))) : w.frozen? ⟨b, o, none⟩ = false := by
  simp [World.frozen?, h]
theorem lt_of {w : World} {b : Nat} {o : Obj} (h : w.heap[b]? = some o) : b < w.heap.size := by
  rcases Nat.lt_or_ge b w.heap.size with hlt | hge
  · exact hlt
  · rw [Array.getElem?_eq_none hge] at h; cases h
theorem heap_setCell_own {w : World} {b o : Nat} {cs : Array Value} {T : TypeId} {fz : Nat × Nat} (v : Value) (h : w.heap[b]? = some (.cells cs T fz)) : (w.setCell ⟨b, o, none⟩ v).heap[b]? = some (.cells (cs.setIfInBounds o v) T fz) := by
  show (w.heap.modify b _)[b]? = _
  simp [Array.getElem?_modify, h]
theorem Fr.join {S : Nat → Prop} {a b c : World} (h : Fr S a b) (k : Fr S b c) : Fr S a c := (h.trans k).mono fun _ _ h => h.elim id id
theorem lies_lit (w : World) (bs : List Nat) (c : Nat) : Lies (w.alloc (.cells (cellsOf bs).toArray 5)) (.slice (some ⟨w.heap.size, 0, none⟩) bs.length c) bs := by
  refine Or.inr ⟨_, c, rfl, fun j u hu => ?_⟩
  rw [add_none]
  simpa using hu
theorem size_alloc (w : World) (o : Obj) : (w.alloc o).heap.size = w.heap.size + 1 := by simp
theorem heap_alloc_at {w : World} {o : Obj} {n : Nat} (h : n = w.heap.size) : (w.alloc o).heap[n]? = some o := by rw [h]; exact heap_alloc_new _ _
end Go.Proofs.YtdpmpllbdoefdaaGreatDoor
namespace Go.Proofs.YtdpmpllbdoefdaaGreatDoor
open Go.RowKit
theorem bit_low (l : List Nat) (h : ∀ b ∈ l, b < 256) (p b : Nat) (hb : b = l.getD (p / 8) 0) : b / 2 ^ (p % 8) % 2 = lowBits (leNum l) p 1 := by
  have := piece_low l h p 1 (by omega)
  rw [← hb] at this
  simpa using this
theorem and_one (b k : Nat) (hb : b < 256) : bits .and .i64 (wrap64 ((b : Int) / 2 ^ k)) 1 = ((b / 2 ^ k % 2 : Nat) : Int) := by
  have e : ((b : Int) / 2 ^ k) = ((b / 2 ^ k : Nat) : Int) := by simp
  have h1 : b / 2 ^ k ≤ b := Nat.div_le_self _ _
  rw [e]
  generalize b / 2 ^ k = q at *
  rw [wrap64_id _ (by omega) (by omega)]
  have := mask_i64 (q : Int) 1 (by decide)
  simpa using this
set_option maxHeartbeats 400000 in
set_option maxRecDepth 100000 in
theorem one_low (R D o n c p b : Nat) (w : World) (h0 : w.cell? ⟨R, 0, none⟩ = some (.slice (some ⟨D, o, none⟩) n c)) (h1 : w.cell? ⟨R, 1, none⟩ = some (.int .i64 p))
    (h2 : w.cell? ⟨R, 2, none⟩ = some (.bool false)) (hf : w.frozen? ⟨R, 1, none⟩ = false) (hb : w.cell? ⟨D, o + p / 8, none⟩ = some (.int .u8 b)) (hn : (n : Int) ≤ 2147483648) (hp : (p : Int) < 8 * n) (hb8 : (b : Int) < 256) :
    Calls Tryz.prog 40 #[.pointer (some ⟨R, 0, none⟩)] w fun e w' => e = .returned (.int .i64 (b / 2 ^ (p % 8) % 2 : Nat)) ∧ Moved R (p + 1) w w' := by
  have hi0 : (0 : Int) ≤ (p : Int) / 8 := by omega
  have hi1 : (p : Int) / 8 < n := by omega
  go_enter Tryz.func40, Tryz.ntmps40
  go_wp2
  go_quiet (fail)
  go_wp2
  go_ret
  exact ⟨ret_int (and_one _ _ (by omega)), ⟨nq, setCell_drewN_eq (by omega)⟩⟩
structure Rf (w : World) (R : Nat) (sv : Value) (bs : List Nat) (p : Nat) (hg : Bool) : Prop where
  eobj : ∃ sh, w.heap[R]? = some (.cells #[sv, .int .i64 p, .bool hg, .bool sh] 60 (0, 0))
  elies : Lies w sv bs
  eapart : bs ≠ [] → ∀ ad n c, sv = .slice (some ad) n c → ad.block ≠ R
  epos : p ≤ 8 * bs.length
  ebytes : ∀ b ∈ bs, b < 256
  elen : bs.length ≤ 2147483648
set_option maxHeartbeats 400000 in
set_option maxRecDepth 100000 in
theorem rleft_c (R n c : Nat) (a : Option Addr) (p : Nat) (w : World) (h0 : w.cell? ⟨R, 0, none⟩ = some (.slice a n c)) (h1 : w.cell? ⟨R, 1, none⟩ = some (.int .i64 p))
    (hn : (n : Int) ≤ 2147483648) (hp : (p : Int) ≤ 17179869184) :
    Calls Tryz.prog 26 #[.pointer (some ⟨R, 0, none⟩)] w fun e w' => e = .returned (.int .i64 (8 * n - p)) ∧ ∃ k, w' = w.drewN k := by
  go_enter Tryz.func26, Tryz.ntmps26
  go_wp2
  go_quiet (fail)
  go_wp2
  go_ret
  exact ⟨rfl, _, rfl⟩
theorem Rf.facts {w : World} {R : Nat} {sv : Value} {bs : List Nat} {p : Nat} {hg : Bool} (h : Rf w R sv bs p hg) :
    ∃ a c, w.cell? ⟨R, 0, none⟩ = some (.slice a bs.length c) ∧ w.cell? ⟨R, 1, none⟩ = some (.int .i64 p) ∧ w.cell? ⟨R, 2, none⟩ = some (.bool hg) ∧ (∃ sh, w.cell? ⟨R, 3, none⟩ = some (.bool sh)) ∧ w.frozen? ⟨R, 1, none⟩ = false ∧ w.frozen? ⟨R, 3, none⟩ = false ∧ Bytes w R a bs := by
  obtain ⟨sh, ho⟩ := h.eobj
  have c0 := cell_of (o := 0) ho rfl
  have c1 := cell_of (o := 1) ho rfl
  have c2 := cell_of (o := 2) ho rfl
  have c3 := cell_of (o := 3) ho rfl
  rcases h.elies with ⟨rfl, rfl⟩ | ⟨ad, c, rfl, hc⟩
  · exact ⟨none, 0, c0, c1, c2, ⟨sh, c3⟩, frozen_of ho, frozen_of ho, Or.inl rfl⟩
  · refine ⟨some ad, c, c0, c1, c2, ⟨sh, c3⟩, frozen_of ho, frozen_of ho, ?_⟩
    by_cases hl : bs = []
    · exact Or.inl hl
    · obtain ⟨b, o, sp⟩ := ad
      have hap := h.eapart hl _ _ _ rfl
      have hlen : 0 < bs.length := List.length_pos_iff.2 hl
      have hspot : sp = none := by
        have := hc 0 (.int .u8 ((bs[0] : Nat) : Int)) (by simp [cellsOf, List.getElem?_eq_getElem hlen])
        simpa [Addr.add] using World.cell?_spot this
      subst hspot
      refine Or.inr ⟨b, o, rfl, hap, fun i hi => ?_⟩
      have := hc i (.int .u8 ((bs.getD i 0 : Nat) : Int)) (by simp [cellsOf, List.getElem?_map, List.getElem?_eq_getElem hi])
      rw [add_none] at this
      exact this
theorem Lies.keep {w w' : World} {sv : Value} {bs : List Nat} (h : Lies w sv bs) (hs : bs ≠ [] → ∀ ad n c, sv = .slice (some ad) n c → w'.heap[ad.block]? = w.heap[ad.block]?) : Lies w' sv bs := by
  rcases h with h | ⟨ad, c, rfl, hc⟩
  · exact Or.inl h
  · refine Or.inr ⟨ad, c, rfl, fun j u hu => ?_⟩
    have hne : bs ≠ [] := by
      rintro rfl
      simp [cellsOf] at hu
    have e : (ad.add j).block = ad.block := by unfold Addr.add; split <;> rfl
    rw [World.cell?_of_block (w := w) (by rw [e]; exact hs hne ad _ _ rfl)]
    exact hc j u hu
theorem Rf.moved {w w' : World} {R : Nat} {sv : Value} {bs : List Nat} {p q : Nat} {hg : Bool} (h : Rf w R sv bs p hg) (hm : Moved R q w w') (hq : q ≤ 8 * bs.length) : Rf w' R sv bs q hg := by
  obtain ⟨sh, ho⟩ := h.eobj
  have f := Fr.of_moved hm
  refine ⟨⟨sh, ?_⟩, h.elies.keep (fun hne ad n c e => ?_), h.eapart, hq, h.ebytes, h.elen⟩
  · obtain ⟨k, rfl⟩ := hm.eq
    exact heap_setCell_own _ ho
  · obtain ⟨k, rfl⟩ := hm.eq
    exact Below.heap_setCell _ _ _ _ (h.eapart hne _ _ _ e)
theorem Rf.drewN {w : World} {R : Nat} {sv : Value} {bs : List Nat} {p : Nat} {hg : Bool} (h : Rf w R sv bs p hg) (k : Nat) : Rf (w.drewN k) R sv bs p hg :=
  ⟨h.eobj, h.elies, h.eapart, h.epos, h.ebytes, h.elen⟩
theorem Rf.keep {w w' : World} {R : Nat} {sv : Value} {bs : List Nat} {p : Nat} {hg : Bool} (h : Rf w R sv bs p hg) {S : Nat → Prop} (f : Fr S w w') (hR : ¬ S R) (hS : bs ≠ [] → ∀ ad n c, sv = .slice (some ad) n c → ad.block < w.heap.size ∧ ¬ S ad.block) : Rf w' R sv bs p hg := by
  obtain ⟨sh, ho⟩ := h.eobj
  exact ⟨⟨sh, by rw [f.block R (lt_of ho) hR]; exact ho⟩, h.elies.keep (fun hne ad n c e => f.block _ (hS hne ad n c e).1 (hS hne ad n c e).2), h.eapart, h.epos, h.ebytes, h.elen⟩
theorem ref_left (w : World) (R : Nat) (sv : Value) (bs : List Nat) (p : Nat) (hg : Bool) (h : Rf w R sv bs p hg) :
    Calls Tryz.prog 26 #[.pointer (some ⟨R, 0, none⟩)] w fun e w' => e = .returned (.int .i64 (8 * bs.length - p)) ∧ ∃ k, w' = w.drewN k := by
  obtain ⟨a, c, f0, f1, f2, _, f3, _, f4⟩ := h.facts
  have h1 := h.elen
  have h2 := h.epos
  exact rleft_c R bs.length c a p w f0 f1 (by omega) (by omega)
theorem ref_one_low (w : World) (R : Nat) (sv : Value) (bs : List Nat) (p : Nat) (h : Rf w R sv bs p false) (hp : p < 8 * bs.length) :
    Calls Tryz.prog 40 #[.pointer (some ⟨R, 0, none⟩)] w fun e w' => e = .returned (.int .i64 (lowBits (leNum bs) p 1 : Nat)) ∧ Rf w' R sv bs (p + 1) false ∧ Moved R (p + 1) w w' := by
  obtain ⟨a, c, f0, f1, f2, _, f3, _, f4⟩ := h.facts
  have h1 := h.elen
  rcases f4 with rfl | ⟨D, o, rfl, hD, hc⟩
  · simp at hp
  · refine (one_low R D o bs.length c p _ w f0 f1 f2 f3 (hc (p / 8) (by omega)) (by omega) (by omega) (by have := byte_lt h.ebytes (p / 8); omega)).mono ?_
    rintro e w' ⟨rfl, hm⟩
    exact ⟨by rw [bit_low bs h.ebytes p _ rfl], h.moved hm (by omega), hm⟩
theorem ref_low_step (V p i : Nat) (hi : i < 24) : bits .or .i64 ((lowBits V p i : Nat) : Int) (wrap64 (((lowBits V (p + i) 1 : Nat) : Int) * 2 ^ i)) = ((lowBits V p (i + 1) : Nat) : Int) := by
  have e : ((lowBits V (p + i) 1 : Nat) : Int) * 2 ^ i = ((lowBits V (p + i) 1 * 2 ^ i : Nat) : Int) := by simp
  have h1 := lowBits_lt V p i
  have h2 := lowBits_lt V p (i + 1)
  have h3 := lowBits_add V p i 1
  have h4 : (2:Nat) ^ (i + 1) ≤ 2 ^ 24 := Nat.pow_le_pow_right (by decide) (by omega)
  have h5 : (2:Nat) ^ 24 = 16777216 := by decide
  have h6 : lowBits V (p + i) 1 * 2 ^ i = 2 ^ i * lowBits V (p + i) 1 := Nat.mul_comm _ _
  rw [e, wrap64_id _ (by omega) (by omega), or_i64 i _ _ h1 (by simp) (by omega)]
  omega
set_option maxHeartbeats 800000 in
set_option maxRecDepth 100000 in
theorem ref_take_low (w : World) (R : Nat) (sv : Value) (bs : List Nat) (p n : Nat) (h : Rf w R sv bs p false) (hn : n ≤ 24) (hle : p + n ≤ 8 * bs.length) :
    Calls Tryz.prog 27 #[.pointer (some ⟨R, 0, none⟩), .int .i64 n] w fun e w' => e = .returned (.tuple #[.int .i64 (lowBits (leNum bs) p n : Nat), .bool true]) ∧ Rf w' R sv bs (p + n) false ∧ Fr (fun k => k = R) w w' := by
  have hlen := h.elen
  have H := hide h
  clear h
  go_enter Tryz.func27, Tryz.ntmps27
  go_wp2_with (go_at_call 26; refine (ref_left _ R sv bs p false H.out).mono ?_; rintro e w' ⟨rfl, k, rfl⟩)
  go_loopw [6, 7] (fun x i wr => ∃ j P : Nat, j ≤ n ∧ P = p + j ∧ i = .int .i64 j ∧ x = .int .i64 (lowBits (leNum bs) p j : Nat) ∧ Rf wr R sv bs P false ∧ Fr (fun k => k = R) w wr) (fun _ i _ => n - (intOf i).toNat)
  case atStart => exact ⟨0, p, Nat.zero_le _, rfl, rfl, by simp [lowBits_zero], H.out.drewN k, (Fr.of_drewN w k).mono (fun _ _ h => h.elim)⟩
  case round =>
    obtain ⟨j, P, hj, hP, rfl, rfl, hR, hF⟩ := hrel
    by_cases hlt : j < n
    · obtain ⟨a, c, f0, f1, f2, _, _, _, _⟩ := hR.facts
      have HS := hide (ref_low_step (leNum bs) p j (by omega))
      rw [← hP] at HS
      have HR := hide hR
      have HP := hide hP
      have hP8 : P < 8 * bs.length := by omega
      clear hR hP
      go_wp2_with (go_at_call 40; refine (ref_one_low _ R sv bs P HR.out hP8).mono ?_; rintro e w1 ⟨rfl, hR1, hm⟩)
      exact ⟨⟨j + 1, P + 1, by omega, by rw [HP.out]; omega, by simp, by rw [HS.out], hR1, hF.join (Fr.of_moved hm)⟩, by simp [intOf]; omega⟩
    · go_wp2
      go_ret2
      have e : j = n := by omega
      subst e
      exact ⟨rfl, hP ▸ hR, hF⟩
set_option maxHeartbeats 800000 in
set_option maxRecDepth 100000 in
theorem ref_take_no (w : World) (R : Nat) (sv : Value) (bs : List Nat) (p : Nat) (n : Int) (hg : Bool) (h : Rf w R sv bs p hg) (hbad : (n < 0 ∨ 24 < n) ∨ (8 * bs.length : Nat) < p + n) :
    Calls Tryz.prog 27 #[.pointer (some ⟨R, 0, none⟩), .int .i64 n] w fun e w' => e = .returned (.tuple #[.int .i64 0, .bool false]) ∧ Rf w' R sv bs p hg ∧ Fr (fun k => k = R) w w' := by
  obtain ⟨a, c, f0, f1, f2, ⟨sh, f3⟩, _, f5, _⟩ := h.facts
  have hlen := h.elen
  have fin : ∀ k, Rf ((w.setCell ⟨R, 3, none⟩ (.bool true)).drewN k) R sv bs p hg ∧ Fr (fun k => k = R) w ((w.setCell ⟨R, 3, none⟩ (.bool true)).drewN k) := by
    intro k
    obtain ⟨sh, ho⟩ := h.eobj
    refine ⟨⟨⟨true, heap_setCell_own _ ho⟩, h.elies.keep (fun hne ad n c e => Below.heap_setCell _ _ _ _ (h.eapart hne _ _ _ e)), h.eapart, h.epos, h.ebytes, h.elen⟩, ?_⟩
    exact ((Fr.of_setCell w ⟨R, 3, none⟩ (.bool true)).trans (Fr.of_drewN _ k)).mono fun i _ h => by simpa using h
  have Fin := hide fin
  have H := hide h
  clear h fin
  by_cases h1 : n < 0
  · go_enter Tryz.func27, Tryz.ntmps27
    go_wp2
    go_ret2
    exact ⟨rfl, Fin.out 0⟩
  · by_cases h2 : 24 < n
    · go_enter Tryz.func27, Tryz.ntmps27
      go_wp2
      go_ret2
      exact ⟨rfl, Fin.out 0⟩
    · have h3 : 8 * (bs.length : Int) - p < n := by omega
      clear hbad
      go_enter Tryz.func27, Tryz.ntmps27
      go_wp2_with (go_at_call 26; refine (ref_left _ R sv bs p hg H.out).mono ?_; rintro e w' ⟨rfl, k, rfl⟩)
      go_ret2
      exact ⟨rfl, Fin.out k⟩
end Go.Proofs.YtdpmpllbdoefdaaGreatDoor
namespace Go.Proofs.YtdpmpllbdoefdaaGreatDoor
open Go.RowKit
def at0 (ls : List Int) (i : Nat) : Int := ls.getD i 0
def rank (ls : List Int) (n : Nat) : Nat → Nat
  | 0 => 0
  | k + 1 => rank ls n k + if at0 ls k = (n : Int) then 1 else 0
def syms (ls : List Int) (n : Nat) : Nat → List Nat
  | 0 => []
  | k + 1 => if at0 ls k = (n : Int) then syms ls n k ++ [k] else syms ls n k
def nxk (ls : List Int) (k : Nat) : Nat → Nat
  | 0 => 0
  | n + 1 => 2 * nxk ls k n + rank ls (n + 1) k
def totk (ls : List Int) (k : Nat) : Nat → Nat
  | 0 => 0
  | n + 1 => totk ls k n + rank ls (n + 1) k
def frk (ls : List Int) : Nat → Int
  | 0 => 1
  | n + 1 => 2 * frk ls n - (rank ls (n + 1) ls.length : Nat)
def rkd (ls : List Int) : Nat → List Nat
  | 0 => []
  | n + 1 => rkd ls n ++ syms ls (n + 1) ls.length
def cnt (ls : List Int) (n : Nat) : Nat := rank ls n ls.length
def nx (ls : List Int) (n : Nat) : Nat := nxk ls ls.length n
def tot (ls : List Int) (n : Nat) : Nat := totk ls ls.length n
theorem nx_zero (ls : List Int) : nx ls 0 = 0 := rfl
theorem nx_succ (ls : List Int) (n : Nat) : nx ls (n + 1) = 2 * nx ls n + cnt ls (n + 1) := rfl
theorem tot_zero (ls : List Int) : tot ls 0 = 0 := rfl
theorem tot_succ (ls : List Int) (n : Nat) : tot ls (n + 1) = tot ls n + cnt ls (n + 1) := rfl
theorem frk_succ (ls : List Int) (n : Nat) : frk ls (n + 1) = 2 * frk ls n - cnt ls (n + 1) := rfl
theorem rank_le (ls : List Int) (n k : Nat) : rank ls n k ≤ k := by
  induction k with
  | zero => exact Nat.le_refl _
  | succ k ih => simp only [rank]; split <;> omega
theorem rank_mono (ls : List Int) (n : Nat) {j k : Nat} (h : j ≤ k) : rank ls n j ≤ rank ls n k := by
  induction h with
  | refl => exact Nat.le_refl _
  | step _ ih => simp only [rank]; split <;> omega
theorem rank_lt (ls : List Int) (n : Nat) {i k : Nat} (h : i < k) (hz : at0 ls i = (n : Int)) : rank ls n i < rank ls n k := by
  have h1 := rank_mono ls n (show i + 1 ≤ k from h)
  simp only [rank, if_pos hz] at h1
  omega
theorem syms_length (ls : List Int) (n k : Nat) : (syms ls n k).length = rank ls n k := by
  induction k with
  | zero => rfl
  | succ k ih => simp only [syms, rank]; split <;> simp [ih]
theorem syms_idx (ls : List Int) (n m k i : Nat) : (syms ls n m)[k]? = some i ↔ i < m ∧ at0 ls i = (n : Int) ∧ k = rank ls n i := by
  induction m generalizing k with
  | zero => simp [syms]
  | succ m ih =>
    simp only [syms]
    split
    · next hz =>
      rw [List.getElem?_append]
      split
      · next hlt =>
        rw [ih]
        rw [syms_length] at hlt
        constructor
        · rintro ⟨a, b, c⟩; exact ⟨by omega, b, c⟩
        · rintro ⟨a, b, c⟩
          refine ⟨?_, b, c⟩
          rcases Nat.lt_or_ge i m with h | h
          · exact h
          · have : i = m := by omega
            subst this; omega
      · next hge =>
        rw [syms_length] at hge ⊢
        constructor
        · intro h
          have hk : k - rank ls n m = 0 := by
            rcases Nat.eq_zero_or_pos (k - rank ls n m) with h' | h'
            · exact h'
            · rw [List.getElem?_eq_none (by simp; omega)] at h; cases h
          rw [hk] at h
          simp at h
          subst h
          exact ⟨by omega, hz, by omega⟩
        · rintro ⟨a, b, c⟩
          rcases Nat.lt_or_ge i m with h | h
          · have := rank_lt ls n h b; omega
          · have : i = m := by omega
            subst this
            rw [c, Nat.sub_self]; rfl
    · next hz =>
      rw [ih]
      constructor
      · rintro ⟨a, b, c⟩; exact ⟨by omega, b, c⟩
      · rintro ⟨a, b, c⟩
        refine ⟨?_, b, c⟩
        rcases Nat.lt_or_ge i m with h | h
        · exact h
        · have : i = m := by omega
          subst this; exact absurd b hz
theorem rkd_length (ls : List Int) (n : Nat) : (rkd ls n).length = tot ls n := by
  induction n with
  | zero => rfl
  | succ n ih => simp only [rkd, List.length_append, ih, syms_length]; rfl
theorem tot_mono (ls : List Int) {n m : Nat} (h : n ≤ m) : tot ls n ≤ tot ls m := by
  induction h with
  | refl => exact Nat.le_refl _
  | step _ ih => rw [tot_succ]; omega
theorem rkd_prefix (ls : List Int) {n m : Nat} (h : n ≤ m) {k : Nat} (hk : k < tot ls n) : (rkd ls m)[k]? = (rkd ls n)[k]? := by
  induction h with
  | refl => rfl
  | @step m h ih =>
    have := tot_mono ls h
    simp only [rkd]
    rw [List.getElem?_append_left (by rw [rkd_length]; omega), ih]
theorem rkd_at (ls : List Int) {n m : Nat} (h : n + 1 ≤ m) {k : Nat} (hk : k < cnt ls (n + 1)) : (rkd ls m)[tot ls n + k]? = (syms ls (n + 1) ls.length)[k]? := by
  rw [rkd_prefix ls h (by rw [tot_succ]; omega)]
  simp only [rkd]
  rw [List.getElem?_append_right (by rw [rkd_length]; omega), rkd_length]
  congr 1
  omega
theorem fr_nx (ls : List Int) (n : Nat) : frk ls n + (nx ls n : Nat) = 2 ^ n := by
  induction n with
  | zero => rfl
  | succ n ih =>
    rw [frk_succ, nx_succ, Int.pow_succ, ← ih]
    simp only [Int.natCast_add, Int.natCast_mul]
    omega
theorem cnt_le (ls : List Int) (n : Nat) : cnt ls n ≤ ls.length := rank_le _ _ _
theorem nx_le (ls : List Int) (n : Nat) : nx ls n + ls.length ≤ ls.length * 2 ^ n := by
  induction n with
  | zero => simp [nx_zero]
  | succ n ih =>
    have := cnt_le ls (n + 1)
    rw [nx_succ, Nat.pow_succ]
    have : ls.length * (2 ^ n * 2) = ls.length * 2 ^ n * 2 := by rw [Nat.mul_assoc]
    omega
theorem nx_bound (ls : List Int) (hl : ls.length ≤ 320) {n : Nat} (hn : n ≤ 15) : nx ls n ≤ 10485760 := by
  have h := nx_le ls n
  have h2 : (2:Nat) ^ n ≤ 2 ^ 15 := Nat.pow_le_pow_right (by decide) hn
  have h3 : ls.length * 2 ^ n ≤ 320 * 2 ^ 15 := Nat.mul_le_mul hl h2
  have h4 : 320 * 2 ^ 15 = 10485760 := by decide
  omega
theorem nx_grow (ls : List Int) (n d : Nat) : nx ls n * 2 ^ d ≤ nx ls (n + d) := by
  induction d with
  | zero => simp
  | succ d ih =>
    rw [show n + (d + 1) = (n + d) + 1 by omega, nx_succ, Nat.pow_succ, ← Nat.mul_assoc]
    omega
theorem fr_bound (ls : List Int) (hl : ls.length ≤ 320) {n : Nat} (hn : n ≤ 15) : -10485760 ≤ frk ls n ∧ frk ls n ≤ 32768 := by
  have h := fr_nx ls n
  have h1 := nx_bound ls hl hn
  have h2 : (2:Nat) ^ n ≤ 2 ^ 15 := Nat.pow_le_pow_right (by decide) hn
  have h3 : (2:Nat) ^ 15 = 32768 := by decide
  have e : (2:Int) ^ n = ((2 ^ n : Nat) : Int) := by simp
  have h4 := pow_pos2 n
  rw [e] at h
  omega
theorem totk_succ (ls : List Int) (n k : Nat) : totk ls (k + 1) n = totk ls k n + if 1 ≤ at0 ls k ∧ at0 ls k ≤ n then 1 else 0 := by
  induction n with
  | zero => simp only [totk]; rw [if_neg (by omega)]
  | succ n ih =>
    simp only [totk, rank, ih]
    by_cases h : at0 ls k = ((n + 1 : Nat) : Int)
    · rw [if_pos h, if_neg (by omega), if_pos (by omega)]; omega
    · rw [if_neg h]
      by_cases h2 : 1 ≤ at0 ls k ∧ at0 ls k ≤ n
      · rw [if_pos h2, if_pos (by omega)]; omega
      · rw [if_neg h2, if_neg (by omega)]; omega
theorem totk_zero (ls : List Int) (n : Nat) : totk ls 0 n = 0 := by
  induction n with
  | zero => rfl
  | succ n ih => simp only [totk, rank, ih]
theorem tot_le (ls : List Int) (n : Nat) : tot ls n ≤ ls.length := by
  have : ∀ k, totk ls k n ≤ k := by
    intro k
    induction k with
    | zero => rw [totk_zero]; exact Nat.le_refl _
    | succ k ih => rw [totk_succ]; split <;> omega
  exact this _
theorem nxk_zero (ls : List Int) (n : Nat) : nxk ls 0 n = 0 := by
  induction n with
  | zero => rfl
  | succ n ih => simp only [nxk, rank, ih]
theorem nxk_succ (ls : List Int) (n k : Nat) : nxk ls (k + 1) n = nxk ls k n + if 1 ≤ at0 ls k ∧ at0 ls k ≤ n then 2 ^ (n - (at0 ls k).toNat) else 0 := by
  induction n with
  | zero => simp only [nxk]; rw [if_neg (by omega)]
  | succ n ih =>
    simp only [nxk, rank, ih]
    by_cases h : at0 ls k = ((n + 1 : Nat) : Int)
    · rw [if_pos h, if_neg (by omega), if_pos (by omega), h]; simp; omega
    · rw [if_neg h]
      by_cases h2 : 1 ≤ at0 ls k ∧ at0 ls k ≤ n
      · rw [if_pos h2, if_pos (by omega), show n + 1 - (at0 ls k).toNat = n - (at0 ls k).toNat + 1 by omega, Nat.pow_succ]; omega
      · rw [if_neg h2, if_neg (by omega)]; omega
def codeOk (ls : List Int) : Prop := frk ls 15 = 0 ∨ tot ls 15 = 0 ∨ (tot ls 15 = 1 ∧ cnt ls 1 = 1)
def good (ls : List Int) : Prop := ls.length ≤ 320 ∧ ∀ i, i < ls.length → 0 ≤ at0 ls i ∧ at0 ls i ≤ 15
theorem fr_neg (ls : List Int) {n m : Nat} (h : n ≤ m) (hn : frk ls n < 0) : frk ls m < 0 := by
  induction h with
  | refl => exact hn
  | step _ ih => rw [frk_succ]; omega
theorem cnt_of_tot (ls : List Int) {n m : Nat} (h : n + 1 ≤ m) : tot ls n + cnt ls (n + 1) ≤ tot ls m := by
  have := tot_mono ls h
  rw [tot_succ] at this
  exact this
theorem nx_zero_of_tot (ls : List Int) (h : tot ls 15 = 0) : ∀ n, n ≤ 15 → nx ls n = 0 := by
  intro n hn
  induction n with
  | zero => rfl
  | succ n ih =>
    have := cnt_of_tot ls (show n + 1 ≤ 15 from hn)
    rw [nx_succ, ih (by omega)]; omega
theorem nx_one (ls : List Int) (h : tot ls 15 = 1) (h1 : cnt ls 1 = 1) : ∀ n, n + 1 ≤ 15 → nx ls (n + 1) = 2 ^ n := by
  intro n hn
  have ht1 : tot ls 1 = 1 := by rw [tot_succ, tot_zero]; simpa using h1
  induction n with
  | zero => rw [nx_succ, nx_zero]; simp [h1]
  | succ n ih =>
    have := cnt_of_tot ls (show n + 1 + 1 ≤ 15 from hn)
    have := tot_mono ls (show 1 ≤ n + 1 by omega)
    rw [nx_succ, ih (by omega), Nat.pow_succ]; omega
theorem fr_nonneg (ls : List Int) (h : codeOk ls) {n : Nat} (hn : n ≤ 15) : 0 ≤ frk ls n := by
  have h0 : 0 ≤ frk ls 15 := by
    rcases h with h | h | ⟨h, h1⟩
    · omega
    · have := fr_nx ls 15
      rw [nx_zero_of_tot ls h 15 (by omega)] at this
      omega
    · have := fr_nx ls 15
      rw [nx_one ls h h1 14 (by omega)] at this
      omega
  rcases Int.lt_or_le (frk ls n) 0 with h' | h'
  · have := fr_neg ls hn h'; omega
  · exact h'
def wd (ls : List Int) (i : Nat) : Nat := 2 * nx ls ((at0 ls i).toNat - 1) + rank ls (at0 ls i).toNat i
theorem wd_lt (ls : List Int) {i : Nat} (hi : i < ls.length) (hz : 1 ≤ at0 ls i) : wd ls i < nx ls (at0 ls i).toNat := by
  have h := rank_lt ls (at0 ls i).toNat hi (by omega)
  obtain ⟨n, hn⟩ : ∃ n, (at0 ls i).toNat = n + 1 := ⟨(at0 ls i).toNat - 1, by omega⟩
  unfold wd
  rw [hn] at h ⊢
  rw [nx_succ]
  show 2 * nx ls (n + 1 - 1) + _ < _
  rw [show n + 1 - 1 = n by omega]
  unfold cnt
  omega
theorem wd_ge (ls : List Int) {i k : Nat} (hz : (k : Int) < at0 ls i) : nx ls k * 2 ^ ((at0 ls i).toNat - k) ≤ wd ls i := by
  obtain ⟨n, hn⟩ : ∃ n, (at0 ls i).toNat = n + 1 := ⟨(at0 ls i).toNat - 1, by omega⟩
  unfold wd
  rw [hn, show n + 1 - 1 = n by omega]
  have h := nx_grow ls k (n - k)
  rw [show k + (n - k) = n by omega] at h
  rw [show n + 1 - k = n - k + 1 by omega, Nat.pow_succ, ← Nat.mul_assoc]
  omega
def rd (V p : Nat) : Nat → Nat
  | 0 => 0
  | k + 1 => 2 * rd V p k + lowBits V (p + k) 1
theorem bit_lt (V p : Nat) : lowBits V p 1 < 2 := by have := lowBits_lt V p 1; omega
theorem rd_lt (V p k : Nat) : rd V p k < 2 ^ k := by
  induction k with
  | zero => simp [rd]
  | succ k ih =>
    have := bit_lt V (p + k)
    simp only [rd, Nat.pow_succ]; omega
theorem rd_div (V p k d : Nat) : rd V p (k + d) / 2 ^ d = rd V p k := by
  induction d with
  | zero => simp
  | succ d ih =>
    have h := bit_lt V (p + (k + d))
    rw [show k + (d + 1) = k + d + 1 by omega]
    simp only [rd]
    rw [Nat.pow_succ, Nat.mul_comm (2 ^ d), ← Nat.div_div_eq_div_mul, show (2 * rd V p (k + d) + lowBits V (p + (k + d)) 1) / 2 = rd V p (k + d) by omega, ih]
structure Hit (ls : List Int) (V L p n : Nat) : Prop where
  one : 1 ≤ n
  most : n ≤ 15
  fits : p + n ≤ L
  lt : rd V p n < nx ls n
  ge : ∀ k, k < n → nx ls k ≤ rd V p k
def hitAt (ls : List Int) (V p n : Nat) : Nat := tot ls (n - 1) + (rd V p n - 2 * nx ls (n - 1))
theorem Hit.idx {ls : List Int} {V L p n : Nat} (h : Hit ls V L p n) : 2 * nx ls (n - 1) ≤ rd V p n ∧ rd V p n - 2 * nx ls (n - 1) < cnt ls n ∧ hitAt ls V p n < tot ls 15 := by
  obtain ⟨m, rfl⟩ : ∃ m, n = m + 1 := ⟨n - 1, by have := h.one; omega⟩
  have h1 := h.ge m (by omega)
  have h2 := h.lt
  rw [nx_succ] at h2
  unfold hitAt
  rw [show m + 1 - 1 = m by omega]
  have h3 : 2 * nx ls m ≤ rd V p (m + 1) := by simp only [rd]; omega
  have h4 := cnt_of_tot ls h.most
  exact ⟨h3, by omega, by omega⟩
theorem hit_word {ls : List Int} (hg : good ls) {V L p i : Nat} (hi : i < ls.length) (hz : 1 ≤ at0 ls i) (hf : p + (at0 ls i).toNat ≤ L) (hr : rd V p (at0 ls i).toNat = wd ls i) :
    Hit ls V L p (at0 ls i).toNat ∧ (rkd ls 15)[hitAt ls V p (at0 ls i).toNat]? = some i := by
  have hb := (hg.2 i hi).2
  refine ⟨⟨by omega, by omega, hf, by rw [hr]; exact wd_lt ls hi hz, fun k hk => ?_⟩, ?_⟩
  · have h1 := wd_ge ls (i := i) (k := k) (by omega)
    have h2 := rd_div V p k ((at0 ls i).toNat - k)
    rw [show k + ((at0 ls i).toNat - k) = (at0 ls i).toNat by omega, hr] at h2
    rw [← h2]
    exact (Nat.le_div_iff_mul_le (pow_pos2 _)).2 h1
  · unfold hitAt
    rw [hr]
    have hw := wd_lt ls hi hz
    obtain ⟨n, hn⟩ : ∃ n, (at0 ls i).toNat = n + 1 := ⟨(at0 ls i).toNat - 1, by omega⟩
    have hk := rank_lt ls (at0 ls i).toNat hi (by omega)
    have e : wd ls i - 2 * nx ls ((at0 ls i).toNat - 1) = rank ls (at0 ls i).toNat i := by unfold wd; omega
    rw [e]
    rw [hn] at hk ⊢
    rw [show n + 1 - 1 = n by omega, rkd_at ls (by omega) hk, syms_idx]
    exact ⟨hi, by omega, rfl⟩
end Go.Proofs.YtdpmpllbdoefdaaGreatDoor
namespace Go.Proofs.YtdpmpllbdoefdaaGreatDoor
open Go.RowKit
instance (ls : List Int) : Decidable (codeOk ls) := by unfold codeOk; infer_instance
abbrev Rdr (α : Type) := Nat → Nat → Nat → Except Nat (α × Nat)
def ret {α : Type} (a : α) : Rdr α := fun _ _ p => .ok (a, p)
def bad {α : Type} (er : Nat) : Rdr α := fun _ _ _ => .error er
def andThen {α β : Type} (x : Rdr α) (f : α → Rdr β) : Rdr β := fun V L p =>
  match x V L p with
  | .ok (a, q) => f a V L q
  | .error er => .error er
theorem then_ok {α β : Type} {x : Rdr α} {f : α → Rdr β} {V L p : Nat} {a : α} {q : Nat} (h : x V L p = .ok (a, q)) : andThen x f V L p = f a V L q := by
  simp only [andThen, h]
theorem then_err {α β : Type} {x : Rdr α} {f : α → Rdr β} {V L p er : Nat} (h : x V L p = .error er) : andThen x f V L p = .error er := by
  simp only [andThen, h]
def tkn (n : Nat) : Rdr Nat := fun V L p => if p + n ≤ L then .ok (lowBits V p n, p + n) else .error 2
theorem tkn_ok {n V L p : Nat} (h : p + n ≤ L) : tkn n V L p = .ok (lowBits V p n, p + n) := by simp [tkn, h]
theorem tkn_err {n V L p : Nat} (h : ¬ p + n ≤ L) : tkn n V L p = .error 2 := by simp [tkn, h]
theorem tkn_inv {n V L p a q : Nat} (h : tkn n V L p = .ok (a, q)) : p + n ≤ L ∧ a = lowBits V p n ∧ q = p + n := by
  unfold tkn at h
  split at h
  · next h1 => cases h; exact ⟨h1, rfl, rfl⟩
  · cases h
theorem then_inv {α β : Type} {x : Rdr α} {f : α → Rdr β} {V L p : Nat} {b : β} {q : Nat} (h : andThen x f V L p = .ok (b, q)) : ∃ a m, x V L p = .ok (a, m) ∧ f a V L m = .ok (b, q) := by
  unfold andThen at h
  split at h
  · next a m h1 => exact ⟨a, m, h1, h⟩
  · cases h
def algn : Rdr Unit := fun _ _ p => .ok ((), (p + 7) / 8 * 8)
def tkFrom (ls : List Int) (V L p : Nat) : Nat → Nat → Except Nat (Nat × Nat)
  | 0, _ => .error 4
  | f + 1, m =>
    if tot ls 15 ≤ tot ls m then .error 4
    else if L < p + m + 1 then .error 2
    else if rd V p (m + 1) < nx ls (m + 1) then .ok ((rkd ls 15).getD (hitAt ls V p (m + 1)) 0, p + (m + 1))
    else tkFrom ls V L p f (m + 1)
def tk (ls : List Int) : Rdr Nat := fun V L p => tkFrom ls V L p 15 0
def rung (i lot : Nat) : Rdr Nat :=
  if i < 2 * lot then ret i else andThen (tkn (i / lot - 1)) fun x => ret ((lot + i % lot) * 2 ^ (i / lot - 1) + x)
def rlen (s : Nat) : Rdr Nat :=
  if 285 < s then bad 4 else if s = 285 then ret 258 else andThen (rung (s - 257) 4) fun x => ret (3 + x)
def rdist (dl : List Int) (o : Nat) : Rdr Nat :=
  andThen (tk dl) fun s => if 30 ≤ s then bad 4 else andThen (rung s 2) fun x => if o < 1 + x then bad 4 else ret (1 + x)
inductive Sym
  | lit (b : Nat)
  | fin
  | row (n d : Nat)
def word (ll dl : List Int) (o : Nat) : Rdr Sym :=
  andThen (tk ll) fun s => if s < 256 then ret (.lit s) else if s = 256 then ret .fin else
    andThen (rlen s) fun n => andThen (rdist dl o) fun d => ret (.row n d)
def rep (s : Nat) (acc : List Int) : Rdr (Int × Nat) :=
  if s = 16 then andThen (tkn 2) fun x => if acc.length = 0 then bad 4 else ret (at0 acc (acc.length - 1), 3 + x)
  else if s = 17 then andThen (tkn 3) fun x => ret (0, 3 + x)
  else if s = 18 then andThen (tkn 7) fun x => ret (0, 11 + x)
  else ret ((s : Int), 1)
def lens (cl : List Int) (n : Nat) : Nat → List Int → Rdr (List Int)
  | 0, _ => bad 4
  | f + 1, acc => if n ≤ acc.length then ret acc else
    andThen (tk cl) fun s => andThen (rep s acc) fun vt => if n < acc.length + vt.2 then bad 4 else lens cl n f (acc ++ List.replicate vt.2 vt.1)
def order : List Nat := [16, 17, 18, 0, 8, 7, 9, 6, 10, 5, 11, 4, 12, 3, 13, 2, 14, 1, 15]
def told : Nat → Nat → List Int → Rdr (List Int)
  | 0, _, cl => ret cl
  | k + 1, i, cl => andThen (tkn 3) fun x => told k (i + 1) (cl.set (order.getD i 0) (x : Int))
def zero19 : List Int := List.replicate 19 0
def ownB (a b c : Nat) : Rdr (List Int × List Int) :=
  if 286 < 257 + a ∨ 30 < 1 + b then bad 4 else
    andThen (told (4 + c) 0 zero19) fun cl => if codeOk cl then
      andThen (lens cl (257 + a + (1 + b)) (257 + a + (1 + b) + 1) []) fun l =>
        if codeOk (l.take (257 + a)) ∧ codeOk (l.drop (257 + a)) ∧ at0 l 256 ≠ 0 then ret (l.take (257 + a), l.drop (257 + a)) else bad 4
      else bad 4
def own : Rdr (List Int × List Int) := andThen (tkn 5) fun a => andThen (tkn 5) fun b => andThen (tkn 4) fun c => ownB a b c
def fixL : List Int := List.replicate 144 8 ++ (List.replicate 112 9 ++ (List.replicate 24 7 ++ List.replicate 8 8))
def fixD : List Int := List.replicate 32 5
inductive Pl
  | ahead
  | stored (left : Nat)
  | coded (ll dl : List Int)
  | row (left back : Nat) (ll dl : List Int)
def storedHead : Rdr Nat := andThen algn fun _ => andThen (tkn 16) fun n => andThen (tkn 16) fun m => if n + m = 65535 then ret n else bad 4
def kindOf (k : Nat) : Rdr Pl :=
  if k = 0 then andThen storedHead fun n => ret (.stored n)
  else if k = 1 then ret (.coded fixL fixD)
  else if k = 2 then andThen own fun c => ret (.coded c.1 c.2)
  else bad 4
def head : Rdr (Bool × Pl) := andThen (tkn 1) fun l => andThen (tkn 2) fun k => andThen (kindOf k) fun pl => ret (decide (l = 1), pl)
structure St where
  p : Nat
  last : Bool
  out : List Nat
  pl : Pl
inductive Ax
  | fail (er : Nat)
  | done
  | go (s : St)
  | put (s : St)
def adv (V L : Nat) (s : St) : Ax :=
  match s.pl with
  | .ahead => if s.last = true then .done else
    match head V L s.p with
    | .error er => .fail er
    | .ok (h, q) => .go ⟨q, h.1, s.out, h.2⟩
  | .stored n => if n = 0 then .go ⟨s.p, s.last, s.out, .ahead⟩ else
    match tkn 8 V L s.p with
    | .error er => .fail er
    | .ok (b, q) => .put ⟨q, s.last, s.out ++ [b], .stored (n - 1)⟩
  | .coded ll dl =>
    match word ll dl s.out.length V L s.p with
    | .error er => .fail er
    | .ok (.lit b, q) => .put ⟨q, s.last, s.out ++ [b], .coded ll dl⟩
    | .ok (.fin, q) => .go ⟨q, s.last, s.out, .ahead⟩
    | .ok (.row n d, q) => .go ⟨q, s.last, s.out, .row n d ll dl⟩
  | .row n d ll dl => .put ⟨s.p, s.last, s.out ++ [s.out.getD (s.out.length - d) 0], if n = 1 then .coded ll dl else .row (n - 1) d ll dl⟩
inductive Runs (V L most : Nat) : St → Except Nat (List Nat × Nat) → Prop
  | fail {s : St} {er : Nat} : adv V L s = .fail er → Runs V L most s (.error er)
  | done {s : St} : adv V L s = .done → Runs V L most s (.ok (s.out, s.p))
  | go {s s' : St} {r : Except Nat (List Nat × Nat)} : adv V L s = .go s' → Runs V L most s' r → Runs V L most s r
  | put {s s' : St} {r : Except Nat (List Nat × Nat)} : adv V L s = .put s' → s.out.length < most → Runs V L most s' r → Runs V L most s r
  | full {s s' : St} : adv V L s = .put s' → most ≤ s.out.length → Runs V L most s (.error 6)
theorem Runs.det {V L most : Nat} {s : St} {r r' : Except Nat (List Nat × Nat)} (h : Runs V L most s r) (g : Runs V L most s r') : r = r' := by
  induction h with
  | fail h1 => cases g <;> simp_all
  | done h1 => cases g <;> simp_all
  | go h1 _ ih =>
    cases g with
    | fail g1 => simp_all
    | done g1 => simp_all
    | go g1 g2 => rw [h1] at g1; cases g1; exact ih g2
    | put g1 _ _ => simp_all
    | full g1 _ => simp_all
  | put h1 h2 _ ih =>
    cases g with
    | fail g1 => simp_all
    | done g1 => simp_all
    | go g1 g2 => simp_all
    | put g1 _ g2 => rw [h1] at g1; cases g1; exact ih g2
    | full g1 g2 => exact absurd h2 (by omega)
  | full h1 h2 =>
    cases g with
    | fail g1 => simp_all
    | done g1 => simp_all
    | go g1 g2 => simp_all
    | put g1 g2 _ => exact absurd g2 (by omega)
    | full g1 _ => rfl
def init : St := ⟨0, false, [], .ahead⟩
theorem adv_go_out {V L : Nat} {s s' : St} (h1 : adv V L s = .go s') : s'.out = s.out := by
  unfold adv at h1
  split at h1 <;> (try split at h1) <;> (try split at h1) <;> first | cases h1; rfl | cases h1
theorem adv_put_out {V L : Nat} {s s' : St} (h1 : adv V L s = .put s') : s'.out.length = s.out.length + 1 := by
  unfold adv at h1
  split at h1 <;> (try split at h1) <;> (try split at h1) <;> first | (cases h1; simp) | cases h1
end Go.Proofs.YtdpmpllbdoefdaaGreatDoor
namespace Go.Proofs.YtdpmpllbdoefdaaGreatDoor
open Go.RowKit
def adStep (p : Nat × Nat) (b : Nat) : Nat × Nat := ((p.1 + b) % 65521, (p.2 + (p.1 + b) % 65521) % 65521)
def adR (p : Nat × Nat) (bs : List Nat) : Nat × Nat := bs.foldl adStep p
def halves (s : Nat) : Nat × Nat := (s % 65536, s / 65536)
def ofHalves (p : Nat × Nat) : Nat := p.2 * 65536 + p.1
def adler (s : Nat) (bs : List Nat) : Nat := ofHalves (adR (halves s) bs)
theorem adR_lt (p : Nat × Nat) (bs : List Nat) (M : Nat) (hM : 65521 ≤ M) (h1 : p.1 < M) (h2 : p.2 < M) : (adR p bs).1 < M ∧ (adR p bs).2 < M := by
  induction bs generalizing p with
  | nil => exact ⟨h1, h2⟩
  | cons b bs ih => exact ih (adStep p b) (by simp only [adStep]; omega) (by simp only [adStep]; omega)
theorem adler_lt (s : Nat) (bs : List Nat) (h : s < 4294967296) : adler s bs < 4294967296 := by
  have := adR_lt (halves s) bs 65536 (by decide) (by simp only [halves]; omega) (by simp only [halves]; omega)
  simp only [adler, ofHalves]; omega
theorem wrap_u32_nat (b : Nat) (hb : b < 4294967296) : IntKind.u32.wrap (b : Int) = (b : Int) := by
  rw [IntKind.wrap_u32']; omega
theorem getD_take_succ (bs : List Nat) (k : Nat) (h : k < bs.length) : bs.take (k + 1) = bs.take k ++ [bs.getD k 0] := by
  rw [List.take_succ_eq_append_getElem h]
  simp [List.getD_eq_getElem?_getD, List.getElem?_eq_getElem h]
def Lz (w : World) (a : Option Addr) (bs : List Nat) : Prop := (∀ b ∈ bs, b < 256) ∧ ∀ j, j < bs.length → ∃ ad, a = some ad ∧ w.cell? (ad.add j) = some (.int .u8 ((bs.getD j 0 : Nat) : Int))
theorem getD_mem (bs : List Nat) (k : Nat) (h : k < bs.length) : bs.getD k 0 ∈ bs := by
  rw [List.getD_eq_getElem?_getD, List.getElem?_eq_getElem h]; exact List.getElem_mem _
theorem and_low (s : Nat) (h : s < 4294967296) : bits .and .u32 (s : Int) 65535 = ((s % 65536 : Nat) : Int) := by
  rw [show (65535 : Int) = ((65535 : Nat) : Int) from rfl, u32_and_nat _ _ h (by decide), show 65535 = 2 ^ 16 - 1 from rfl, Nat.and_two_pow_sub_one_eq_mod]
theorem or_halves (x y : Nat) (hx : x < 65536) (hy : y < 65536) : bits .or .u32 ((y : Int) * 65536) (x : Int) = ((y * 65536 + x : Nat) : Int) := by
  have e : ((y : Int) * 65536) = ((y * 65536 : Nat) : Int) := by omega
  rw [e, u32_or_nat _ _ (by omega) (by omega)]
  congr 1
  have h := Nat.two_pow_add_eq_or_of_lt (i := 16) (b := x) (by omega) y
  rw [Nat.mul_comm y]
  exact h.symm
set_option maxHeartbeats 400000 in
set_option maxRecDepth 100000 in
theorem adlerMore_c (s : Nat) (a : Option Addr) (c : Nat) (bs : List Nat) (w : World) (hs : s < 4294967296) (hl : Lz w a bs) (hlen : bs.length ≤ 2147483648) :
    Calls Tryz.prog 48 #[.int .u32 (s : Int), .slice a bs.length c] w fun e w' => e = .returned (.int .u32 (adler s bs : Int)) ∧ w = w' := by
  have Hl := hide hl
  have HR := hide (fun k => adR_lt (halves s) (bs.take k) 65536 (by decide) (by simp only [halves]; omega) (by simp only [halves]; omega))
  have H1 := hide (and_low s hs)
  have H2 : Hid ((s : Int) / 65536 = ((s / 65536 : Nat) : Int)) := by show _ = _; omega
  clear hl
  go_enter Tryz.func48, Tryz.ntmps48
  go_wp2
  rw [H1.out, H2.out]
  go_loop [5, 6, 15] (fun x y i => ∃ k : Nat, ∃ p : Nat × Nat, k ≤ bs.length ∧ i = .int .i64 k ∧ x = .int .u32 (p.1 : Int) ∧ y = .int .u32 (p.2 : Int) ∧ Hid (p = adR (halves s) (bs.take k))) (fun _ _ i => bs.length - (intOf i).toNat)
  case atStart => exact ⟨0, halves s, by omega, rfl, rfl, rfl, rfl⟩
  case round =>
    obtain ⟨k, ⟨x, y⟩, hk, rfl, rfl, rfl, H⟩ := hrel
    have hxy : x < 65536 ∧ y < 65536 := by
      have := HR.out k
      rw [← H.out] at this
      exact this
    obtain ⟨hx, hy⟩ := hxy
    by_cases hlt : k < bs.length
    · obtain ⟨ad, rfl, hck⟩ := Hl.out.2 k hlt
      have hbk : bs.getD k 0 < 256 := Hl.out.1 _ (getD_mem bs k hlt)
      have HT := hide (getD_take_succ bs k hlt)
      generalize bs.getD k 0 = b at hck hbk HT
      have h0 : (0 : Int) ≤ (k : Int) := by omega
      have h1 : (k : Int) < (bs.length : Int) := by omega
      have hwr : IntKind.u32.wrap (b : Int) = (b : Int) := wrap_u32_nat b (by omega)
      go_wp2
      go_round
      case rel =>
        refine ⟨k + 1, adStep (x, y) b, by omega, by go_num, ?_, ?_, ?_⟩
        · simp only [adStep]; go_num
        · simp only [adStep]; go_num
        · show _ = _
          rw [HT.out, H.out]
          simp [adR]
      case measure => simp [intOf]; omega
    · go_wp2
      go_ret
      rw [List.take_of_length_le (by omega)] at H
      exact ⟨ret_int (by rw [or_halves x y hx hy]; unfold adler; rw [← H.out]; rfl), rfl⟩
set_option maxHeartbeats 400000 in
set_option maxRecDepth 100000 in
theorem refAdler_c (s : Nat) (a : Option Addr) (c : Nat) (bs : List Nat) (w : World) (hs : s < 4294967296) (hl : Lz w a bs) (hlen : bs.length ≤ 2147483648) :
    Calls Tryz.prog 17 #[.int .u32 (s : Int), .slice a bs.length c] w fun e w' => e = .returned (.int .u32 (adler s bs : Int)) ∧ w = w' := by
  have Hl := hide hl
  have HR := hide (fun k => adR_lt (halves s) (bs.take k) 65536 (by decide) (by simp only [halves]; omega) (by simp only [halves]; omega))
  have H1 := hide (and_low s hs)
  have H2 : Hid ((s : Int) / 65536 = ((s / 65536 : Nat) : Int)) := by show _ = _; omega
  clear hl
  go_enter Tryz.func17, Tryz.ntmps17
  go_wp2
  rw [H1.out, H2.out]
  go_loop [5, 6, 7] (fun x y i => ∃ k : Nat, ∃ p : Nat × Nat, k ≤ bs.length ∧ i = .int .i64 k ∧ x = .int .u32 (p.1 : Int) ∧ y = .int .u32 (p.2 : Int) ∧ Hid (p = adR (halves s) (bs.take k))) (fun _ _ i => bs.length - (intOf i).toNat)
  case atStart => exact ⟨0, halves s, by omega, rfl, rfl, rfl, rfl⟩
  case round =>
    obtain ⟨k, ⟨x, y⟩, hk, rfl, rfl, rfl, H⟩ := hrel
    have hxy : x < 65536 ∧ y < 65536 := by
      have := HR.out k
      rw [← H.out] at this
      exact this
    obtain ⟨hx, hy⟩ := hxy
    by_cases hlt : k < bs.length
    · obtain ⟨ad, rfl, hck⟩ := Hl.out.2 k hlt
      have hbk : bs.getD k 0 < 256 := Hl.out.1 _ (getD_mem bs k hlt)
      have HT := hide (getD_take_succ bs k hlt)
      generalize bs.getD k 0 = b at hck hbk HT
      have h0 : (0 : Int) ≤ (k : Int) := by omega
      have h1 : (k : Int) < (bs.length : Int) := by omega
      have hwr : IntKind.u32.wrap (b : Int) = (b : Int) := wrap_u32_nat b (by omega)
      go_wp2
      go_round
      case rel =>
        refine ⟨k + 1, adStep (x, y) b, by omega, by go_num, ?_, ?_, ?_⟩
        · simp only [adStep]; go_num
        · simp only [adStep]; go_num
        · show _ = _
          rw [HT.out, H.out]
          simp [adR]
      case measure => simp [intOf]; omega
    · go_wp2
      go_ret
      rw [List.take_of_length_le (by omega)] at H
      exact ⟨ret_int (by rw [or_halves x y hx hy]; unfold adler; rw [← H.out]; rfl), rfl⟩
set_option maxHeartbeats 400000 in
set_option maxRecDepth 100000 in
theorem adler_c (a : Option Addr) (c : Nat) (bs : List Nat) (w : World) (hl : Lz w a bs) (hlen : bs.length ≤ 2147483648) :
    Calls Tryz.prog 35 #[.slice a bs.length c] w fun e w' => e = .returned (.int .u32 (adler 1 bs : Int)) ∧ w = w' := by
  go_enter Tryz.func35, Tryz.ntmps35
  go_wp2_with (go_at_call 48; refine (adlerMore_c 1 a c bs _ (by decide) hl hlen).mono ?_; rintro e w' ⟨rfl, rfl⟩)
  go_ret
  exact ⟨rfl, rfl⟩
theorem Lz.of {w : World} {a : Option Addr} {n c : Nat} {bs : List Nat} (h : Lies w (.slice a n c) bs) (hb : ∀ b ∈ bs, b < 256) : Lz w a bs := by
  refine ⟨hb, fun j hj => ?_⟩
  rcases h with ⟨e, rfl⟩ | ⟨ad, c', e, hc⟩
  · simp at hj
  · obtain ⟨rfl, _⟩ : a = some ad ∧ n = bs.length := by
      injection e with e1 e2
      exact ⟨e1, e2⟩
    refine ⟨ad, rfl, hc j _ ?_⟩
    simp [cellsOf, List.getD_eq_getElem?_getD, List.getElem?_eq_getElem hj]
end Go.Proofs.YtdpmpllbdoefdaaGreatDoor
namespace Go.Proofs.YtdpmpllbdoefdaaGreatDoor
open Go.RowKit
theorem ret_tup2 {k1 k2 : IntKind} {a1 b1 a2 b2 : Int} (h1 : a1 = b1) (h2 : a2 = b2) :
    Ending.returned (.tuple #[.int k1 a1, .int k2 a2]) = .returned (.tuple #[.int k1 b1, .int k2 b2]) := by rw [h1, h2]
def numOf (x : Int) : Nat := (x % 18446744073709551616).toNat
theorem lowest_b (x : Int) (p s : Nat) (h : p + s ≤ 62) (w : World) :
    Calls Tryz.prog 87 #[.int .i64 (x / 2 ^ p), .int .i64 s] w fun e w' => e = .returned (.int .i64 (lowBits (numOf x) p s : Nat)) ∧ w = w' :=
  (lowest_c (x / 2 ^ p) s (by omega) w).mono fun e w' ⟨he, hw⟩ => ⟨by rw [he, int_bits x p s (by omega)]; rfl, hw⟩
theorem put_frame {B k : Nat} {g g' : Option Nat} {w wr w1 w2 : World} (hF : Fr (fun i => i = B ∨ g = some i) w wr) (hG : g' = g ∨ ∃ k, g' = some k ∧ w.heap.size ≤ k) (hf1 : Fr (fun i => i = B ∨ g' = some i) wr w1) (hk1 : g' = some k ∨ wr.heap.size ≤ k)
    (hf2 : Fr (fun i => i = k) w1.drew w2) : Fr (fun i => i = B ∨ g = some i) w w2 ∧ (some k = g ∨ ∃ k', some k = some k' ∧ w.heap.size ≤ k') := by
  have hsz := hF.size
  have hd : Fr (fun _ => False) w1 w1.drew := Fr.of_drewN w1 1
  have hk : some k = g ∨ w.heap.size ≤ k := by
    rcases hk1 with h | h
    · rcases hG with e | ⟨j, e, hj⟩
      · exact Or.inl (by rw [← e, h])
      · rw [h] at e; cases e; exact Or.inr hj
    · exact Or.inr (by omega)
  refine ⟨(((hF.trans hf1).trans hd).trans hf2).mono fun i hi h => ?_, ?_⟩
  · rcases h with ((h | h) | h) | h
    · exact h
    · rcases h with h | h
      · exact Or.inl h
      · rcases hG with e | ⟨j, e, hj⟩
        · exact Or.inr (by rw [← e, h])
        · rw [h] at e; cases e; omega
    · exact h.elim
    · subst h
      rcases hk with h | h
      · exact Or.inr h.symm
      · omega
  · rcases hk with h | h
    · exact Or.inl h
    · exact Or.inr ⟨k, rfl, h⟩
theorem low_room {os' init : List Nat} {last P s q : Nat} (hL : LowSt os' P) (hcase : if P % 8 = 0 then init = os' ∧ last = 0 else os' = init ++ [last]) (hs2 : P % 8 + s ≤ 8) (hs4 : 0 < s) (hq : q < 2 ^ s) :
    bits .or .u8 (last : Int) ((q * 2 ^ (P % 8) : Nat) : Int) = ((last + q * 2 ^ (P % 8) : Nat) : Int) ∧ q * 2 ^ (P % 8) < 256 ∧ LowSt (init ++ [last + q * 2 ^ (P % 8)]) (P + s) ∧ leNum (init ++ [last + q * 2 ^ (P % 8)]) = leNum os' + q * 2 ^ P := by
  obtain ⟨h1, h2, h3, h4⟩ : init.length = P / 8 ∧ (∀ b ∈ init, b < 256) ∧ last < 2 ^ (P % 8) ∧ leNum (init ++ [last]) = leNum os' := by
    split at hcase
    · next hz =>
      obtain ⟨rfl, rfl⟩ := hcase
      exact ⟨by rw [hL.len]; omega, hL.bytes, by rw [hz]; decide, by rw [leNum_append]; omega⟩
    · next hz =>
      obtain ⟨i', l', e, a, b, c, d⟩ := hL.room hz
      rw [hcase] at e
      obtain ⟨rfl, e2⟩ := List.append_inj' e rfl
      simp at e2
      subst e2
      exact ⟨a, b, c, by rw [hcase]⟩
  obtain ⟨k1, k2⟩ := low_put h1 h2 h3 (by rw [h4]; exact hL.num) hs2 hs4 hq
  have h5 : last + q * 2 ^ (P % 8) < 256 := k1.bytes _ (by simp)
  exact ⟨or_u8 (P % 8) _ _ h3 (by simp) h5, by omega, k1, by rw [k2, h4]⟩
end Go.Proofs.YtdpmpllbdoefdaaGreatDoor
namespace Go.Proofs.YtdpmpllbdoefdaaGreatDoor
open Go.RowKit
set_option maxHeartbeats 400000 in
set_option maxRecDepth 100000 in
theorem room_inO (B o wr s : Nat) (m : Int) (w : World) (h3 : w.cell? ⟨B, o + 2 + 1, none⟩ = some (.int .i64 wr)) (hf3 : w.frozen? ⟨B, o + 2 + 1, none⟩ = false)
    (hwr : (wr : Int) ≤ 2147483648) (hne : ¬ (wr : Int) % 8 = 0) (hm0 : 0 < m) (hm1 : m ≤ 24) (hs1 : (s : Int) ≤ m) (hs2 : wr % 8 + s ≤ 8) (hs3 : (s : Int) = m ∨ wr % 8 + s = 8) :
    Calls Tryz.prog 129 #[.pointer (some ⟨B, o + 2, none⟩), .int .i64 m] w fun e w' => e = .returned (.tuple #[.int .i64 (wr % 8 : Nat), .int .i64 s]) ∧ w' = w.setCell ⟨B, o + 2 + 1, none⟩ (.int .i64 ((wr + s : Nat) : Int)) := by
  have Hs : Hid (((s : Int) ≤ m ∧ wr % 8 + s ≤ 8) ∧ ((s : Int) = m ∨ wr % 8 + s = 8)) := ⟨⟨hs1, hs2⟩, hs3⟩
  have hq : ((wr : Int) % 8 == 0) = false := by simpa using hne
  clear hs1 hs2 hs3 hne
  go_enter Tryz.func129, Tryz.ntmps129
  go_wp2
  all_goals
    go_ret2
    obtain ⟨⟨hs1, hs2⟩, hs3⟩ := Hs.out
    exact ⟨ret_tup2 (by omega) (by omega), by congr 2; omega⟩
set_option maxHeartbeats 800000 in
set_option maxRecDepth 100000 in
theorem fill_cO (B o g m L c : Nat) (last v : Int) (w : World) (h0 : w.cell? ⟨B, o + 2, none⟩ = some (.slice (some ⟨g, 0, none⟩) L c)) (h1 : w.cell? ⟨g, m, none⟩ = some (.int .u8 last)) (hf : w.frozen? ⟨g, m, none⟩ = false)
    (hv0 : 0 ≤ v) (hv1 : v < 256) (hm : (m : Int) ≤ 2147483648) (hL : L = m + 1) :
    Calls Tryz.prog 130 #[.pointer (some ⟨B, o + 2, none⟩), .int .i64 v] w fun e w' => e = .returned (.tuple #[]) ∧ w' = (w.setCell ⟨g, m, none⟩ (.int .u8 (bits .or .u8 last v))).drew := by
  have hw1 : IntKind.i64.wrap ((L : Int) - 1) = (m : Int) := by rw [wrap_i64_id _ (by omega) (by omega)]; omega
  have hw2 : IntKind.u8.wrap v = v := by rw [IntKind.wrap_u8']; omega
  have hm0 : (0 : Int) ≤ (m : Int) := by omega
  have hm1 : (m : Int) < (L : Int) := by omega
  clear hL
  go_enter Tryz.func130, Tryz.ntmps130
  go_region
  all_goals
    go_end0
    exact ⟨rfl, rfl⟩
set_option maxHeartbeats 800000 in
set_option maxRecDepth 100000 in
theorem room_newO (T : TypeId) (lo B o wr s : Nat) (cs : Array Value) (ov : Value) (m : Int) (os : List Nat) (w : World) (h : w.heap[B]? = some (.cells cs T (0, 0))) (hc2 : cs[o + 2]? = some ov) (hc3 : cs[o + 2 + 1]? = some (.int .i64 wr))
    (hown : w.ownsRow lo 5 1 ov os.length (cellsOf os)) (hlo : lo ≤ w.heap.size) (hap : ∀ k, ov.ownBlock = some k → k ≠ B)
    (hwr : (wr : Int) ≤ 2147483648) (hos : os.length ≤ 2147483648) (hne : (wr : Int) % 8 = 0) (hm0 : 0 < m) (hm1 : m ≤ 24) (hs1 : (s : Int) ≤ m) (hs2 : s ≤ 8) (hs3 : (s : Int) = m ∨ s = 8) :
    Calls Tryz.prog 129 #[.pointer (some ⟨B, o + 2, none⟩), .int .i64 m] w fun e w' => e = .returned (.tuple #[.int .i64 0, .int .i64 s]) ∧
      ∃ g cap w1, w1.ownsRow lo 5 1 (.slice (some ⟨g, 0, none⟩) (os.length + 1) cap) (os.length + 1) (cellsOf os ++ [.int .u8 0]) ∧ Fr (fun k => ov.ownBlock = some k) w w1 ∧ (ov.ownBlock = some g ∨ w.heap.size ≤ g) ∧ g ≠ B ∧
        w' = (w1.setCell ⟨B, o + 2, none⟩ (.slice (some ⟨g, 0, none⟩) (os.length + 1) cap)).setCell ⟨B, o + 2 + 1, none⟩ (.int .i64 ((wr + s : Nat) : Int)) := by
  obtain ⟨i0, hi, hz0, hz1, hz2⟩ := info_parts Tryz.info5
  obtain ⟨a0, c0, rfl⟩ := ownsRow_shape hown
  have hB := lt_of h
  have h2 := cell_of (o := o + 2) h hc2
  have h3 := cell_of (o := o + 2 + 1) h hc3
  have hf2 := frozen_of (o := o + 2) h
  have hf3 := frozen_of (o := o + 2 + 1) h
  have Hh := hide h
  have Hs : Hid (((s : Int) ≤ m ∧ s ≤ 8) ∧ ((s : Int) = m ∨ s = 8)) := ⟨⟨hs1, hs2⟩, hs3⟩
  have Hap := hide hap
  have hq : ((wr : Int) % 8 == 0) = true := by simpa using hne
  have Hne := hide hne
  have Hc2 := hide hc2
  have Hc3 := hide hc3
  clear hs1 hs2 hs3 hne h hap hc2 hc3
  go_enter Tryz.func129, Tryz.ntmps129
  go_wp2_with (at_builtin; go_must (refine wpList_append_lies _ rfl _ _ 22 rfl lo 5 i0 (.int .u8 0) 1 1 Tryz.underlying22 hi hz0 hz1 hz2 rfl (by decide) (.slice a0 os.length c0) os.length (cellsOf os) rfl (hown.alloc _) ⟨w.heap.size, 0, none⟩ 1 1 [.int .u8 0] rfl rfl (cell_one_new _ _ _) (fun x hx => by simp at hx; subst hx; rfl) (by decide) (by unfold maxLen; omega) (by omega) (by simp; omega) (w.heap.size + 1) (by simp) ?_); intro g cap w1 hown1 hgrow hat hlt
               have hb1 := (hgrow.block B (by simp; omega) (fun e => Hap.out B e.symm rfl)).trans ((Below.heap_alloc _ _ _ hB).trans Hh.out)
               have q2 := cell_of (o := o + 2) hb1 Hc2.out
               have q3 := cell_of (o := o + 2 + 1) hb1 Hc3.out
               have z2 := frozen_of (o := o + 2) hb1
               have z3 := frozen_of (o := o + 2 + 1) hb1
               have Hown1 := hide hown1
               have Hgrow := hide hgrow
               have Hat := hide hat
               clear hown1 hgrow hat hlt hb1)
  all_goals
    go_ret2
    obtain ⟨⟨hs1, hs2⟩, hs3⟩ := Hs.out
    have hne := Hne.out
    refine ⟨ret_tup2 (by omega) (by omega), g, cap, w1, Hown1.out, ?_, ?_, ?_, ?_⟩
    · have f : Fr (fun k => (Value.slice a0 os.length c0).ownBlock = some k) (w.alloc (.cells #[.int .u8 0] 5)) w1 := ⟨Hgrow.out.os, Hgrow.out.tape, Hgrow.out.output, Hgrow.out.size, fun k hk hn => Hgrow.out.block k hk (fun e => hn e.symm)⟩
      exact ((Fr.of_alloc w _).trans f).mono fun k _ h => by
        rcases h with h | h
        · exact h.elim
        · exact h
    · rcases Hat.out with h | h
      · exact Or.inl h
      · exact Or.inr (by omega)
    · rcases Hat.out with h | h
      · exact Hap.out g h
      · omega
    · congr 2
      omega
structure Cs2 (o : Nat) (cs cs' : Array Value) : Prop where
  size : cs'.size = cs.size
  keep : ∀ i, i ≠ o + 2 → i ≠ o + 2 + 1 → cs'[i]? = cs[i]?
theorem Cs2.refl (o : Nat) (cs : Array Value) : Cs2 o cs cs := ⟨rfl, fun _ _ _ => rfl⟩
theorem Cs2.trans {o : Nat} {a b c : Array Value} (h : Cs2 o a b) (k : Cs2 o b c) : Cs2 o a c := ⟨k.size.trans h.size, fun i h1 h2 => (k.keep i h1 h2).trans (h.keep i h1 h2)⟩
structure Wo (T : TypeId) (w : World) (B o : Nat) (cs : Array Value) (g : Option Nat) (os : List Nat) (wr : Nat) : Prop where
  eobj : ∃ ov, w.heap[B]? = some (.cells cs T (0, 0)) ∧ cs[o + 2]? = some ov ∧ cs[o + 2 + 1]? = some (.int .i64 wr) ∧ w.ownsRow 0 5 1 ov os.length (cellsOf os) ∧ ov.ownBlock = g
  eap : ∀ k, g = some k → k ≠ B
theorem Wo.keep {T : TypeId} {w w' : World} {B o : Nat} {cs : Array Value} {g : Option Nat} {os : List Nat} {wr : Nat} (h : Wo T w B o cs g os wr) {S : Nat → Prop} (f : Fr S w w') (hB : ¬ S B) (hg : ∀ k, g = some k → ¬ S k) : Wo T w' B o cs g os wr := by
  obtain ⟨ov, h1, h2, h3, h4, h5⟩ := h.eobj
  refine ⟨⟨ov, ?_, h2, h3, ?_, h5⟩, h.eap⟩
  · rw [f.block B (lt_of h1) hB]; exact h1
  · exact ownsRow_fr h4 fun k hk => f.block k (h4.lt k hk).2 (hg k (h5 ▸ hk))
theorem Wo.lts {T : TypeId} {w : World} {B o : Nat} {cs : Array Value} {g : Option Nat} {os : List Nat} {wr : Nat} (h : Wo T w B o cs g os wr) : (∀ k, g = some k → k < w.heap.size) ∧ B < w.heap.size := by
  obtain ⟨ov, h1, h2, h3, h4, h5⟩ := h.eobj
  exact ⟨fun k hk => (h4.lt k (h5.trans hk)).2, lt_of h1⟩
structure MidO (T : TypeId) (w : World) (B o : Nat) (cs : Array Value) (k : Nat) (init : List Nat) (last : Nat) (wr : Nat) : Prop where
  eobj : ∃ cap, w.heap[B]? = some (.cells cs T (0, 0)) ∧ cs[o + 2]? = some (.slice (some ⟨k, 0, none⟩) (init.length + 1) cap) ∧ cs[o + 2 + 1]? = some (.int .i64 wr) ∧ w.ownsRow 0 5 1 (.slice (some ⟨k, 0, none⟩) (init.length + 1) cap) (init.length + 1) (cellsOf (init ++ [last]))
  eap : k ≠ B
theorem lt_of_get {cs : Array Value} {i : Nat} {v : Value} (h : cs[i]? = some v) : i < cs.size := by
  rcases Nat.lt_or_ge i cs.size with h1 | h1
  · exact h1
  · rw [Array.getElem?_eq_none h1] at h; cases h
theorem set_cs2 (o : Nat) (cs : Array Value) (u v : Value) : Cs2 o cs ((cs.setIfInBounds (o + 2) u).setIfInBounds (o + 2 + 1) v) :=
  ⟨by simp, fun i h1 h2 => by rw [Array.getElem?_setIfInBounds_ne (Ne.symm h2), Array.getElem?_setIfInBounds_ne (Ne.symm h1)]⟩
theorem set_cs2' (o : Nat) (cs : Array Value) (v : Value) : Cs2 o cs (cs.setIfInBounds (o + 2 + 1) v) :=
  ⟨by simp, fun i _ h2 => by rw [Array.getElem?_setIfInBounds_ne (Ne.symm h2)]⟩
theorem get_set {cs : Array Value} {i : Nat} {u : Value} (v : Value) (h : cs[i]? = some u) : (cs.setIfInBounds i v)[i]? = some v := by
  rw [Array.getElem?_setIfInBounds_self_of_lt (lt_of_get h)]
theorem room_wO (T : TypeId) (B o : Nat) (cs : Array Value) (g : Option Nat) (os : List Nat) (wr s : Nat) (m : Int) (w : World) (h : Wo T w B o cs g os wr) (hlen : os.length = (wr + 7) / 8) (hwr : wr ≤ 2147483000) (hm0 : 0 < m) (hm1 : m ≤ 24)
    (hs1 : (s : Int) ≤ m) (hs2 : wr % 8 + s ≤ 8) (hs3 : (s : Int) = m ∨ wr % 8 + s = 8) :
    Calls Tryz.prog 129 #[.pointer (some ⟨B, o + 2, none⟩), .int .i64 m] w fun e w' => e = .returned (.tuple #[.int .i64 (wr % 8 : Nat), .int .i64 s]) ∧
      ∃ k init last cs', (if wr % 8 = 0 then init = os ∧ last = 0 else os = init ++ [last]) ∧ MidO T w' B o cs' k init last (wr + s) ∧ Cs2 o cs cs' ∧ Fr (fun i => i = B ∨ g = some i) w w' ∧ (g = some k ∨ w.heap.size ≤ k) := by
  obtain ⟨ov, h1, c2, c3, h2, h3⟩ := h.eobj
  by_cases hz : wr % 8 = 0
  · refine (room_newO T 0 B o wr s cs ov m os w h1 c2 c3 h2 (Nat.zero_le _) (fun k hk => h.eap k (h3 ▸ hk)) (by omega) (by omega) (by omega) hm0 hm1 hs1 (by omega) (by omega)).mono ?_
    rintro e w' ⟨rfl, k, cap, w1, hown, hf, hat, hkB, rfl⟩
    have hb1 : w1.heap[B]? = some (.cells cs T (0, 0)) := by rw [hf.block B (lt_of h1) (fun e => h.eap B (h3 ▸ e) rfl)]; exact h1
    refine ⟨by rw [hz]; rfl, k, os, 0, _, by simp [hz], ⟨⟨cap, heap_setCell_own _ (heap_setCell_own _ hb1), ?_, ?_, ?_⟩, hkB⟩, set_cs2 _ _ _ _, ?_, ?_⟩
    · rw [Array.getElem?_setIfInBounds_ne (by omega)]; exact get_set _ c2
    · exact get_set (u := .int .i64 wr) _ (by rw [Array.getElem?_setIfInBounds_ne (by omega)]; exact c3)
    · have e : cellsOf (os ++ [0]) = cellsOf os ++ [.int .u8 0] := by simp [cellsOf]
      rw [e]
      refine ownsRow_fr hown fun i hi => ?_
      have : i = k := by simpa [Value.ownBlock] using hi.symm
      subst this
      rw [Below.heap_setCell _ _ _ _ hkB, Below.heap_setCell _ _ _ _ hkB]
    · exact ((hf.trans (Fr.of_setCell w1 ⟨B, o + 2, none⟩ _)).trans (Fr.of_setCell _ ⟨B, o + 2 + 1, none⟩ _)).mono fun i _ hi => by
        rcases hi with (hi | hi) | hi
        · exact Or.inr (h3 ▸ hi)
        · exact Or.inl hi
        · exact Or.inl hi
    · rw [h3] at hat; exact hat
  · have hos : os ≠ [] := by rintro rfl; simp at hlen; omega
    have hol : 0 < os.length := List.length_pos_iff.2 hos
    refine (room_inO B o wr s m w (cell_of (o := o + 2 + 1) h1 c3) (frozen_of (o := o + 2 + 1) h1) (by omega) (by omega) hm0 hm1 hs1 hs2 hs3).mono ?_
    rintro e w' ⟨rfl, rfl⟩
    obtain ⟨k, cap, rfl, _, hk⟩ := h2.form hol
    have hkB : k ≠ B := h.eap k (by rw [← h3]; rfl)
    have el : os.dropLast.length + 1 = os.length := by rw [List.length_dropLast]; omega
    refine ⟨rfl, k, os.dropLast, os.getLast hos, _, by simp [hz, List.dropLast_concat_getLast], ⟨⟨cap, heap_setCell_own _ h1, ?_, get_set _ c3, ?_⟩, hkB⟩, set_cs2' _ _ _, ?_, ?_⟩
    · rw [el, Array.getElem?_setIfInBounds_ne (by omega)]; exact c2
    · rw [el, List.dropLast_concat_getLast]
      refine ownsRow_fr h2 fun i hi => ?_
      have : i = k := by simpa [Value.ownBlock] using hi.symm
      subst this
      exact Below.heap_setCell _ _ _ _ hkB
    · exact (Fr.of_setCell w ⟨B, o + 2 + 1, none⟩ _).mono fun i _ hi => Or.inl hi
    · exact Or.inl (by rw [← h3]; rfl)
theorem fill_wO (T : TypeId) (B o : Nat) (cs : Array Value) (k : Nat) (init : List Nat) (last b wr : Nat) (v : Int) (w : World) (h : MidO T w B o cs k init last wr) (hv0 : 0 ≤ v) (hv1 : v < 256) (hi : init.length ≤ 2147483000) (hb : bits .or .u8 (last : Int) v = (b : Int)) :
    Calls Tryz.prog 130 #[.pointer (some ⟨B, o + 2, none⟩), .int .i64 v] w fun e w' => e = .returned (.tuple #[]) ∧ Wo T w' B o cs (some k) (init ++ [b]) wr ∧ Fr (fun i => i = k) w w' := by
  obtain ⟨cap, h1, c2, c3, h2⟩ := h.eobj
  have hc := h2.cellAt init.length (by omega)
  have hf := h2.frozenAt init.length
  have e0 : (cellsOf (init ++ [last]))[init.length]? = some (.int .u8 (last : Int)) := by simp [cellsOf]
  rw [e0] at hc
  refine (fill_cO B o k init.length (init.length + 1) cap last v w (cell_of (o := o + 2) h1 c2) hc hf hv0 hv1 (by omega) rfl).mono ?_
  rintro e w' ⟨rfl, rfl⟩
  have hst := (h2.stored init.length (.int .u8 (bits .or .u8 (last : Int) v))).1
  have f : Fr (fun i => i = k) w ((w.setCell ⟨k, init.length, none⟩ (.int .u8 (bits .or .u8 (last : Int) v))).drew) := ((Fr.of_setCell w ⟨k, init.length, none⟩ _).trans (Fr.of_drewN _ 1)).mono fun i _ hi => by simpa using hi
  refine ⟨rfl, ⟨⟨.slice (some ⟨k, 0, none⟩) (init.length + 1) cap, ?_, c2, c3, ?_, rfl⟩, fun i hi => by cases hi; exact h.eap⟩, f⟩
  · rw [f.block B (lt_of h1) (Ne.symm h.eap)]; exact h1
  · have e1 : (cellsOf (init ++ [last])).set init.length (.int .u8 (bits .or .u8 (last : Int) v)) = cellsOf (init ++ [b]) := by
      rw [hb]; simp [cellsOf]
    rw [e1] at hst
    have e2 : (init ++ [b]).length = init.length + 1 := by simp
    rw [e2]
    exact hst
theorem MidO.drew {T : TypeId} {w : World} {B o : Nat} {cs : Array Value} {k : Nat} {init : List Nat} {last wr : Nat} (h : MidO T w B o cs k init last wr) : MidO T w.drew B o cs k init last wr := ⟨h.eobj, h.eap⟩
set_option maxHeartbeats 1600000 in
set_option maxRecDepth 100000 in
theorem low_putO (T : TypeId) (B o : Nat) (cs : Array Value) (g : Option Nat) (os : List Nat) (wn n : Nat) (x : Int) (w : World) (h : Wo T w B o cs g os wn) (hs : LowSt os wn) (hwr : wn ≤ 2147480000) (hn : n ≤ 24) :
    Calls Tryz.prog 115 #[.pointer (some ⟨B, o, none⟩), .int .i64 x, .int .i64 n] w fun e w' => e = .returned (.tuple #[]) ∧
      ∃ cs' g' os', Wo T w' B o cs' g' os' (wn + n) ∧ Cs2 o cs cs' ∧ LowSt os' (wn + n) ∧ leNum os' = leNum os + lowBits (numOf x) 0 n * 2 ^ wn ∧ Fr (fun i => i = B ∨ g = some i) w w' ∧ (g' = g ∨ ∃ k, g' = some k ∧ w.heap.size ≤ k) := by
  have H := hide h
  have Hs := hide hs
  clear h hs
  go_enter Tryz.func115, Tryz.ntmps115
  go_wp2_with (go_at_call 84; refine (width_ok _ (by omega) (by omega) _).mono ?_; rintro e w' ⟨rfl, rfl⟩)
  go_loopw [6] (fun t w' => ∃ p cs' g' os', p ≤ n ∧ t = .int .i64 (p : Nat) ∧ Wo T w' B o cs' g' os' (wn + p) ∧ Cs2 o cs cs' ∧ LowSt os' (wn + p) ∧ leNum os' = leNum os + lowBits (numOf x) 0 p * 2 ^ wn ∧ Fr (fun i => i = B ∨ g = some i) w w' ∧ (g' = g ∨ ∃ k, g' = some k ∧ w.heap.size ≤ k)) (fun t _ => n - (intOf t).toNat)
  case atStart => exact ⟨0, cs, g, os, Nat.zero_le _, rfl, H.out, Cs2.refl _ _, Hs.out, by simp [lowBits_zero], Fr.refl _ _, Or.inl rfl⟩
  case round =>
    obtain ⟨p, cs1, g', os', hp, rfl, hW, hC, hL, hN, hF, hG⟩ := hrel
    by_cases hlt : p < n
    · obtain ⟨s, hsv⟩ : ∃ s : Nat, s = min (n - p) (8 - (wn + p) % 8) := ⟨_, rfl⟩
      have hs1 : s ≤ n - p := by omega
      have hs2 : (wn + p) % 8 + s ≤ 8 := by omega
      have hs3 : s = n - p ∨ (wn + p) % 8 + s = 8 := by omega
      have hs4 : 0 < s := by omega
      have HW := hide hW
      have HC := hide hC
      have HL := hide hL
      have HN := hide hN
      have HF := hide hF
      have HG := hide hG
      obtain ⟨P, hP⟩ : ∃ P, P = wn + p := ⟨_, rfl⟩
      rw [← hP] at HW HL hs2 hs3
      have HP := hide hP
      have hP1 : P ≤ 2147483000 := by omega
      clear hsv hW hC hL hN hF hG hP
      go_wp2_with (go_at_call 129; refine (room_wO T B o cs1 g' os' P s _ _ HW.out HL.out.len hP1 (by omega) (by omega) (by omega) hs2 (by omega)).mono ?_; rintro e w1 ⟨rfl, k, init, last, cs2, hcase, hmid, hc2, hf1, hk1⟩)
      obtain ⟨q, hq⟩ : ∃ q, q = lowBits (numOf x) p s := ⟨_, rfl⟩
      have hqlt : q < 2 ^ s := by rw [hq]; exact lowBits_lt _ _ _
      obtain ⟨r1, r2, r3, r4⟩ := low_room HL.out hcase hs2 hs4 hqlt
      obtain ⟨V, hV⟩ : ∃ V, V = q * 2 ^ (P % 8) := ⟨_, rfl⟩
      rw [← hV] at r1 r2 r3 r4
      have hwq : IntKind.i64.wrap ((q : Int) * 2 ^ ((P : Int) % 8).toNat) = (V : Int) := by
        have e : (q : Int) * 2 ^ ((P : Int) % 8).toNat = (V : Int) := by
          rw [hV, show ((P : Int) % 8).toNat = P % 8 by omega]; simp
        rw [e, wrap_i64_id _ (by omega) (by omega)]
      have hil : init.length ≤ 2147483000 := by
        have := r3.len
        simp at this
        omega
      have R1 := hide r1
      have R3 := hide r3
      have R4 := hide r4
      have HM := hide hmid.drew
      have HC2 := hide hc2
      have Hf1 := hide hf1
      have Hk1 := hide hk1
      have Hq := hide hq
      have hlow := lowest_b x p s (by omega)
      rw [← hq] at hlow
      have Hlow := hide hlow
      clear hlow hq hV r1 r3 r4 hmid hc2 hf1 hk1 hcase hqlt
      go_region_with (first
        | (go_at_call 87; refine (Hlow.out _).mono ?_; rintro e w' ⟨rfl, rfl⟩)
        | (go_at_call 130; refine (fill_wO T B o cs2 k init last (last + V) (P + s) (V : Int) _ HM.out (by omega) (by omega) hil R1.out).mono ?_; rintro e w2 ⟨rfl, hw2, hf2⟩))
      all_goals
        go_wp2
        obtain ⟨hF2, hG2⟩ := put_frame HF.out HG.out Hf1.out Hk1.out hf2
        have hP := HP.out
        have hPs : P + s = wn + (p + s) := by omega
        rw [hPs] at hw2
        have R3' := R3.out
        rw [hPs] at R3'
        refine ⟨⟨p + s, cs2, some k, init ++ [last + V], by omega, by simp, hw2, HC.out.trans HC2.out, R3', ?_, hF2, hG2⟩, by simp [intOf]; omega⟩
        rw [R4.out, HN.out, Hq.out, lowBits_add, Nat.zero_add, hP, Nat.pow_add, Nat.add_mul]
        generalize lowBits (numOf x) p s = a
        rw [Nat.add_assoc, Nat.mul_comm (2 ^ wn), ← Nat.mul_assoc, Nat.mul_comm a]
    · go_wp2
      go_end0
      have e : p = n := by omega
      subst e
      exact ⟨rfl, cs1, g', os', hW, hC, hL, hN, hF, hG⟩
end Go.Proofs.YtdpmpllbdoefdaaGreatDoor
namespace Go.Proofs.YtdpmpllbdoefdaaGreatDoor
open Go.RowKit
def LiesI (w : World) (a : Option Addr) (zs : List Int) : Prop :=
  ∀ j, j < zs.length → ∃ ad, a = some ad ∧ w.cell? (ad.add j) = some (.int .i64 (at0 zs j))
set_option maxHeartbeats 400000 in
set_option maxRecDepth 100000 in
theorem mayLens_ok (a : Option Addr) (c : Nat) (ls : List Int) (w : World) (hl : LiesI w a ls) (hg : good ls) :
    Calls Tryz.prog 121 #[.slice a ls.length c] w fun e w' => e = .returned (.bool true) ∧ w = w' := by
  have h320 := hg.1
  have Hg := hide hg.2
  have Hl := hide hl
  clear hg hl
  go_enter Tryz.func121, Tryz.ntmps121
  go_wp2
  go_loop [4, 10] (fun _ i => ∃ k : Nat, k ≤ ls.length ∧ i = .int .i64 k) (fun _ i => ls.length - (intOf i).toNat)
  case atStart => exact ⟨0, Nat.zero_le _, rfl⟩
  case round =>
    obtain ⟨k, hk, rfl⟩ := hrel
    by_cases hlt : k < ls.length
    · obtain ⟨ad, rfl, hc⟩ := Hl.out k hlt
      obtain ⟨h0, h1⟩ := Hg.out k hlt
      go_wp2
      go_round
      case rel => exact ⟨k + 1, by omega, by go_num⟩
      case measure => simp [intOf]; omega
    · go_wp2
      go_ret
      exact ⟨rfl, rfl⟩
structure Sz (w : World) (B : Nat) (wv rv : Value) (f : Nat → Nat) : Prop where
  eobj : ∃ cs : Array Value, w.heap[B]? = some (.cells cs 145 (0, 0)) ∧ cs.size = 18 ∧ cs[0]? = some wv ∧ cs[17]? = some rv ∧ ∀ i, 1 ≤ i → i < 16 → cs[1 + i]? = some (.int .i64 (f i : Nat))
theorem Sz.cell {w : World} {B : Nat} {wv rv : Value} {f : Nat → Nat} (h : Sz w B wv rv f) {i : Nat} (h1 : 1 ≤ i) (h2 : i < 16) : w.cell? ⟨B, 1 + i, none⟩ = some (.int .i64 (f i : Nat)) := by
  obtain ⟨cs, ho, _, _, _, hc⟩ := h.eobj
  exact cell_of ho (hc i h1 h2)
theorem Sz.cell0 {w : World} {B : Nat} {wv rv : Value} {f : Nat → Nat} (h : Sz w B wv rv f) : w.cell? ⟨B, 0, none⟩ = some wv := by
  obtain ⟨cs, ho, _, h0, _, hc⟩ := h.eobj
  exact cell_of ho h0
theorem Sz.cell17 {w : World} {B : Nat} {wv rv : Value} {f : Nat → Nat} (h : Sz w B wv rv f) : w.cell? ⟨B, 17, none⟩ = some rv := by
  obtain ⟨cs, ho, _, _, h0, hc⟩ := h.eobj
  exact cell_of ho h0
theorem Sz.frozen {w : World} {B : Nat} {wv rv : Value} {f : Nat → Nat} (h : Sz w B wv rv f) (i : Nat) : w.frozen? ⟨B, i, none⟩ = false := by
  obtain ⟨cs, ho, _⟩ := h.eobj
  exact frozen_of ho
theorem Sz.keep {w w' : World} {B : Nat} {wv rv : Value} {f : Nat → Nat} (h : Sz w B wv rv f) {S : Nat → Prop} (g : Fr S w w') (hB : ¬ S B) : Sz w' B wv rv f := by
  obtain ⟨cs, ho, h1⟩ := h.eobj
  exact ⟨cs, by rw [g.block B (lt_of ho) hB]; exact ho, h1⟩
set_option maxHeartbeats 400000 in
set_option maxRecDepth 100000 in
theorem mayBe_c (B : Nat) (wv rv : Value) (ls : List Int) (w : World) (h : Sz w B wv rv (cnt ls)) (h320 : ls.length ≤ 320) (b : Bool) (hb : b = true ↔ codeOk ls) :
    Calls Tryz.prog 122 #[.pointer (some ⟨B, 0, none⟩)] w fun e w' => e = .returned (.bool b) ∧ w = w' := by
  have H := hide h
  have Hb := hide hb
  clear h hb
  go_enter Tryz.func122, Tryz.ntmps122
  go_wp2
  go_loop [3, 4, 6, 12] (fun al fre _ i => ∃ k : Nat, k ≤ 15 ∧ i = .int .i64 k ∧ al = .int .i64 (tot ls k : Nat) ∧ fre = .int .i64 (frk ls k)) (fun _ _ _ i => 15 - (intOf i).toNat)
  case atStart => exact ⟨0, Nat.zero_le _, rfl, rfl, rfl⟩
  case round =>
    obtain ⟨k, hk, rfl, rfl, rfl⟩ := hrel
    by_cases hlt : k < 15
    · have hc := H.out.cell (i := k + 1) (by omega) (by omega)
      rw [show 1 + (k + 1) = 2 + k by omega] at hc
      have h1 := fr_bound ls h320 (n := k) (by omega)
      have h2 := tot_le ls k
      have h3 := cnt_le ls (k + 1)
      have HT := hide (tot_succ ls k)
      have HF := hide (frk_succ ls k)
      go_wp2
      go_round
      case rel => exact ⟨k + 1, by omega, by go_num, by rw [HT.out]; go_num, by rw [HF.out]⟩
      case measure => simp [intOf]; omega
    · have e : k = 15 := by omega
      subst e
      have hc := H.out.cell (i := 1) (by omega) (by omega)
      by_cases h1 : frk ls 15 = 0
      · have q1 : ((frk ls 15 : Int) == 0) = true := by simpa using h1
        have hbt : b = true := Hb.out.2 (Or.inl h1)
        subst hbt
        have Hx := hide h1
        clear h1
        go_wp2
        go_ret
        exact ⟨rfl, rfl⟩
      · have q1 : ((frk ls 15 : Int) == 0) = false := beq_false_of_ne h1
        by_cases h2 : tot ls 15 = 0
        · have hbt : b = true := Hb.out.2 (Or.inr (Or.inl h2))
          subst hbt
          have q2 : (((tot ls 15 : Nat) : Int) == 0) = true := by simp [h2]
          clear h1 h2
          go_wp2
          go_ret
          exact ⟨rfl, rfl⟩
        · have q2 : (((tot ls 15 : Nat) : Int) == 0) = false := beq_false_of_ne (by omega)
          by_cases h3 : tot ls 15 = 1
          · have q3 : (((tot ls 15 : Nat) : Int) == 1) = true := by simp [h3]
            have hbb : b = (((cnt ls 1 : Nat) : Int) == 1) := by
              rw [Bool.eq_iff_iff, Hb.out]
              unfold codeOk
              simp [h1, h3]
              omega
            have Hbb := hide hbb
            clear h1 h2 h3 hbb
            go_wp2
            go_ret
            exact ⟨by rw [Hbb.out]; rfl, rfl⟩
          · have q3 : (((tot ls 15 : Nat) : Int) == 1) = false := beq_false_of_ne (by omega)
            have hbb : b = false := by
              rw [← Bool.not_eq_true, Hb.out]
              unfold codeOk
              omega
            subst hbb
            clear h1 h2 h3
            go_wp2
            go_ret
            exact ⟨rfl, rfl⟩
end Go.Proofs.YtdpmpllbdoefdaaGreatDoor
namespace Go.Proofs.YtdpmpllbdoefdaaGreatDoor
open Go.RowKit
theorem Tryz.info3 : (Tryz.prog.info? 3).map (fun i => (i.zero, i.size, i.bytes)) = some (some (.int .i64 0), 1, 8) := by kernel_rfl
theorem Tryz.info191 : (Tryz.prog.info? 191).map (fun i => (i.zero, i.size, i.bytes)) = some (some (.agg #[.int .i64 0, .int .i64 0]), 2, 16) := by kernel_rfl
def cellsI (xs : List Nat) : List Value := xs.map fun x => .int .i64 ((x : Nat) : Int)
theorem makeWords (n : Nat) (hn : n ≤ 1000000) : ∃ zs : Array Value, (∀ W : World, (Instr.makeSlice 143 (.int .i64 (n : Int)) (.int .i64 (n : Int))).run Tryz.prog W = .ok (.slice (some ⟨W.heap.size, 0, none⟩) n n) (W.alloc (.cells zs 191))) ∧ zs.size = 2 * n ∧ ∀ i, i < 2 * n → zs[i]? = some (.int .i64 0) := by
  obtain ⟨i0, hi, hz0, hz1, hz2⟩ := info_parts Tryz.info191
  refine ⟨madeCells (Value.agg #[.int .i64 0, .int .i64 0]).cells (n * 2), fun W => ?_, by simp [size_madeCells]; omega, fun i hi => ?_⟩
  · have := run_make (P := Tryz.prog) W 143 191 i0 (.agg #[.int .i64 0, .int .i64 0]) Tryz.underlying143 hi hz0 .i64 .i64 n n (by omega) (Int.le_refl _) (by rw [hz2]; omega) (by omega)
    rw [hz1] at this
    simpa using this
  · have h2 : i % 2 = 0 ∨ i % 2 = 1 := by omega
    have h3 : i < n * 2 := by omega
    rcases h2 with h2 | h2 <;> simp [madeCells, h3, Value.cells, h2]
def given (ls : List Int) (m k i : Nat) : Prop := (1 ≤ at0 ls i ∧ at0 ls i ≤ m) ∨ (at0 ls i = ((m + 1 : Nat) : Int) ∧ i < k)
instance (ls : List Int) (m k i : Nat) : Decidable (given ls m k i) := by unfold given; infer_instance
def wA (ls : List Int) (m k i : Nat) : Int := if given ls m k i then (wd ls i : Nat) else 0
def sA (ls : List Int) (m k i : Nat) : Int := if given ls m k i then at0 ls i else 0
def Wds (w : World) (D : Nat) (ls : List Int) (m k : Nat) : Prop :=
  ∃ ws : Array Value, w.heap[D]? = some (.cells ws 191 (0, 0)) ∧ ws.size = 2 * ls.length ∧ ∀ i, i < ls.length → ws[i * 2]? = some (.int .i64 (wA ls m k i)) ∧ ws[i * 2 + 1]? = some (.int .i64 (sA ls m k i))
structure Giv (w wr : World) (B D : Nat) (ls : List Int) (m k : Nat) : Prop where
  sz : ∃ rv, Sz wr B (.slice (some ⟨D, 0, none⟩) ls.length ls.length) rv (cnt ls) ∧ wr.ownsRow w.heap.size 3 1 rv (tot ls m + rank ls (m + 1) k) (cellsI (rkd ls m ++ syms ls (m + 1) k)) ∧ ∀ g, rv.ownBlock = some g → g ≠ D
  wds : Wds wr D ls m k
  fr : Fr (fun i => i = B) w wr
  lob : B < w.heap.size
  lod : w.heap.size ≤ D
theorem given_next {ls : List Int} {m k i : Nat} (h : at0 ls k ≠ ((m + 1 : Nat) : Int)) : given ls m (k + 1) i ↔ given ls m k i := by
  unfold given
  constructor
  · rintro (h1 | ⟨h1, h2⟩)
    · exact Or.inl h1
    · refine Or.inr ⟨h1, ?_⟩
      rcases Nat.lt_or_ge i k with h3 | h3
      · exact h3
      · have : i = k := by omega
        subst this; exact absurd h1 h
  · rintro (h1 | ⟨h1, h2⟩)
    · exact Or.inl h1
    · exact Or.inr ⟨h1, by omega⟩
theorem given_size {ls : List Int} {m i : Nat} (hi : i < ls.length) : given ls (m + 1) 0 i ↔ given ls m ls.length i := by
  unfold given
  constructor
  · rintro (⟨h1, h2⟩ | ⟨_, h2⟩)
    · by_cases h3 : at0 ls i = ((m + 1 : Nat) : Int)
      · exact Or.inr ⟨h3, hi⟩
      · exact Or.inl ⟨h1, by omega⟩
    · omega
  · rintro (⟨h1, h2⟩ | ⟨h1, h2⟩)
    · exact Or.inl ⟨h1, by omega⟩
    · exact Or.inl ⟨by omega, by omega⟩
theorem given_start {ls : List Int} {i : Nat} : ¬ given ls 0 0 i := by
  unfold given
  rintro (⟨h1, h2⟩ | ⟨_, h2⟩)
  · omega
  · omega
theorem given_end {ls : List Int} (hg : good ls) {i : Nat} (hi : i < ls.length) : given ls 15 0 i ↔ 1 ≤ at0 ls i := by
  have := hg.2 i hi
  unfold given
  omega
theorem Giv.skip {w wr : World} {B D : Nat} {ls : List Int} {m k : Nat} (h : Giv w wr B D ls m k) (hz : at0 ls k ≠ ((m + 1 : Nat) : Int)) : Giv w wr B D ls m (k + 1) := by
  obtain ⟨rv, h1, h2, h3⟩ := h.sz
  obtain ⟨ws, h4, h5, h6⟩ := h.wds
  refine ⟨⟨rv, h1, ?_, h3⟩, ⟨ws, h4, h5, fun i hi => ?_⟩, h.fr, h.lob, h.lod⟩
  · simp only [rank, syms, if_neg hz]; exact h2
  · have := h6 i hi
    unfold wA sA at this ⊢
    simp only [given_next hz]; exact this
theorem Giv.size {w wr : World} {B D : Nat} {ls : List Int} {m : Nat} (h : Giv w wr B D ls m ls.length) : Giv w wr B D ls (m + 1) 0 := by
  obtain ⟨rv, h1, h2, h3⟩ := h.sz
  obtain ⟨ws, h4, h5, h6⟩ := h.wds
  refine ⟨⟨rv, h1, ?_, h3⟩, ⟨ws, h4, h5, fun i hi => ?_⟩, h.fr, h.lob, h.lod⟩
  · simp only [rank, syms, List.append_nil, rkd, Nat.add_zero]; exact h2
  · have := h6 i hi
    unfold wA sA at this ⊢
    simp only [given_size hi]; exact this
theorem Giv.cells {w wr : World} {B D : Nat} {ls : List Int} {m k : Nat} (h : Giv w wr B D ls m k) {i : Nat} (hi : i < ls.length) :
    (∃ x, wr.cell? ⟨D, i * 2, none⟩ = some (.int .i64 x)) ∧ (∃ x, wr.cell? ⟨D, i * 2 + 1, none⟩ = some (.int .i64 x)) ∧ wr.frozen? ⟨D, i * 2, none⟩ = false ∧ wr.frozen? ⟨D, i * 2 + 1, none⟩ = false := by
  obtain ⟨ws, h4, h5, h6⟩ := h.wds
  exact ⟨⟨_, cell_of h4 (h6 i hi).1⟩, ⟨_, cell_of h4 (h6 i hi).2⟩, frozen_of h4, frozen_of h4⟩
theorem Giv.step {w wr w1 : World} {B D : Nat} {ls : List Int} {m k g cap : Nat} {rv : Value} (h : Giv w wr B D ls m k) (hk : k < ls.length) (hz : at0 ls k = ((m + 1 : Nat) : Int))
    (hs : Sz wr B (.slice (some ⟨D, 0, none⟩) ls.length ls.length) rv (cnt ls)) (hap : ∀ g, rv.ownBlock = some g → g ≠ D) (hrw : ∀ g, rv.ownBlock = some g → w.heap.size ≤ g)
    (hown : w1.ownsRow w.heap.size 3 1 (.slice (some ⟨g, 0, none⟩) (tot ls m + rank ls (m + 1) k + 1) cap) (tot ls m + rank ls (m + 1) k + 1) (cellsI (rkd ls m ++ syms ls (m + 1) k) ++ [.int .i64 (k : Int)]))
    (hf : Fr (fun i => rv.ownBlock = some i) ((wr.setCell ⟨D, k * 2, none⟩ (.int .i64 (wd ls k : Nat))).setCell ⟨D, k * 2 + 1, none⟩ (.int .i64 (at0 ls k))) w1) (hgs : rv.ownBlock = some g ∨ wr.heap.size ≤ g) :
    Giv w (w1.setCell ⟨B, 17, none⟩ (.slice (some ⟨g, 0, none⟩) (tot ls m + rank ls (m + 1) k + 1) cap)) B D ls m (k + 1) := by
  obtain ⟨ws, h4, h5, h6⟩ := h.wds
  obtain ⟨cs, s1, s2, s3, s4, s5⟩ := hs.eobj
  have hB := h.lob
  have hD := h.lod
  have hDs := lt_of h4
  have hwz := h.fr.size
  have hgB : g ≠ B := by
    rcases hgs with e | e
    · have := hrw g e; omega
    · omega
  have hgD : g ≠ D := by
    rcases hgs with e | e
    · exact hap g e
    · omega
  have hf0 : Fr (fun i => i = D) wr ((wr.setCell ⟨D, k * 2, none⟩ (.int .i64 (wd ls k : Nat))).setCell ⟨D, k * 2 + 1, none⟩ (.int .i64 (at0 ls k))) :=
    ((Fr.of_setCell wr ⟨D, k * 2, none⟩ (.int .i64 (wd ls k : Nat))).trans (Fr.of_setCell _ ⟨D, k * 2 + 1, none⟩ (.int .i64 (at0 ls k)))).mono fun i _ hi => by simpa using hi
  have hb1 : w1.heap[B]? = some (.cells cs 145 (0, 0)) := by
    rw [hf.block B (by have := hf0.size; omega) (fun e => by have := hrw B e; omega), hf0.block B (by omega) (by omega)]; exact s1
  have hd1 : w1.heap[D]? = some (.cells ((ws.setIfInBounds (k * 2) (.int .i64 (wd ls k : Nat))).setIfInBounds (k * 2 + 1) (.int .i64 (at0 ls k))) 191 (0, 0)) := by
    rw [hf.block D (by have := hf0.size; omega) (fun e => hap D e rfl)]
    exact heap_setCell_own _ (heap_setCell_own _ h4)
  have hd2 : (w1.setCell ⟨B, 17, none⟩ (.slice (some ⟨g, 0, none⟩) (tot ls m + rank ls (m + 1) k + 1) cap)).heap[D]? = some (.cells ((ws.setIfInBounds (k * 2) (.int .i64 (wd ls k : Nat))).setIfInBounds (k * 2 + 1) (.int .i64 (at0 ls k))) 191 (0, 0)) := by
    rw [Below.heap_setCell _ _ _ _ (by show D ≠ B; omega)]; exact hd1
  refine ⟨⟨.slice (some ⟨g, 0, none⟩) (tot ls m + rank ls (m + 1) k + 1) cap, ⟨_, heap_setCell_own _ hb1, by simpa using s2, ?_, ?_, fun i h1 h2 => ?_⟩, ?_, fun g' e => ?_⟩, ⟨_, hd2, ?_, fun i hi => ?_⟩, ?_, hB, hD⟩
  · rw [Array.getElem?_setIfInBounds_ne (by omega)]; exact s3
  · rw [Array.getElem?_setIfInBounds_self_of_lt (by omega)]
  · rw [Array.getElem?_setIfInBounds_ne (by omega)]; exact s5 i h1 h2
  · simp only [rank, syms, if_pos hz, ← List.append_assoc]
    have e : cellsI (rkd ls m ++ syms ls (m + 1) k ++ [k]) = cellsI (rkd ls m ++ syms ls (m + 1) k) ++ [.int .i64 (k : Int)] := by simp [cellsI]
    rw [e, ← Nat.add_assoc]
    refine ownsRow_fr hown fun i hi => ?_
    have : i = g := by simpa [Value.ownBlock] using hi.symm
    subst this
    exact Below.heap_setCell _ _ _ _ hgB
  · have : g' = g := by simpa [Value.ownBlock] using e.symm
    subst this; exact hgD
  · simpa using h5
  · have hw := h6 i hi
    by_cases e : i = k
    · subst e
      have hgv : given ls m (i + 1) i := Or.inr ⟨hz, by omega⟩
      simp only [wA, sA, if_pos hgv]
      refine ⟨?_, ?_⟩
      · rw [Array.getElem?_setIfInBounds_ne (by omega), Array.getElem?_setIfInBounds_self_of_lt (by omega)]
      · rw [Array.getElem?_setIfInBounds_self_of_lt (by simp; omega)]
    · have hgv : given ls m (k + 1) i ↔ given ls m k i := by unfold given; omega
      unfold wA sA at hw ⊢
      simp only [hgv]
      rw [Array.getElem?_setIfInBounds_ne (by omega), Array.getElem?_setIfInBounds_ne (by omega), Array.getElem?_setIfInBounds_ne (by omega), Array.getElem?_setIfInBounds_ne (by omega)]
      exact hw
  · exact (((h.fr.trans hf0).trans hf).trans (Fr.of_setCell w1 ⟨B, 17, none⟩ _)).mono fun i hi h' => by
      rcases h' with ((h' | h') | h') | h'
      · exact h'
      · omega
      · have := hrw i h'; omega
      · exact h'
theorem Fr.of_grown {w w' : World} {o : Option Nat} (h : w.grownBy w' o) : Fr (fun k => o = some k) w w' := ⟨h.os, h.tape, h.output, h.size, fun k hk hn => h.block k hk (fun e => hn e.symm)⟩
theorem Sz.set2 {w : World} {B D k l : Nat} {wv rv u v : Value} {f : Nat → Nat} (h : Sz w B wv rv f) (hD : ¬ D = B) : Sz ((w.setCell ⟨D, k, none⟩ u).setCell ⟨D, l, none⟩ v) B wv rv f :=
  h.keep (((Fr.of_setCell w ⟨D, k, none⟩ u).trans (Fr.of_setCell _ ⟨D, l, none⟩ v)).mono fun i _ hi => by simpa using hi) (S := fun i => i = D) (fun e => hD e.symm)
theorem add_block (ad : Addr) (j : Nat) : (ad.add j).block = ad.block := by unfold Addr.add; split <;> rfl
theorem LiesI.keep {w w' : World} {a : Option Addr} {zs : List Int} (h : LiesI w a zs) {S : Nat → Prop} (f : Fr S w w') (hS : ∀ ad, a = some ad → zs ≠ [] → ¬ S ad.block) : LiesI w' a zs := by
  intro j hj
  obtain ⟨ad, rfl, hc⟩ := h j hj
  refine ⟨ad, rfl, ?_⟩
  have hb := World.block_lt_of_cell? _ _ hc
  rw [add_block] at hb
  rw [World.cell?_of_block (w := w) (by rw [add_block]; exact f.block _ hb (hS ad rfl (by rintro rfl; simp at hj)))]
  exact hc
set_option maxHeartbeats 1600000 in
set_option maxRecDepth 100000 in
theorem giveWords_c (B : Nat) (a : Option Addr) (c : Nat) (ls : List Int) (w : World) (h : Sz w B (.slice none 0 0) (.slice none 0 0) (cnt ls)) (hl : LiesI w a ls) (hB : ∀ ad, a = some ad → ls ≠ [] → ad.block ≠ B) (hg : good ls) :
    Calls Tryz.prog 123 #[.pointer (some ⟨B, 0, none⟩), .slice a ls.length c] w fun e w' => e = .returned (.tuple #[]) ∧ ∃ D, Giv w w' B D ls 15 0 := by
  obtain ⟨i0, hi, hz0, hz1, hz2⟩ := info_parts Tryz.info3
  obtain ⟨zs, hmk, hzs, hzv⟩ := makeWords ls.length (by have := hg.1; omega)
  have h320 := hg.1
  have hc0 := h.cell0
  have hf0 := h.frozen 0
  have hBlt : B < w.heap.size := by obtain ⟨cs, ho, _⟩ := h.eobj; exact lt_of ho
  have H := hide h
  have Hl := hide hl
  have HB := hide hB
  have Hg := hide hg
  have Hz := hide hzv
  have Hs := hide hzs
  clear h hl hB hg hzv hzs
  go_enter Tryz.func123, Tryz.ntmps123
  go_wp2
  obtain ⟨D, hD⟩ : ∃ D, D = w.heap.size := ⟨_, rfl⟩
  have hst : Giv w ((w.setCell ⟨B, 0, none⟩ (.slice (some ⟨w.heap.size, 0, none⟩) ls.length ls.length)).alloc (.cells zs 191)) B D ls 0 0 := by
    obtain ⟨cs, s1, s2, s3, s4, s5⟩ := H.out.eobj
    have hb1 := heap_setCell_own (o := 0) (.slice (some ⟨w.heap.size, 0, none⟩) ls.length ls.length) s1
    have hsz : (w.setCell ⟨B, 0, none⟩ (.slice (some ⟨w.heap.size, 0, none⟩) ls.length ls.length)).heap.size = w.heap.size := by simp [World.setCell]
    have hd1 : ((w.setCell ⟨B, 0, none⟩ (.slice (some ⟨w.heap.size, 0, none⟩) ls.length ls.length)).alloc (.cells zs 191)).heap[D]? = some (.cells zs 191 (0, 0)) := heap_alloc_at (by rw [hsz]; exact hD)
    refine ⟨⟨.slice none 0 0, ⟨_, by rw [Below.heap_alloc _ _ _ (by rw [hsz]; exact hBlt)]; exact hb1, by simpa using s2, ?_, ?_, fun i h1 h2 => ?_⟩, ?_, fun g e => by cases e⟩, ⟨zs, hd1, Hs.out, fun i hi => ?_⟩, ?_, hBlt, by omega⟩
    · rw [Array.getElem?_setIfInBounds_self_of_lt (by omega), hD]
    · rw [Array.getElem?_setIfInBounds_ne (by omega)]; exact s4
    · rw [Array.getElem?_setIfInBounds_ne (by omega)]; exact s5 i h1 h2
    · exact World.ownsRow_nil _ _ _ _
    · unfold wA sA
      rw [if_neg given_start, if_neg given_start]
      exact ⟨Hz.out _ (by omega), Hz.out _ (by omega)⟩
    · exact ((Fr.of_setCell w ⟨B, 0, none⟩ _).trans (Fr.of_alloc _ _)).mono fun i _ h => by simpa using h
  have Hst := hide hst
  clear hst hD
  go_loopw [4, 5, 6, 7] (fun nxv sz _ _ wr => ∃ m s : Nat, m ≤ 15 ∧ Hid (s = m + 1) ∧ sz = .int .i64 (s : Int) ∧ nxv = .int .i64 (nx ls m : Nat) ∧ Giv w wr B D ls m 0) (fun _ sz _ _ _ => 16 - (intOf sz).toNat)
  case atStart => exact ⟨0, 1, Nat.zero_le _, rfl, rfl, rfl, Hst.out⟩
  case round =>
    obtain ⟨m, s, hm, Hm, rfl, rfl, hG⟩ := hrel
    by_cases hlt : m < 15
    · have hs15 : (s : Int) ≤ 15 := by have := Hm.out; omega
      have hs15' : decide ((s : Int) ≤ 15) = true := decide_eq_true hs15
      have hn1 := nx_bound ls h320 (n := m) (by omega)
      have HG := hide hG
      clear hG
      go_wp2
      go_loopw [4, 6, 7, 22] (fun nxv _ _ i wr => ∃ k : Nat, k ≤ ls.length ∧ i = .int .i64 (k : Int) ∧ nxv = .int .i64 ((2 * nx ls m + rank ls (m + 1) k : Nat) : Int) ∧ Giv w wr B D ls m k) (fun _ _ _ i _ => ls.length - (intOf i).toNat)
      case atStart => exact ⟨0, Nat.zero_le _, rfl, by simp [rank]; omega, HG.out⟩
      case round =>
        obtain ⟨k, hk, rfl, rfl, hG⟩ := hrel
        have hL := Hl.out.keep hG.fr (fun ad e hne => HB.out ad e hne)
        by_cases hlt2 : k < ls.length
        · obtain ⟨ad, rfl, hc⟩ := hL k hlt2
          have hr := rank_le ls (m + 1) k
          by_cases hz : at0 ls k = ((m + 1 : Nat) : Int)
          · obtain ⟨rv, hsz, hown, hap⟩ := hG.sz
            obtain ⟨a0, c0, rfl⟩ := ownsRow_shape hown
            obtain ⟨⟨x0, hx0⟩, ⟨x1, hx1⟩, fx0, fx1⟩ := hG.cells hlt2
            have hb0 := hsz.cell0
            have hb17 := hsz.cell17
            have hfb := hsz.frozen 17
            have hDB : ¬ D = B := by have := hG.lod; have := hG.lob; omega
            have hq : (at0 ls k == (s : Int)) = true := by rw [Hm.out]; simpa using hz
            obtain ⟨X, hX⟩ : ∃ X : Nat, X = 2 * nx ls m + rank ls (m + 1) k := ⟨_, rfl⟩
            rw [← hX]
            have hXb : X ≤ 30000000 := by omega
            have HX := hide hX
            have Hz2 := hide hz
            have hrw : ∀ g, (Value.slice a0 (tot ls m + rank ls (m + 1) k) c0).ownBlock = some g → w.heap.size ≤ g := fun g e => (hown.lt g e).1
            have hlen := tot_le ls m
            have HG := hide hG
            have Hap := hide hap
            have Hsz := hide hsz
            have Hrw := hide hrw
            have hos : ∀ v1 v2, ((wr.setCell ⟨D, k * 2, none⟩ v1).setCell ⟨D, k * 2 + 1, none⟩ v2).ownsRow w.heap.size 3 1 (.slice a0 (tot ls m + rank ls (m + 1) k) c0) (tot ls m + rank ls (m + 1) k) (cellsI (rkd ls m ++ syms ls (m + 1) k)) := by
              intro v1 v2
              refine ownsRow_fr hown fun i hi => ?_
              rw [Below.heap_setCell _ _ _ _ (hap i hi), Below.heap_setCell _ _ _ _ (hap i hi)]
            have Hos := hide hos
            have hwz : w.heap.size ≤ wr.heap.size := hG.fr.size
            clear hL hX hz hG hap hsz hrw hos hown
            obtain ⟨N, hN⟩ : ∃ N, N = tot ls m + rank ls (m + 1) k := ⟨_, rfl⟩
            rw [← hN] at Hos Hrw Hsz Hap hb17
            have hNb : N ≤ 1000 := by omega
            have HN := hide hN
            clear hN
            go_wp2_with (at_builtin; go_must (refine wpList_append_lies _ rfl _ _ 81 rfl w.heap.size 3 i0 (.int .i64 0) 1 8 Tryz.underlying81 hi hz0 hz1 hz2 rfl (by decide) (.slice a0 N c0) N (cellsI (rkd ls m ++ syms ls (m + 1) k)) rfl ((Hos.out _ _).alloc _) ⟨wr.heap.size, 0, none⟩ 1 1 [.int .i64 (k : Int)] rfl rfl (by have := cell_one_new ((wr.setCell ⟨D, k * 2, none⟩ (.int .i64 (X : Int))).setCell ⟨D, k * 2 + 1, none⟩ (.int .i64 (s : Int))) (.int .i64 (k : Int)) 3; simpa [World.setCell] using this) (fun x hx => by simp at hx; subst hx; rfl) (by decide) (by unfold maxLen; omega) (by omega) (by simp [World.setCell]; omega) (wr.heap.size + 1) (by simp [World.setCell]) ?_); intro g cap w1 hown1 hgrow hat hlt1
                         have hF1 : Fr (fun i => (Value.slice a0 N c0).ownBlock = some i) ((wr.setCell ⟨D, k * 2, none⟩ (.int .i64 (X : Int))).setCell ⟨D, k * 2 + 1, none⟩ (.int .i64 (s : Int))) w1 := ((Fr.of_alloc _ _).trans (Fr.of_grown hgrow)).mono fun i _ h => h.elim (fun h => h.elim) id
                         have hSz1 := (Hsz.out.set2 (D := D) (k := k * 2) (l := k * 2 + 1) (u := .int .i64 (X : Int)) (v := .int .i64 (s : Int)) hDB).keep hF1 (fun e => by have := Hrw.out B e; omega)
                         have q17 := hSz1.cell17
                         have z17 := hSz1.frozen 17
                         have Hown1 := hide hown1
                         have HF1 := hide hF1
                         have Hat := hide hat
                         clear hown1 hgrow hat hlt1 hF1 hSz1)
            have eX : X = wd ls k := by
              have hz := Hz2.out
              unfold wd
              rw [HX.out, hz]
              simp
            have eA : (s : Int) = at0 ls k := by rw [Hz2.out, Hm.out]
            have hst := HF1.out
            have how := Hown1.out
            have hsz := Hsz.out
            have hap := Hap.out
            have hrw := Hrw.out
            have hgs : (Value.slice a0 N c0).ownBlock = some g ∨ wr.heap.size ≤ g := by
              rcases Hat.out with h | h
              · exact Or.inl h
              · exact Or.inr (by omega)
            rw [eX, eA] at hst
            have hN := HN.out
            subst hN
            have hgv := HG.out.step hlt2 Hz2.out hsz hap hrw how hst hgs
            have hz := Hz2.out
            have hX := HX.out
            refine ⟨⟨k + 1, by omega, by go_num, ?_, hgv⟩, by simp [intOf]; omega⟩
            simp only [rank, if_pos hz]
            go_num
          · have HR : Hid (rank ls (m + 1) (k + 1) = rank ls (m + 1) k) := by simp only [rank]; rw [if_neg hz]; rfl
            have HG2 := hide (hG.skip hz)
            have hq : (at0 ls k == (s : Int)) = false := beq_false_of_ne (by rw [Hm.out]; exact hz)
            clear hG hL hz
            go_wp2
            go_roundw
            case rel => exact ⟨k + 1, by omega, by go_num, by rw [HR.out], HG2.out⟩
            case measure => simp [intOf]; omega
        · have e : k = ls.length := by omega
          subst e
          have HG2 := hide hG.size
          clear hG hL
          go_wp2
          go_roundw
          case rel => exact ⟨m + 1, s + 1, by omega, by have := Hm.out; show s + 1 = m + 1 + 1; omega, by go_num, by rw [nx_succ]; rfl, HG2.out⟩
          case measure => simp [intOf]; omega
    · have e : m = 15 := by omega
      subst e
      have hs15 : ¬ (s : Int) ≤ 15 := by have := Hm.out; omega
      go_wp2
      go_end0
      exact ⟨rfl, D, hG⟩
end Go.Proofs.YtdpmpllbdoefdaaGreatDoor
namespace Go.Proofs.YtdpmpllbdoefdaaGreatDoor
open Go.RowKit
theorem Sz.inc {w : World} {B n q : Nat} {wv rv : Value} {ls : List Int} {k : Nat} (h : Sz w B wv rv (fun i => rank ls i k)) (h2 : n < 16) (hz : at0 ls k = (n : Int)) :
    Sz ((w.setCell ⟨B, 1 + n, none⟩ (.int .i64 ((rank ls n k : Int) + 1))).drewN q) B wv rv (fun i => rank ls i (k + 1)) := by
  obtain ⟨cs, s1, s2, s3, s4, s5⟩ := h.eobj
  refine ⟨_, heap_setCell_own _ s1, by simpa using s2, ?_, ?_, fun i h1 h3 => ?_⟩
  · rw [Array.getElem?_setIfInBounds_ne (by omega)]; exact s3
  · rw [Array.getElem?_setIfInBounds_ne (by omega)]; exact s4
  · by_cases e : n = i
    · subst e
      rw [Array.getElem?_setIfInBounds_self_of_lt (by omega)]
      simp only [rank, if_pos hz]
      rfl
    · rw [Array.getElem?_setIfInBounds_ne (by omega), s5 i h1 h3]
      simp only [rank]
      rw [if_neg (by omega)]
      rfl
theorem Sz.pass {w : World} {B : Nat} {wv rv : Value} {ls : List Int} {k : Nat} (h : Sz w B wv rv (fun i => rank ls i k)) (hz : ¬ 0 < at0 ls k) : Sz w B wv rv (fun i => rank ls i (k + 1)) := by
  obtain ⟨cs, s1, s2, s3, s4, s5⟩ := h.eobj
  refine ⟨cs, s1, s2, s3, s4, fun i h1 h3 => ?_⟩
  rw [s5 i h1 h3]
  simp only [rank]
  rw [if_neg (by omega)]
  rfl
theorem Fr.join_new {w a b : World} (f : Fr (fun _ => False) w a) (h : Fr (fun i => w.heap.size ≤ i) a b) : Fr (fun _ => False) w b :=
  (f.trans h).mono fun i hi h => by
    rcases h with h | h
    · exact h
    · omega
theorem ownsRow_base {w : World} {lo lo' : Nat} {e : TypeId} {size : Nat} {v : Value} {n : Nat} {xs : List Value} (h : w.ownsRow lo e size v n xs) (hl : lo' ≤ lo) : w.ownsRow lo' e size v n xs := by
  obtain ⟨h1, h2⟩ := h
  refine ⟨h1, ?_⟩
  rcases h2 with h2 | ⟨g, cap, cur, hv, hg, r⟩
  · exact Or.inl h2
  · exact Or.inr ⟨g, cap, cur, hv, Nat.le_trans hl hg, r⟩
structure Cd (w : World) (lo hi B : Nat) (ls : List Int) : Prop where
  elo : lo ≤ B
  ehi : B < hi
  esz : hi ≤ w.heap.size
  egood : good ls
  eok : codeOk ls
  eobj : ∃ D rv, Sz w B (.slice (some ⟨D, 0, none⟩) ls.length ls.length) rv (cnt ls) ∧ w.ownsRow lo 3 1 rv (tot ls 15) (cellsI (rkd ls 15)) ∧ (∀ g, rv.ownBlock = some g → g < hi) ∧ lo ≤ D ∧ D < hi ∧ Wds w D ls 15 0
theorem Cd.keep {w w' : World} {lo hi B : Nat} {ls : List Int} (h : Cd w lo hi B ls) {S : Nat → Prop} (f : Fr S w w') (hS : ∀ k, lo ≤ k → k < hi → ¬ S k) : Cd w' lo hi B ls := by
  obtain ⟨D, rv, h1, h2, h3, h4, h5, ws, h6, h7⟩ := h.eobj
  have hsz := h.esz
  refine ⟨h.elo, h.ehi, Nat.le_trans h.esz f.size, h.egood, h.eok, D, rv, h1.keep f (hS B h.elo h.ehi), ?_, h3, h4, h5, ws, ?_, h7⟩
  · exact ownsRow_fr h2 fun k hk => f.block k (by have := h3 k hk; omega) (hS k (h2.lt k hk).1 (h3 k hk))
  · rw [f.block D (by omega) (hS D h4 h5)]; exact h6
set_option maxHeartbeats 1600000 in
set_option maxRecDepth 100000 in
theorem new_sizes (a : Option Addr) (c : Nat) (ls : List Int) (w : World) (hl : LiesI w a ls) (hg : good ls) (Q : Ending → World → Prop)
    (hno : ¬ codeOk ls → ∀ w', Fr (fun _ => False) w w' → Q (.returned (.tuple #[.pointer none, .int .i64 4])) w')
    (hyes : codeOk ls → ∀ w' B, Cd w' w.heap.size w'.heap.size B ls → Fr (fun _ => False) w w' → Q (.returned (.tuple #[.pointer (some ⟨B, 0, none⟩), .int .i64 0])) w') :
    Calls Tryz.prog 109 #[.slice a ls.length c] w Q := by
  have h320 := hg.1
  have Hl := hide hl
  have Hg := hide hg
  have Hno := hide hno
  have Hyes := hide hyes
  clear hl hg hno hyes
  go_enter Tryz.func109, Tryz.ntmps109
  go_wp2_with (go_at_call 121; refine (mayLens_ok a c ls _ Hl.out Hg.out).mono ?_; rintro e w' ⟨rfl, rfl⟩)
  obtain ⟨B, hB⟩ : ∃ B, B = w.heap.size := ⟨_, rfl⟩
  have hst : ∀ cs : Array Value, cs = #[.slice none 0 0, .int .i64 0, .int .i64 0, .int .i64 0, .int .i64 0, .int .i64 0, .int .i64 0, .int .i64 0, .int .i64 0, .int .i64 0, .int .i64 0, .int .i64 0, .int .i64 0, .int .i64 0, .int .i64 0, .int .i64 0, .int .i64 0, .slice none 0 0] →
      Sz (w.alloc (.cells cs 145)) B (.slice none 0 0) (.slice none 0 0) (fun i => rank ls i 0) := by
    intro cs hcs
    subst hcs
    refine ⟨_, heap_alloc_at hB, rfl, rfl, rfl, fun i h1 h2 => ?_⟩
    simp only [rank]
    rcases (by omega : i = 1 ∨ i = 2 ∨ i = 3 ∨ i = 4 ∨ i = 5 ∨ i = 6 ∨ i = 7 ∨ i = 8 ∨ i = 9 ∨ i = 10 ∨ i = 11 ∨ i = 12 ∨ i = 13 ∨ i = 14 ∨ i = 15) with rfl | rfl | rfl | rfl | rfl | rfl | rfl | rfl | rfl | rfl | rfl | rfl | rfl | rfl | rfl <;> rfl
  have Hst := hide (hst _ rfl)
  rw [← hB]
  have HB := hide hB
  clear hst hB
  go_loopw [6, 14] (fun _ i wr => ∃ k : Nat, k ≤ ls.length ∧ i = .int .i64 (k : Int) ∧ Sz wr B (.slice none 0 0) (.slice none 0 0) (fun i => rank ls i k) ∧ Fr (fun _ => False) w wr) (fun _ i _ => ls.length - (intOf i).toNat)
  case atStart => exact ⟨0, Nat.zero_le _, rfl, Hst.out, Fr.of_alloc _ _⟩
  case round =>
    obtain ⟨k, hk, rfl, hS, hF⟩ := hrel
    have hL := Hl.out.keep hF (fun _ _ _ h => h)
    by_cases hlt : k < ls.length
    · obtain ⟨ad, rfl, hc⟩ := hL k hlt
      obtain ⟨h0, h15⟩ := Hg.out.2 k hlt
      by_cases hz : 0 < at0 ls k
      · obtain ⟨n, hn⟩ : ∃ n : Nat, at0 ls k = (n : Int) := ⟨(at0 ls k).toNat, by omega⟩
        have hq := hS.cell (i := n) (by omega) (by omega)
        have hf := hS.frozen (1 + n)
        have hr := rank_le ls n k
        rw [hn] at hc
        have HS := hide hS
        have Hn := hide hn
        have hn0 : (0 : Int) < (n : Int) := by omega
        have hn1 : n < 16 := by omega
        have hn2 : (n : Int) < 16 := by omega
        have HF := hide hF
        obtain ⟨r, hr0⟩ : ∃ r, r = rank ls n k := ⟨_, rfl⟩
        rw [← hr0] at hr hq
        have Hr := hide hr0
        clear hS hL hn hz h0 h15 hr0 hF
        go_wp2
        go_region
        all_goals
          go_wp2
          go_roundw
          case rel =>
            have hs := HS.out.inc (q := 1) hn1 Hn.out
            have hr := Hr.out
            rw [← hr] at hs
            exact ⟨k + 1, by omega, by go_num, hs, HF.out.join_new (((Fr.of_setCell wr ⟨B, 1 + n, none⟩ (.int .i64 ((r : Int) + 1))).trans (Fr.of_drewN _ 1)).mono fun i _ h => by have := HB.out; simp at h; omega)⟩
          case measure => simp [intOf]; omega
      · have HS2 := hide (hS.pass hz)
        have hz' : at0 ls k ≤ 0 := by omega
        clear hS hL
        go_wp2
        go_roundw
        case rel => exact ⟨k + 1, by omega, by go_num, HS2.out, hF⟩
        case measure => simp [intOf]; omega
    · have e : k = ls.length := by omega
      subst e
      have hS2 : Sz wr B (.slice none 0 0) (.slice none 0 0) (cnt ls) := hS
      have HS := hide hS2
      have HF := hide hF
      have HL := hide hL
      by_cases hok : codeOk ls
      · have Hok := hide hok
        clear hS hS2 hL hF hok
        go_wp2_with fail
        refine (mayBe_c B _ _ ls _ HS.out h320 true (by simp [Hok.out])).mono ?_
        rintro e w1 ⟨rfl, rfl⟩
        go_wp2_with fail
        refine (giveWords_c B a c ls _ HS.out HL.out (fun ad e hne hb => ?_) Hg.out).mono ?_
        · have hlen : 0 < ls.length := List.length_pos_iff.2 hne
          obtain ⟨ad', e', hc⟩ := Hl.out 0 hlen
          rw [e] at e'
          cases e'
          have := World.block_lt_of_cell? _ _ hc
          rw [add_block, hb, HB.out] at this
          omega
        · rintro e w2 ⟨rfl, D, hG⟩
          go_wp2
          obtain ⟨rv, g1, g2, g3⟩ := hG.sz
          have hwz := HF.out.size
          have hBw := HB.out
          have hlob := hG.lob
          have hlod := hG.lod
          obtain ⟨ws, w6, w7⟩ := hG.wds
          refine Hyes.out Hok.out w2 B ⟨by omega, Nat.lt_of_lt_of_le hG.lob hG.fr.size, Nat.le_refl _, Hg.out, Hok.out, D, rv, g1, ?_, fun g hg => (g2.lt g hg).2, by omega, lt_of w6, ws, w6, w7⟩ ?_
          · have g2' : w2.ownsRow wr.heap.size 3 1 rv (tot ls 15) (cellsI (rkd ls 15)) := by simpa [rank, syms] using g2
            exact ownsRow_base g2' (by omega)
          · exact (HF.out.trans hG.fr).mono fun i hi h => by
              rcases h with h | h
              · exact h
              · omega
      · have Hok := hide hok
        clear hS hS2 hL hF hok
        go_wp2_with fail
        refine (mayBe_c B _ _ ls _ HS.out h320 false (by simp [Hok.out])).mono ?_
        rintro e w1 ⟨rfl, rfl⟩
        go_wp2
        exact Hno.out Hok.out _ HF.out
theorem Wds.cells {w : World} {D : Nat} {ls : List Int} (h : Wds w D ls 15 0) (hg : good ls) {i : Nat} (hi : i < ls.length) :
    w.cell? ⟨D, i * 2, none⟩ = some (.int .i64 (if 0 < at0 ls i then (wd ls i : Nat) else 0)) ∧ w.cell? ⟨D, i * 2 + 1, none⟩ = some (.int .i64 (at0 ls i)) := by
  obtain ⟨ws, h1, h2, h3⟩ := h
  have hgi := hg.2 i hi
  obtain ⟨h4, h5⟩ := h3 i hi
  refine ⟨?_, ?_⟩
  · rw [cell_of h1 h4]
    simp only [wA, given_end hg hi]
    rfl
  · rw [cell_of h1 h5]
    simp only [sA, given_end hg hi]
    split
    · rfl
    · congr 2; omega
theorem ret_word {a b : Int} {s n : Int} {x y : Bool} (h1 : a = b) (h2 : s = n) (h3 : x = y) : Ending.returned (.tuple #[.int .i64 a, .int .i64 s, .bool x]) = .returned (.tuple #[.int .i64 b, .int .i64 n, .bool y]) := by rw [h1, h2, h3]
end Go.Proofs.YtdpmpllbdoefdaaGreatDoor
namespace Go.Proofs.YtdpmpllbdoefdaaGreatDoor
open Go.RowKit
theorem new_ok (a : Option Addr) (c : Nat) (ls : List Int) (w : World) (hl : LiesI w a ls) (hg : good ls) (hok : codeOk ls) :
    Calls Tryz.prog 109 #[.slice a ls.length c] w fun e w' => ∃ B, e = .returned (.tuple #[.pointer (some ⟨B, 0, none⟩), .int .i64 0]) ∧ Cd w' w.heap.size w'.heap.size B ls ∧ Fr (fun _ => False) w w' :=
  new_sizes a c ls w hl hg _ (fun h => absurd hok h) (fun _ _ B hC hF => ⟨B, rfl, hC, hF⟩)
theorem new_form (a : Option Addr) (c : Nat) (ls : List Int) (w : World) (hl : LiesI w a ls) (hg : good ls) (hok : ¬ codeOk ls) :
    Calls Tryz.prog 109 #[.slice a ls.length c] w fun e w' => e = .returned (.tuple #[.pointer none, .int .i64 4]) ∧ Fr (fun _ => False) w w' :=
  new_sizes a c ls w hl hg _ (fun _ _ hF => ⟨rfl, hF⟩) (fun h => absurd h hok)
def cellsZ (zs : List Int) : List Value := zs.map fun z => .int .i64 z
end Go.Proofs.YtdpmpllbdoefdaaGreatDoor
namespace Go.Proofs.YtdpmpllbdoefdaaGreatDoor
open Go.RowKit
set_option maxHeartbeats 400000 in
set_option maxRecDepth 100000 in
theorem word_in (lo hi B i : Nat) (ls : List Int) (w : World) (h : Cd w lo hi B ls) (hi : i < ls.length) :
    Calls Tryz.prog 116 #[.pointer (some ⟨B, 0, none⟩), .int .i64 (i : Int)] w fun e w' => e = .returned (.tuple #[.int .i64 (if 0 < at0 ls i then (wd ls i : Nat) else 0), .int .i64 (at0 ls i), .bool (decide (0 < at0 ls i))]) ∧ Fr (fun _ => False) w w' := by
  obtain ⟨D, rv, h1, h2, h3, h4, h5, h6⟩ := h.eobj
  have hgd := h.egood
  have h320 := hgd.1
  have hc0 := h1.cell0
  obtain ⟨k0, k1⟩ := h6.cells hgd hi
  have hDlt : D < w.heap.size := by have := h.esz; omega
  obtain ⟨x, hx⟩ : ∃ x : Int, x = (if 0 < at0 ls i then ((wd ls i : Nat) : Int) else 0) := ⟨_, rfl⟩
  rw [← hx] at k0 ⊢
  clear h h1 h2 h3 h6 hx
  go_enter Tryz.func116, Tryz.ntmps116
  go_wp2
  go_quiet (fail)
  go_wp2
  go_ret3
  exact ⟨rfl, (Fr.of_alloc w _).join (Fr.of_drewN _ _)⟩
set_option maxHeartbeats 400000 in
set_option maxRecDepth 100000 in
theorem word_out (lo hi B : Nat) (i : Int) (ls : List Int) (w : World) (h : Cd w lo hi B ls) (hi : i < 0 ∨ (ls.length : Int) ≤ i) :
    Calls Tryz.prog 116 #[.pointer (some ⟨B, 0, none⟩), .int .i64 i] w fun e w' => e = .returned (.tuple #[.int .i64 0, .int .i64 0, .bool false]) ∧ Fr (fun _ => False) w w' := by
  obtain ⟨D, rv, h1, h2, h3, h4, h5, h6⟩ := h.eobj
  have hc0 := h1.cell0
  have h320 := h.egood.1
  clear h h1 h2 h3 h6
  rcases hi with hi | hi
  · go_enter Tryz.func116, Tryz.ntmps116
    go_wp2
    go_ret3
    exact ⟨rfl, Fr.refl _ _⟩
  · have hn : ¬ i < 0 := by omega
    go_enter Tryz.func116, Tryz.ntmps116
    go_wp2
    go_ret3
    exact ⟨rfl, Fr.refl _ _⟩
theorem word_yes (lo hi B i L : Nat) (ls : List Int) (w : World) (h : Cd w lo hi B ls) (hi : i < ls.length) (hL : at0 ls i = (L : Int)) (hz : 0 < L) :
    Calls Tryz.prog 116 #[.pointer (some ⟨B, 0, none⟩), .int .i64 (i : Int)] w fun e w' => e = .returned (.tuple #[.int .i64 (wd ls i : Nat), .int .i64 (L : Int), .bool true]) ∧ Fr (fun _ => False) w w' := by
  refine (word_in lo _ B i ls w h hi).mono ?_
  rintro e w' ⟨rfl, hF⟩
  exact ⟨ret_word (by rw [if_pos (by omega)]) hL (by rw [hL]; simp; omega), hF⟩
theorem wd_bound {ls : List Int} (hg : good ls) {i : Nat} (hi : i < ls.length) (hz : 0 < at0 ls i) : wd ls i ≤ 10485760 := by
  have h1 := wd_lt ls hi (by omega)
  have h2 := nx_bound ls hg.1 (n := (at0 ls i).toNat) (by have := (hg.2 i hi).2; omega)
  omega
end Go.Proofs.YtdpmpllbdoefdaaGreatDoor
namespace Go.Proofs.YtdpmpllbdoefdaaGreatDoor
open Go.RowKit
def rev : Nat → Nat → Nat
  | 0, _ => 0
  | n + 1, x => x / 2 ^ n % 2 + 2 * rev n x
theorem rev_lt (n x : Nat) : rev n x < 2 ^ n := by
  induction n with
  | zero => simp [rev]
  | succ n ih => simp only [rev, Nat.pow_succ]; omega
theorem rev_snoc (j y : Nat) : rev (j + 1) y = rev j (y / 2) + y % 2 * 2 ^ j := by
  induction j with
  | zero => simp [rev]
  | succ j ih =>
    have e : rev (j + 1 + 1) y = y / 2 ^ (j + 1) % 2 + 2 * rev (j + 1) y := rfl
    have e2 : rev (j + 1) (y / 2) = y / 2 / 2 ^ j % 2 + 2 * rev j (y / 2) := rfl
    rw [e, ih, e2, Nat.div_div_eq_div_mul, Nat.pow_succ, Nat.mul_comm 2 (2 ^ j)]
    have : y % 2 * (2 ^ j * 2) = 2 * (y % 2 * 2 ^ j) := by rw [← Nat.mul_assoc, Nat.mul_comm]
    omega
theorem rev_bit (n x k : Nat) (h : k < n) : rev n x / 2 ^ k % 2 = x / 2 ^ (n - 1 - k) % 2 := by
  induction n generalizing k with
  | zero => omega
  | succ n ih =>
    simp only [rev]
    cases k with
    | zero => simp only [Nat.pow_zero, Nat.div_one, Nat.add_sub_cancel, Nat.sub_zero]; omega
    | succ k =>
      have := ih k (by omega)
      rw [Nat.pow_succ, Nat.mul_comm (2 ^ k) 2, ← Nat.div_div_eq_div_mul, show (x / 2 ^ n % 2 + 2 * rev n x) / 2 = rev n x by omega, this, show n + 1 - 1 - (k + 1) = n - 1 - k by omega]
theorem low_one (W p n k : Nat) (h : k < n) : lowBits W (p + k) 1 = lowBits W p n / 2 ^ k % 2 := by
  have e := lowBits_add W p k (n - k)
  rw [show k + (n - k) = n by omega] at e
  have e2 := lowBits_add W (p + k) 1 (n - k - 1)
  rw [show 1 + (n - k - 1) = n - k by omega] at e2
  have h1 := lowBits_lt W p k
  have h2 := lowBits_lt W (p + k) 1
  rw [e, Nat.add_mul_div_left _ _ (pow_pos2 k), Nat.div_eq_of_lt h1, Nat.zero_add, e2]
  simp only [Nat.pow_one] at h2 ⊢
  omega
theorem rd_rev_part (W p n x : Nat) (h : lowBits W p n = rev n x) (k : Nat) (hk : k ≤ n) : rd W p k = x / 2 ^ (n - k) % 2 ^ k := by
  induction k with
  | zero => simp [rd, Nat.mod_one]
  | succ k ih =>
    rw [rd, ih (by omega), low_one W p n k (by omega), h, rev_bit n x k (by omega), show n - k = (n - (k + 1)) + 1 by omega, show n - 1 - k = n - (k + 1) by omega, Nat.pow_succ (n := 2) (m := n - (k+1)), ← Nat.div_div_eq_div_mul]
    generalize x / 2 ^ (n - (k + 1)) = y
    rw [Nat.pow_succ, Nat.mul_comm (2 ^ k) 2, Nat.mod_mul]
    omega
theorem rd_rev {W p n x : Nat} (h : lowBits W p n = rev n x) (hx : x < 2 ^ n) : rd W p n = x := by
  have := rd_rev_part W p n x h n (Nat.le_refl n)
  rw [this, Nat.sub_self, Nat.pow_zero, Nat.div_one, Nat.mod_eq_of_lt hx]
theorem low_read {W V p x n : Nat} (hV : V < 2 ^ p) (h : W % 2 ^ (p + n) = V + x * 2 ^ p) : lowBits W p n = x := by
  unfold lowBits
  rw [← Nat.mod_mul_right_div_self, ← Nat.pow_add, h, Nat.add_mul_div_right _ _ (pow_pos2 p), Nat.div_eq_of_lt hV, Nat.zero_add]
theorem mod_mod_pow {W V p q : Nat} (h : W % 2 ^ q = V) (hpq : p ≤ q) : W % 2 ^ p = V % 2 ^ p := by
  rw [← h, Nat.mod_mod_of_dvd _ (Nat.pow_dvd_pow 2 hpq)]
structure Bt where
  v : Nat
  p : Nat
def Bt.put (s : Bt) (x n : Nat) : Bt := ⟨s.v + x * 2 ^ s.p, s.p + n⟩
def Bt.word (s : Bt) (x n : Nat) : Bt := s.put (rev n x) n
def Bt.ok (s : Bt) : Prop := s.v < 2 ^ s.p
def Bt.le (s t : Bt) : Prop := s.p ≤ t.p ∧ t.v % 2 ^ s.p = s.v
def Bt.of (s : Bt) (W L : Nat) : Prop := W % 2 ^ s.p = s.v ∧ s.p ≤ L
theorem Bt.put_ok {s : Bt} {x n : Nat} (h : s.ok) (hx : x < 2 ^ n) : (s.put x n).ok := by
  show s.v + x * 2 ^ s.p < 2 ^ (s.p + n)
  have h : s.v < 2 ^ s.p := h
  have := Nat.mul_le_mul_right (2 ^ s.p) (show x + 1 ≤ 2 ^ n from hx)
  rw [Nat.add_mul] at this
  rw [Nat.pow_add, Nat.mul_comm (2 ^ s.p)]
  omega
theorem Bt.word_ok {s : Bt} {x n : Nat} (h : s.ok) : (s.word x n).ok := s.put_ok h (rev_lt n x)
theorem Bt.put_le {s : Bt} {x n : Nat} (h : s.ok) : s.le (s.put x n) := by
  refine ⟨by show s.p ≤ s.p + n; omega, ?_⟩
  show (s.v + x * 2 ^ s.p) % 2 ^ s.p = s.v
  rw [Nat.add_mul_mod_self_right, Nat.mod_eq_of_lt h]
theorem Bt.le_refl {s : Bt} (h : s.ok) : s.le s := ⟨Nat.le_refl _, Nat.mod_eq_of_lt h⟩
theorem Bt.le.trans {s t u : Bt} (h : s.le t) (k : t.le u) : s.le u := by
  refine ⟨Nat.le_trans h.1 k.1, ?_⟩
  rw [mod_mod_pow k.2 h.1, h.2]
theorem Bt.le.of {s t : Bt} {W L : Nat} (h : s.le t) (k : t.of W L) : s.of W L := by
  refine ⟨?_, Nat.le_trans h.1 k.2⟩
  rw [mod_mod_pow k.1 h.1, h.2]
theorem Bt.tkn {s : Bt} {x n W L : Nat} (h : s.ok) (k : (s.put x n).of W L) : tkn n W L s.p = .ok (x, s.p + n) := by
  rw [tkn_ok k.2, low_read h k.1]
theorem Bt.low {s : Bt} {x n W L : Nat} (h : s.ok) (k : (s.put x n).of W L) : lowBits W s.p n = x := low_read h k.1
theorem Bt.rd {s : Bt} {x n W L : Nat} (h : s.ok) (hx : x < 2 ^ n) (k : (s.word x n).of W L) : rd W s.p n = x ∧ s.p + n ≤ L :=
  ⟨rd_rev (Bt.low h k) hx, k.2⟩
def Leads (t : Bt) (s s' : St) : Prop := ∀ W L most r, t.of W L → s'.out.length ≤ most → Runs W L most s' r → Runs W L most s r
theorem Leads.more {t u : Bt} {s s' : St} (h : Leads t s s') (k : t.le u) : Leads u s s' := fun W L most r hu hm hr => h W L most r (k.of hu) hm hr
theorem Leads.trans {t : Bt} {s s' s'' : St} (h : Leads t s s') (g : Leads t s' s'') (ho : s'.out.length ≤ s''.out.length) : Leads t s s'' := fun W L most r hu hm hr =>
  h W L most r hu (Nat.le_trans ho hm) (g W L most r hu hm hr)
theorem Leads.refl (t : Bt) (s : St) : Leads t s s := fun _ _ _ _ _ _ h => h
theorem Leads.go {t : Bt} {s s' : St} (h : ∀ W L, t.of W L → adv W L s = .go s') : Leads t s s' := fun W L _ _ hu _ hr => .go (h W L hu) hr
theorem Leads.put {t : Bt} {s s' : St} (h : ∀ W L, t.of W L → adv W L s = .put s') : Leads t s s' := fun W L most r hu hm hr => by
  have h1 := h W L hu
  have h2 := adv_put_out h1
  exact .put h1 (by omega) hr
def grow (d : Nat) : Nat → List Nat → List Nat
  | 0, out => out
  | n + 1, out => grow d n (out ++ [out.getD (out.length - d) 0])
theorem grow_len (d n : Nat) (out : List Nat) : (grow d n out).length = out.length + n := by
  induction n generalizing out with
  | zero => rfl
  | succ n ih => simp only [grow, ih, List.length_append, List.length_singleton]; omega
theorem grow_succ (d n : Nat) (out : List Nat) : grow d (n + 1) out = grow d n out ++ [(grow d n out).getD ((grow d n out).length - d) 0] := by
  induction n generalizing out with
  | zero => rfl
  | succ n ih => rw [grow, ih, ← grow]
theorem row_leads (t : Bt) (p d : Nat) (last : Bool) (ll dl : List Int) : ∀ (n : Nat) (out : List Nat), Leads t ⟨p, last, out, .row (n + 1) d ll dl⟩ ⟨p, last, grow d (n + 1) out, .coded ll dl⟩ := by
  intro n
  induction n with
  | zero => intro out; exact Leads.put (fun W L _ => by simp [adv, grow])
  | succ n ih =>
    intro out
    refine Leads.trans (s' := ⟨p, last, out ++ [out.getD (out.length - d) 0], .row (n + 1) d ll dl⟩) (Leads.put (fun W L _ => by simp [adv])) ?_ ?_
    · exact ih _
    · show (out ++ [_]).length ≤ (grow d (n + 1 + 1) out).length
      rw [grow_len, List.length_append]
      simp
end Go.Proofs.YtdpmpllbdoefdaaGreatDoor
namespace Go.Proofs.YtdpmpllbdoefdaaGreatDoor
open Go.RowKit
structure Rs (w : World) (B : Nat) (sv lv : Value) (f : Nat → Nat) : Prop where
  eobj : ∃ cs : Array Value, w.heap[B]? = some (.cells cs 106 (0, 0)) ∧ cs.size = 18 ∧ cs[16]? = some sv ∧ cs[17]? = some lv ∧ (∃ x : Nat, x ≤ 1000 ∧ cs[0]? = some (.int .i64 (x : Int))) ∧ ∀ i, 1 ≤ i → i < 16 → cs[i]? = some (.int .i64 (f i : Nat))
section
variable {w w' : World} {B : Nat} {sv lv : Value} {f : Nat → Nat}
theorem Rs.cell (h : Rs w B sv lv f) {i : Nat} (h1 : 1 ≤ i) (h2 : i < 16) : w.cell? ⟨B, i, none⟩ = some (.int .i64 (f i : Nat)) := by
  obtain ⟨cs, ho, _, _, _, _, hc⟩ := h.eobj
  exact cell_of ho (hc i h1 h2)
theorem Rs.cell16 (h : Rs w B sv lv f) : w.cell? ⟨B, 16, none⟩ = some sv := by
  obtain ⟨cs, ho, _, h0, _⟩ := h.eobj
  exact cell_of ho h0
theorem Rs.frozen (h : Rs w B sv lv f) (i : Nat) : w.frozen? ⟨B, i, none⟩ = false := by
  obtain ⟨cs, ho, _⟩ := h.eobj
  exact frozen_of ho
theorem Rs.keep (h : Rs w B sv lv f) {S : Nat → Prop} (g : Fr S w w') (hB : ¬ S B) : Rs w' B sv lv f := by
  obtain ⟨cs, ho, h1⟩ := h.eobj
  exact ⟨cs, by rw [g.block B (lt_of ho) hB]; exact ho, h1⟩
theorem Rs.blk (h : Rs w B sv lv f) : B < w.heap.size := by
  obtain ⟨cs, ho, _⟩ := h.eobj
  exact lt_of ho
theorem Rs.set16 (h : Rs w B sv lv f) (v : Value) : Rs (w.setCell ⟨B, 16, none⟩ v) B v lv f := by
  obtain ⟨cs, s1, s2, s3, s4, ⟨x, hx, s5⟩, s6⟩ := h.eobj
  refine ⟨_, heap_setCell_own _ s1, by simpa using s2, ?_, ?_, ⟨x, hx, ?_⟩, fun i h1 h2 => ?_⟩
  · rw [Array.getElem?_setIfInBounds_self_of_lt (by omega)]
  · rw [Array.getElem?_setIfInBounds_ne (by omega)]; exact s4
  · rw [Array.getElem?_setIfInBounds_ne (by omega)]; exact s5
  · rw [Array.getElem?_setIfInBounds_ne (by omega)]; exact s6 i h1 h2
theorem Rs.set0 (h : Rs w B sv lv f) : Rs (w.setCell ⟨B, 0, none⟩ (.int .i64 0)) B sv lv f := by
  obtain ⟨cs, s1, s2, s3, s4, ⟨x, hx, s5⟩, s6⟩ := h.eobj
  refine ⟨_, heap_setCell_own _ s1, by simpa using s2, ?_, ?_, ⟨0, by omega, ?_⟩, fun i h1 h2 => ?_⟩
  · rw [Array.getElem?_setIfInBounds_ne (by omega)]; exact s3
  · rw [Array.getElem?_setIfInBounds_ne (by omega)]; exact s4
  · rw [Array.getElem?_setIfInBounds_self_of_lt (by omega)]; rfl
  · rw [Array.getElem?_setIfInBounds_ne (by omega)]; exact s6 i h1 h2
end
structure Rk (w wr : World) (B : Nat) (ls : List Int) (k : Nat) : Prop where
  sz : ∃ lv : Value, ∃ cs : Array Value, wr.heap[B]? = some (.cells cs 106 (0, 0)) ∧ cs.size = 18 ∧ cs[16]? = some (.slice none 0 0) ∧ cs[17]? = some lv ∧ (∀ i, i < 16 → cs[i]? = some (.int .i64 (rank ls i k : Nat))) ∧ wr.ownsRow w.heap.size 3 1 lv k (cellsZ (ls.take k)) ∧ ∀ g, lv.ownBlock = some g → g ≠ B
  fr : Fr (fun _ => False) w wr
  lob : w.heap.size ≤ B
theorem Rk.facts {w wr : World} {B : Nat} {ls : List Int} {k : Nat} (h : Rk w wr B ls k) :
    ∃ a c, wr.cell? ⟨B, 17, none⟩ = some (.slice a k c) ∧ wr.ownsRow w.heap.size 3 1 (.slice a k c) k (cellsZ (ls.take k)) ∧ (∀ g, (Value.slice a k c).ownBlock = some g → g ≠ B) ∧ (∀ i, i < 16 → wr.cell? ⟨B, i, none⟩ = some (.int .i64 (rank ls i k : Nat))) ∧ (∀ i, wr.frozen? ⟨B, i, none⟩ = false) ∧ B < wr.heap.size := by
  obtain ⟨lv, cs, h1, h2, h3, h4, h5, h6, h7⟩ := h.sz
  obtain ⟨a, c, rfl⟩ := ownsRow_shape h6
  exact ⟨a, c, cell_of h1 h4, h6, h7, fun i hi => cell_of h1 (h5 i hi), fun i => frozen_of h1, lt_of h1⟩
theorem Rk.step {w wr w1 : World} {B : Nat} {ls : List Int} {k n q g cap : Nat} {a : Option Addr} {c : Nat} (h : Rk w wr B ls k) (hk : k < ls.length) (hn : n < 16) (hz : at0 ls k = (n : Int)) (ha : wr.cell? ⟨B, 17, none⟩ = some (.slice a k c))
    (hf : Fr (fun i => (Value.slice a k c).ownBlock = some i) ((wr.setCell ⟨B, n, none⟩ (.int .i64 ((rank ls n k : Int) + 1))).drewN q) w1)
    (hown : w1.ownsRow w.heap.size 3 1 (.slice (some ⟨g, 0, none⟩) (k + 1) cap) (k + 1) (cellsZ (ls.take k) ++ [.int .i64 (n : Int)])) (hg : (Value.slice a k c).ownBlock = some g ∨ wr.heap.size ≤ g) :
    Rk w (w1.setCell ⟨B, 17, none⟩ (.slice (some ⟨g, 0, none⟩) (k + 1) cap)) B ls (k + 1) := by
  obtain ⟨lv, cs, h1, h2, h3, h4, h5, h6, h7⟩ := h.sz
  obtain rfl : lv = .slice a k c := by
    have := cell_of h1 h4
    rw [ha] at this
    exact (Option.some.inj this).symm
  have hB := lt_of h1
  have hw1 : w1.heap[B]? = some (.cells (cs.setIfInBounds n (.int .i64 ((rank ls n k : Int) + 1))) 106 (0, 0)) := by
    rw [hf.block B (by simp [World.setCell, World.drewN]; exact hB) (fun e => h7 B e rfl)]
    exact heap_setCell_own _ h1
  have hgB : g ≠ B := by
    rcases hg with e | e
    · exact h7 g e
    · omega
  have hst : Fr (fun i => i = B) wr ((wr.setCell ⟨B, n, none⟩ (.int .i64 ((rank ls n k : Int) + 1))).drewN q) := ((Fr.of_setCell wr ⟨B, n, none⟩ _).trans (Fr.of_drewN _ q)).mono fun i _ hi => by simpa using hi
  refine ⟨⟨.slice (some ⟨g, 0, none⟩) (k + 1) cap, _, heap_setCell_own _ hw1, by simpa using h2, ?_, ?_, fun i hi => ?_, ?_, fun g' e => ?_⟩, ?_, h.lob⟩
  · rw [Array.getElem?_setIfInBounds_ne (by omega), Array.getElem?_setIfInBounds_ne (by omega)]; exact h3
  · rw [Array.getElem?_setIfInBounds_self_of_lt (by simp; omega)]
  · rw [Array.getElem?_setIfInBounds_ne (by omega)]
    by_cases e : n = i
    · subst e
      rw [Array.getElem?_setIfInBounds_self_of_lt (by omega)]
      simp only [rank, if_pos hz]
      rfl
    · rw [Array.getElem?_setIfInBounds_ne (by omega), h5 i hi]
      simp only [rank]
      rw [if_neg (by omega)]
      rfl
  · have e : cellsZ (ls.take (k + 1)) = cellsZ (ls.take k) ++ [.int .i64 (n : Int)] := by
      rw [List.take_succ_eq_append_getElem hk]
      have : ls[k] = (n : Int) := by rw [← hz]; simp [at0, List.getElem?_eq_getElem hk]
      simp [cellsZ, this]
    rw [e]
    refine ownsRow_fr hown fun i hi => ?_
    have : i = g := by simpa [Value.ownBlock] using hi.symm
    subst this
    exact Below.heap_setCell _ _ _ _ hgB
  · have : g' = g := by simpa [Value.ownBlock] using e.symm
    subst this; exact hgB
  · have hlt := h6.lt
    exact h.fr.join_new (((hst.trans hf).trans (Fr.of_setCell w1 ⟨B, 17, none⟩ _)).mono fun i _ hi => by
      have := h.lob
      rcases hi with (hi | hi) | hi
      · omega
      · exact (hlt i hi).1
      · simp at hi; omega)
end Go.Proofs.YtdpmpllbdoefdaaGreatDoor
