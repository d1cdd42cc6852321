/-
  The law's own words of the fixed code.
-/
import Derived.Test.YtleeaofofofgmaaDoorUc
namespace Go.Proofs.YtleeaofofofgmaaDoor
open Go.RowKit

def bt (bl : List Nat) : Bt := ⟨numL bl, bl.length⟩

theorem bt_ok {bl : List Nat} (h : ∀ b ∈ bl, b < 2) : (bt bl).ok := numL_lt bl h

theorem bt_put {bl bl' : List Nat} {x : Int} {n : Nat} (h : PutSt false bl bl' x n n) : bt bl' = (bt bl).put (lowBits (bitsOf x) 0 n) n := by
  obtain ⟨h1, _, h3⟩ := h
  rw [if_neg (by simp)] at h3
  unfold bt Bt.put
  rw [h1, h3]

theorem low_nat (x t : Nat) (h : x < 18446744073709551616) (n : Nat) : lowBits (bitsOf (x : Int)) t n = x / 2 ^ t % 2 ^ n := by
  unfold lowBits bitsOf
  rw [Int.emod_eq_of_lt (by omega) (by omega)]
  simp

/-- Behind j bits of a word. -/
structure Wst (w wr : World) (K : Nat) (g : Option Nat) (bl : List Nat) (x n j : Nat) (g1 : Option Nat) (bl1 : List Nat) : Prop where
  pk : Pk wr K g1 bl1 false
  bits : ∀ b ∈ bl1, b < 2
  eq : bt bl1 = (bt bl).put (rev j (x / 2 ^ (n - j))) j
  fr : Fr (fun i => i = K ∨ g = some i) w wr
  own : g1 = g ∨ ∃ k, g1 = some k ∧ w.heap.size ≤ k

theorem Wst.start {w : World} {K : Nat} {g : Option Nat} {bl : List Nat} (x n : Nat) (h : Pk w K g bl false) (hb : ∀ b ∈ bl, b < 2) : Wst w w K g bl x n 0 g bl :=
  ⟨h, hb, by simp [rev, Bt.put, bt], Fr.refl _ _, Or.inl rfl⟩

theorem Wst.len {w wr : World} {K : Nat} {g : Option Nat} {bl : List Nat} {x n j : Nat} {g1 : Option Nat} {bl1 : List Nat} (h : Wst w wr K g bl x n j g1 bl1) : bl1.length = bl.length + j := congrArg Bt.p h.eq

theorem Wst.step {w wr w1 : World} {K : Nat} {g : Option Nat} {bl : List Nat} {x n j b : Nat} {g1 g2 : Option Nat} {bl1 bl2 : List Nat} (h : Wst w wr K g bl x n j g1 bl1) (hj : j < n) (hb : b = x / 2 ^ (n - 1 - j) % 2)
    (hP : Pk w1 K g2 bl2 false) (hS : PutSt false bl1 bl2 (b : Int) 1 1) (hF : Fr (fun i => i = K ∨ g1 = some i) wr w1) (hG : g2 = g1 ∨ ∃ k, g2 = some k ∧ wr.heap.size ≤ k) : Wst w w1 K g bl x n (j + 1) g2 bl2 := by
  refine ⟨hP, hS.2.1, ?_, step_frame h.fr h.own hF, ?_⟩
  · rw [bt_put hS, h.eq, low_nat b 0 (by omega) 1]
    have e1 : b / 2 ^ 0 % 2 ^ 1 = b := by simp; omega
    have e2 : n - j = (n - (j + 1)) + 1 := by omega
    have e3 : n - 1 - j = n - (j + 1) := by omega
    rw [e1]
    simp only [Bt.put]
    have e4 : x / 2 ^ (n - (j + 1)) / 2 = x / 2 ^ (n - j) := by rw [Nat.div_div_eq_div_mul, e2, Nat.pow_succ]
    rw [rev_snoc, e4, ← e3, ← hb, Nat.add_mul, Nat.mul_assoc, ← Nat.pow_add, Nat.add_comm j (bt bl).p, Nat.add_assoc, Nat.add_assoc]
  · rcases hG with rfl | ⟨k, rfl, hk⟩
    · exact h.own
    · exact Or.inr ⟨k, rfl, Nat.le_trans h.fr.size hk⟩

theorem Wst.done {w wr : World} {K : Nat} {g : Option Nat} {bl : List Nat} {x n : Nat} {g1 : Option Nat} {bl1 : List Nat} (h : Wst w wr K g bl x n n g1 bl1) : bt bl1 = (bt bl).word x n := by
  have := h.eq
  rw [Nat.sub_self, Nat.pow_zero, Nat.div_one] at this
  exact this

theorem neg_meas (n j : Nat) (z : Int) (hz : z = (n : Int) - 1 - j) (h : j < n) : (intOf (.int .i64 (z - 1)) + 1).toNat < (intOf (.int .i64 z) + 1).toNat := by
  simp only [intOf]
  omega

set_option maxHeartbeats 1600000 in
set_option maxRecDepth 100000 in
theorem lfix_c (K : Nat) (g : Option Nat) (bl : List Nat) (s : Nat) (w : World) (h : Pk w K g bl false) (hbl : ∀ b ∈ bl, b < 2) (hs : s < 288) (hlen : bl.length ≤ 90000) :
    Calls Tryd.prog 20 #[.pointer (some ⟨K, 0, none⟩), .int .i64 (s : Int)] w fun e w' => e = .returned (.tuple #[]) ∧ ∃ g1 bl1, Wst w w' K g bl (fixW s) (fixN s) (fixN s) g1 bl1 := by
  have H := hide h
  have Hbl := hide hbl
  clear h hbl
  rcases (show s < 144 ∨ (144 ≤ s ∧ s < 256) ∨ (256 ≤ s ∧ s < 280) ∨ 280 ≤ s by omega) with c | c | c | c
  · obtain ⟨x, hx⟩ : ∃ x : Nat, x = fixW s := ⟨_, rfl⟩
    have hn : fixN s = 8 := by unfold fixN; rw [if_pos (by omega)]
    have hxe : 48 + (s : Int) = (x : Int) := by rw [hx]; unfold fixW; rw [if_pos (by omega)]; omega
    have hx9 : x < 512 := by omega
    rw [hn, ← hx]
    clear hx hn
    have f0 : ¬ (280 : Int) ≤ s := by omega
    have f1 : ¬ (256 : Int) ≤ s := by omega
    have f2 : ¬ (144 : Int) ≤ s := by omega
    go_enter Tryd.func20, Tryd.ntmps20
    go_wp2_with fail
    go_loopw [6] (fun t wr => ∃ (j : Nat) (z : Int) (g1 : Option Nat) (bl1 : List Nat), t = .int .i64 z ∧ z = ((8 : Nat) : Int) - 1 - j ∧ j ≤ 8 ∧ Wst w wr K g bl x 8 j g1 bl1) (fun t _ => (intOf t + 1).toNat)
    case atStart => exact ⟨0, 7, g, bl, rfl, by decide, by omega, Wst.start x 8 H.out Hbl.out⟩
    case round =>
      obtain ⟨j, z, g1, bl1, rfl, hz, hj, hS⟩ := hrel
      by_cases hlt : j < 8
      · obtain ⟨t, ht⟩ : ∃ t : Nat, t = 8 - 1 - j := ⟨_, rfl⟩
        obtain rfl : z = (t : Int) := by omega
        have ht24 : (t : Int) ≤ 24 := by omega
        obtain ⟨b, hb⟩ : ∃ b : Nat, b = x / 2 ^ t % 2 := ⟨_, rfl⟩
        have e1 := low_nat x t (by omega) 1
        rw [Nat.pow_one, ← hb] at e1
        have hb1 := put_bit (x : Int) t (by omega)
        have hb2 := put_bit_w (x : Int) t (by omega)
        rw [e1] at hb1 hb2
        have HS := hide hS
        have Hb := hide hb
        have Hz := hide hz
        have Ht := hide ht
        have hl1 := hS.len
        have Hl : Hid (bl1.length ≤ 100000) := by show _ ≤ _; omega
        clear hS hb e1 hz ht hl1
        go_wp2_with fail
        refine (calls_args (pk_put_low K g1 bl1 1 (b : Int) _ HS.out.pk HS.out.bits (by omega) Hl.out) (by rfl)).mono ?_
        rintro e w1 ⟨rfl, g2, bl2, hP, hPS, hF, hG⟩
        have hst := HS.out.step (b := b) hlt (by rw [Hb.out, Ht.out]) hP hPS hF hG
        have Hst := hide hst
        clear hP hPS hF hG hst
        go_wp2_with fail
        go_roundw
        case rel => exact ⟨j + 1, (t : Int) - 1, g2, bl2, rfl, by have := Hz.out; omega, by omega, Hst.out⟩
        case measure => exact neg_meas 8 j (t : Int) Hz.out hlt
      · obtain rfl : j = 8 := by omega
        obtain rfl : z = -1 := by omega
        go_wp2
        go_end0
        exact ⟨rfl, g1, bl1, hS⟩
  · obtain ⟨x, hx⟩ : ∃ x : Nat, x = fixW s := ⟨_, rfl⟩
    have hn : fixN s = 9 := by unfold fixN; rw [if_neg (by omega), if_pos (by omega)]
    have hxe : 400 + (s : Int) - 144 = (x : Int) := by rw [hx]; unfold fixW; rw [if_neg (by omega), if_pos (by omega)]; omega
    have hx9 : x < 512 := by omega
    rw [hn, ← hx]
    clear hx hn
    have f0 : ¬ (280 : Int) ≤ s := by omega
    have f1 : ¬ (256 : Int) ≤ s := by omega
    have f2 : (144 : Int) ≤ s := by omega
    go_enter Tryd.func20, Tryd.ntmps20
    go_wp2_with fail
    go_loopw [6] (fun t wr => ∃ (j : Nat) (z : Int) (g1 : Option Nat) (bl1 : List Nat), t = .int .i64 z ∧ z = ((9 : Nat) : Int) - 1 - j ∧ j ≤ 9 ∧ Wst w wr K g bl x 9 j g1 bl1) (fun t _ => (intOf t + 1).toNat)
    case atStart => exact ⟨0, 8, g, bl, rfl, by decide, by omega, Wst.start x 9 H.out Hbl.out⟩
    case round =>
      obtain ⟨j, z, g1, bl1, rfl, hz, hj, hS⟩ := hrel
      by_cases hlt : j < 9
      · obtain ⟨t, ht⟩ : ∃ t : Nat, t = 9 - 1 - j := ⟨_, rfl⟩
        obtain rfl : z = (t : Int) := by omega
        have ht24 : (t : Int) ≤ 24 := by omega
        obtain ⟨b, hb⟩ : ∃ b : Nat, b = x / 2 ^ t % 2 := ⟨_, rfl⟩
        have e1 := low_nat x t (by omega) 1
        rw [Nat.pow_one, ← hb] at e1
        have hb1 := put_bit (x : Int) t (by omega)
        have hb2 := put_bit_w (x : Int) t (by omega)
        rw [e1] at hb1 hb2
        have HS := hide hS
        have Hb := hide hb
        have Hz := hide hz
        have Ht := hide ht
        have hl1 := hS.len
        have Hl : Hid (bl1.length ≤ 100000) := by show _ ≤ _; omega
        clear hS hb e1 hz ht hl1
        go_wp2_with fail
        refine (calls_args (pk_put_low K g1 bl1 1 (b : Int) _ HS.out.pk HS.out.bits (by omega) Hl.out) (by rfl)).mono ?_
        rintro e w1 ⟨rfl, g2, bl2, hP, hPS, hF, hG⟩
        have hst := HS.out.step (b := b) hlt (by rw [Hb.out, Ht.out]) hP hPS hF hG
        have Hst := hide hst
        clear hP hPS hF hG hst
        go_wp2_with fail
        go_roundw
        case rel => exact ⟨j + 1, (t : Int) - 1, g2, bl2, rfl, by have := Hz.out; omega, by omega, Hst.out⟩
        case measure => exact neg_meas 9 j (t : Int) Hz.out hlt
      · obtain rfl : j = 9 := by omega
        obtain rfl : z = -1 := by omega
        go_wp2
        go_end0
        exact ⟨rfl, g1, bl1, hS⟩
  · obtain ⟨x, hx⟩ : ∃ x : Nat, x = fixW s := ⟨_, rfl⟩
    have hn : fixN s = 7 := by unfold fixN; rw [if_neg (by omega), if_neg (by omega), if_pos (by omega)]
    have hxe : (s : Int) - 256 = (x : Int) := by rw [hx]; unfold fixW; rw [if_neg (by omega), if_neg (by omega), if_pos (by omega)]; omega
    have hx9 : x < 512 := by omega
    rw [hn, ← hx]
    clear hx hn
    have f0 : ¬ (280 : Int) ≤ s := by omega
    have f1 : (256 : Int) ≤ s := by omega
    go_enter Tryd.func20, Tryd.ntmps20
    go_wp2_with fail
    go_loopw [6] (fun t wr => ∃ (j : Nat) (z : Int) (g1 : Option Nat) (bl1 : List Nat), t = .int .i64 z ∧ z = ((7 : Nat) : Int) - 1 - j ∧ j ≤ 7 ∧ Wst w wr K g bl x 7 j g1 bl1) (fun t _ => (intOf t + 1).toNat)
    case atStart => exact ⟨0, 6, g, bl, rfl, by decide, by omega, Wst.start x 7 H.out Hbl.out⟩
    case round =>
      obtain ⟨j, z, g1, bl1, rfl, hz, hj, hS⟩ := hrel
      by_cases hlt : j < 7
      · obtain ⟨t, ht⟩ : ∃ t : Nat, t = 7 - 1 - j := ⟨_, rfl⟩
        obtain rfl : z = (t : Int) := by omega
        have ht24 : (t : Int) ≤ 24 := by omega
        obtain ⟨b, hb⟩ : ∃ b : Nat, b = x / 2 ^ t % 2 := ⟨_, rfl⟩
        have e1 := low_nat x t (by omega) 1
        rw [Nat.pow_one, ← hb] at e1
        have hb1 := put_bit (x : Int) t (by omega)
        have hb2 := put_bit_w (x : Int) t (by omega)
        rw [e1] at hb1 hb2
        have HS := hide hS
        have Hb := hide hb
        have Hz := hide hz
        have Ht := hide ht
        have hl1 := hS.len
        have Hl : Hid (bl1.length ≤ 100000) := by show _ ≤ _; omega
        clear hS hb e1 hz ht hl1
        go_wp2_with fail
        refine (calls_args (pk_put_low K g1 bl1 1 (b : Int) _ HS.out.pk HS.out.bits (by omega) Hl.out) (by rfl)).mono ?_
        rintro e w1 ⟨rfl, g2, bl2, hP, hPS, hF, hG⟩
        have hst := HS.out.step (b := b) hlt (by rw [Hb.out, Ht.out]) hP hPS hF hG
        have Hst := hide hst
        clear hP hPS hF hG hst
        go_wp2_with fail
        go_roundw
        case rel => exact ⟨j + 1, (t : Int) - 1, g2, bl2, rfl, by have := Hz.out; omega, by omega, Hst.out⟩
        case measure => exact neg_meas 7 j (t : Int) Hz.out hlt
      · obtain rfl : j = 7 := by omega
        obtain rfl : z = -1 := by omega
        go_wp2
        go_end0
        exact ⟨rfl, g1, bl1, hS⟩
  · obtain ⟨x, hx⟩ : ∃ x : Nat, x = fixW s := ⟨_, rfl⟩
    have hn : fixN s = 8 := by unfold fixN; rw [if_neg (by omega), if_neg (by omega), if_neg (by omega)]
    have hxe : 192 + (s : Int) - 280 = (x : Int) := by rw [hx]; unfold fixW; rw [if_neg (by omega), if_neg (by omega), if_neg (by omega)]; omega
    have hx9 : x < 512 := by omega
    rw [hn, ← hx]
    clear hx hn
    have f0 : (280 : Int) ≤ s := by omega
    go_enter Tryd.func20, Tryd.ntmps20
    go_wp2_with fail
    go_loopw [6] (fun t wr => ∃ (j : Nat) (z : Int) (g1 : Option Nat) (bl1 : List Nat), t = .int .i64 z ∧ z = ((8 : Nat) : Int) - 1 - j ∧ j ≤ 8 ∧ Wst w wr K g bl x 8 j g1 bl1) (fun t _ => (intOf t + 1).toNat)
    case atStart => exact ⟨0, 7, g, bl, rfl, by decide, by omega, Wst.start x 8 H.out Hbl.out⟩
    case round =>
      obtain ⟨j, z, g1, bl1, rfl, hz, hj, hS⟩ := hrel
      by_cases hlt : j < 8
      · obtain ⟨t, ht⟩ : ∃ t : Nat, t = 8 - 1 - j := ⟨_, rfl⟩
        obtain rfl : z = (t : Int) := by omega
        have ht24 : (t : Int) ≤ 24 := by omega
        obtain ⟨b, hb⟩ : ∃ b : Nat, b = x / 2 ^ t % 2 := ⟨_, rfl⟩
        have e1 := low_nat x t (by omega) 1
        rw [Nat.pow_one, ← hb] at e1
        have hb1 := put_bit (x : Int) t (by omega)
        have hb2 := put_bit_w (x : Int) t (by omega)
        rw [e1] at hb1 hb2
        have HS := hide hS
        have Hb := hide hb
        have Hz := hide hz
        have Ht := hide ht
        have hl1 := hS.len
        have Hl : Hid (bl1.length ≤ 100000) := by show _ ≤ _; omega
        clear hS hb e1 hz ht hl1
        go_wp2_with fail
        refine (calls_args (pk_put_low K g1 bl1 1 (b : Int) _ HS.out.pk HS.out.bits (by omega) Hl.out) (by rfl)).mono ?_
        rintro e w1 ⟨rfl, g2, bl2, hP, hPS, hF, hG⟩
        have hst := HS.out.step (b := b) hlt (by rw [Hb.out, Ht.out]) hP hPS hF hG
        have Hst := hide hst
        clear hP hPS hF hG hst
        go_wp2_with fail
        go_roundw
        case rel => exact ⟨j + 1, (t : Int) - 1, g2, bl2, rfl, by have := Hz.out; omega, by omega, Hst.out⟩
        case measure => exact neg_meas 8 j (t : Int) Hz.out hlt
      · obtain rfl : j = 8 := by omega
        obtain rfl : z = -1 := by omega
        go_wp2
        go_end0
        exact ⟨rfl, g1, bl1, hS⟩
end Go.Proofs.YtleeaofofofgmaaDoor
