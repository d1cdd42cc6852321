import Derived.Test.YtkmgpapopgeldaaQ
namespace Go.Proofs.Ytkmgpapopgeldaa
open Go.RowKit

/-- The number that the written bits are, the first one the highest. -/
def hiNum (os : List Nat) (wr : Nat) : Nat := beNum os / 2 ^ (8 * os.length - wr)

theorem HighSt.split {os : List Nat} {wr : Nat} (h : HighSt os wr) : beNum os = hiNum os wr * 2 ^ (8 * os.length - wr) := by
  have := Nat.div_add_mod (beNum os) (2 ^ (8 * os.length - wr))
  rw [h.num, Nat.mul_comm] at this
  unfold hiNum
  omega

/-- What room has left, high: the new last byte. -/
theorem high_room {os' init : List Nat} {last P s q : Nat} (hL : HighSt os' P) (hcase : if P % 8 = 0 then init = os' ∧ last = 0 else os' = init ++ [last]) (hs2 : P % 8 + s ≤ 8) (hs4 : 0 < s) (hq : q < 2 ^ s) :
    bits .or .u8 (last : Int) ((q * 2 ^ (8 - P % 8 - s) : Nat) : Int) = ((last + q * 2 ^ (8 - P % 8 - s) : Nat) : Int) ∧ q * 2 ^ (8 - P % 8 - s) < 256 ∧ HighSt (init ++ [last + q * 2 ^ (8 - P % 8 - s)]) (P + s) ∧ hiNum (init ++ [last + q * 2 ^ (8 - P % 8 - s)]) (P + s) = hiNum os' P * 2 ^ s + q := by
  have hsp := hL.split
  obtain ⟨h1, h2, h3, h4, h5⟩ : init.length = P / 8 ∧ (∀ b ∈ init, b < 256) ∧ last % 2 ^ (8 - P % 8) = 0 ∧ last < 256 ∧ beNum (init ++ [last]) = hiNum os' P * 2 ^ (8 - P % 8) := by
    split at hcase
    · next hz =>
      obtain ⟨rfl, rfl⟩ := hcase
      have hl := hL.len
      refine ⟨by omega, hL.bytes, by simp, by decide, ?_⟩
      rw [beNum_append, hz, hsp, show 8 * init.length - P = 0 by omega]
      simp
    · next hz =>
      obtain ⟨i', l', e, a, b, c, d⟩ := hL.room hz
      have hl := hL.len
      rw [show 8 * os'.length - P = 8 - P % 8 by omega] at hsp
      rw [hcase] at e
      obtain ⟨rfl, e2⟩ := List.append_inj' e rfl
      simp at e2
      subst e2
      exact ⟨a, b, c, d, by rw [← hcase]; exact hsp⟩
  obtain ⟨k1, k2⟩ := high_put h1 h2 h3 h4 hs2 hs4 hq
  have h6 : last + q * 2 ^ (8 - P % 8 - s) < 256 := k1.bytes _ (by simp)
  have h7 := mul_lt_pow (a := 8 - P % 8 - s) hq
  have hp := pow_pos2 (8 - P % 8 - s)
  rw [show 8 - P % 8 - s + s = 8 - P % 8 by omega] at h7
  refine ⟨or_u8' (8 - P % 8) _ _ (by omega) h3 (by omega), by omega, k1, ?_⟩
  unfold hiNum
  rw [k2, h5]
  have e2 : 8 * (init ++ [last + q * 2 ^ (8 - P % 8 - s)]).length - (P + s) = 8 - P % 8 - s := by simp [h1]; omega
  rw [e2]
  have e3 : (2:Nat) ^ (8 - P % 8) = 2 ^ s * 2 ^ (8 - P % 8 - s) := by rw [← Nat.pow_add, show s + (8 - P % 8 - s) = 8 - P % 8 by omega]
  rw [e3, ← Nat.mul_assoc, ← Nat.add_mul, Nat.mul_div_cancel _ hp]
  rfl

set_option maxHeartbeats 1600000 in
set_option maxRecDepth 100000 in
theorem high_put_ok (lo B : Nat) (g : Option Nat) (os : List Nat) (wn n : Nat) (x : Int) (w : World) (h : Wr 63 w lo B g os wn) (hs : HighSt os wn) (hwr : wn ≤ 2147480000) (hn : n ≤ 24) :
    Calls Try.prog 26 #[.pointer (some ⟨B, 0, none⟩), .int .i64 x, .int .i64 n] w fun e w' => e = .returned (.tuple #[]) ∧
      ∃ g' os', Wr 63 w' lo B g' os' (wn + n) ∧ HighSt os' (wn + n) ∧ hiNum os' (wn + n) = hiNum os wn * 2 ^ n + lowBits (numOf x) 0 n ∧ Fr (fun i => i = B ∨ g = some i) w w' ∧ (g' = g ∨ ∃ k, g' = some k ∧ w.heap.size ≤ k) := by
  have H := hide h
  have Hs := hide hs
  clear h hs
  go_enter Try.func26, Try.ntmps26
  go_wp2_with (go_at_call 43; refine (width_ok _ (by omega) (by omega) _).mono ?_; rintro e w' ⟨rfl, rfl⟩)
  go_loopw [6] (fun t w' => ∃ p g' os', p ≤ n ∧ t = .int .i64 (p : Nat) ∧ Wr 63 w' lo B g' os' (wn + p) ∧ HighSt os' (wn + p) ∧ hiNum os' (wn + p) = hiNum os wn * 2 ^ p + lowBits (numOf x) (n - p) p ∧ Fr (fun i => i = B ∨ g = some i) w w' ∧ (g' = g ∨ ∃ k, g' = some k ∧ w.heap.size ≤ k)) (fun t _ => n - (intOf t).toNat)
  case atStart => exact ⟨0, g, os, Nat.zero_le _, rfl, H.out, Hs.out, by simp [lowBits_zero], Fr.refl _ _, Or.inl rfl⟩
  case round =>
    obtain ⟨p, g', os', hp, rfl, hW, hL, hN, hF, hG⟩ := hrel
    by_cases hlt : p < n
    · obtain ⟨s, hsv⟩ : ∃ s : Nat, s = min (n - p) (8 - (wn + p) % 8) := ⟨_, rfl⟩
      have hs1 : s ≤ n - p := by omega
      have hs2 : (wn + p) % 8 + s ≤ 8 := by omega
      have hs3 : s = n - p ∨ (wn + p) % 8 + s = 8 := by omega
      have hs4 : 0 < s := by omega
      have HW := hide hW
      have HL := hide hL
      have HN := hide hN
      have HF := hide hF
      have HG := hide hG
      obtain ⟨P, hP⟩ : ∃ P, P = wn + p := ⟨_, rfl⟩
      rw [← hP] at HW HL hs2 hs3 HN
      have HP := hide hP
      have hP1 : P ≤ 2147483000 := by omega
      clear hsv hW hL hN hF hG hP
      go_wp2_with (go_at_call 50; refine (room_w 63 lo B g' os' P s _ _ HW.out HL.out.len hP1 (by omega) (by omega) (by omega) hs2 (by omega)).mono ?_; rintro e w1 ⟨rfl, k, init, last, hcase, hmid, hf1, hk1⟩)
      obtain ⟨t, ht⟩ : ∃ t, t = n - p - s := ⟨_, rfl⟩
      obtain ⟨q, hq⟩ : ∃ q, q = lowBits (numOf x) t s := ⟨_, rfl⟩
      have hqlt : q < 2 ^ s := by rw [hq]; exact lowBits_lt _ _ _
      obtain ⟨r1, r2, r3, r4⟩ := high_room HL.out hcase hs2 hs4 hqlt
      obtain ⟨f, hf⟩ : ∃ f, f = 8 - P % 8 - s := ⟨_, rfl⟩
      rw [← hf] at r1 r2 r3 r4
      obtain ⟨V, hV⟩ : ∃ V, V = q * 2 ^ f := ⟨_, rfl⟩
      rw [← hV] at r1 r2 r3 r4
      have hwq : IntKind.i64.wrap ((q : Int) * 2 ^ f) = (V : Int) := by
        have e : (q : Int) * 2 ^ f = (V : Int) := by rw [hV]; simp
        rw [e, wrap_i64_id _ (by omega) (by omega)]
      have hw1 : IntKind.i64.wrap ((n : Int) - ((p : Int) + (s : Int))) = (t : Int) := by rw [wrap_i64_id _ (by omega) (by omega)]; omega
      have hw2 : IntKind.i64.wrap (8 - (P : Int) % 8) = 8 - (P : Int) % 8 := wrap_i64_id _ (by omega) (by omega)
      have hw3 : IntKind.i64.wrap (8 - (P : Int) % 8 - (s : Int)) = (f : Int) := by rw [wrap_i64_id _ (by omega) (by omega)]; omega
      have hf8 : f ≤ 8 := by omega
      have ht24 : t ≤ 24 := by omega
      have hil : init.length ≤ 2147483000 := by
        have := r3.len
        simp at this
        omega
      have R1 := hide r1
      have R3 := hide r3
      have R4 := hide r4
      have HM := hide hmid.drew
      have Hf1 := hide hf1
      have Hk1 := hide hk1
      have Hq := hide hq
      have Ht := hide ht
      have hlow := lowest_b x t s (by omega)
      rw [← hq] at hlow
      have Hlow := hide hlow
      clear hlow hq hV r1 r3 r4 hmid hf1 hk1 hcase hqlt ht hf
      go_region_with (first
        | (go_at_call 46; refine (Hlow.out _).mono ?_; rintro e w' ⟨rfl, rfl⟩)
        | (go_at_call 51; refine (fill_w 63 lo B k init last (last + V) (P + s) (V : Int) _ HM.out (by omega) (by omega) hil R1.out).mono ?_; rintro e w2 ⟨rfl, hw2, hf2⟩))
      all_goals
        go_wp2
        obtain ⟨hF2, hG2⟩ := put_frame HF.out HG.out Hf1.out Hk1.out hf2
        have hP := HP.out
        have hPs : P + s = wn + (p + s) := by omega
        have R3' := R3.out
        have R4' := R4.out
        rw [hPs] at hw2 R3' R4'
        refine ⟨⟨p + s, some k, init ++ [last + V], by omega, by simp, hw2, R3', ?_, hF2, hG2⟩, by simp [intOf]; omega⟩
        have ht := Ht.out
        rw [R4', HN.out, Hq.out, ht, show n - (p + s) = n - p - s by omega, Nat.add_comm p s, lowBits_add, show n - p - s + s = n - p by omega, Nat.pow_add, Nat.add_mul, Nat.mul_comm (2 ^ s), Nat.mul_assoc, Nat.add_assoc, Nat.add_comm (lowBits (numOf x) (n - p - s) s), Nat.mul_comm (2 ^ s)]
    · go_wp2
      go_end0
      have e : p = n := by omega
      subst e
      exact ⟨rfl, g', os', hW, hL, by simpa using hN, hF, hG⟩
end Go.Proofs.Ytkmgpapopgeldaa
