import Derived.Test.YtkmgpapopgeldaaU
import Derived.Deep.RegionHeld3
namespace Go.Proofs.Ytkmgpapopgeldaa
open Go.RowKit

/-- The first i bits of V, the first one the highest. -/
def rev (V : Nat) : Nat → Nat
  | 0 => 0
  | i + 1 => 2 * rev V i + lowBits V i 1

theorem rev_lt (V i : Nat) : rev V i < 2 ^ i := by
  induction i with
  | zero => simp [rev]
  | succ i ih =>
    have := lowBits_lt V i 1
    simp only [rev, Nat.pow_succ]
    omega

theorem rev_step (V i : Nat) (hi : i < 8) : bits .or .i64 (wrap64 (((rev V i : Nat) : Int) * 2)) ((lowBits V i 1 : Nat) : Int) = ((rev V (i + 1) : Nat) : Int) := by
  have h1 := lowBits_lt V i 1
  have h2 := rev_lt V i
  have h4 : (2:Nat) ^ i ≤ 2 ^ 8 := Nat.pow_le_pow_right (by decide) (by omega)
  have h5 : (2:Nat) ^ 8 = 256 := by decide
  have e : ((rev V i : Nat) : Int) * 2 = ((2 ^ 1 * rev V i : Nat) : Int) := by simp; omega
  rw [e, wrap64_id _ (by omega) (by omega), or_i64' 1 _ _ h1 (by simp) (by omega)]
  simp [rev]

theorem turn_step (V i b t : Nat) (hi : i < 8) (hb : b / 2 ^ i % 2 = lowBits V i 1) (ht : t = 7 - i) :
    bits .or .i64 ((rev V i * 2 ^ (8 - i) : Nat) : Int) (wrap64 (bits .and .i64 ((b : Int) / 2 ^ i) 1 * 2 ^ t)) = ((rev V (i + 1) * 2 ^ (8 - (i + 1)) : Nat) : Int) := by
  have h1 := lowBits_lt V i 1
  have h2 := rev_lt V (i + 1)
  have e1 : bits .and .i64 ((b : Int) / 2 ^ i) 1 = ((lowBits V i 1 : Nat) : Int) := by
    have e : ((b : Int) / 2 ^ i) = ((b / 2 ^ i : Nat) : Int) := by simp
    have := mask_i64 ((b / 2 ^ i : Nat) : Int) 1 (by decide)
    rw [e, ← hb]
    simpa using this
  have e2 : ((lowBits V i 1 : Nat) : Int) * 2 ^ t = ((lowBits V i 1 * 2 ^ t : Nat) : Int) := by simp
  have h3 : rev V (i + 1) * 2 ^ t = rev V i * 2 ^ (8 - i) + lowBits V i 1 * 2 ^ t := by
    rw [show 8 - i = 1 + t by omega, Nat.pow_add]
    simp only [rev, Nat.add_mul]
    rw [Nat.mul_comm 2, Nat.mul_assoc]
  have h4 : rev V (i + 1) * 2 ^ t < 2 ^ 8 := by
    have := Nat.mul_lt_mul_of_pos_right h2 (pow_pos2 t)
    rw [← Nat.pow_add, show i + 1 + t = 8 by omega] at this
    exact this
  have h5 : (2:Nat) ^ 8 = 256 := by decide
  have h6 : lowBits V i 1 * 2 ^ t < 2 ^ (8 - i) := by
    have := Nat.mul_lt_mul_of_pos_right h1 (pow_pos2 t)
    rw [← Nat.pow_add, show 1 + t = 8 - i by omega] at this
    exact this
  rw [e1, e2, wrap64_id _ (by omega) (by omega), or_i64' (8 - i) _ _ h6 (by simp) (by omega)]
  rw [show 8 - (i + 1) = t by omega, h3]
  simp

theorem high_first (bs : List Nat) (h : ∀ b ∈ bs, b < 256) (hl : 0 < bs.length) : lowBits (beNum bs) (8 * bs.length - 0 - 8) 8 = bs.getD 0 0 := by
  have := byte_be bs h 0 hl
  rw [show 8 * (bs.length - 1 - 0) = 8 * bs.length - 0 - 8 by omega] at this
  exact this

/-- h.Put(b, 8) of a new High. -/
theorem ends_put_high (B lo hi : Nat) (b : Nat) (w : World) (hb : b < 256) (h : Rd 63 w lo hi B [] 0 (.slice none 0 0) 0) :
    Calls Try.prog 26 #[.pointer (some ⟨B, 0, none⟩), .int .i64 b, .int .i64 8] w fun e w' => e = .returned (.tuple #[]) ∧ (∃ g, Wr 63 w' 0 B g [b] 8) ∧ Fr (fun i => i = B) w w' := by
  obtain ⟨v, h1, _, _⟩ := h.eobj
  refine (high_put_ok 0 B none [] 0 8 b w (wr_zero 63 w B _ _ h1) highSt_zero (by decide) (by decide)).mono ?_
  rintro e w' ⟨rfl, g', os', hw, hs, hn, hf, _⟩
  have e1 : os' = [b] := by
    have h1 := hs.len
    have e0 : (b : Int) % 18446744073709551616 = (b : Int) := by omega
    have h2 : hiNum os' (0 + 8) = b := by
      rw [hn]
      simp only [hiNum, beNum, lowBits, numOf, e0]
      simp
      omega
    match os', h1 with
    | [c], _ => simp [hiNum, beNum] at h2; rw [h2]
  subst e1
  exact ⟨rfl, ⟨g', hw⟩, hf.mono fun i _ h => by simpa using h⟩

/-- l.Put(t, 8) of a new Low. -/
theorem ends_put_low (B lo hi : Nat) (t : Int) (w : World) (h : Rd 56 w lo hi B [] 0 (.slice none 0 0) 0) :
    Calls Try.prog 27 #[.pointer (some ⟨B, 0, none⟩), .int .i64 t, .int .i64 8] w fun e w' => e = .returned (.tuple #[]) ∧ (∃ g v, Wr 56 w' 0 B g [v] 8) ∧ Fr (fun i => i = B) w w' := by
  obtain ⟨v, h1, _, _⟩ := h.eobj
  refine (low_put_ok 0 B none [] 0 8 t w (wr_zero 56 w B _ _ h1) lowSt_zero (by decide) (by decide)).mono ?_
  rintro e w' ⟨rfl, g', os', hw, hs, hn, hf, _⟩
  have hl := hs.len
  match os', hl, hw with
  | [v], _, hw => exact ⟨rfl, ⟨g', v, hw⟩, hf.mono fun i _ h => by simpa using h⟩

set_option maxHeartbeats 1600000 in
theorem ends_main (a0 : Option Addr) (c0 : Nat) (bs : List Nat) (n : Int) (w : World) (hb : Lies w (.slice a0 bs.length c0) bs) (hlt : ∀ b ∈ bs, b < 256)
    (hbn : (bs.length : Int) ≤ 1000) (hb3 : (3 : Int) ≤ bs.length) (hcap : bs.length ≤ c0) (hold : bs ≠ [] → ∀ ad, a0 = some ad → ad.block < w.heap.size) (hn0 : 0 ≤ n) (hn1 : n < 256) :
    Calls Try.prog 7 #[.slice a0 bs.length c0, .int .u8 n] w fun e w' => e = .returned (.bool true) ∧ Fr (fun _ => False) w w' := by
  have hne : bs ≠ [] := by rintro rfl; simp at hb3
  obtain ⟨D, o, rfl, hcell⟩ : ∃ D o, a0 = some ⟨D, o, none⟩ ∧ ∀ i, i < bs.length → w.cell? ⟨D, o + i, none⟩ = some (.int .u8 ((bs.getD i 0 : Nat) : Int)) := by
    rcases hb with ⟨_, h⟩ | ⟨⟨D, o, sp⟩, c, e, hc⟩
    · exact absurd h hne
    · simp at e
      obtain ⟨rfl, rfl⟩ := e
      have hspot : sp = none := by
        have := hc 0 (.int .u8 ((bs[0] : Nat) : Int)) (by simp [cellsOf, List.getElem?_eq_getElem (show 0 < bs.length by omega)])
        simpa [Addr.add] using World.cell?_spot this
      subst hspot
      refine ⟨D, o, rfl, fun i hi => ?_⟩
      have := hc i (.int .u8 ((bs.getD i 0 : Nat) : Int)) (by simp [cellsOf, List.getElem?_map, List.getElem?_eq_getElem hi])
      rw [add_none] at this
      exact this
  have Hb := hide hb
  have Hlt := hide hlt
  have hD := hold hne _ rfl
  clear hb hlt hold
  go_enter Try.func7, Try.ntmps7
  go_wp2_with fail
  refine (awake_c _).mono ?_
  rintro e w1 ⟨rfl, f1⟩
  have F1 := hide f1
  clear f1
  go_wp2_with fail
  refine (newLow_c _ bs _ (Hb.out.keep (fun _ ad n c e => F1.out.block _ (by simp at e; rw [← e.1]; exact hD) (fun h => h))) Hlt.out (by omega)).mono ?_
  rintro e w2 ⟨L, rfl, hL, f2⟩
  have F2 := hide (F1.out.join f2)
  have HL := hide hL
  clear hL f2
  go_wp2_with fail
  refine (newHigh_c _ bs _ (Hb.out.keep (fun _ ad n c e => F2.out.block _ (by simp at e; rw [← e.1]; exact hD) (fun h => h))) Hlt.out (by omega)).mono ?_
  rintro e w3 ⟨H, rfl, hH, f3⟩
  have F3 := hide (F2.out.join f3)
  have HL3 := hide (HL.out.keep f3 (fun _ _ _ h => h))
  have HH := hide hH
  clear hH f3
  go_wp2_with fail
  refine (newLow_c _ bs _ (Hb.out.keep (fun _ ad n c e => F3.out.block _ (by simp at e; rw [← e.1]; exact hD) (fun h => h))) Hlt.out (by omega)).mono ?_
  rintro e w4 ⟨O, rfl, hO, f4⟩
  have F4 := hide (F3.out.join f4)
  have HL4 := hide (HL3.out.keep f4 (fun _ _ _ h => h))
  have HH4 := hide (HH.out.keep f4 (fun _ _ _ h => h))
  have HO4 := hide hO
  clear hO f4
  obtain ⟨k, hk⟩ : ∃ k : Nat, k = 1 + (n % 24).toNat := ⟨_, rfl⟩
  have hk1 : 1 ≤ k := by omega
  have hk2 : k ≤ 24 := by omega
  have ek : (1 + n % 24 : Int) = (k : Int) := by omega
  have s1 := F1.out.size
  have q1 := HL4.out.elo
  have q2 := HL4.out.ehi
  have q3 := HH4.out.elo
  have q4 := HH4.out.ehi
  have q5 := HO4.out.elo
  have q6 := HO4.out.ehi
  have q7 := F2.out.size
  clear hk
  go_wp2_with fail
  refine (low_take w4 _ _ L bs 0 k _ _ HL4.out hk2 (by omega)).mono ?_
  rintro e w5 ⟨rfl, hL5, f5⟩
  have F5 := hide ((F4.out.trans f5).mono (S' := fun _ => False) (fun i hi h => by rcases h with h | h; exact h; omega))
  have HH5 := hide (HH4.out.keep f5 (fun j h1 h2 => by omega))
  have HO5 := hide (HO4.out.keep f5 (fun j h1 h2 => by omega))
  clear hL5 f5
  go_wp2_with fail
  go_loopw [10, 11] (fun y i wr => ∃ j : Nat, j ≤ k ∧ i = .int .i64 j ∧ y = .int .i64 (lowBits (leNum bs) 0 j : Nat) ∧ Rd 56 wr w3.heap.size w4.heap.size O bs j (.slice none 0 0) 0 ∧ Rd 63 wr w2.heap.size w3.heap.size H bs 0 (.slice none 0 0) 0 ∧ Fr (fun _ => False) w wr) (fun _ i _ => k - (intOf i).toNat)
  case atStart => exact ⟨0, by omega, rfl, by simp [lowBits_zero], HO5.out, HH5.out, F5.out⟩
  case round =>
    obtain ⟨j, hj, rfl, rfl, hO, hH, hF⟩ := hrel
    by_cases hlt : j < k
    · have HS := hide (ref_low_step (leNum bs) 0 j (by omega))
      rw [Nat.zero_add] at HS
      have HO := hide hO
      have HH := hide hH
      have HF := hide hF
      clear hO hH hF
      go_wp2_with (go_at_call 13; refine (low_take _ _ _ O bs j 1 _ _ HO.out (by decide) (by omega)).mono ?_; rintro e w6 ⟨rfl, hO6, f6⟩)
      refine ⟨⟨j + 1, by omega, by simp, by rw [HS.out], hO6, HH.out.keep f6 (fun i _ _ => by omega), (HF.out.trans f6).mono (fun i hi h => by rcases h with h | h; exact h; omega)⟩, by simp [intOf]; omega⟩
    · have ej : j = k := by omega
      subst ej
      have HH6 := hide hH
      have HF6 := hide hF
      clear hO hH hF HH5 HO5 F5 HL4 HH4 HO4 F4 HL3 HH F3 HL
      obtain ⟨b0, hb0⟩ : ∃ b0, b0 = bs.getD 0 0 := ⟨_, rfl⟩
      have hb8 : b0 < 256 := by rw [hb0]; exact byte_lt Hlt.out 0
      have hc0 := hcell 0 (by omega)
      rw [← hb0, Nat.add_zero] at hc0
      have hbit : ∀ i, i < 8 → b0 / 2 ^ i % 2 = lowBits (leNum bs) i 1 := by
        intro i hi
        have := bit_low bs Hlt.out i b0 (by rw [hb0, Nat.div_eq_of_lt hi])
        rw [Nat.mod_eq_of_lt hi] at this
        exact this
      have hH8 : lowBits (beNum bs) (8 * bs.length - 0 - 8) 8 = b0 := by rw [hb0]; exact high_first bs Hlt.out (by omega)
      have HH8 := hide hH8
      have Hbit := hide hbit
      have Hb0 := hide hb0
      clear hH8 hbit hb0
      go_wp2_with fail
      refine (high_take wr _ _ H bs 0 8 _ _ HH6.out (by decide) (by omega)).mono ?_
      rw [HH8.out]
      rintro e w7 ⟨rfl, hH7, f7⟩
      have F7 := hide ((HF6.out.trans f7).mono (S' := fun _ => False) (fun i hi h => by rcases h with h | h; exact h; omega))
      have hc7 : w7.cell? ⟨D, o, none⟩ = some (.int .u8 (b0 : Int)) := (World.cell?_of_block (w := w) (F7.out.block D hD (fun h => h))).trans hc0
      have hp0 : (0 : Int) < (bs.length : Int) := by omega
      clear hH7 f7
      go_wp2_with fail
      go_loop [13, 14] (fun t i => ∃ j : Nat, j ≤ 8 ∧ i = .int .i64 j ∧ t = .int .i64 (rev (leNum bs) j * 2 ^ (8 - j) : Nat)) (fun _ i => 8 - (intOf i).toNat)
      case atStart => exact ⟨0, by omega, rfl, by simp [rev]⟩
      case round =>
        obtain ⟨i, hi, rfl, rfl⟩ := hrel
        by_cases hlt8 : i < 8
        · obtain ⟨t, ht⟩ : ∃ t, t = 7 - i := ⟨_, rfl⟩
          have HT := hide (turn_step (leNum bs) i b0 t hlt8 (Hbit.out i hlt8) ht)
          have hw1 : (7 - (i : Int)) = (t : Int) := by omega
          obtain ⟨T, hT⟩ : ∃ T, T = rev (leNum bs) i * 2 ^ (8 - i) := ⟨_, rfl⟩
          rw [← hT] at HT
          rw [← hT]
          have ht7 : t ≤ 7 := by omega
          clear ht hT
          go_wp2
          exact ⟨⟨i + 1, by omega, by simp, by rw [HT.out]⟩, by simp [intOf]; omega⟩
        · have ei : i = 8 := by omega
          subst ei
          obtain ⟨T, hT⟩ : ∃ T, T = rev (leNum bs) 8 * 2 ^ (8 - 8) := ⟨_, rfl⟩
          rw [← hT]
          have HT := hide hT
          clear hT
          go_wp2_with fail
          refine (newHigh_c (.slice none 0 0) [] _ (Or.inl ⟨rfl, rfl⟩) (by simp) (by simp)).mono ?_
          rintro e w8 ⟨W, rfl, hW, f8⟩
          have HW := hide hW
          have F8 := hide (F7.out.join f8)
          have z1 := F7.out.size
          clear hW f8
          go_wp2_with fail
          refine (ends_put_high W _ _ b0 w8 hb8 HW.out).mono ?_
          rintro e w9 ⟨rfl, ⟨g9, hW9⟩, f9⟩
          have z2 := HW.out.elo
          have z3 := HW.out.ehi
          have F9 := hide ((F8.out.trans f9).mono (S' := fun _ => False) (fun i hi h => by rcases h with h | h; exact h; omega))
          have HW9 := hide hW9
          have z4 := f9.size
          clear hW9 f9
          go_wp2_with fail
          refine (newLow_c (.slice none 0 0) [] _ (Or.inl ⟨rfl, rfl⟩) (by simp) (by simp)).mono ?_
          rintro e w10 ⟨X, rfl, hX, f10⟩
          have HX := hide hX
          have F10 := hide (F9.out.join f10)
          have HW10 := hide (HW9.out.keep f10 (fun h => h) (fun _ _ h => h))
          have z5 := f10.size
          have z6 := F9.out.size
          clear hX f10
          go_wp2_with fail
          refine (ends_put_low X _ _ (T : Int) w10 HX.out).mono ?_
          rintro e w11 ⟨rfl, ⟨g11, v11, hX11⟩, f11⟩
          have z7 := HX.out.elo
          have z8 := HX.out.ehi
          have F11 := hide ((F10.out.trans f11).mono (S' := fun _ => False) (fun i hi h => by rcases h with h | h; exact h; omega))
          have HW11 := hide (HW10.out.keep f11 (by omega) (fun k hk => by have := HW9.out.lts k hk; omega))
          have HX11 := hide hX11
          clear hX11 f11
          go_wp2_with fail
          refine (newLow_c _ bs _ (Hb.out.keep (fun _ ad n c e => F11.out.block _ (by simp at e; rw [← e.1]; exact hD) (fun h => h))) Hlt.out (by omega)).mono ?_
          rintro e w12 ⟨U, rfl, hU, f12⟩
          have HU12 := hide hU
          have F12 := hide (F11.out.join f12)
          have HW12 := hide (HW11.out.keep f12 (fun h => h) (fun _ _ h => h))
          have HX12 := hide (HX11.out.keep f12 (fun h => h) (fun _ _ h => h))
          have z9 := hU.elo
          have z10 := hU.ehi
          have z11 := F11.out.size
          clear hU f12
          go_wp2_with fail
          go_loopw [18, 19] (fun y i wr => ∃ j : Nat, j ≤ 8 ∧ i = .int .i64 j ∧ y = .int .i64 (rev (leNum bs) j : Nat) ∧ Rd 56 wr w11.heap.size w12.heap.size U bs j (.slice none 0 0) 0 ∧ Wr 63 wr 0 W g9 [b0] 8 ∧ Wr 56 wr 0 X g11 [v11] 8 ∧ Fr (fun _ => False) w wr) (fun _ i _ => 8 - (intOf i).toNat)
          case atStart => exact ⟨0, by omega, rfl, by simp [rev], HU12.out, HW12.out, HX12.out, F12.out⟩
          case round =>
            obtain ⟨i, hi, rfl, rfl, hU, hWr, hXr, hFr⟩ := hrel
            by_cases hlt8 : i < 8
            · have HS := hide (rev_step (leNum bs) i hlt8)
              have HU := hide hU
              have HWr := hide hWr
              have HXr := hide hXr
              have HFr := hide hFr
              clear hU hWr hXr hFr
              go_wp2_with (go_at_call 13; refine (low_take _ _ _ U bs i 1 _ _ HU.out (by decide) (by omega)).mono ?_; rintro e w13 ⟨rfl, hU13, f13⟩)
              have g9lt := HW11.out.lts
              have g11lt := HX11.out.lts
              have Wlt : W < w11.heap.size := by obtain ⟨_, _, _, h, _⟩ := HW11.out.eobj; exact lt_of h
              have Xlt : X < w11.heap.size := by obtain ⟨_, _, _, h, _⟩ := HX11.out.eobj; exact lt_of h
              exact ⟨⟨i + 1, by omega, by simp, by rw [HS.out], hU13, HWr.out.keep f13 (by omega) (fun k hk => by have := g9lt k hk; omega), HXr.out.keep f13 (by omega) (fun k hk => by have := g11lt k hk; omega), (HFr.out.trans f13).mono (fun i hi h => by rcases h with h | h; exact h; omega)⟩, by simp [intOf]; omega⟩
            · have ei : i = 8 := by omega
              subst ei
              have eT : ((rev (leNum bs) 8 : Nat) : Int) = (T : Int) := by rw [HT.out]; simp
              rw [eT]
              go_wp2_with fail
              have hLb : Lies w (.slice (some ⟨D, o, none⟩) 1 c0) [b0] := by
                refine Or.inr ⟨⟨D, o, none⟩, c0, rfl, fun j u hu => ?_⟩
                match j with
                | 0 => simp [cellsOf] at hu; subst hu; rw [add_none]; exact hc0
                | j + 1 => simp [cellsOf] at hu
              have hst : ∀ W, Fr (fun _ => False) w W → (convert 22 9 (.slice (some ⟨D, o, none⟩) 1 c0)).run Try.prog W = .ok (.string (strOf [b0])) W := fun W f => str_lies (hLb.keep (fun _ ad n c e => f.block _ (by simp at e; rw [← e.1]; exact hD) (fun h => h))) (by simp; exact hb8)
              have hcl : ∀ W, Fr (fun _ => False) w W → W.cell? ⟨D, o, none⟩ = some (.int .u8 (b0 : Int)) := fun W f => (World.cell?_of_block (w := w) (f.block D hD (fun h => h))).trans hc0
              have fd : Fr (fun _ => False) w wr.drew := hFr.join (Fr.of_drewN wr 1)
              have hc1 := hcl _ hFr
              have hs1 := hst _ fd
              have Hst := hide hst
              have Hcl := hide hcl
              have Hfd := hide fd
              have HWr : Hid (Wr 63 wr.drew 0 W g9 [b0] 8) := hWr.keep (Fr.of_drewN wr 1) (fun h => h) (fun _ _ h => h)
              have HXr : Hid (Wr 56 wr.drew 0 X g11 [v11] 8) := hXr.keep (Fr.of_drewN wr 1) (fun h => h) (fun _ _ h => h)
              have hcap1 : (1 : Int) ≤ (c0 : Int) := by omega
              have hlen1 : (1 : Int) ≤ (bs.length : Int) := by omega
              have hwb : IntKind.i64.wrap (b0 : Int) = (b0 : Int) := wrap_i64_id _ (by omega) (by omega)
              have h00 : 0 < bs.length := by omega
              have hB0 : ∀ (W : World) (sv : Value), Lies W sv [b0] → (convert 22 9 sv).run Try.prog W = .ok (.string (strOf [b0])) W := fun W sv h => str_lies h (by simp; exact hb8)
              have HB0 := hide hB0
              clear hB0
              generalize strOf [b0] = B0 at *
              clear hst hcl fd hLb hWr hXr hU hFr eT
              refine wp_region_noPanic ?_
              refine wp_region_held_drew (S := fun w' => w'.cell? ⟨D, o, none⟩ = some (.int .u8 (b0 : Int)) ∧ (convert 22 9 (.slice (some ⟨D, o, none⟩) 1 c0)).run Try.prog w' = .ok (.string B0) w') (by kernel_rfl) ⟨by rw [World.cell?_drew]; exact hc1, hs1⟩ (fun hHeld => ?_)
              refine wpAnyH_take (i := 0) (v := ?v0) rfl (by kernel_rfl) (by kernel_rfl) (by kernel_rfl) (fun _ _ _ h => h) (Or.inl ⟨by rfl, ?hy0⟩) hHeld ?rest0
              case hy0 => (intro W hSw; (try dsimp only at hSw); go_simp; all_goals (with_reducible rfl))
              change wpAnyH _ _ _ _ _ _ _ (Act.put _ (some 104) _) _
              simp only [Act.put, List.setIfInBounds_toArray, List.set_cons_zero, List.set_cons_succ]
              refine wpAnyH_take (i := 1) (v := ?v1) rfl (by kernel_rfl) (by kernel_rfl) (by kernel_rfl) (fun _ _ _ h => h) (Or.inl ⟨by rfl, ?hy1⟩) hHeld ?rest1
              case hy1 => (intro W hSw; (try dsimp only at hSw); go_simp; all_goals (with_reducible rfl))
              change wpAnyH _ _ _ _ _ _ _ (Act.put _ (some 105) _) _
              simp only [Act.put, List.setIfInBounds_toArray, List.set_cons_zero, List.set_cons_succ]
              refine wpAnyH_take (i := 2) (v := ?v2) rfl (by kernel_rfl) (by kernel_rfl) (by kernel_rfl) (fun _ _ _ h => h) (Or.inl ⟨by rfl, ?hy2⟩) hHeld ?rest2
              case hy2 => (intro W hSw; (try dsimp only at hSw); go_simp; all_goals (with_reducible rfl))
              change wpAnyH _ _ _ _ _ _ _ (Act.put _ (some 106) _) _
              simp only [Act.put, List.setIfInBounds_toArray, List.set_cons_zero, List.set_cons_succ]
              refine wpAnyH_take (i := 3) (v := ?v3) rfl (by kernel_rfl) (by kernel_rfl) (by kernel_rfl) (fun _ _ _ h => h) (Or.inl ⟨by rfl, ?hy3⟩) hHeld ?rest3
              case hy3 => (intro W hSw; (try dsimp only at hSw); go_simp; all_goals (with_reducible rfl))
              change wpAnyH _ _ _ _ _ _ _ (Act.put _ (some 107) _) _
              simp only [Act.put, List.setIfInBounds_toArray, List.set_cons_zero, List.set_cons_succ]
              refine wpAnyH_take (i := 4) (v := ?v4) rfl (by kernel_rfl) (by kernel_rfl) (by kernel_rfl) (fun _ _ _ h => h) (Or.inl ⟨by rfl, ?hy4⟩) hHeld ?rest4
              case hy4 => (intro W hSw; (try dsimp only at hSw); go_simp; all_goals (with_reducible rfl))
              change wpAnyH _ _ _ _ _ _ _ (Act.put _ (some 108) _) _
              simp only [Act.put, List.setIfInBounds_toArray, List.set_cons_zero, List.set_cons_succ]
              refine wpAnyH_take (i := 5) (v := ?v5) rfl (by kernel_rfl) (by kernel_rfl) (by kernel_rfl) (fun _ _ _ h => h) (Or.inl ⟨by rfl, ?hy5⟩) hHeld ?rest5
              case hy5 => (intro W hSw; (try dsimp only at hSw); go_simp; all_goals (with_reducible rfl))
              change wpAnyH _ _ _ _ _ _ _ (Act.put _ (some 109) _) _
              simp only [Act.put, List.setIfInBounds_toArray, List.set_cons_zero, List.set_cons_succ]
              refine wpAnyH_take (i := 6) (v := ?v6) rfl (by kernel_rfl) (by kernel_rfl) (by kernel_rfl) (fun _ _ _ h => h) (Or.inl ⟨by rfl, ?hy6⟩) hHeld ?rest6
              case hy6 => (intro W hSw; (try dsimp only at hSw); go_simp; all_goals (with_reducible rfl))
              change wpAnyH _ _ _ _ _ _ _ (Act.put _ (some 110) _) _
              simp only [Act.put, List.setIfInBounds_toArray, List.set_cons_zero, List.set_cons_succ]
              refine wpAnyH_take (i := 7) (v := ?v7) rfl (by kernel_rfl) (by kernel_rfl) (by kernel_rfl) (fun _ _ _ h => h) (Or.inl ⟨by rfl, ?hy7⟩) hHeld ?rest7
              case hy7 => (intro W hSw; (try dsimp only at hSw); go_simp; all_goals (with_reducible rfl))
              change wpAnyH _ _ _ _ _ _ _ (Act.put _ (some 111) _) _
              simp only [Act.put, List.setIfInBounds_toArray, List.set_cons_zero, List.set_cons_succ]
              refine wpAnyH_take (i := 8) (v := ?v8) rfl (by kernel_rfl) (by kernel_rfl) (by kernel_rfl) (fun _ _ _ h => h) (Or.inl ⟨by rfl, ?hy8⟩) hHeld ?rest8
              case hy8 => (intro W hSw; (try dsimp only at hSw); go_simp; all_goals (with_reducible rfl))
              change wpAnyH _ _ _ _ _ _ _ (Act.put _ (some 112) _) _
              simp only [Act.put, List.setIfInBounds_toArray, List.set_cons_zero, List.set_cons_succ]
              refine wpAnyH_take (i := 9) (v := ?v9) rfl (by kernel_rfl) (by kernel_rfl) (by kernel_rfl) (fun _ _ _ h => h) (Or.inl ⟨by rfl, ?hy9⟩) hHeld ?rest9
              case hy9 => (intro W hSw; (try dsimp only at hSw); go_simp; all_goals (with_reducible rfl))
              change wpAnyH _ _ _ _ _ _ _ (Act.put _ (some 113) _) _
              simp only [Act.put, List.setIfInBounds_toArray, List.set_cons_zero, List.set_cons_succ]
              refine wpAnyH_take (i := 10) (v := ?v10) rfl (by kernel_rfl) (by kernel_rfl) (by kernel_rfl) (fun _ _ _ h => h) (Or.inl ⟨by rfl, ?hy10⟩) hHeld ?rest10
              case hy10 => (intro W hSw; (try dsimp only at hSw); go_simp; all_goals (with_reducible rfl))
              change wpAnyH _ _ _ _ _ _ _ (Act.put _ (some 114) _) _
              simp only [Act.put, List.setIfInBounds_toArray, List.set_cons_zero, List.set_cons_succ]
              refine wpAnyH_take (i := 11) (v := ?v11) rfl (by kernel_rfl) (by kernel_rfl) (by kernel_rfl) (fun _ _ _ h => h) (Or.inl ⟨by rfl, ?hy11⟩) hHeld ?rest11
              case hy11 => (intro W hSw; (try dsimp only at hSw); go_simp; all_goals (with_reducible rfl))
              change wpAnyH _ _ _ _ _ _ _ (Act.put _ (some 115) _) _
              simp only [Act.put, List.setIfInBounds_toArray, List.set_cons_zero, List.set_cons_succ]
              refine wpAnyH_take (i := 12) (v := ?v12) rfl (by kernel_rfl) (by kernel_rfl) (by kernel_rfl) (fun _ _ _ h => h) (Or.inl ⟨by rfl, ?hy12⟩) hHeld ?rest12
              case hy12 => (intro W hSw; (try dsimp only at hSw); go_simp; all_goals (with_reducible rfl))
              change wpAnyH _ _ _ _ _ _ _ (Act.put _ (some 116) _) _
              simp only [Act.put, List.setIfInBounds_toArray, List.set_cons_zero, List.set_cons_succ]
              refine wpAnyH_take (i := 15) (v := ?v15) rfl (by kernel_rfl) (by kernel_rfl) (by kernel_rfl) (fun _ _ _ h => h) (Or.inl ⟨by rfl, ?hy15⟩) hHeld ?rest15
              case hy15 => (intro W hSw; (try dsimp only at hSw); go_simp; all_goals (with_reducible rfl))
              change wpAnyH _ _ _ _ _ _ _ (Act.put _ (some 119) _) _
              simp only [Act.put, List.setIfInBounds_toArray, List.set_cons_zero, List.set_cons_succ]
              refine wpAnyH_take (i := 16) (v := ?v16) rfl (by kernel_rfl) (by kernel_rfl) (by kernel_rfl) (fun _ _ _ h => h) (Or.inl ⟨by rfl, ?hy16⟩) hHeld ?rest16
              case hy16 => (intro W hSw; (try dsimp only at hSw); go_simp; all_goals (with_reducible rfl))
              change wpAnyH _ _ _ _ _ _ _ (Act.put _ (some 120) _) _
              simp only [Act.put, List.setIfInBounds_toArray, List.set_cons_zero, List.set_cons_succ]
              refine wpAnyH_take (i := 17) (v := ?v17) rfl (by kernel_rfl) (by kernel_rfl) (by kernel_rfl) (fun _ _ _ h => h) (Or.inl ⟨by rfl, ?hy17⟩) hHeld ?rest17
              case hy17 => (intro W hSw; (try dsimp only at hSw); go_simp; all_goals (with_reducible rfl))
              change wpAnyH _ _ _ _ _ _ _ (Act.put _ (some 121) _) _
              simp only [Act.put, List.setIfInBounds_toArray, List.set_cons_zero, List.set_cons_succ]
              refine wpAnyH_ready (rs := [13]) (by kernel_rfl) (by simp) ?_
              refine AllReadyH.cons rfl (fun K hK => ?_) AllReadyH.nil
              try simp only [List.getElem_toArray, List.getElem_cons_succ, List.getElem_cons_zero]
              go_simp
              refine (high_out 63 _ 0 W g9 [b0] 8 HWr.out (by simp)).mono ?_
              rintro e w14 ⟨a14, c14, rfl, hl14, f14, _⟩
              have F14 := hide (Hfd.out.join f14)
              have k1 := Hcl.out _ F14.out
              have k2 := Hst.out _ F14.out
              have k3 : (convert 22 9 (.slice a14 1 c14)).run Try.prog w14 = .ok (.string B0) w14 := HB0.out _ _ hl14
              have HXr := hide (HXr.out.keep f14 (fun h => h) (fun _ _ h => h))
              clear hl14 f14 hHeld
              refine hK.out _ _ ⟨k1, k2⟩ (fun hHeld => ?_)
              clear hK K
              refine wpAnyH_ready (rs := [14]) (by kernel_rfl) (by simp) ?_
              refine AllReadyH.cons rfl (fun K hK => ?_) AllReadyH.nil
              try simp only [List.getElem_toArray, List.getElem_cons_succ, List.getElem_cons_zero]
              go_simp
              refine hK.out _ _ ⟨k1, k2⟩ (fun hHeld => ?_)
              clear hK K
              refine wpAnyH_take (i := 18) (v := ?v18) rfl (by kernel_rfl) (by kernel_rfl) (by kernel_rfl) (fun _ _ _ h => h) (Or.inl ⟨by rfl, ?hy18⟩) hHeld ?rest18
              case hy18 => (intro W hSw; (try dsimp only at hSw); go_simp; all_goals (with_reducible rfl))
              change wpAnyH _ _ _ _ _ _ _ (Act.put _ (some 122) _) _
              simp only [Act.put, List.setIfInBounds_toArray, List.set_cons_zero, List.set_cons_succ]
              refine wpAnyH_take (i := 19) (v := ?v19) rfl (by kernel_rfl) (by kernel_rfl) (by kernel_rfl) (fun _ _ _ h => h) (Or.inl ⟨by rfl, ?hy19⟩) hHeld ?rest19
              case hy19 => (intro W hSw; (try dsimp only at hSw); go_simp; all_goals (with_reducible rfl))
              change wpAnyH _ _ _ _ _ _ _ (Act.put _ (some 123) _) _
              simp only [Act.put, List.setIfInBounds_toArray, List.set_cons_zero, List.set_cons_succ]
              refine wpAnyH_take (i := 20) (v := ?v20) rfl (by kernel_rfl) (by kernel_rfl) (by kernel_rfl) (fun _ _ _ h => h) (Or.inl ⟨by rfl, ?hy20⟩) hHeld ?rest20
              case hy20 => (intro W hSw; (try dsimp only at hSw); go_simp; all_goals (with_reducible rfl))
              change wpAnyH _ _ _ _ _ _ _ (Act.put _ (some 124) _) _
              simp only [Act.put, List.setIfInBounds_toArray, List.set_cons_zero, List.set_cons_succ]
              refine wpAnyH_take (i := 21) (v := ?v21) rfl (by kernel_rfl) (by kernel_rfl) (by kernel_rfl) (fun _ _ _ h => h) (Or.inl ⟨by rfl, ?hy21⟩) hHeld ?rest21
              case hy21 => (intro W hSw; (try dsimp only at hSw); go_simp; all_goals (with_reducible rfl))
              change wpAnyH _ _ _ _ _ _ _ (Act.put _ (some 125) _) _
              simp only [Act.put, List.setIfInBounds_toArray, List.set_cons_zero, List.set_cons_succ]
              refine wpAnyH_ready (rs := [22]) (by kernel_rfl) (by simp) ?_
              refine AllReadyH.cons rfl (fun K hK => ?_) AllReadyH.nil
              try simp only [List.getElem_toArray, List.getElem_cons_succ, List.getElem_cons_zero]
              go_simp
              refine (low_out 56 _ 0 X g11 [v11] 8 HXr.out (by simp)).mono ?_
              rintro e w15 ⟨a15, c15, rfl, hl15, f15, _⟩
              have F15 := hide (F14.out.join f15)
              have k1 := Hcl.out _ F15.out
              have k2 := Hst.out _ F15.out
              clear hl15 f15 hHeld
              refine hK.out _ _ ⟨k1, k2⟩ (fun hHeld => ?_)
              clear hK K
              refine wpAnyH_take (i := 23) (v := ?v23) rfl (by kernel_rfl) (by kernel_rfl) (by kernel_rfl) (fun _ _ _ h => h) (Or.inl ⟨by rfl, ?hy23⟩) hHeld ?rest23
              case hy23 => (intro W hSw; (try dsimp only at hSw); go_simp; all_goals (with_reducible rfl))
              change wpAnyH _ _ _ _ _ _ _ (Act.put _ (some 127) _) _
              simp only [Act.put, List.setIfInBounds_toArray, List.set_cons_zero, List.set_cons_succ]
              refine wpAnyH_take (i := 24) (v := ?v24) rfl (by kernel_rfl) (by kernel_rfl) (by kernel_rfl) (fun _ _ _ h => h) (Or.inl ⟨by rfl, ?hy24⟩) hHeld ?rest24
              case hy24 => (intro W hSw; (try dsimp only at hSw); go_simp; all_goals (with_reducible rfl))
              change wpAnyH _ _ _ _ _ _ _ (Act.put _ (some 128) _) _
              simp only [Act.put, List.setIfInBounds_toArray, List.set_cons_zero, List.set_cons_succ]
              refine wpAnyH_take (i := 25) (v := ?v25) rfl (by kernel_rfl) (by kernel_rfl) (by kernel_rfl) (fun _ _ _ h => h) (Or.inl ⟨by rfl, ?hy25⟩) hHeld ?rest25
              case hy25 => (intro W hSw; (try dsimp only at hSw); go_simp; all_goals (with_reducible rfl))
              change wpAnyH _ _ _ _ _ _ _ (Act.put _ (some 129) _) _
              simp only [Act.put, List.setIfInBounds_toArray, List.set_cons_zero, List.set_cons_succ]
              refine wpAnyH_take (i := 26) (v := ?v26) rfl (by kernel_rfl) (by kernel_rfl) (by kernel_rfl) (fun _ _ _ h => h) (Or.inl ⟨by rfl, ?hy26⟩) hHeld ?rest26
              case hy26 => (intro W hSw; (try dsimp only at hSw); go_simp; all_goals (with_reducible rfl))
              change wpAnyH _ _ _ _ _ _ _ (Act.put _ (some 130) _) _
              simp only [Act.put, List.setIfInBounds_toArray, List.set_cons_zero, List.set_cons_succ]
              refine wpAnyH_take (i := 27) (v := ?v27) rfl (by kernel_rfl) (by kernel_rfl) (by kernel_rfl) (fun _ _ _ h => h) (Or.inl ⟨by rfl, ?hy27⟩) hHeld ?rest27
              case hy27 => (intro W hSw; (try dsimp only at hSw); go_simp; all_goals (with_reducible rfl))
              change wpAnyH _ _ _ _ _ _ _ (Act.put _ (some 131) _) _
              simp only [Act.put, List.setIfInBounds_toArray, List.set_cons_zero, List.set_cons_succ]
              refine wpAnyH_take (i := 28) (v := ?v28) rfl (by kernel_rfl) (by kernel_rfl) (by kernel_rfl) (fun _ _ _ h => h) (Or.inl ⟨by rfl, ?hy28⟩) hHeld ?rest28
              case hy28 => (intro W hSw; (try dsimp only at hSw); go_simp; all_goals (with_reducible rfl))
              change wpAnyH _ _ _ _ _ _ _ (Act.put _ (some 132) _) _
              simp only [Act.put, List.setIfInBounds_toArray, List.set_cons_zero, List.set_cons_succ]
              refine wpAnyH_take (i := 29) (v := ?v29) rfl (by kernel_rfl) (by kernel_rfl) (by kernel_rfl) (fun _ _ _ h => h) (Or.inl ⟨by rfl, ?hy29⟩) hHeld ?rest29
              case hy29 => (intro W hSw; (try dsimp only at hSw); go_simp; all_goals (with_reducible rfl))
              change wpAnyH _ _ _ _ _ _ _ (Act.put _ (some 133) _) _
              simp only [Act.put, List.setIfInBounds_toArray, List.set_cons_zero, List.set_cons_succ]
              refine wpAnyH_take (i := 30) (v := ?v30) rfl (by kernel_rfl) (by kernel_rfl) (by kernel_rfl) (fun _ _ _ h => h) (Or.inl ⟨by rfl, ?hy30⟩) hHeld ?rest30
              case hy30 => (intro W hSw; (try dsimp only at hSw); go_simp; all_goals (with_reducible rfl))
              change wpAnyH _ _ _ _ _ _ _ (Act.put _ (some 134) _) _
              simp only [Act.put, List.setIfInBounds_toArray, List.set_cons_zero, List.set_cons_succ]
              refine wpAnyH_take (i := 31) (v := ?v31) rfl (by kernel_rfl) (by kernel_rfl) (by kernel_rfl) (fun _ _ _ h => h) (Or.inl ⟨by rfl, ?hy31⟩) hHeld ?rest31
              case hy31 => (intro W hSw; (try dsimp only at hSw); go_simp; all_goals (with_reducible rfl))
              change wpAnyH _ _ _ _ _ _ _ (Act.put _ (some 4) _) _
              simp only [Act.put, List.setIfInBounds_toArray, List.set_cons_zero, List.set_cons_succ]
              refine wpAnyH_done (by kernel_rfl) ?_ _
              refine NoPanic.normal ?_
              go_wp2
              go_ret
              exact ⟨rfl, F15.out⟩
end Go.Proofs.Ytkmgpapopgeldaa
