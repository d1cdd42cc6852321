/-
  The law InflateRuns: its walk.
-/
import Derived.Test.YtleeaofofofgmaaDoorUe
namespace Go.Proofs.YtleeaofofofgmaaDoor
open Go.RowKit

theorem pk_new {w : World} : Pk (w.alloc (.cells #[.slice none 0 0, .bool false] 43)) w.heap.size none [] false :=
  ⟨⟨.slice none 0 0, heap_alloc_at rfl, ⟨rfl, Or.inl ⟨rfl, rfl⟩⟩, rfl⟩, fun k hk => by cases hk⟩

theorem lies_at {w : World} {a : Option Addr} {n c : Nat} {bs : List Nat} (h : Lies w (.slice a n c) bs) (hn : n = bs.length) {i : Nat} (hi : i < n) : ∃ ad, a = some ad ∧ w.cell? (ad.add i) = some (.int .u8 ((bs.getD i 0 : Nat) : Int)) := by
  rcases h with ⟨h1, rfl⟩ | ⟨ad, c', h1, h2⟩
  · simp at hn; omega
  · cases h1
    refine ⟨ad, rfl, h2 i _ ?_⟩
    have : i < bs.length := by omega
    simp [cellsOf, List.getElem?_map, List.getElem?_eq_getElem this]

theorem getD_lt {bs : List Nat} (h : ∀ b ∈ bs, b < 256) (i : Nat) : bs.getD i 0 < 256 := by
  rw [List.getD_eq_getElem?_getD]
  cases hk : bs[i]? with
  | none => simp
  | some x => exact h x (List.mem_of_getElem? hk)

set_option maxHeartbeats 3200000 in
set_option maxRecDepth 100000 in
theorem runs_c (a : Option Addr) (n c : Nat) (bs : List Nat) (w : World) (hn : n = bs.length) (h : Lies w (.slice a n c) bs) (hlt : ∀ b ∈ bs, b < 256) (back : Nat) (hback : back < 256)
    (ta : Option Addr) (tn tc : Nat) (ts : List Nat) (htn : tn = ts.length) (ht : Lies w (.slice ta tn tc) ts) (htlt : ∀ b ∈ ts, b < 256) (hg : Gw w) :
    Calls Tryd.prog 6 #[.slice a n c, .int .u8 (back : Int), .slice ta tn tc] w fun e w' => e = .returned (.bool true) ∧ Fr (fun _ => False) w w' := by
  have HG := hide hg
  have HL := hide h
  have HT := hide ht
  have Hlt := hide hlt
  have Htlt := hide htlt
  have Hn := hide hn
  have Htn := hide htn
  clear hg h hlt hn ht htlt htn
  go_enter Tryd.func6, Tryd.ntmps6
  go_wp2_with fail
  refine (awake_c w HG.out).mono ?_
  rintro e w0 ⟨rfl, hF0⟩
  have HG0 := hide (HG.out.fr hF0)
  have HF0 := hide hF0
  clear hF0
  by_cases hbig : n < 1 ∨ 200 < n ∨ 20 < tn
  · rcases (show n < 1 ∨ (1 ≤ n ∧ 200 < n) ∨ (1 ≤ n ∧ n ≤ 200 ∧ 20 < tn) by omega) with hb | ⟨hb, hb'⟩ | ⟨hb, hb', hb''⟩
    · have h1 : (n : Int) < 1 := by omega
      go_wp2
      go_ret
      exact ⟨rfl, HF0.out⟩
    · have h1 : ¬ (n : Int) < 1 := by omega
      have h2 : (200 : Int) < n := by omega
      go_wp2
      go_ret
      exact ⟨rfl, HF0.out⟩
    · have h1 : ¬ (n : Int) < 1 := by omega
      have h2 : ¬ (200 : Int) < n := by omega
      have h3 : (20 : Int) < tn := by omega
      go_wp2
      go_ret
      exact ⟨rfl, HF0.out⟩
  have h1 : ¬ (n : Int) < 1 := by omega
  have h2 : ¬ (200 : Int) < n := by omega
  have h3 : ¬ (20 : Int) < tn := by omega
  obtain ⟨w1, hw1⟩ : ∃ w1, w1 = w0.alloc (.cells #[.slice none 0 0, .bool false] 43) := ⟨_, rfl⟩
  have hP1 : Pk w1 w0.heap.size none [] false := by rw [hw1]; exact pk_new
  have hF1 : Fr (fun _ => False) w0 w1 := by rw [hw1]; exact Fr.of_alloc _ _
  obtain ⟨K, hK⟩ : ∃ K, K = w0.heap.size := ⟨_, rfl⟩
  have HK := hide hK
  have HP1 := hide hP1
  have HF1 := hide hF1
  have Hw1 := hide hw1
  clear hP1 hF1 hw1 hK
  go_wp2_with fail
  rw [← Hw1.out, ← HK.out]
  refine (calls_args (pk_put_low K none [] 3 3 w1 (by rw [HK.out]; exact HP1.out) (by simp) (by omega) (by simp)) (by rfl)).mono ?_
  rintro e w2 ⟨rfl, g2, bl2, hP2, hS2, hF2, hG2⟩
  have hb2 : bt bl2 = ⟨3, 3⟩ := by
    rw [bt_put hS2]
    rfl
  have hF2w : Fr (fun _ => False) w0 w2 := fr_pk HF1.out (by rw [HK.out]; exact Nat.le_refl _) (fun k hk => by cases hk) hF2
  have hg2 : ∀ k, g2 = some k → w0.heap.size ≤ k := by
    intro k hk
    rcases hG2 with e | ⟨k', e, hk'⟩
    · rw [e] at hk; cases hk
    · rw [e] at hk; cases hk; exact Nat.le_trans HF1.out.size hk'
  have HP2 := hide hP2
  have HS2 := hide hS2.2.1
  have HB2 := hide hb2
  have HF2 := hide hF2w
  have Hg2 := hide hg2
  clear hP2 hS2 hF2 hG2 hb2 hF2w hg2
  have O0 : Hid (OwnB (w2.alloc (.cells #[] 5)) w0.heap.size (.slice (some ⟨w2.heap.size, 0, none⟩) 0 0) []) := World.ownsRow_made _ #[] 0 HF2.out.size (by unfold maxLen; omega) rfl
  have FA : Hid (Fr (fun _ => False) w2 (w2.alloc (.cells #[] 5))) := Fr.of_alloc _ _
  have T1 : Hid (Lies (w2.alloc (.cells #[] 5)) (.slice a n c) bs) := lies_fr HL.out (HF0.out.join (HF2.out.join FA.out))
  have q1 : Hid (([] : List Nat).length + bs.length ≤ 2147483648) := by show _ ≤ _; have := Hn.out; simp; omega
  have hsize0 : w0.heap.size ≤ (w2.alloc (.cells #[] 5)).heap.size := Nat.le_trans HF2.out.size FA.out.size
  go_wp2_with (at_builtin; go_must (refine wpList_app rfl (.tmp 40) (.tmp 41) rfl w0.heap.size (.slice (some ⟨w2.heap.size, 0, none⟩) 0 0) [] rfl O0.out (.slice a n c) bs rfl T1.out q1.out hsize0 ?_); intro a3 c3 w3 hO3 hF3 hA3)
  have e0 : ([] : List Nat).length + bs.length = bs.length := Nat.zero_add _
  rw [e0] at hO3 hA3
  have hR0 : Rst w0 (w2.alloc (.cells #[] 5)) K g2 bl2 (.slice (some ⟨w2.heap.size, 0, none⟩) 0 0) [] [] := by
    have hKl := HP2.out.blt
    refine ⟨HP2.out.keep FA.out (fun e => e) (fun _ _ e => e), HS2.out, O0.out, ?_, ?_, by rw [HK.out]; exact Nat.le_refl _, Hg2.out, HF2.out.join FA.out, ?_⟩
    · intro e
      have : w2.heap.size = K := Option.some.inj e
      omega
    · intro k hk e
      have e' : w2.heap.size = k := Option.some.inj e
      have := HP2.out.lts _ hk
      omega
    · have : bl2.length = 3 := congrArg Bt.p HB2.out
      rw [HB2.out, this]
      exact head_fix
  have hR3 := hR0.grew (Fr.refl _ _) hO3 hF3 hA3
  rw [List.nil_append] at hR3
  have HR3 := hide hR3
  have hl2 : bl2.length = 3 := congrArg Bt.p HB2.out
  have Hl2 := hide hl2
  clear hR0 hR3 hO3 hF3 hA3 e0 hl2
  go_loopw [9] (fun ti wr => ∃ (i : Nat) (g : Option Nat) (bl : List Nat), ti = .int .i64 i ∧ i ≤ n ∧ bl.length ≤ 3 + 9 * i ∧ Rst w0 wr K g bl (.slice a3 bs.length c3) bs (bs.take i)) (fun ti _ => n - (intOf ti).toNat)
  case atStart => exact ⟨0, g2, bl2, rfl, by omega, by have := Hl2.out; omega, by simpa using HR3.out⟩
  case round =>
    obtain ⟨i, g, bl, rfl, hi, hbl, hR⟩ := hrel
    by_cases hlt : i < n
    · have hlti : (i : Int) < (n : Int) := by omega
      obtain ⟨ad, rfl, hc0⟩ := lies_at HL.out Hn.out hlt
      have hc : wr.cell? (ad.add i) = some (.int .u8 ((bs.getD i 0 : Nat) : Int)) := keepc (HF0.out.join hR.fr) hc0 (fun e => e)
      obtain ⟨s, hs⟩ : ∃ s, s = bs.getD i 0 := ⟨_, rfl⟩
      have hs256 : s < 256 := by rw [hs]; exact getD_lt Hlt.out i
      rw [← hs] at hc
      have Hs := hide hs
      have HR := hide hR
      have Hbl := hide hbl
      clear hs hR hc0 hbl
      go_wp2_with fail
      refine (calls_args (lfix_c K g bl s wr HR.out.pk HR.out.bits (by omega) (by have := Hbl.out; omega)) (by rfl)).mono ?_
      rintro e w4 ⟨rfl, g4, bl4, hW4⟩
      have hl4 : bl4.length ≤ 3 + 9 * (i + 1) := by
        have h1 : bl4.length = bl.length + fixN s := hW4.len
        have h2 : fixN s ≤ 9 := by unfold fixN; repeat' split
                                   all_goals omega
        have := Hbl.out
        omega
      have hR4 := HR.out.wrote hW4.wrt (lead_lit hs256 HR.out.bits HR.out.leads hW4.done)
      have HR4 := hide hR4
      have Hl4 := hide hl4
      clear hW4 hR4 hl4
      go_wp2_with fail
      go_roundw
      case rel =>
        refine ⟨i + 1, g4, bl4, by go_num, by omega, Hl4.out, ?_⟩
        have e1 : bs.take (i + 1) = bs.take i ++ [s] := by
          have hi' : i < bs.length := by have := Hn.out; omega
          rw [List.take_succ_eq_append_getElem hi', Hs.out]
          simp [List.getElem?_eq_getElem hi']
        rw [e1]
        exact HR4.out
      case measure => simp [intOf]; omega
    · obtain rfl : i = n := by omega
      rw [Hn.out, List.take_length] at hR
      have HR := hide hR
      have Hbl : Hid (bl.length ≤ 1803) := by show _ ≤ _; omega
      clear hR hbl
      obtain ⟨d, hd⟩ : ∃ d, d = 1 + back % 4 := ⟨_, rfl⟩
      have hdi : 1 + (back : Int) % 4 = (d : Int) := by omega
      have hd4 : 1 ≤ d ∧ d ≤ 4 := by omega
      clear hd
      go_wp2_with fail
      go_loopw [8, 10, 11, 12, 13, 14] (fun tw ti _ _ _ _ wr => ∃ (i : Nat) (g : Option Nat) (bl : List Nat) (aw : Option Addr) (cw : Nat) (X : List Nat), tw = .slice aw X.length cw ∧ ti = .int .i64 i ∧ i ≤ tn ∧ bl.length ≤ 1803 + 12 * i ∧ X.length ≤ 200 + 10 * i ∧ bs.length ≤ X.length ∧ (bs.length < d → X = bs) ∧ (∀ b ∈ X, b < 256) ∧ Rst w0 wr K g bl (.slice aw X.length cw) X X) (fun _ ti _ _ _ _ _ => tn - (intOf ti).toNat)
      case atStart => exact ⟨0, g, bl, a3, c3, bs, rfl, rfl, Nat.zero_le _, by have := Hbl.out; omega, by have := Hn.out; omega, Nat.le_refl _, fun _ => rfl, Hlt.out, HR.out⟩
      case round =>
        clear HR Hbl
        obtain ⟨j, g5, bl5, aw, cw, X, rfl, rfl, hj, hbl5, hX1, hX2, hX3, hX4, hR5⟩ := hrel
        by_cases hlt : j < tn
        · have hlti : (j : Int) < (tn : Int) := by omega
          obtain ⟨ad, rfl, hc0⟩ := lies_at HT.out Htn.out hlt
          have hc : wr.cell? (ad.add j) = some (.int .u8 ((ts.getD j 0 : Nat) : Int)) := keepc (HF0.out.join hR5.fr) hc0 (fun e => e)
          obtain ⟨s, hs⟩ : ∃ s, s = ts.getD j 0 := ⟨_, rfl⟩
          have hs256 : s < 256 := by rw [hs]; exact getD_lt Htlt.out j
          rw [← hs] at hc
          obtain ⟨m, hm⟩ : ∃ m, m = 3 + s % 8 := ⟨_, rfl⟩
          have hmi : 3 + (s : Int) % 8 = (m : Int) := by omega
          have hm10 : 3 ≤ m ∧ m ≤ 10 := by omega
          obtain ⟨sy, hsy⟩ : ∃ sy, sy = 254 + m := ⟨_, rfl⟩
          have hsyi : 254 + (m : Int) = (sy : Int) := by omega
          have HR5 := hide hR5
          have Hbl5 : Hid (bl5.length ≤ 2100) := by show _ ≤ _; omega
          have Hsy := hide hsy
          have Hb5 := hide hbl5
          have HX1 := hide hX1
          have HX2 := hide hX2
          have HX3 := hide hX3
          have HX4 := hide hX4
          clear hs hm hc0 hR5 hsy hbl5 hX1 hX2 hX3 hX4
          go_wp2_with fail
          refine (calls_args (lfix_c K g5 bl5 sy wr HR5.out.pk HR5.out.bits (by have := Hsy.out; omega) (by have := Hbl5.out; omega)) (by rfl)).mono ?_
          rintro e w6 ⟨rfl, g6, bl6, hW6⟩
          have HW6 := hide hW6
          have Hl6 : Hid (bl6.length = bl5.length + 7) := by
            show _ = _
            rw [hW6.len, show fixN sy = 7 by unfold fixN; rw [Hsy.out, if_neg (by omega), if_neg (by omega), if_pos (by omega)]]
          obtain ⟨d1, hd1⟩ : ∃ d1, d1 = d - 1 := ⟨_, rfl⟩
          have hd1i : (d : Int) - 1 = (d1 : Int) := by omega
          have hd13 : d1 < 4 := by omega
          have Hd1 := hide hd1
          clear hW6 hd1
          go_wp2_with fail
          go_loopw [13] (fun t wr => ∃ (q : Nat) (z : Int) (g7 : Option Nat) (bl7 : List Nat), t = .int .i64 z ∧ z = ((5 : Nat) : Int) - 1 - q ∧ q ≤ 5 ∧ Wst w6 wr K g6 bl6 d1 5 q g7 bl7) (fun t _ => (intOf t + 1).toNat)
          case atStart => exact ⟨0, 4, g6, bl6, rfl, by decide, by omega, Wst.start d1 5 HW6.out.pk HW6.out.bits⟩
          case round =>
            obtain ⟨q, z, g7, bl7, rfl, hz, hq, hS⟩ := hrel
            by_cases hlt5 : q < 5
            · obtain ⟨t, ht⟩ : ∃ t : Nat, t = 5 - 1 - q := ⟨_, rfl⟩
              obtain rfl : z = (t : Int) := by omega
              have ht24 : (t : Int) ≤ 24 := by omega
              obtain ⟨b, hb⟩ : ∃ b : Nat, b = d1 / 2 ^ t % 2 := ⟨_, rfl⟩
              have e1 := low_nat d1 t (by omega) 1
              rw [Nat.pow_one, ← hb] at e1
              have hb1 := put_bit (d1 : Int) t (by omega)
              have hb2 := put_bit_w (d1 : Int) t (by omega)
              rw [e1] at hb1 hb2
              have HS := hide hS
              have Hb := hide hb
              have Hz := hide hz
              have Ht := hide ht
              have hl1 := hS.len
              have Hl : Hid (bl7.length ≤ 100000) := by show _ ≤ _; have := Hl6.out; have := Hbl5.out; omega
              clear hS hb e1 hz ht hl1
              go_wp2_with fail
              refine (calls_args (pk_put_low K g7 bl7 1 (b : Int) _ HS.out.pk HS.out.bits (by omega) Hl.out) (by rfl)).mono ?_
              rintro e w8 ⟨rfl, g8, bl8, hP, hPS, hF, hG⟩
              have hst := HS.out.step (b := b) hlt5 (by rw [Hb.out, Ht.out]) hP hPS hF hG
              have Hst := hide hst
              clear hP hPS hF hG hst
              go_wp2_with fail
              go_roundw
              case rel => exact ⟨q + 1, (t : Int) - 1, g8, bl8, rfl, by have := Hz.out; omega, by omega, Hst.out⟩
              case measure => exact neg_meas 5 q (t : Int) Hz.out hlt5
            · obtain rfl : q = 5 := by omega
              obtain rfl : z = -1 := by omega
              have hWd := hS.done
              rw [Hd1.out] at hWd
              have hW := HW6.out.wrt.trans hS.wrt
              have hl7 : bl7.length = bl5.length + 12 := by have := hS.len; have := Hl6.out; omega
              have HWd := hide hWd
              have HW := hide hW
              have Hl7 := hide hl7
              clear hS hWd hW hl7 hz hq hlt5
              by_cases hdX : d ≤ bs.length
              · have hdn : ¬ (i : Int) < (d : Int) := by have := Hn.out; omega
                have hlead := lead_row hm10 hd4 (Nat.le_trans hdX HX2.out) HR5.out.bits HW6.out.bits HR5.out.leads (by have := HW6.out.done; rw [Hsy.out] at this; exact this) HWd.out
                have hR7 := HR5.out.wrote HW.out hlead
                have HR7 := hide hR7
                clear hlead hR7
                go_wp2_with fail
                go_loopw [8, 14] (fun tw tk wr => ∃ (k : Nat) (aw' : Option Addr) (cw' : Nat) (Z : List Nat), tw = .slice aw' Z.length cw' ∧ tk = .int .i64 k ∧ k ≤ m ∧ Z = grow d k X ∧ (∀ b ∈ Z, b < 256) ∧ Rst w0 wr K g7 bl7 (.slice aw' Z.length cw') Z (grow d m X)) (fun _ tk _ => m - (intOf tk).toNat)
                case atStart => exact ⟨0, aw, cw, X, rfl, rfl, Nat.zero_le _, rfl, HX4.out, HR7.out⟩
                case round =>
                  obtain ⟨k, aw', cw', Z, rfl, rfl, hk, hZ, hZb, hR8⟩ := hrel
                  have hZl : Z.length = X.length + k := by rw [hZ, grow_len]
                  by_cases hkm : k < m
                  · have hki : (k : Int) < (m : Int) := by omega
                    have hdz : (d : Int) ≤ (Z.length : Int) := by have := HX2.out; omega
                    obtain ⟨D, rfl⟩ : ∃ D, aw' = some ⟨D, 0, none⟩ := by
                      rcases hR8.own.2 with ⟨_, e⟩ | ⟨D, cap, cur, e, _⟩
                      · have := HX2.out; omega
                      · cases e; exact ⟨D, rfl⟩
                    obtain ⟨p, hp⟩ : ∃ p, p = Z.length - d := ⟨_, rfl⟩
                    have hpi : (Z.length : Int) - (d : Int) = (p : Int) := by omega
                    have hpl : (p : Int) < (Z.length : Int) := by omega
                    have hp5 : (p : Int) ≤ 500 := by have := HX1.out; omega
                    obtain ⟨v, hv⟩ : ∃ v, v = Z.getD p 0 := ⟨_, rfl⟩
                    have hv256 : v < 256 := by rw [hv]; exact getD_lt hZb p
                    have hcell : wr.cell? ⟨D, p, none⟩ = some (.int .u8 (v : Int)) := by
                      have hpz : p < Z.length := by omega
                      have := World.ownsRow.cells hR8.own (g := D) rfl p (.int .u8 (v : Int)) (by rw [hv]; simp [cellsOf, List.getElem?_map, List.getElem?_eq_getElem hpz])
                      rw [add_none, Nat.zero_add] at this
                      exact this
                    have HR8 := hide hR8
                    have HZ := hide hZ
                    have HZb := hide hZb
                    have Hv := hide hv
                    have Hp := hide hp
                    have Hzl : Hid (Z.length ≤ 500) := by show _ ≤ _; have := HX1.out; omega
                    have FB : Hid (Fr (fun _ => False) wr (wr.alloc (.cells #[.int .u8 (v : Int)] 5))) := Fr.of_alloc _ _
                    have HO8 : Hid (OwnB (wr.alloc (.cells #[.int .u8 (v : Int)] 5)) w0.heap.size (.slice (some ⟨D, 0, none⟩) Z.length cw') Z) := ownsRow_fr hR8.own fun k hk => FB.out.block k (World.ownsRow.lt hR8.own k hk).2 (fun e => e)
                    have L8 : Hid (Lies (wr.alloc (.cells #[.int .u8 (v : Int)] 5)) (.slice (some ⟨wr.heap.size, 0, none⟩) 1 1) [v]) := lies_lit wr [v] 1
                    have hz8 : w0.heap.size ≤ (wr.alloc (.cells #[.int .u8 (v : Int)] 5)).heap.size := Nat.le_trans hR8.fr.size FB.out.size
                    have q8 : Hid (Z.length + [v].length ≤ 2147483648) := by show _ ≤ _; have := Hzl.out; simp; omega
                    clear hR8 hZ hZb hv hp hZl
                    go_wp2_with (at_builtin; go_must (refine wpList_app rfl (.tmp 100) (.tmp 108) rfl w0.heap.size (.slice (some ⟨D, 0, none⟩) Z.length cw') Z rfl HO8.out (.slice (some ⟨wr.heap.size, 0, none⟩) 1 1) [v] rfl L8.out q8.out hz8 ?_); intro a9 c9 w9 hO9 hF9 hA9; have HO9 := hide hO9; have HF9 := hide hF9; have HA9 := hide hA9; clear hO9 hF9 hA9)
                    go_roundw
                    case rel =>
                      refine ⟨k + 1, a9, c9, Z ++ [v], ?_, by go_num, by omega, ?_, ?_, ?_⟩
                      · simp
                      · rw [grow_succ, ← HZ.out, Hv.out, Hp.out]
                      · intro b hb
                        rcases List.mem_append.1 hb with hb | hb
                        · exact HZb.out b hb
                        · simp at hb; omega
                      · have := HR8.out.grew FB.out HO9.out HF9.out HA9.out
                        simpa using this
                    case measure => simp [intOf]; omega
                  · obtain rfl : k = m := by omega
                    have HR8 := hide hR8
                    have HZb := hide hZb
                    have HZ := hide hZ
                    have HZl := hide hZl
                    clear hR8 hZ hZb hZl
                    go_wp2_with fail
                    go_roundw
                    case rel =>
                      refine ⟨j + 1, g7, bl7, aw', cw', Z, rfl, by go_num, by omega, by have := Hl7.out; have := Hb5.out; omega, by have := HX1.out; have := HZl.out; omega, by have := HX2.out; have := HZl.out; omega, fun h => by omega, HZb.out, ?_⟩
                      have := HR8.out
                      rw [← HZ.out] at this
                      exact this
                    case measure => simp [intOf]; omega
              · have hdn : (i : Int) < (d : Int) := by have := Hn.out; omega
                have hXe : X = bs := HX3.out (by omega)
                have hdz : ¬ (d : Int) ≤ (X.length : Int) := by rw [hXe]; omega
                have HXe := hide hXe
                clear hXe
                go_wp2_with fail
                go_loopw [8, 14] (fun tw tk wz => tw = .slice aw X.length cw ∧ tk = .int .i64 0 ∧ wz = wr) (fun _ tk _ => 0)
                case atStart => exact ⟨rfl, rfl, rfl⟩
                case round =>
                  obtain ⟨rfl, rfl, rfl⟩ := hrel
                  have hbd := HW.out.pk
                  have hl7 : bl7.length ≤ 100000 := by have := Hl7.out; have := Hbl5.out; omega
                  have Hl7' := hide hl7
                  clear hbd hl7
                  go_wp2_with fail
                  refine (calls_args (pk_out_low K g7 bl7 _ HW.out.pk HW.out.bits Hl7'.out) (by rfl)).mono ?_
                  rintro e w9 ⟨ob, c9, rfl, hL9, hO9, hF9⟩
                  have hA := bad_row hm10 hd4 (by rw [HXe.out]; omega) HR5.out.bits HW6.out.bits HW.out.bits HR5.out.leads (by have := HW6.out.done; rw [Hsy.out] at this; exact this) HWd.out hO9
                  have hFw : Fr (fun _ => False) w w9 := HF0.out.join ((fr_pk HR5.out.fr HR5.out.ko HR5.out.go HW.out.fr).join hF9)
                  have hlo : ob.length ≤ 100000 := by rw [hO9.len]; have := Hl7'.out; omega
                  have HL9 := hide hL9
                  have HFw := hide hFw
                  have HA := hide hA
                  have Hob := hide hO9.bytes
                  have Hlo := hide hlo
                  clear hL9 hO9 hF9 hA hFw hlo
                  go_wp2_with fail
                  refine (calls_args (all_at _ ob 65536 w9 HL9.out Hob.out (by have := Hlo.out; omega) (by omega) (HG.out.fr HFw.out)) (by rfl)).mono ?_
                  rintro e w10 ⟨r10, a10, c10, hA10, rfl, _, hF10⟩
                  obtain rfl := hA10.det HA.out
                  simp only [outOf, usedOf, errOf, List.length_nil]
                  have HF10 := hide (HFw.out.join hF10)
                  clear hA10 hF10
                  go_wp2
                  go_ret
                  exact ⟨rfl, HF10.out⟩
        · obtain rfl : j = tn := by omega
          have HR5 := hide hR5
          have Hbl5 : Hid (bl5.length ≤ 2100) := by show _ ≤ _; omega
          have HX1 := hide hX1
          have HX4 := hide hX4
          clear hR5 hX1 hX2 hX3 hX4 hbl5
          go_wp2_with fail
          refine (calls_args (lfix_c K g5 bl5 256 wr HR5.out.pk HR5.out.bits (by omega) (by have := Hbl5.out; omega)) (by rfl)).mono ?_
          rintro e w6 ⟨rfl, g6, bl6, hW6⟩
          have Hl6 : Hid (bl6.length ≤ 100000) := by
            show _ ≤ _
            rw [hW6.len, show fixN 256 = 7 from rfl]
            have := Hbl5.out
            omega
          have HW6 := hide hW6
          clear hW6
          go_wp2_with fail
          refine (calls_args (pk_out_low K g6 bl6 _ HW6.out.pk HW6.out.bits Hl6.out) (by rfl)).mono ?_
          rintro e w9 ⟨ob, c9, rfl, hL9, hO9, hF9⟩
          obtain ⟨pe, hA⟩ := good_end (by have := HX1.out; omega) HR5.out.bits HW6.out.bits HR5.out.leads HW6.out.done hO9
          have hF6 : Fr (fun i => i = K ∨ g5 = some i) wr w9 := (HW6.out.fr.trans hF9).mono fun i _ e => e.elim id (fun e => e.elim)
          have hFw : Fr (fun _ => False) w w9 := HF0.out.join (fr_pk HR5.out.fr HR5.out.ko HR5.out.go hF6)
          have hlo : ob.length ≤ 100000 := by rw [hO9.len]; have := Hl6.out; omega
          have hLX : Lies w9 (.slice aw X.length cw) X := lies_ownB (base := w0.heap.size) (ownsRow_fr HR5.out.own fun k hk => hF6.block k (World.ownsRow.lt HR5.out.own k hk).2 (fun e => by
            rcases e with e | e
            · exact HR5.out.apK (by rw [hk, e])
            · exact HR5.out.apg k e hk))
          have HLX := hide hLX
          have HL9 := hide hL9
          have HFw := hide hFw
          have HA := hide hA
          have Hob := hide hO9.bytes
          have Hlo := hide hlo
          clear hL9 hO9 hF9 hA hFw hlo hLX hF6
          go_wp2_with fail
          refine (calls_args (all_at _ ob 65536 w9 HL9.out Hob.out (by have := Hlo.out; omega) (by omega) (HG.out.fr HFw.out)) (by rfl)).mono ?_
          rintro e w10 ⟨r10, a10, c10, hA10, rfl, hL10, hF10⟩
          obtain rfl := hA10.det HA.out
          simp only [outOf, usedOf, errOf] at hL10 ⊢
          have s1 := str_lies hL10 HX4.out
          have s2 := str_lies (lies_fr HLX.out hF10) HX4.out
          have HF10 := hide (HFw.out.join hF10)
          clear hA10 hF10 hL10
          go_wp2
          go_ret
          exact ⟨rfl, HF10.out⟩
end Go.Proofs.YtleeaofofofgmaaDoor
