/-
  lzw: LzwClears.
-/
import Derived.Test.YtdbgolklgiadeaaYn
import Derived.Test.YtdbgolklgiadeaaYy
namespace Go.Proofs.Ytdbgolklgiadeaa
open Go.RowKit

theorem and_u8c (v k : Nat) (hv : v < 256) (hk : 2 ≤ k ∧ k ≤ 8) : bits .and .u8 (v : Int) ((2 ^ k - 1 : Nat) : Int) = ((v % 2 ^ k : Nat) : Int) := by
  have h1 : ∀ i : Fin 7, ∀ j : Fin 256, bits .and .u8 ((j.1 : Nat) : Int) ((2 ^ (i.1 + 2) - 1 : Nat) : Int) = ((j.1 % 2 ^ (i.1 + 2) : Nat) : Int) := by decide +kernel
  have := h1 ⟨k - 2, by omega⟩ ⟨v, hv⟩
  simp only [show k - 2 + 2 = k by omega] at this
  exact this

theorem cell_add0 {w : World} {ad : Addr} {i : Nat} {v : Value} (h : w.cell? (ad.add i) = some v) (hi : i = 0) : w.cell? ad = some v := by
  subst hi
  have e : ad.add 0 = ad := by simp [Addr.add]
  rw [e] at h
  exact h

set_option maxHeartbeats 6400000 in
set_option maxRecDepth 100000 in
theorem clears_law (a : Option Addr) (len cap : Nat) (ls : List (List Nat)) (sz : Nat) (first : Bool) (w : World) (hR : IsRows w a len ls) (hs : sz < 256) : Calls Try.prog 9 #[.slice a len cap, .int .u8 (sz : Int), .bool first] w fun e w' => e = .returned (.bool true) ∧ Fr (fun _ => False) w w' := by
  have q2 : IntKind.i64.wrap (sz : Int) = (sz : Int) := wrap_i64_id _ (by omega) (by omega)
  obtain ⟨z, hz⟩ : ∃ z, z = sz % 7 := ⟨_, rfl⟩
  have hzi : (sz : Int).tmod 7 = (z : Int) := by rw [Int.tmod_eq_emod_of_nonneg (by omega), hz]; simp
  obtain ⟨k, hk⟩ : ∃ k, k = 2 + z := ⟨_, rfl⟩
  have hki : (2 : Int) + (z : Int) = (k : Int) := by omega
  have hk2 : 2 ≤ k ∧ k ≤ 8 := by omega
  have Hk := hide hk2
  have hk8 : k ≤ 8 := hk2.2
  have HR := hide hR
  obtain ⟨P, hP⟩ : ∃ P, P = 2 ^ k := ⟨_, rfl⟩
  have hPi : (2 : Int) ^ k = (P : Int) := by rw [hP]; simp
  have hP1 : 4 ≤ P := by rw [hP]; exact Nat.pow_le_pow_right (n := 2) (by omega) Hk.out.1
  have hP2 : P ≤ 256 := by rw [hP]; exact pow_le k Hk.out.2
  have HP := hide hP
  have hwk : IntKind.u64.wrap (k : Int) = (k : Int) := by show (k : Int) % 18446744073709551616 = k; omega
  clear hz hk hR hP
  go_enter Try.func9, Try.ntmps9
  go_wp2_with fail
  refine (awake_c w).mono ?_
  rintro e w0 ⟨rfl, hF0⟩
  have HF0 := hide hF0
  clear hF0
  by_cases h20 : 20 < len
  · have h20i : (20 : Int) < (len : Int) := by omega
    go_wp2_with fail
    go_ret
    exact ⟨rfl, HF0.out⟩
  have h20i : ¬ (20 : Int) < (len : Int) := by omega
  have hlen : len ≤ 20 := by omega
  obtain ⟨K, hK⟩ : ∃ K, K = w0.heap.size := ⟨_, rfl⟩
  obtain ⟨w1, hw1⟩ : ∃ w1, w1 = w0.alloc (.cells #[.slice none 0 0, .bool false] 54) := ⟨_, rfl⟩
  have HW1 : Hid (Wc w0 w1 K k none 0 [] [] 0 0) := by
    have hF1 : Fr (fun _ => False) w0 w1 := by rw [hw1]; exact Fr.of_alloc _ _
    refine ⟨⟨none, 0, 0, zinit, ⟨⟨[], ⟨⟨.slice none 0 0, by rw [hw1]; exact heap_alloc_at hK, World.ownsRow_nil _ _ _ _, rfl⟩, fun j e => (by cases e)⟩, fun b hb => (by cases hb), rfl, rfl⟩⟩, fun most _ => Led.init k most, rfl, rfl, ⟨fun _ => rfl, fun _ => rfl⟩, Nat.zero_le _, fun j e => (by cases e)⟩, by rw [← HP.out]; omega, World.ownsRow_nil _ _ _ _, fun e => (by cases e), by omega, ?_, hF1, fun b hb => (by cases hb)⟩
    rw [hw1, hK]
    simp
  have Hw1 := hide hw1
  have HK := hide hK
  clear hw1 hK h20
  go_wp2_with fail
  rw [← Hw1.out, ← HK.out]
  clear h20i
  go_loopw [10, 11, 12, 13] (fun v10 v11 _ _ wr => ∃ (i many N : Nat) (oa : Option Addr) (oc : Nat) (out : List Nat) (L : Nat), v11 = .int .i64 (i : Int) ∧ i ≤ len ∧ v10 = .slice oa L oc ∧ Hid (L = out.length) ∧ L ≤ 30 * i ∧ N ≤ 31 * i ∧ Hid (i = 0 → many = 0) ∧ Hid (Wc w0 wr K k oa oc out out many N)) (fun _ v11 _ _ _ => len - (intOf v11).toNat)
  case atStart => exact ⟨0, 0, 0, none, 0, [], 0, rfl, Nat.zero_le _, rfl, rfl, Nat.zero_le _, Nat.zero_le _, fun _ => rfl, HW1.out⟩
  case round =>
    obtain ⟨i, many, N, oa, oc, out, L, rfl, hi, rfl, HLo, hLb, hNb, Hz, HW⟩ := hrel
    by_cases hlt : i < len
    · have hlti : (i : Int) < (len : Int) := by omega
      obtain ⟨ad, a', c', hae, hc, hl⟩ := (HR.out.fr (HF0.out.join HW.out.fr)).lies i hlt
      subst hae
      obtain ⟨X, hX⟩ : ∃ X, X = ls.getD i [] := ⟨_, rfl⟩
      have HXb : Hid (∀ b ∈ X, b < 256) := fun b hb => by
        have hil : i < ls.length := by have := HR.out.n; omega
        exact HR.out.bytes _ (by rw [hX, List.getD_eq_getElem?_getD, List.getElem?_eq_getElem hil]; exact List.getElem_mem hil) b hb
      rw [← hX] at hc hl
      obtain ⟨n', hn⟩ : ∃ n', n' = X.length := ⟨_, rfl⟩
      rw [← hn] at hc hl
      have HX := hide hX
      have HN := hide hn
      clear hX hn hl
      by_cases h30 : 30 < n'
      · have h30i : (30 : Int) < (n' : Int) := by omega
        go_wp2_with fail
        go_ret
        exact ⟨rfl, HF0.out.join HW.out.fr⟩
      · have h30i : ¬ (30 : Int) < (n' : Int) := by omega
        by_cases hi0 : 0 < i
        · have hi0i : (0 : Int) < (i : Int) := by omega
          have HC := hide (HW.out.clear Hk.out (by omega))
          rw [← HP.out] at HC
          go_wp2_with fail
          refine (calls_args HC.out (by rfl)).mono ?_
          rintro e w3 ⟨rfl, hw3⟩
          have HW3 : Hid (Wc w0 w3 K k oa oc out out 0 (N + 1)) := hw3
          obtain ⟨N0, hN0⟩ : ∃ N0, N0 = N + 1 := ⟨_, rfl⟩
          rw [← hN0] at HW3
          have hN0b : N0 ≤ 31 * i + 1 := by omega
          clear hw3 HC hN0 HW
          go_wp2_with fail
          have hn2 : ¬ 30 < n' := h30
          have hn' : n' ≤ 30 := by omega
          go_loopw [10, 12, 13] (fun v10 v12 _ wx => ∃ (j : Nat) (pa : Option Addr) (pc : Nat) (o2 : List Nat) (L2 : Nat), v12 = .int .i64 (j : Int) ∧ j ≤ n' ∧ j + 2 ≤ P ∧ v10 = .slice pa L2 pc ∧ Hid (L2 = o2.length) ∧ L2 ≤ 30 * i + j ∧ Hid (Wc w0 wx K k pa pc o2 o2 j (N0 + j))) (fun _ v12 _ _ => n' - (intOf v12).toNat)
          case atStart => exact ⟨0, oa, oc, out, L, rfl, Nat.zero_le _, by omega, rfl, HLo, by omega, HW3.out⟩
          case round =>
            obtain ⟨j, pa, pc, o2, L2, rfl, hjn, hjP, rfl, HL2, hl2, HWj⟩ := hrel
            obtain ⟨ad1, a1, c1, hae1, hc1, hl1⟩ := (HR.out.fr (HF0.out.join HWj.out.fr)).lies i hlt
            cases hae1
            rw [← HX.out] at hc1 hl1
            rw [← HN.out] at hc1 hl1
            by_cases hjn2 : j < n'
            · have hj1 : (j : Int) < (n' : Int) := by omega
              by_cases hjP2 : j + 2 < P
              · have hj2 : (j : Int) < (P : Int) - 2 := by omega
                obtain ⟨x, hx⟩ : ∃ x, x = X.getD j 0 := ⟨_, rfl⟩
                have hx8 : x < 256 := by rw [hx]; exact HXb.out _ (getD_mem X j (by rw [← HN.out]; exact hjn2))
                obtain ⟨ad2, hae2, hc2⟩ := (Lz.of hl1 HXb.out).2 j (by rw [← HN.out]; exact hjn2)
                rw [← hx] at hc2
                cases hae2
                obtain ⟨y, hy⟩ : ∃ y, y = x % 2 ^ k := ⟨_, rfl⟩
                have hyk : y < 2 ^ k := by rw [hy]; exact Nat.mod_lt _ (Nat.two_pow_pos _)
                have hy8 : y < 256 := by rw [hy]; exact Nat.lt_of_le_of_lt (Nat.mod_le _ _) hx8
                have hand := and_u8c x k hx8 Hk.out
                rw [← hy, ← HP.out] at hand
                have hand2 : bits .and .u8 (x : Int) ((P : Int) - 1) = (y : Int) := by
                  have h1 : (P : Int) - 1 = ((P - 1 : Nat) : Int) := by omega
                  rw [h1]
                  exact hand
                have qy : IntKind.i64.wrap (y : Int) = (y : Int) := wrap_i64_id _ (by omega) (by omega)
                have HPt := hide (HWj.out.put Hk.out (x := y) (by omega) (by rw [← HP.out]; exact hjP2) hyk)
                clear hx hy hyk hand hl1 HWj
                go_wp2_with fail
                refine (calls_args HPt.out (by rfl)).mono ?_
                rintro e w4 ⟨rfl, hw4⟩
                have HW4 : Hid (Wc w0 (w4.alloc (.cells (cellsOf [y]).toArray 5)) K k pa pc (o2 ++ [y]) o2 (j + 1) (N0 + j + 1)) := hw4.keepF (Fr.of_alloc _ _)
                have HO1 : Hid (OwnB (w4.alloc (.cells (cellsOf [y]).toArray 5)) w0.heap.size (.slice pa L2 pc) o2) := by
                  have h := HW4.out.own
                  rw [← HL2.out] at h
                  exact h
                have HL0 : Hid (Lies (w4.alloc (.cells (cellsOf [y]).toArray 5)) (.slice (some ⟨w4.heap.size, 0, none⟩) 1 1) [y]) := lies_lit w4 [y] 1
                have HS1 : Hid (w0.heap.size ≤ (w4.alloc (.cells (cellsOf [y]).toArray 5)).heap.size) := HW4.out.fr.size
                have HQ1 : Hid (o2.length + [y].length ≤ 2147483648) := by show _ ≤ _; have := HL2.out; simp; omega
                clear hw4 hc1 hc2
                go_wp2_with (at_builtin; go_must (refine wpList_app rfl (.tmp 88) (.tmp 90) rfl w0.heap.size (.slice pa L2 pc) o2 rfl HO1.out (.slice (some ⟨w4.heap.size, 0, none⟩) 1 1) [y] rfl HL0.out HQ1.out HS1.out ?_); intro a5 c5 w5 hO5 hF5 hB5
                             have HW5 : Hid (Wc w0 w5 K k a5 c5 (o2 ++ [y]) (o2 ++ [y]) (j + 1) (N0 + j + 1)) := HW4.out.app hy8 (by rw [List.length_append]; exact hO5) (Nat.le_refl _) (by rw [HL2.out] at hF5; exact hF5) (by rw [HL2.out] at hB5; rw [List.length_append]; exact hB5)
                             clear hO5 hF5 hB5)
                go_roundw
                case rel => exact ⟨j + 1, a5, c5, o2 ++ [y], o2.length + 1, by go_num, by omega, by omega, rfl, by show _ = _; simp, by have := HL2.out; omega, HW5.out⟩
                case measure => simp [intOf]; omega
              · have hj2 : decide ((j : Int) < (P : Int) - 2) = false := decide_eq_false (by omega)
                go_wp2_with fail
                go_roundw
                case rel => exact ⟨i + 1, j, N0 + j, pa, pc, o2, L2, by go_num, by omega, rfl, HL2, by omega, by omega, fun e => by omega, HWj.out⟩
                case measure => simp [intOf]; omega
            · have hj1 : ¬ (j : Int) < (n' : Int) := by omega
              go_wp2_with fail
              go_roundw
              case rel => exact ⟨i + 1, j, N0 + j, pa, pc, o2, L2, by go_num, by omega, rfl, HL2, by omega, by omega, fun e => by omega, HWj.out⟩
              case measure => simp [intOf]; omega
        · have hi0e : i = 0 := by omega
          have Hi0 := hide hi0e
          have hfz : decide ((0 : Int) < (i : Int)) = false := decide_eq_false (by omega)
          have hc0 := cell_add0 hc hi0e
          clear hi0 hi0e
          cases first
          · skip
            have hm0 : many = 0 := Hz.out Hi0.out
            subst hm0
            have HW3 := HW
            obtain ⟨N0, hN0⟩ : ∃ N0, N0 = N := ⟨_, rfl⟩
            rw [← hN0] at HW3
            have hN0b : N0 ≤ 31 * i + 1 := by omega
            clear hN0 HW
            go_wp2_with fail
            have hn2 : ¬ 30 < n' := h30
            have hn' : n' ≤ 30 := by omega
            go_loopw [10, 12, 13] (fun v10 v12 _ wx => ∃ (j : Nat) (pa : Option Addr) (pc : Nat) (o2 : List Nat) (L2 : Nat), v12 = .int .i64 (j : Int) ∧ j ≤ n' ∧ j + 2 ≤ P ∧ v10 = .slice pa L2 pc ∧ Hid (L2 = o2.length) ∧ L2 ≤ 30 * i + j ∧ Hid (Wc w0 wx K k pa pc o2 o2 j (N0 + j))) (fun _ v12 _ _ => n' - (intOf v12).toNat)
            case atStart => exact ⟨0, oa, oc, out, L, rfl, Nat.zero_le _, by omega, rfl, HLo, by omega, HW3.out⟩
            case round =>
              obtain ⟨j, pa, pc, o2, L2, rfl, hjn, hjP, rfl, HL2, hl2, HWj⟩ := hrel
              obtain ⟨ad1, a1, c1, hae1, hc1, hl1⟩ := (HR.out.fr (HF0.out.join HWj.out.fr)).lies i hlt
              cases hae1
              rw [← HX.out] at hc1 hl1
              rw [← HN.out] at hc1 hl1
              have hc10 := cell_add0 hc1 Hi0.out
              by_cases hjn2 : j < n'
              · have hj1 : (j : Int) < (n' : Int) := by omega
                by_cases hjP2 : j + 2 < P
                · have hj2 : (j : Int) < (P : Int) - 2 := by omega
                  obtain ⟨x, hx⟩ : ∃ x, x = X.getD j 0 := ⟨_, rfl⟩
                  have hx8 : x < 256 := by rw [hx]; exact HXb.out _ (getD_mem X j (by rw [← HN.out]; exact hjn2))
                  obtain ⟨ad2, hae2, hc2⟩ := (Lz.of hl1 HXb.out).2 j (by rw [← HN.out]; exact hjn2)
                  rw [← hx] at hc2
                  cases hae2
                  obtain ⟨y, hy⟩ : ∃ y, y = x % 2 ^ k := ⟨_, rfl⟩
                  have hyk : y < 2 ^ k := by rw [hy]; exact Nat.mod_lt _ (Nat.two_pow_pos _)
                  have hy8 : y < 256 := by rw [hy]; exact Nat.lt_of_le_of_lt (Nat.mod_le _ _) hx8
                  have hand := and_u8c x k hx8 Hk.out
                  rw [← hy, ← HP.out] at hand
                  have hand2 : bits .and .u8 (x : Int) ((P : Int) - 1) = (y : Int) := by
                    have h1 : (P : Int) - 1 = ((P - 1 : Nat) : Int) := by omega
                    rw [h1]
                    exact hand
                  have qy : IntKind.i64.wrap (y : Int) = (y : Int) := wrap_i64_id _ (by omega) (by omega)
                  have HPt := hide (HWj.out.put Hk.out (x := y) (by omega) (by rw [← HP.out]; exact hjP2) hyk)
                  clear hx hy hyk hand hl1 HWj
                  go_wp2_with fail
                  refine (calls_args HPt.out (by rfl)).mono ?_
                  rintro e w4 ⟨rfl, hw4⟩
                  have HW4 : Hid (Wc w0 (w4.alloc (.cells (cellsOf [y]).toArray 5)) K k pa pc (o2 ++ [y]) o2 (j + 1) (N0 + j + 1)) := hw4.keepF (Fr.of_alloc _ _)
                  have HO1 : Hid (OwnB (w4.alloc (.cells (cellsOf [y]).toArray 5)) w0.heap.size (.slice pa L2 pc) o2) := by
                    have h := HW4.out.own
                    rw [← HL2.out] at h
                    exact h
                  have HL0 : Hid (Lies (w4.alloc (.cells (cellsOf [y]).toArray 5)) (.slice (some ⟨w4.heap.size, 0, none⟩) 1 1) [y]) := lies_lit w4 [y] 1
                  have HS1 : Hid (w0.heap.size ≤ (w4.alloc (.cells (cellsOf [y]).toArray 5)).heap.size) := HW4.out.fr.size
                  have HQ1 : Hid (o2.length + [y].length ≤ 2147483648) := by show _ ≤ _; have := HL2.out; simp; omega
                  clear hw4 hc1 hc10 hc2
                  go_wp2_with (at_builtin; go_must (refine wpList_app rfl (.tmp 88) (.tmp 90) rfl w0.heap.size (.slice pa L2 pc) o2 rfl HO1.out (.slice (some ⟨w4.heap.size, 0, none⟩) 1 1) [y] rfl HL0.out HQ1.out HS1.out ?_); intro a5 c5 w5 hO5 hF5 hB5
                               have HW5 : Hid (Wc w0 w5 K k a5 c5 (o2 ++ [y]) (o2 ++ [y]) (j + 1) (N0 + j + 1)) := HW4.out.app hy8 (by rw [List.length_append]; exact hO5) (Nat.le_refl _) (by rw [HL2.out] at hF5; exact hF5) (by rw [HL2.out] at hB5; rw [List.length_append]; exact hB5)
                               clear hO5 hF5 hB5)
                  go_roundw
                  case rel => exact ⟨j + 1, a5, c5, o2 ++ [y], o2.length + 1, by go_num, by omega, by omega, rfl, by show _ = _; simp, by have := HL2.out; omega, HW5.out⟩
                  case measure => simp [intOf]; omega
                · have hj2 : decide ((j : Int) < (P : Int) - 2) = false := decide_eq_false (by omega)
                  go_wp2_with fail
                  go_roundw
                  case rel => exact ⟨i + 1, j, N0 + j, pa, pc, o2, L2, by go_num, by omega, rfl, HL2, by omega, by omega, fun e => by omega, HWj.out⟩
                  case measure => simp [intOf]; omega
              · have hj1 : ¬ (j : Int) < (n' : Int) := by omega
                go_wp2_with fail
                go_roundw
                case rel => exact ⟨i + 1, j, N0 + j, pa, pc, o2, L2, by go_num, by omega, rfl, HL2, by omega, by omega, fun e => by omega, HWj.out⟩
                case measure => simp [intOf]; omega
          · skip
            have HC := hide (HW.out.clear Hk.out (by omega))
            rw [← HP.out] at HC
            go_wp2_with fail
            refine (calls_args HC.out (by rfl)).mono ?_
            rintro e w3 ⟨rfl, hw3⟩
            have HW3 : Hid (Wc w0 w3 K k oa oc out out 0 (N + 1)) := hw3
            obtain ⟨N0, hN0⟩ : ∃ N0, N0 = N + 1 := ⟨_, rfl⟩
            rw [← hN0] at HW3
            have hN0b : N0 ≤ 31 * i + 1 := by omega
            clear hw3 HC hN0 HW
            go_wp2_with fail
            have hn2 : ¬ 30 < n' := h30
            have hn' : n' ≤ 30 := by omega
            go_loopw [10, 12, 13] (fun v10 v12 _ wx => ∃ (j : Nat) (pa : Option Addr) (pc : Nat) (o2 : List Nat) (L2 : Nat), v12 = .int .i64 (j : Int) ∧ j ≤ n' ∧ j + 2 ≤ P ∧ v10 = .slice pa L2 pc ∧ Hid (L2 = o2.length) ∧ L2 ≤ 30 * i + j ∧ Hid (Wc w0 wx K k pa pc o2 o2 j (N0 + j))) (fun _ v12 _ _ => n' - (intOf v12).toNat)
            case atStart => exact ⟨0, oa, oc, out, L, rfl, Nat.zero_le _, by omega, rfl, HLo, by omega, HW3.out⟩
            case round =>
              obtain ⟨j, pa, pc, o2, L2, rfl, hjn, hjP, rfl, HL2, hl2, HWj⟩ := hrel
              obtain ⟨ad1, a1, c1, hae1, hc1, hl1⟩ := (HR.out.fr (HF0.out.join HWj.out.fr)).lies i hlt
              cases hae1
              rw [← HX.out] at hc1 hl1
              rw [← HN.out] at hc1 hl1
              have hc10 := cell_add0 hc1 Hi0.out
              by_cases hjn2 : j < n'
              · have hj1 : (j : Int) < (n' : Int) := by omega
                by_cases hjP2 : j + 2 < P
                · have hj2 : (j : Int) < (P : Int) - 2 := by omega
                  obtain ⟨x, hx⟩ : ∃ x, x = X.getD j 0 := ⟨_, rfl⟩
                  have hx8 : x < 256 := by rw [hx]; exact HXb.out _ (getD_mem X j (by rw [← HN.out]; exact hjn2))
                  obtain ⟨ad2, hae2, hc2⟩ := (Lz.of hl1 HXb.out).2 j (by rw [← HN.out]; exact hjn2)
                  rw [← hx] at hc2
                  cases hae2
                  obtain ⟨y, hy⟩ : ∃ y, y = x % 2 ^ k := ⟨_, rfl⟩
                  have hyk : y < 2 ^ k := by rw [hy]; exact Nat.mod_lt _ (Nat.two_pow_pos _)
                  have hy8 : y < 256 := by rw [hy]; exact Nat.lt_of_le_of_lt (Nat.mod_le _ _) hx8
                  have hand := and_u8c x k hx8 Hk.out
                  rw [← hy, ← HP.out] at hand
                  have hand2 : bits .and .u8 (x : Int) ((P : Int) - 1) = (y : Int) := by
                    have h1 : (P : Int) - 1 = ((P - 1 : Nat) : Int) := by omega
                    rw [h1]
                    exact hand
                  have qy : IntKind.i64.wrap (y : Int) = (y : Int) := wrap_i64_id _ (by omega) (by omega)
                  have HPt := hide (HWj.out.put Hk.out (x := y) (by omega) (by rw [← HP.out]; exact hjP2) hyk)
                  clear hx hy hyk hand hl1 HWj
                  go_wp2_with fail
                  refine (calls_args HPt.out (by rfl)).mono ?_
                  rintro e w4 ⟨rfl, hw4⟩
                  have HW4 : Hid (Wc w0 (w4.alloc (.cells (cellsOf [y]).toArray 5)) K k pa pc (o2 ++ [y]) o2 (j + 1) (N0 + j + 1)) := hw4.keepF (Fr.of_alloc _ _)
                  have HO1 : Hid (OwnB (w4.alloc (.cells (cellsOf [y]).toArray 5)) w0.heap.size (.slice pa L2 pc) o2) := by
                    have h := HW4.out.own
                    rw [← HL2.out] at h
                    exact h
                  have HL0 : Hid (Lies (w4.alloc (.cells (cellsOf [y]).toArray 5)) (.slice (some ⟨w4.heap.size, 0, none⟩) 1 1) [y]) := lies_lit w4 [y] 1
                  have HS1 : Hid (w0.heap.size ≤ (w4.alloc (.cells (cellsOf [y]).toArray 5)).heap.size) := HW4.out.fr.size
                  have HQ1 : Hid (o2.length + [y].length ≤ 2147483648) := by show _ ≤ _; have := HL2.out; simp; omega
                  clear hw4 hc1 hc10 hc2
                  go_wp2_with (at_builtin; go_must (refine wpList_app rfl (.tmp 88) (.tmp 90) rfl w0.heap.size (.slice pa L2 pc) o2 rfl HO1.out (.slice (some ⟨w4.heap.size, 0, none⟩) 1 1) [y] rfl HL0.out HQ1.out HS1.out ?_); intro a5 c5 w5 hO5 hF5 hB5
                               have HW5 : Hid (Wc w0 w5 K k a5 c5 (o2 ++ [y]) (o2 ++ [y]) (j + 1) (N0 + j + 1)) := HW4.out.app hy8 (by rw [List.length_append]; exact hO5) (Nat.le_refl _) (by rw [HL2.out] at hF5; exact hF5) (by rw [HL2.out] at hB5; rw [List.length_append]; exact hB5)
                               clear hO5 hF5 hB5)
                  go_roundw
                  case rel => exact ⟨j + 1, a5, c5, o2 ++ [y], o2.length + 1, by go_num, by omega, by omega, rfl, by show _ = _; simp, by have := HL2.out; omega, HW5.out⟩
                  case measure => simp [intOf]; omega
                · have hj2 : decide ((j : Int) < (P : Int) - 2) = false := decide_eq_false (by omega)
                  go_wp2_with fail
                  go_roundw
                  case rel => exact ⟨i + 1, j, N0 + j, pa, pc, o2, L2, by go_num, by omega, rfl, HL2, by omega, by omega, fun e => by omega, HWj.out⟩
                  case measure => simp [intOf]; omega
              · have hj1 : ¬ (j : Int) < (n' : Int) := by omega
                go_wp2_with fail
                go_roundw
                case rel => exact ⟨i + 1, j, N0 + j, pa, pc, o2, L2, by go_num, by omega, rfl, HL2, by omega, by omega, fun e => by omega, HWj.out⟩
                case measure => simp [intOf]; omega
    · have e : i = len := by omega
      have hlti : ¬ (i : Int) < (len : Int) := by omega
      have hN20 : N ≤ 620 := by omega
      have hL20 : L ≤ 600 := by omega
      clear e hlt hNb hLb
      obtain ⟨a0, c0, bl, hWl⟩ := HW.out.lies Hk.out
      have c00 := (cell_blk (a := ⟨K, 0, none⟩) ((show Fr (fun _ => False) wr (wr.alloc (.cells #[] 3)) from Fr.of_alloc _ _).block K HW.out.kl (fun e => e))).trans hWl.cell
      have hbl : bl.length ≤ 5580 := by have := hWl.len; omega
      obtain ⟨H, hH⟩ : ∃ H, H = wr.heap.size := ⟨_, rfl⟩
      have HO0 : Hid ((wr.alloc (.cells #[] 3)).ownsRow H 3 1 (.slice (some ⟨wr.heap.size, 0, none⟩) 0 0) 0 []) := World.ownsRow_made _ #[] 0 (by rw [hH]; exact Nat.le_refl _) (by unfold maxLen; omega) rfl
      have HOb : Hid ((wr.alloc (.cells #[] 3)).ownsRow 0 3 1 (.slice a0 bl.length c0) bl.length (intsOf bl)) := ownsRow_fr hWl.own fun j hj => (Fr.of_alloc _ _).block j (hWl.own.lt j hj).2 (fun e => e)
      have HFa : Hid (Fr (fun _ => False) wr (wr.alloc (.cells #[] 3))) := Fr.of_alloc _ _
      have HHs : Hid (H ≤ (wr.alloc (.cells #[] 3)).heap.size) := by show _ ≤ _; rw [hH]; exact HFa.out.size
      have Hbl : Hid (bl.length ≤ 1000000) := by show _ ≤ _; omega
      have HWl := hide hWl
      have HH := hide hH
      clear hWl
      obtain ⟨B0, hB0⟩ : ∃ B0, B0 = bl.length := ⟨_, rfl⟩
      rw [← hB0] at c00
      have HB0 := hide hB0
      clear hB0 hbl hH
      go_wp2_with (at_builtin; go_must (refine wpList_clone rfl (.tmp 92) (.tmp 96) rfl H (by rw [HH.out]; rfl) (by rw [HH.out]; have h := HO0.out; rw [HH.out] at h; exact h) (.slice a0 B0 c0) bl rfl (by rw [HB0.out]; exact HOb.out) Hbl.out HHs.out ?_); intro ra rc w1' hO1 hF1
                   have HO1 := hide hO1
                   have HF1 := hide (frJ HFa.out hF1 fun j hj => by have e : j = H := hj; rw [e, HH.out]; exact Nat.le_refl _)
                   clear hO1 hF1)
      have HE := hide (HW.out.end_ Hk.out (by omega) HF1.out)
      rw [← HP.out] at HE
      clear c00
      go_wp2_with fail
      refine (calls_args HE.out (by rfl)).mono ?_
      rintro e w2 ⟨rfl, hF2, hOw, g, v, p, hpg, hpb, hRd⟩
      have HF12 : Hid (Fr (fun j => w0.heap.size ≤ j ∧ j < H) w1' w2) := by rw [HH.out]; exact hF2
      have HF02 : Hid (Fr (fun _ => False) w0 w2) := frJ (HW.out.fr.join HF1.out) hF2 fun j hj => hj.1
      have HO := hide (hpg.out (by omega))
      have HOw := hide hOw
      have HRd := hide hRd
      clear hF2 hOw hpg hRd HE
      go_wp2_with fail
      refine HO.out.mono ?_
      rintro e w3 ⟨Z, zc, rfl, hLZ, hZb, hZl, hZv, hZlt, hF3⟩
      have HRk := hide (HRd.out Z hZl hZv)
      rw [← HLo.out] at HRk
      have HF3 := hide hF3
      have hZl2 : Z.length ≤ 60000 := by omega
      have HRr := hide (read_c (.slice (some ⟨w2.heap.size, 0, none⟩) Z.length zc) Z (k : Int) (L : Int) w3 hLZ hZb (by omega) (by omega))
      clear hLZ hZb hZl hZv hZlt hF3 HO
      go_wp2_with fail
      refine (calls_args HRr.out (by rfl)).mono ?_
      rintro e w4 ⟨r4, xa, xc, h4, rfl, hOx, hF4⟩
      obtain rfl := h4.det HRk.out
      simp only [outZ, errZ] at hOx ⊢
      have HOx := hide hOx
      have HF24 := hide (HF3.out.join hF4)
      have hS34 : w3.heap.size ≤ w4.heap.size := hF4.size
      obtain ⟨K2, hK2⟩ : ∃ K2, K2 = w4.heap.size := ⟨_, rfl⟩
      obtain ⟨w5, hw5⟩ : ∃ w5, w5 = w4.alloc (.cells #[.slice ra bl.length rc, .bool false] 54) := ⟨_, rfl⟩
      have hF45 : Fr (fun _ => False) w4 w5 := by rw [hw5]; exact Fr.of_alloc _ _
      have HF25 := hide (HF24.out.join hF45)
      have hHs2 : H ≤ w2.heap.size := Nat.le_trans (Nat.le_trans (Nat.le_of_eq HH.out) HF1.out.size) HF12.out.size
      have hS23 : w2.heap.size ≤ w3.heap.size := HF3.out.size
      have HWb : Hid (Wb w5 H w3.heap.size w4.heap.size K2 k (L + 9) 5580 false) := by
        obtain ⟨s, hs1, hs2⟩ := HWl.out.led
        have o1lt := World.ownsRow.lt HO1.out
        have o2 : w2.ownsRow H 3 1 (.slice ra bl.length rc) bl.length (intsOf bl) := ownsRow_fr HO1.out fun j hj => HF12.out.block j (o1lt j hj).2 (fun e => by have := (o1lt j hj).1; omega)
        have o2lt := World.ownsRow.lt o2
        have o5 := ownsRow_fr o2 fun j hj => HF25.out.block j (o2lt j hj).2 (fun e => e)
        have hbl : bl.length ≤ 5580 := by have := HWl.out.len; omega
        refine ⟨⟨(Value.slice ra bl.length rc).ownBlock, numL bl, bl.length, s, ⟨⟨bl, ⟨⟨.slice ra bl.length rc, by rw [hw5]; exact heap_alloc_at hK2, ⟨o5.1, o5.2.imp id fun ⟨g, cap, cur, z1, z2, z3⟩ => ⟨g, cap, cur, z1, Nat.zero_le _, z3⟩⟩, rfl⟩, fun j e => ?_⟩, HWl.out.bits, rfl, rfl⟩⟩, hs1 _ (by have := HLo.out; omega), hs2, fun e => (by cases e), hbl, fun j hj => ⟨(o2lt j hj).1, Or.inl (by have := (o2lt j hj).2; omega)⟩⟩, ⟨by omega, Or.inr (Nat.le_of_eq hK2.symm)⟩, by omega, hF45.size⟩
        have := (o2lt j e).2
        omega
      have HC := hide (HWb.out.clear Hk.out (by omega))
      rw [← HP.out] at HC
      have HK2 := hide hK2
      have Hw5 := hide hw5
      clear h4 hOx hF4 hF45 hK2 hw5 HRr
      go_wp2_with fail
      rw [← Hw5.out, ← HK2.out]
      refine (calls_args HC.out (by rfl)).mono ?_
      rintro e w6 ⟨rfl, hb6, hF6⟩
      have HBd := hide (hb6.bad Hk.out (by omega))
      rw [← HP.out] at HBd
      have HF6 := hide hF6
      clear hb6 hF6 HC HWb
      go_wp2_with fail
      refine (calls_args HBd.out (by rfl)).mono ?_
      rintro e w7 ⟨rfl, hF7, g7, v7, p7, hpg7, hpb7, hRd7⟩
      have HF57 := hide (HF6.out.join hF7)
      have HO7 := hide (hpg7.out (by omega))
      have HRd7 := hide hRd7
      clear hF7 hpg7 hRd7 HBd
      go_wp2_with fail
      refine HO7.out.mono ?_
      rintro e w8 ⟨Y, yc, rfl, hLY, hYb, hYl, hYv, hYlt, hF8⟩
      have HRk7 := hide (HRd7.out Y hYl hYv)
      have HF8 := hide hF8
      have hYl2 : Y.length ≤ 60000 := by omega
      have HRr := hide (read_at (.slice (some ⟨w7.heap.size, 0, none⟩) Y.length yc) Y (k : Int) ((L + 9 : Nat) : Int) w8 hLY hYb (by omega) (by omega))
      clear hLY hYb hYl hYv hYlt hF8 HO7
      go_wp2_with fail
      refine (calls_args HRr.out (by rfl)).mono ?_
      rintro e w9 ⟨r9, ya, yc9, h9, rfl, hLy, hF9⟩
      obtain rfl := h9.det HRk7.out
      simp only [outZ, errZ, List.length_nil] at hLy ⊢
      have HF79 := hide (HF8.out.join hF9)
      have HHw : Hid (w.heap.size ≤ H) := by
        show _ ≤ _
        rw [HH.out]
        exact Nat.le_trans HF0.out.size HW.out.fr.size
      have HFin : Hid (Fr (fun _ => False) w w9) := (frJ ((HF0.out.join HF02.out).join HF25.out) HF57.out fun j hj => Nat.le_trans HHw.out hj.1).join HF79.out
      have Hob8 : Hid (∀ b ∈ out, b < 256) := HW.out.bytes
      have C15 : Hid (∀ W, Fr (fun _ => False) w9 W → (convert 22 9 (.slice xa out.length xc)).run Try.prog W = .ok (.string (strOf out)) W) := fun W f => by
        have hlt := World.ownsRow.lt HOx.out
        have e5 : OwnB w5 w3.heap.size (.slice xa out.length xc) out := ownsRow_fr HOx.out fun j hj => (show Fr (fun _ => False) w4 w5 by rw [Hw5.out]; exact Fr.of_alloc _ _).block j (hlt j hj).2 (fun e => e)
        have hlt5 := World.ownsRow.lt e5
        have e7 : OwnB w7 w3.heap.size (.slice xa out.length xc) out := ownsRow_fr e5 fun j hj => HF57.out.block j (hlt5 j hj).2 (fun e => by have := hlt j hj; have := e.2; omega)
        exact str_lies (lies_false (lies_ownB e7) (HF79.out.join f)) Hob8.out
      have C10 : Hid (∀ W, Fr (fun _ => False) w9 W → (convert 22 9 (.slice oa L oc)).run Try.prog W = .ok (.string (strOf out)) W) := fun W f => by
        have hlt := World.ownsRow.lt HW.out.own
        have hlt2 := World.ownsRow.lt HOw.out
        have e5 : OwnB w5 w0.heap.size (.slice oa out.length oc) out := ownsRow_fr HOw.out fun j hj => HF25.out.block j (hlt2 j hj).2 (fun e => e)
        have hlt5 := World.ownsRow.lt e5
        have e7 : OwnB w7 w0.heap.size (.slice oa out.length oc) out := ownsRow_fr e5 fun j hj => HF57.out.block j (hlt5 j hj).2 (fun e => by have h1 := (hlt j hj).2; rw [← HH.out] at h1; have h2 := e.1; omega)
        have h := str_lies (lies_false (lies_ownB e7) (HF79.out.join f)) Hob8.out
        rw [HLo.out]
        exact h
      clear h9 hLy hF9 HRr
      have s15 := C15.out _ (Fr.refl _ _)
      have s10 := C10.out _ (Fr.refl _ _)
      go_wp2
      go_ret
      exact ⟨rfl, HFin.out⟩
end Go.Proofs.Ytdbgolklgiadeaa
