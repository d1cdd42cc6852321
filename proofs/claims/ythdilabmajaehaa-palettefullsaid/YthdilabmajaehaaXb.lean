/-
  depth: the document's Fits.
-/
import Derived.Test.YthdilabmajaehaaXa
namespace Go.Proofs.Ythdilabmajaehaa
open Go.RowKit

theorem eight_nums (s : Nat) : ∃ r : Nat, (s : Int).tmod 257 = (r : Int) ∧ r < 257 ∧ eightOk s = decide (r = 0) := by
  refine ⟨s % 257, ?_, Nat.mod_lt _ (by decide), rfl⟩
  rw [Int.tmod_eq_emod_of_nonneg (by omega)]
  omega

set_option maxHeartbeats 400000 in
set_option maxRecDepth 100000 in
theorem rfits_out (W H f : Int) (a : Option Addr) (n c : Nat) (w : World) (hout : mayB W H n = false ∨ f < 1 ∨ 3 < f) :
    Calls Try.prog 22 #[rasV W H a n c, .int .i64 f] w fun e w' => Fr (fun _ => False) w w' ∧ e = .returned (.bool false) := by
  obtain ⟨w1, hw1⟩ : ∃ w1, w1 = w.alloc (.cells #[.int .i64 W, .int .i64 H, .slice a n c] 24) := ⟨_, rfl⟩
  have hF1 : Fr (fun _ => False) w w1 := by rw [hw1]; exact Fr.of_alloc _ _
  have HM := hide (rmay_c W H a n c w1)
  have HF1 := hide hF1
  have Hw1 := hide hw1
  clear hF1 hw1
  cases hmay : mayB W H n with
  | false =>
    rw [hmay] at HM
    clear hout hmay
    go_enter Try.func22, Try.ntmps22
    go_wp2_with fail
    rw [← Hw1.out]
    refine HM.out.mono ?_
    rintro e w2 ⟨rfl, hF2⟩
    have HF2 := hide (HF1.out.join hF2)
    clear hF2
    go_wp2_with fail
    go_ret
    exact ⟨HF2.out, rfl⟩
  | true =>
    rw [hmay] at hout HM
    by_cases f1 : f < 1
    · clear hout hmay
      go_enter Try.func22, Try.ntmps22
      go_wp2_with fail
      rw [← Hw1.out]
      refine HM.out.mono ?_
      rintro e w2 ⟨rfl, hF2⟩
      have HF2 := hide (HF1.out.join hF2)
      clear hF2
      go_wp2_with fail
      go_ret
      exact ⟨HF2.out, rfl⟩
    · have f3 : 3 < f := by rcases hout with h | h | h; · cases h
                            · exact absurd h f1
                            · exact h
      clear hout hmay
      go_enter Try.func22, Try.ntmps22
      go_wp2_with fail
      rw [← Hw1.out]
      refine HM.out.mono ?_
      rintro e w2 ⟨rfl, hF2⟩
      have HF2 := hide (HF1.out.join hF2)
      clear hF2
      go_wp2_with fail
      go_ret
      exact ⟨HF2.out, rfl⟩

set_option maxHeartbeats 2000000 in
set_option maxRecDepth 100000 in
theorem rfits_yes (W H f : Int) (a : Option Addr) (n c m : Nat) (px : List Nat) (w : World) (hl : Lies w a px) (hp : px.length = n) (hc : n ≤ c) (hmay : mayB W H n = true) (hm : (m : Int) = W * H) (f1 : ¬ f < 1) (f3 : ¬ 3 < f) :
    Calls Try.prog 22 #[rasV W H a n c, .int .i64 f] w fun e w' => Fr (fun _ => False) w w' ∧ e = .returned (.bool (fitsV f px m)) := by
  obtain ⟨m', hm', hnm, hmb, hm1⟩ := may_nums hmay
  obtain rfl : m = m' := Int.ofNat.inj (hm.trans hm'.symm)
  obtain ⟨g, o, rfl, hgl⟩ := hl.form (by rw [hp]; omega)
  obtain ⟨w1, hw1⟩ : ∃ w1, w1 = w.alloc (.cells #[.int .i64 W, .int .i64 H, .slice (some ⟨g, o, none⟩) n c] 24) := ⟨_, rfl⟩
  have hb1 : w1.heap[w.heap.size]? = some (.cells #[.int .i64 W, .int .i64 H, .slice (some ⟨g, o, none⟩) n c] 24 (0, 0)) := by rw [hw1]; exact heap_alloc_at rfl
  have hF1 : Fr (fun _ => False) w w1 := by rw [hw1]; exact Fr.of_alloc _ _
  have HM := hide (rmay_c W H (some ⟨g, o, none⟩) n c w1)
  rw [hmay] at HM
  have HLc := hide fun (w2 : World) (h : Lies w2 (some ⟨g, o, none⟩) px) => list_c W H 256 g o n c m px w2 h hp hnm hm hmb hm1 hc
  have HL := hide (hl.keep0 hF1)
  have Hsm := hide hl.1
  have Hb1 := hide hb1
  have HF1 := hide hF1
  have Hw1 := hide hw1
  have Hp := hide hp
  have Hnm := hide hnm
  have Hm1 := hide hm1
  have Hmb := hide hmb
  obtain ⟨V, hV⟩ : ∃ V, V = fitsV f px m := ⟨_, rfl⟩
  rw [← hV]
  have HV := hide hV
  have hn0 : 0 < n := by omega
  have hn5 : n ≤ 65536 := by omega
  clear hl hp hc hmay hm hm' hnm hmb hm1 hgl hb1 hF1 hw1 hV
  go_enter Try.func22, Try.ntmps22
  go_wp2_with fail
  rw [← Hw1.out]
  refine HM.out.mono ?_
  rintro e w2 ⟨rfl, hF2⟩
  have hb2 := cells_at Hb1.out hF2 (fun e => e)
  have HF2 := hide (HF1.out.join hF2)
  have HL2 := hide (HL.out.keep0 hF2)
  have Hb2 := hide hb2
  have k0 := cell_of (o := 0) hb2 rfl
  have k1 := cell_of (o := 1) hb2 rfl
  have k2 := cell_of (o := 2) hb2 rfl
  clear hF2 hb2
  by_cases e1 : f = 1
  · subst e1
    have hV1 : V = true := by rw [HV.out]; unfold fitsV; rw [if_pos rfl]
    have hnc : (0 : Int) < (n : Int) := by omega
    go_wp2_with fail
    go_loopw [5] (fun v5 wr => v5 = .int .i64 0 ∧ wr = w2) (fun _ _ => 0)
    case atStart => exact ⟨rfl, rfl⟩
    case round =>
      obtain ⟨rfl, rfl⟩ := hrel
      go_wp2_with fail
      go_ret
      subst hV1
      exact ⟨HF2.out, rfl⟩
  have b1 : (f != 1) = true := bne_iff_ne.2 e1
  have HVn : Hid (allE px = false → V = false) := fun h => by
    rw [HV.out]
    unfold fitsV fitsG
    rw [if_neg e1, h]
    by_cases e2 : f = 2
    · rw [if_pos e2]; rfl
    · rw [if_neg e2]
      split <;> rfl
  go_wp2_with fail
  go_loopw [5] (fun v5 wr => ∃ i : Nat, v5 = .int .i64 (i : Int) ∧ i ≤ n ∧ wr = w2 ∧ Hid (∀ j, j < i → eightOk (px.getD j 0) = true)) (fun v5 _ => n - (intOf v5).toNat)
  case atStart => exact ⟨0, rfl, Nat.zero_le _, rfl, fun j hj => absurd hj (Nat.not_lt_zero _)⟩
  case round =>
    obtain ⟨i, rfl, hi, rfl, HE⟩ := hrel
    by_cases hlt : i < n
    · have hii : (i : Int) < (n : Int) := by omega
      obtain ⟨s, hs⟩ : ∃ s, s = px.getD i 0 := ⟨_, rfl⟩
      have c0 : wr.cell? ⟨g, o + i, none⟩ = some (.int .u16 (s : Int)) := by rw [hs]; exact HL2.out.cell (by have := Hp.out; omega)
      obtain ⟨r, hr, hrb, hre⟩ := eight_nums s
      have Hs := hide hs
      have Hre := hide hre
      clear hs hre
      by_cases hr0 : r = 0
      · have d0 : ((r : Int) != 0) = false := by rw [hr0]; rfl
        have HB : Hid (∀ j, j < i + 1 → eightOk (px.getD j 0) = true) := fun j hj => by
          by_cases h : j = i
          · rw [h, ← Hs.out, Hre.out, hr0]; rfl
          · exact HE.out j (by omega)
        clear hr0
        go_wp2_with fail
        exact ⟨⟨i + 1, by go_num, by omega, trivial, HB.out⟩, by simp [intOf]; omega⟩
      · have d0 : ((r : Int) != 0) = true := bne_iff_ne.2 (by omega)
        have hV0 : V = false := HVn.out (allE_false (j := i) (by have := Hp.out; omega) (by rw [← Hs.out, Hre.out]; exact decide_eq_false hr0))
        clear hr0
        go_wp2_with fail
        go_ret
        exact ⟨HF2.out, by rw [hV0]; rfl⟩
    have hii : ¬ (i : Int) < (n : Int) := by omega
    have HAl : Hid (allE px = true) := allE_true (fun j hj => HE.out j (by have := Hp.out; omega))
    by_cases e2 : f = 2
    case neg =>
      have b2 : (f != 2) = true := bne_iff_ne.2 e2
      have hV1 : V = true := by rw [HV.out]; unfold fitsV; rw [if_neg e1, if_neg e2, if_pos (by omega), HAl.out]
      go_wp2_with fail
      go_ret
      subst hV1
      exact ⟨HF2.out, rfl⟩
    case pos =>
    subst e2
    have HV2 : Hid (V = (opqAll m px && decide ((uniq px m).length ≤ 256))) := by show _ = _; rw [HV.out]; unfold fitsV fitsG; rw [if_neg e1, if_pos rfl, HAl.out]; rfl
    have HVo : Hid (∀ {j : Nat}, j < m → opq px (4 * j) = false → V = false) := fun hj h => by rw [HV2.out, opqAll_false hj h]; rfl
    clear e1 f1 f3
    obtain ⟨wo, rfl⟩ : ∃ wo : World, wo = wr := ⟨_, rfl⟩
    go_wp2_with fail
    clear hii
    go_loopw [6, 7] (fun v6 _ wr => ∃ j k : Nat, v6 = .int .i64 (k : Int) ∧ j ≤ m ∧ Hid (k = 4 * j) ∧ Hid (Fr (fun _ => False) wo wr) ∧ Hid (∀ i, i < j → opq px (4 * i) = true)) (fun v6 _ _ => n - (intOf v6).toNat)
    case atStart => exact ⟨0, 0, rfl, Nat.zero_le _, rfl, Fr.refl _ _, fun i hi => absurd hi (Nat.not_lt_zero i)⟩
    case round =>
      clear hi hlt HE
      obtain ⟨j, k, rfl, hj, HK, HFr, HA⟩ := hrel
      have hbr := cells_at Hb2.out HFr.out (fun e => e)
      clear k0 k1 k2
      have k0 := cell_of (o := 0) hbr rfl
      have k1 := cell_of (o := 1) hbr rfl
      have k2 := cell_of (o := 2) hbr rfl
      clear hbr
      have HLr := hide (HL2.out.keep0 HFr.out)
      by_cases hlt : j < m
      · have hk4 : k + 4 ≤ n := by have := HK.out; have := Hnm.out; omega
        have hki : (k : Int) < (n : Int) := by omega
        obtain ⟨K1, hK1⟩ : ∃ K1, K1 = k + 1 := ⟨_, rfl⟩
        obtain ⟨K2, hK2⟩ : ∃ K2, K2 = k + 2 := ⟨_, rfl⟩
        obtain ⟨K3, hK3⟩ : ∃ K3, K3 = k + 3 := ⟨_, rfl⟩
        have i1 : (k : Int) + 1 = (K1 : Int) := by omega
        have i2 : (k : Int) + 2 = (K2 : Int) := by omega
        have i3 : (k : Int) + 3 = (K3 : Int) := by omega
        have l1 : K1 < n := by omega
        have l2 : K2 < n := by omega
        have l3 : K3 < n := by omega
        have l0 : k < n := by omega
        obtain ⟨s0, hs0⟩ : ∃ s, s = px.getD k 0 := ⟨_, rfl⟩
        obtain ⟨s1, hs1⟩ : ∃ s, s = px.getD (k + 1) 0 := ⟨_, rfl⟩
        obtain ⟨s2, hs2⟩ : ∃ s, s = px.getD (k + 2) 0 := ⟨_, rfl⟩
        obtain ⟨s3, hs3⟩ : ∃ s, s = px.getD (k + 3) 0 := ⟨_, rfl⟩
        have c0 : wr.cell? ⟨g, o + k, none⟩ = some (.int .u16 (s0 : Int)) := by rw [hs0]; exact HLr.out.cell (by have := Hp.out; omega)
        have c1 : wr.cell? ⟨g, o + K1, none⟩ = some (.int .u16 (s1 : Int)) := by rw [hs1, ← hK1]; exact HLr.out.cell (by have := Hp.out; omega)
        have c2 : wr.cell? ⟨g, o + K2, none⟩ = some (.int .u16 (s2 : Int)) := by rw [hs2, ← hK2]; exact HLr.out.cell (by have := Hp.out; omega)
        have c3 : wr.cell? ⟨g, o + K3, none⟩ = some (.int .u16 (s3 : Int)) := by rw [hs3, ← hK3]; exact HLr.out.cell (by have := Hp.out; omega)
        have Hs : Hid (opq px (4 * j) = (decide (s3 = 65535) || decide ([s0, s1, s2, s3] = [0, 0, 0, 0]))) := by show _ = _; rw [hs0, hs1, hs2, hs3, ← HK.out]; rfl
        clear hs0 hs1 hs2 hs3 hK1 hK2 hK3
        by_cases h3 : s3 = 65535
        · have b3 : ((s3 : Int) != 65535) = false := by rw [h3]; rfl
          have HB : Hid (∀ i, i < j + 1 → opq px (4 * i) = true) := fun i hi => by
            by_cases h : i = j
            · rw [h, Hs.out]; rw [h3]; rfl
            · exact HA.out i (by omega)
          clear h3
          go_wp2_with fail
          exact ⟨⟨j + 1, k + 4, by go_num, by omega, by show k + 4 = 4 * (j + 1); have := HK.out; omega, HFr.out, HB.out⟩, by simp [intOf]; omega⟩
        have b3 : ((s3 : Int) != 65535) = true := bne_iff_ne.2 (by omega)
        by_cases z_s3 : s3 = 0
        case neg =>
          have d_s3 : ((s3 : Int) != 0) = true := bne_iff_ne.2 (by omega)
          have HB : Hid (opq px (4 * j) = false) := by show _ = _; rw [Hs.out]; simp [h3, z_s3]
          clear h3 z_s3 
          go_wp2_with fail
          go_ret
          exact ⟨HF2.out.join HFr.out, by rw [HVo.out (by have := HK.out; omega) HB.out]; rfl⟩
        case pos =>
        have d_s3 : ((s3 : Int) != 0) = false := by rw [z_s3]; rfl
        by_cases z_s0 : s0 = 0
        case neg =>
          have d_s0 : ((s0 : Int) != 0) = true := bne_iff_ne.2 (by omega)
          have HB : Hid (opq px (4 * j) = false) := by show _ = _; rw [Hs.out]; simp [h3, z_s0]
          clear h3 z_s0 z_s3
          go_wp2_with fail
          go_ret
          exact ⟨HF2.out.join HFr.out, by rw [HVo.out (by have := HK.out; omega) HB.out]; rfl⟩
        case pos =>
        have d_s0 : ((s0 : Int) != 0) = false := by rw [z_s0]; rfl
        by_cases z_s1 : s1 = 0
        case neg =>
          have d_s1 : ((s1 : Int) != 0) = true := bne_iff_ne.2 (by omega)
          have HB : Hid (opq px (4 * j) = false) := by show _ = _; rw [Hs.out]; simp [h3, z_s1]
          clear h3 z_s1 z_s3 z_s0
          go_wp2_with fail
          go_ret
          exact ⟨HF2.out.join HFr.out, by rw [HVo.out (by have := HK.out; omega) HB.out]; rfl⟩
        case pos =>
        have d_s1 : ((s1 : Int) != 0) = false := by rw [z_s1]; rfl
        by_cases z_s2 : s2 = 0
        case neg =>
          have d_s2 : ((s2 : Int) != 0) = true := bne_iff_ne.2 (by omega)
          have HB : Hid (opq px (4 * j) = false) := by show _ = _; rw [Hs.out]; simp [h3, z_s2]
          clear h3 z_s2 z_s3 z_s0 z_s1
          go_wp2_with fail
          go_ret
          exact ⟨HF2.out.join HFr.out, by rw [HVo.out (by have := HK.out; omega) HB.out]; rfl⟩
        case pos =>
        have d_s2 : ((s2 : Int) != 0) = false := by rw [z_s2]; rfl
        have HB : Hid (∀ i, i < j + 1 → opq px (4 * i) = true) := fun i hi => by
          by_cases h : i = j
          · rw [h, Hs.out]; rw [z_s0, z_s1, z_s2, z_s3]; rfl
          · exact HA.out i (by omega)
        clear h3 z_s3 z_s0 z_s1 z_s2
        go_wp2_with fail
        exact ⟨⟨j + 1, k + 4, by go_num, by omega, by show k + 4 = 4 * (j + 1); have := HK.out; omega, HFr.out, HB.out⟩, by simp [intOf]; omega⟩
      · have hlt2 : k = n := by have := HK.out; have := Hnm.out; omega
        have hki : ¬ (k : Int) < (n : Int) := by omega
        have HO : Hid (opqAll m px = true) := opqAll_true (fun q hq => HA.out q (by omega))
        have HC := hide (HLc.out wr HLr.out)
        clear hlt2
        go_wp2_with fail
        refine HC.out.mono ?_
        rintro e w3 ⟨hF3, ⟨hlt3, rfl⟩ | ⟨hle, v1, v2, rfl, h1, h2⟩⟩
        · have hV0 : V = false := by rw [HV2.out, decide_eq_false (by omega)]; simp
          have HF3 := hide ((HF2.out.join HFr.out).join hF3)
          clear hF3
          go_wp2_with fail
          go_ret
          exact ⟨HF3.out, by rw [hV0]; rfl⟩
        · have hV1 : V = true := by rw [HV2.out, HO.out, decide_eq_true (by omega)]; rfl
          have HF3 := hide ((HF2.out.join HFr.out).join hF3)
          clear hF3 h1 h2
          go_wp2_with fail
          go_ret
          exact ⟨HF3.out, by rw [hV1]; rfl⟩
end Go.Proofs.Ythdilabmajaehaa
