import Derived.Test.YtkmgpapopgeldaaX
namespace Go.Proofs.Ytkmgpapopgeldaa
open Go.RowKit

set_option maxHeartbeats 400000 in
theorem back_main (a0 : Option Addr) (c0 : Nat) (ds : List (Int × Int)) (hb : Bool) (w : World) (hl : LiesD w (.slice a0 ds.length c0) ds) (hbn : (ds.length : Int) ≤ 200) :
    Calls Try.prog 6 #[.slice a0 ds.length c0, .bool hb] w fun e w' => e = .returned (.bool true) ∧ Fr (fun _ => False) w w' := by
  have hmf : ∀ (fn : Fn) (first cap : Array Value) (w : World), (Instr.makeFunc fn first cap).run Try.prog w = .ok (.func fn first cap) w := fun _ _ _ _ => rfl
  have Hl := hide hl
  clear hl
  go_enter Try.func6, Try.ntmps6
  go_wp2_with fail
  refine (awake_c _).mono ?_
  rintro e w1 ⟨rfl, f1⟩
  have F1 := hide ((Fr.of_alloc w (.cells #[.bool hb] 4)).join f1)
  have Hc3 : Hid (w1.heap[w.heap.size]? = some (.cells #[.bool hb] 4)) := by show _; rw [f1.block _ (by simp) (fun h => h)]; exact heap_alloc_new _ _
  clear f1
  go_wp2_with fail
  refine (newLow_c (.slice none 0 0) [] _ (Or.inl ⟨rfl, rfl⟩) (by simp) (by simp)).mono ?_
  rintro e w2 ⟨A, rfl, hA, f2⟩
  have HA := hide hA
  have F2 := hide f2
  clear hA f2
  go_wp2_with fail
  refine (newHigh_c (.slice none 0 0) [] _ (Or.inl ⟨rfl, rfl⟩) (by simp) (by simp)).mono ?_
  rintro e w3 ⟨B, rfl, hB, f3⟩
  have hM : MidW w3 A B none none [] [] 0 0 := by
    obtain ⟨v, h1, _⟩ := HA.out.eobj
    obtain ⟨v', h1', _⟩ := hB.eobj
    have q1 := HA.out.ehi
    have q2 := hB.elo
    exact ⟨wr_zero 56 w3 A _ _ ((f3.block A (lt_of h1) (fun h => h)).trans h1), wr_zero 63 w3 B _ _ h1', lowSt_zero, highSt_zero, ⟨by omega, by simp⟩, by simp, by simp⟩
  have F3 := hide ((Fr.of_below (B := w1.heap.size) ((F2.out.join f3).below (Nat.le_refl _) (fun k h => h.elim))))
  have HM := hide hM
  have z1 := F1.out.size
  have z2 := lt_of Hc3.out
  have z3 := HA.out.elo
  have z4 := HA.out.ehi
  have z5 := hB.elo
  have z6 := F2.out.size
  have z7 := f3.size
  clear hB f3 hM HA
  go_wp2_with fail
  go_loopw [7] (fun t wr => ∃ (i : Nat) (g g' : Option Nat) (os os' : List Nat), t = .int .i64 i ∧ i ≤ ds.length ∧ MidW wr A B g g' os os' (psum ds i) (psum ds i) ∧ leNum os = lowAcc ds i ∧ hiNum os' (psum ds i) = hiAcc ds i ∧ Fr (fun k => w1.heap.size ≤ k) w1 wr ∧ (∀ k, g = some k → w1.heap.size ≤ k) ∧ (∀ k, g' = some k → w1.heap.size ≤ k)) (fun t _ => ds.length - (intOf t).toNat)
  case atStart => exact ⟨0, none, none, [], [], rfl, Nat.zero_le _, HM.out, rfl, by simp [hiNum, beNum, hiAcc], F3.out, by simp, by simp⟩
  case round =>
    obtain ⟨i, g, g', os, os', rfl, hi, hM, hN, hH, hF, hg, hg'⟩ := hrel
    by_cases hlt : i < ds.length
    · obtain ⟨D, o, c, e, hcell⟩ := Hl.out.at (by omega)
      simp only [Value.slice.injEq, true_and] at e
      obtain ⟨rfl, rfl⟩ := e
      obtain ⟨he1, he2⟩ := hcell i hlt
      obtain ⟨⟨x, m⟩, hd⟩ : ∃ d, d = at0 ds i := ⟨_, rfl⟩
      rw [← hd] at he1 he2
      dsimp only at he1 he2
      have hD : D < w.heap.size := World.block_lt_of_cell? _ _ he1
      have e1 : wr.cell? ⟨D, o + i * 2, none⟩ = some (.int .i64 x) := by rw [World.cell?_of_block (w := w1) (hF.block D (by omega) (by omega)), World.cell?_of_block (w := w) (F1.out.block D hD (fun h => h))]; exact he1
      have e2 : wr.cell? ⟨D, o + i * 2 + 1, none⟩ = some (.int .i64 m) := by rw [World.cell?_of_block (w := w1) (hF.block D (by omega) (by omega)), World.cell?_of_block (w := w) (F1.out.block D hD (fun h => h))]; exact he2
      have hi0 : (0 : Int) ≤ (i : Int) := by omega
      have hi1 : (i : Int) < (ds.length : Int) := by omega
      obtain ⟨n, hn⟩ : ∃ n, n = wid (x, m) := ⟨_, rfl⟩
      have hwid : wid (x, m) = (m % 18446744073709551616 % 25).toNat := rfl
      have hwn : wrap64 ((IntKind.u64.wrap m).tmod 25) = (n : Int) := by
        rw [IntKind.wrap_u64, tmod_of_emod, wrap64_id _ (by omega) (by omega), hn, hwid]; omega
      have hn24 : n ≤ 24 := by rw [hn]; exact wid_le _
      have hp := psum_le ds i
      have hpi : psum ds (i + 1) = psum ds i + n := by rw [hn, hd]; rfl
      have hvi : val (at0 ds i) = lowBits (bitsOf x) 0 n := by rw [← hd, hn]; rfl
      obtain ⟨P, hP⟩ : ∃ P, P = psum ds i := ⟨_, rfl⟩
      rw [← hP] at hM hp hpi
      have hP48 : P ≤ 2147480000 := by omega
      have HMi := hide hM
      have HFi := hide hF
      have Hpi := hide hpi
      have Hvi := hide hvi
      have HNi : Hid (leNum os = lowAcc ds i) := hN
      have HHi : Hid (hiNum os' (psum ds i) = hiAcc ds i) := hH
      have HP := hide hP
      have Hn := hide hn
      have Hg := hide hg
      have Hg' := hide hg'
      have Hd := hide hd
      have sz := hF.size
      clear hM hF hcell hn hwid hpi hvi hN hH hP hg hg' hd
      go_wp2_with fail
      refine (two_low A B g g' os os' P P n w1.heap.size x wr HMi.out hP48 hn24 sz z3 Hg.out).mono ?_
      rintro e w4 ⟨rfl, g2, os2, hM4, hN4, hF4, hg4⟩
      have e3 : w4.cell? ⟨D, o + i * 2, none⟩ = some (.int .i64 x) := by rw [World.cell?_of_block (w := wr) (hF4.block D (by omega) (by omega))]; exact e1
      have sz4 := hF4.size
      have HM4 := hide hM4
      have HN4 := hide hN4
      have HF4 := hide (HFi.out.join hF4)
      have Hg4 := hide hg4
      clear hM4 hN4 hF4 hg4
      go_wp2_with fail
      refine (two_high A B g2 g' os2 os' (P + n) P n w1.heap.size x w4 HM4.out hP48 hn24 (by omega) (by omega) Hg'.out).mono ?_
      rintro e w5 ⟨rfl, g5, os5, hM5, hN5, hF5, hg5⟩
      have HM5 := hide hM5
      have HN5 := hide hN5
      have HF5 := hide (HF4.out.join hF5)
      have Hg5 := hide hg5
      clear hM5 hN5 hF5 hg5
      go_wp2
      refine ⟨⟨i + 1, g2, g5, os2, os5, by simp, by omega, by rw [Hpi.out]; exact HM5.out, ?_, ?_, HF5.out, Hg4.out, Hg5.out⟩, by simp [intOf]; omega⟩
      · rw [HN4.out, HNi.out]
        simp only [lowAcc]
        rw [Hvi.out, HP.out]
      · have hh := HHi.out
        rw [← HP.out] at hh
        rw [Hpi.out, HN5.out, hh]
        simp only [hiAcc]
        rw [Hvi.out, ← Hd.out, ← Hn.out]
    · have ei : i = ds.length := by omega
      subst ei
      have HMi := hide hM
      have HFi := hide hF
      have HNi := hide hN
      have HHi := hide hH
      clear hM hF hN hH hg hg'
      have hol : os.length ≤ 1000 := by have := HMi.out.sl.len; have := psum_le ds ds.length; omega
      have hol' : os'.length ≤ 1000 := by have := HMi.out.sh.len; have := psum_le ds ds.length; omega
      go_wp2_with fail
      refine (low_out 56 wr 0 A g os _ HMi.out.wl (by omega)).mono ?_
      rintro e w4 ⟨a4, c4, rfl, hl4, f4, _⟩
      have Hl4 := hide hl4
      have F4 := hide f4
      have s4 := f4.size
      clear hl4 f4
      go_wp2_with fail
      refine (newLow_c _ os w4 Hl4.out HMi.out.sl.bytes (by omega)).mono ?_
      rintro e w5 ⟨X, rfl, hX, f5⟩
      have HX := hide hX
      have F5 := hide (F4.out.join f5)
      have s5 := f5.size
      clear hX f5
      go_wp2_with fail
      refine (high_out 63 w5 0 B g' os' _ (HMi.out.wh.keep F5.out (fun h => h) (fun _ _ h => h)) (by omega)).mono ?_
      rintro e w6 ⟨a6, c6, rfl, hl6, f6, _⟩
      have Hl6 := hide hl6
      have F6 := hide (F5.out.join f6)
      have HX6 := hide (HX.out.keep f6 (fun _ _ _ h => h))
      have s6 := f6.size
      clear hl6 f6
      go_wp2_with fail
      refine (newHigh_c _ os' w6 Hl6.out HMi.out.sh.bytes (by omega)).mono ?_
      rintro e w7 ⟨Y, rfl, hY, f7⟩
      have hBS : BSt w w4.heap.size w5.heap.size X w6.heap.size w7.heap.size Y w.heap.size w7.heap.size (w7.heap.size + 1) os os' hb 0 0 ((w7.alloc (.cells #[.pointer (some ⟨X, 0, none⟩)] 25)).alloc (.cells #[.pointer (some ⟨Y, 0, none⟩)] 40)) := by
        have f := (Fr.of_alloc w7 (.cells #[.pointer (some ⟨X, 0, none⟩)] 25)).join (Fr.of_alloc _ (.cells #[.pointer (some ⟨Y, 0, none⟩)] 40))
        have ft := (F6.out.join f7).join f
        have sr := HFi.out.size
        have s7 := f7.size
        refine ⟨(HX6.out.keep f7 (fun _ _ _ h => h)).keep f (fun _ _ _ h => h), hY.keep f (fun _ _ _ h => h), ?_, ?_, ?_, ?_, ?_⟩
        · rw [ft.block _ (by omega) (fun h => h), HFi.out.block _ z2 (by omega)]; exact Hc3.out
        · rw [Below.heap_alloc _ _ _ (by simp only [size_alloc]; omega)]; exact heap_alloc_at rfl
        · exact heap_alloc_at (by simp only [size_alloc])
        · exact ((F1.out.trans HFi.out).trans ft).mono fun k hk h => by
            rcases h with (h | h) | h
            · exact h
            · omega
            · exact h
        · omega
      have HBS := hide hBS
      clear hY f7 hBS HX HX6 Hl4 Hl6 F4 F5 F6 s4 s5 s6
      have HL := hide HMi.out.sl
      have HH := hide HMi.out.sh
      clear HMi HFi HM F3 F2
      cases hb
      · go_wp2_with fail
        go_loopw [11] (fun t wr => ∃ j : Nat, t = .int .i64 j ∧ j ≤ ds.length ∧ BSt w w4.heap.size w5.heap.size X w6.heap.size w7.heap.size Y w.heap.size w7.heap.size (w7.heap.size + 1) os os' false (psum ds j) 0 wr) (fun t _ => ds.length - (intOf t).toNat)
        case atStart => exact ⟨0, rfl, Nat.zero_le _, HBS.out⟩
        case round =>
          obtain ⟨j, rfl, hj, hB⟩ := hrel
          by_cases hlt2 : j < ds.length
          · obtain ⟨D, o, c, e, hcell⟩ := Hl.out.at (by omega)
            simp only [Value.slice.injEq, true_and] at e
            obtain ⟨rfl, rfl⟩ := e
            obtain ⟨he1, he2⟩ := hcell j hlt2
            obtain ⟨⟨x, m⟩, hd⟩ : ∃ d, d = at0 ds j := ⟨_, rfl⟩
            rw [← hd] at he1 he2
            dsimp only at he1 he2
            have hD : D < w.heap.size := World.block_lt_of_cell? _ _ he1
            have e1 := (World.cell?_of_block (w := w) (a := ⟨D, o + j * 2, none⟩) (hB.fr.block D hD (fun h => h))).trans he1
            have e2 := (World.cell?_of_block (w := w) (a := ⟨D, o + j * 2 + 1, none⟩) (hB.fr.block D hD (fun h => h))).trans he2
            have hi0 : (0 : Int) ≤ (j : Int) := by omega
            have hi1 : (j : Int) < (ds.length : Int) := by omega
            obtain ⟨n, hn⟩ : ∃ n, n = wid (x, m) := ⟨_, rfl⟩
            have hwn : wrap64 ((IntKind.u64.wrap m).tmod 25) = (n : Int) := by rw [hn]; exact wid_walk x m
            have hn24 : n ≤ 24 := by rw [hn]; exact wid_le _
            have hDr : D < wr.heap.size := by have := hB.fr.size; omega
            obtain ⟨v, hv⟩ : ∃ v, v = val (x, m) := ⟨_, rfl⟩
            have hwant : bits .and .i64 x (wrap64 (wrap64 (2 ^ n) - 1)) = (v : Int) := by rw [hv, hn]; exact want_and x m
            have hpj : psum ds (j + 1) = psum ds j + n := by rw [hn, hd]; rfl
            have hpl := psum_mono ds (show j + 1 ≤ ds.length by omega)
            have hback : lowBits (leNum os) (psum ds j) n = v := by
              rw [HNi.out, hv, hn]
              have := low_back ds j ds.length hlt2
              rw [← hd] at this
              exact this
            have hln : psum ds j + n ≤ 8 * os.length := by have hl := HL.out.len; omega
            have HW := hide hwant
            have Hpj := hide hpj
            have Hback := hide hback
            have HB := hide hB
            have Hln := hide hln
            have o1 := hB.ord
            have s1 := lt_of hB.c10
            clear hn hd hB hcell hv hpj hpl hback hln hwant
            go_wp2_with fail
            go_quiet (fail)
            go_wp2_with fail
            have fW : Fr (fun _ => False) wr (((wr.alloc (.cells #[.int .i64 (n : Int)] 3)).drewN nq).alloc (.cells #[.int .i64 0] 3)) := ((Fr.of_alloc wr (.cells #[.int .i64 (n : Int)] 3)).join (Fr.of_drewN _ nq)).join (Fr.of_alloc _ (.cells #[.int .i64 0] 3))
            have hpn : (((wr.alloc (.cells #[.int .i64 (n : Int)] 3)).drewN nq).alloc (.cells #[.int .i64 0] 3)).heap[wr.heap.size]? = some (.cells #[.int .i64 (n : Int)] 3) := (Below.heap_alloc _ _ _ (by show _ < (wr.alloc _).heap.size; simp)).trans (heap_alloc_new wr _)
            have hpg : (((wr.alloc (.cells #[.int .i64 (n : Int)] 3)).drewN nq).alloc (.cells #[.int .i64 0] 3)).heap[wr.heap.size + 1]? = some (.cells #[.int .i64 0] 3) := heap_alloc_at (by show _ = (wr.alloc _).heap.size; simp)
            refine (back_guard_low w w4.heap.size w5.heap.size X w6.heap.size w7.heap.size Y w.heap.size w7.heap.size (w7.heap.size + 1) wr.heap.size (wr.heap.size + 1) os os' (psum ds j) 0 n _ (HB.out.far fW (fun _ _ h => h)) hpn hpg (by omega) hn24 Hln.out).mono ?_
            rw [Hback.out]
            rintro e w8 ⟨rfl, hB8, hg8⟩
            have k8 := cell_of (o := 0) hg8 rfl
            have HB8 := hide hB8
            have hne : ((v : Int) != bits .and .i64 x (wrap64 (wrap64 (2 ^ n) - 1))) = false := by rw [HW.out]; simp
            clear hB8 hg8 fW hpn hpg hwn
            go_wp2
            refine ⟨⟨j + 1, by simp, by omega, by rw [Hpj.out]; exact HB8.out⟩, by simp [intOf]; omega⟩
          · have ej : j = ds.length := by omega
            subst ej
            have HB := hide hB
            have k9 := cell_of (o := 0) hB.c9 rfl
            have k3 := cell_of (o := 0) hB.c3 rfl
            have k10 := cell_of (o := 0) hB.c10 rfl
            clear hB
            have hl8 : 8 * (os.length : Int) - (psum ds ds.length : Int) < 8 := by have hl := HL.out.len; omega
            go_wp2_with fail
            refine (low_left _ _ _ X os _ _ _ HB.out.rx).mono ?_
            rintro e w8 ⟨rfl, k, hw8⟩
            have HB8 := hide (HB.out.far (w' := w8) (by rw [hw8]; exact Fr.of_drewN _ _) (fun _ _ h => h))
            clear hw8
            go_wp2
            go_ret
            exact ⟨rfl, HB8.out.fr⟩
      · go_wp2_with fail
        go_loopw [11] (fun t wr => ∃ j : Nat, t = .int .i64 j ∧ j ≤ ds.length ∧ BSt w w4.heap.size w5.heap.size X w6.heap.size w7.heap.size Y w.heap.size w7.heap.size (w7.heap.size + 1) os os' true 0 (psum ds j) wr) (fun t _ => ds.length - (intOf t).toNat)
        case atStart => exact ⟨0, rfl, Nat.zero_le _, HBS.out⟩
        case round =>
          obtain ⟨j, rfl, hj, hB⟩ := hrel
          by_cases hlt2 : j < ds.length
          · obtain ⟨D, o, c, e, hcell⟩ := Hl.out.at (by omega)
            simp only [Value.slice.injEq, true_and] at e
            obtain ⟨rfl, rfl⟩ := e
            obtain ⟨he1, he2⟩ := hcell j hlt2
            obtain ⟨⟨x, m⟩, hd⟩ : ∃ d, d = at0 ds j := ⟨_, rfl⟩
            rw [← hd] at he1 he2
            dsimp only at he1 he2
            have hD : D < w.heap.size := World.block_lt_of_cell? _ _ he1
            have e1 := (World.cell?_of_block (w := w) (a := ⟨D, o + j * 2, none⟩) (hB.fr.block D hD (fun h => h))).trans he1
            have e2 := (World.cell?_of_block (w := w) (a := ⟨D, o + j * 2 + 1, none⟩) (hB.fr.block D hD (fun h => h))).trans he2
            have hi0 : (0 : Int) ≤ (j : Int) := by omega
            have hi1 : (j : Int) < (ds.length : Int) := by omega
            obtain ⟨n, hn⟩ : ∃ n, n = wid (x, m) := ⟨_, rfl⟩
            have hwn : wrap64 ((IntKind.u64.wrap m).tmod 25) = (n : Int) := by rw [hn]; exact wid_walk x m
            have hn24 : n ≤ 24 := by rw [hn]; exact wid_le _
            have hDr : D < wr.heap.size := by have := hB.fr.size; omega
            obtain ⟨v, hv⟩ : ∃ v, v = val (x, m) := ⟨_, rfl⟩
            have hwant : bits .and .i64 x (wrap64 (wrap64 (2 ^ n) - 1)) = (v : Int) := by rw [hv, hn]; exact want_and x m
            have hpj : psum ds (j + 1) = psum ds j + n := by rw [hn, hd]; rfl
            have hpl := psum_mono ds (show j + 1 ≤ ds.length by omega)
            have hback : lowBits (beNum os') (8 * os'.length - psum ds j - n) n = v := by
              have hl := HH.out.len
              rw [HH.out.split, HHi.out, lowBits_shift _ _ _ _ (by omega), hv, hn]
              have := high_back ds j ds.length hlt2
              rw [← hd] at this
              rw [← this]
              congr 1
              rw [← hn]; omega
            have hln : psum ds j + n ≤ 8 * os'.length := by have hl := HH.out.len; omega
            have HW := hide hwant
            have Hpj := hide hpj
            have Hback := hide hback
            have HB := hide hB
            have Hln := hide hln
            have o1 := hB.ord
            have s1 := lt_of hB.c10
            clear hn hd hB hcell hv hpj hpl hback hln hwant
            go_wp2_with fail
            go_quiet (fail)
            go_wp2_with fail
            have fW : Fr (fun _ => False) wr (((wr.alloc (.cells #[.int .i64 (n : Int)] 3)).drewN nq).alloc (.cells #[.int .i64 0] 3)) := ((Fr.of_alloc wr (.cells #[.int .i64 (n : Int)] 3)).join (Fr.of_drewN _ nq)).join (Fr.of_alloc _ (.cells #[.int .i64 0] 3))
            have hpn : (((wr.alloc (.cells #[.int .i64 (n : Int)] 3)).drewN nq).alloc (.cells #[.int .i64 0] 3)).heap[wr.heap.size]? = some (.cells #[.int .i64 (n : Int)] 3) := (Below.heap_alloc _ _ _ (by show _ < (wr.alloc _).heap.size; simp)).trans (heap_alloc_new wr _)
            have hpg : (((wr.alloc (.cells #[.int .i64 (n : Int)] 3)).drewN nq).alloc (.cells #[.int .i64 0] 3)).heap[wr.heap.size + 1]? = some (.cells #[.int .i64 0] 3) := heap_alloc_at (by show _ = (wr.alloc _).heap.size; simp)
            refine (back_guard_high w w4.heap.size w5.heap.size X w6.heap.size w7.heap.size Y w.heap.size w7.heap.size (w7.heap.size + 1) wr.heap.size (wr.heap.size + 1) os os' 0 (psum ds j) n _ (HB.out.far fW (fun _ _ h => h)) hpn hpg (by omega) hn24 Hln.out).mono ?_
            rw [Hback.out]
            rintro e w8 ⟨rfl, hB8, hg8⟩
            have k8 := cell_of (o := 0) hg8 rfl
            have HB8 := hide hB8
            have hne : ((v : Int) != bits .and .i64 x (wrap64 (wrap64 (2 ^ n) - 1))) = false := by rw [HW.out]; simp
            clear hB8 hg8 fW hpn hpg hwn
            go_wp2
            refine ⟨⟨j + 1, by simp, by omega, by rw [Hpj.out]; exact HB8.out⟩, by simp [intOf]; omega⟩
          · have ej : j = ds.length := by omega
            subst ej
            have HB := hide hB
            have k9 := cell_of (o := 0) hB.c9 rfl
            have k3 := cell_of (o := 0) hB.c3 rfl
            have k10 := cell_of (o := 0) hB.c10 rfl
            clear hB
            have hl8 : 8 * (os'.length : Int) - (psum ds ds.length : Int) < 8 := by have hl := HH.out.len; omega
            go_wp2_with fail
            refine (low_left _ _ _ X os _ _ _ HB.out.rx).mono ?_
            rintro e w8 ⟨rfl, k, hw8⟩
            have HB8 := hide (HB.out.far (w' := w8) (by rw [hw8]; exact Fr.of_drewN _ _) (fun _ _ h => h))
            have k3 := cell_of (o := 0) HB8.out.c3 rfl
            have k10 := cell_of (o := 0) HB8.out.c10 rfl
            clear hw8
            by_cases h8 : 8 * (os.length : Int) - ((0 : Nat) : Int) < 8
            · go_wp2
              go_ret
              exact ⟨rfl, HB8.out.fr⟩
            · go_wp2_with fail
              refine (high_left _ _ _ Y os' _ _ _ HB8.out.ry).mono ?_
              rintro e w9 ⟨rfl, k', hw9⟩
              have HB9 := hide (HB8.out.far (w' := w9) (by rw [hw9]; exact Fr.of_drewN _ _) (fun _ _ h => h))
              clear hw9
              go_wp2
              go_ret
              exact ⟨rfl, HB9.out.fr⟩
end Go.Proofs.Ytkmgpapopgeldaa
