import Derived.Test.YtkmgpapopgeldaaXg
namespace Go.Proofs.Ytkmgpapopgeldaa
open Go.RowKit

theorem alloc_keep (w : World) (a : Addr) (o : Obj) (u : Value) (h : w.cell? a = some u) : (w.alloc o).cell? a = some u := by
  rw [World.cell?_alloc_lt _ _ _ (World.block_lt_of_cell? w a h)]; exact h


theorem pair_f (w : World) (x n : Int) : Fr (fun _ => False) w (((w.alloc (.cells #[.int .i64 x] 3)).alloc (.cells #[.int .i64 n] 3)).drew) := ((Fr.of_alloc w _).join (Fr.of_alloc _ _)).join (Fr.of_drewN _ 1)
theorem pair_a (w : World) (x n : Int) : (((w.alloc (.cells #[.int .i64 x] 3)).alloc (.cells #[.int .i64 n] 3)).drew).heap[w.heap.size]? = some (.cells #[.int .i64 x] 3) := by
  show ((w.alloc (.cells #[.int .i64 x] 3)).alloc (.cells #[.int .i64 n] 3)).heap[w.heap.size]? = _
  rw [Below.heap_alloc _ _ _ (by simp)]; exact heap_alloc_new _ _
theorem pair_b (w : World) (x n : Int) : (((w.alloc (.cells #[.int .i64 x] 3)).alloc (.cells #[.int .i64 n] 3)).drew).heap[w.heap.size + 1]? = some (.cells #[.int .i64 n] 3) := by
  show ((w.alloc (.cells #[.int .i64 x] 3)).alloc (.cells #[.int .i64 n] 3)).heap[w.heap.size + 1]? = _
  exact heap_alloc_at (by simp only [size_alloc])

theorem lies_fr {w W : World} {sv : Value} {bs : List Nat} (h : Lies w sv bs) (f : Fr (fun _ => False) w W) : Lies W sv bs := by
  rcases h with h | ⟨ad, c, e, hc⟩
  · exact Or.inl h
  · exact Or.inr ⟨ad, c, e, fun j u hu => (World.cell?_of_block (f.block _ (World.block_lt_of_cell? w _ (hc j u hu)) (fun h => h))).trans (hc j u hu)⟩

set_option maxHeartbeats 12800000 in
set_option maxRecDepth 100000 in
theorem write_low (a0 : Option Addr) (c0 : Nat) (ds : List (Int × Int)) (w : World) (hl : LiesD w (.slice a0 ds.length c0) ds) (hbn : (ds.length : Int) ≤ 300) :
    Calls Try.prog 5 #[.slice a0 ds.length c0, .bool false] w fun e w' => e = .returned (.bool true) ∧ Fr (fun _ => False) w w' := by
  have hmf : ∀ (fn : Fn) (first cap : Array Value) (w : World), (Instr.makeFunc fn first cap).run Try.prog w = .ok (.func fn first cap) w := fun _ _ _ _ => rfl
  have Hl := hide hl
  clear hl
  go_enter Try.func5, Try.ntmps5
  go_wp2_with fail
  refine (awake_c _).mono ?_
  rintro e w1 ⟨rfl, f1⟩
  have F1 := hide ((Fr.of_alloc w (.cells #[.bool false] 4)).join f1)
  have hc3 : w1.heap[w.heap.size]? = some (.cells #[.bool false] 4) := by rw [f1.block _ (by simp) (fun h => h)]; exact heap_alloc_new _ _
  have k3 : w1.cell? ⟨w.heap.size, 0, none⟩ = some (.bool false) := cell_of (o := 0) hc3 rfl
  have Hc3 := hide hc3
  clear f1 hc3
  go_upto_region 5 with fail
  go_cut [5, 6, 7] from 19 to 23 (fun s5 s6 s7 wx => ∃ p5 p6 A B K, s5 = .pointer (some ⟨p5, 0, none⟩) ∧ s6 = .pointer (some ⟨p6, 0, none⟩) ∧ s7 = .pointer (some ⟨K, 0, none⟩) ∧ W0 false w w.heap.size p5 p6 A B K wx)
  case first =>
    refine wp_region_noPanic ?_
    refine wp_region_held_drew (S := fun w' => w'.cell? ⟨w.heap.size, 0, none⟩ = some (.bool false)) (by kernel_rfl) (by rw [World.cell?_drew]; exact k3) (fun hHeld => ?_)
    refine region5 false w w1 w.heap.size Hc3.out F1.out (Nat.le_refl _) _ ?_
    intro A B K p5 p6 wF h
    go_wp2_with fail
    go_meet
    exact ⟨p5, p6, A, B, K, rfl, rfl, rfl, h⟩
  case rest =>
    obtain ⟨p5, p6, A, B, K, rfl, rfl, rfl, h0⟩ := hcut
    have k5 := cell_of (o := 0) h0.c5 rfl
    have k6 := cell_of (o := 0) h0.c6 rfl
    have HW := hide h0.low
    clear h0
    obtain ⟨N0, hN0⟩ : ∃ N0, N0 = wc.heap.size := ⟨_, rfl⟩
    rw [← hN0] at HW
    clear hN0
    go_wp2_with fail
    go_loopw [8] (fun t wr => ∃ (i : Nat) (g gk : Option Nat) (os bl : List Nat), t = .int .i64 i ∧ i ≤ ds.length ∧ WSt false 56 25 63 40 w N0 w.heap.size p5 p6 A B K g gk os bl wr ∧ LowSt os bl.length ∧ leNum os = numL bl ∧ bl.length ≤ 24 * i) (fun t _ => ds.length - (intOf t).toNat)
    case atStart => exact ⟨0, none, none, [], [], rfl, Nat.zero_le _, HW.out, lowSt_zero, rfl, by simp⟩
    case round =>
      obtain ⟨i, g, gk, os, bl, rfl, hi, hS, hst, hnum, hbl⟩ := hrel
      by_cases hlt : i < ds.length
      · obtain ⟨D, o, c, e, hcell⟩ := Hl.out.at (by omega)
        simp only [Value.slice.injEq, true_and] at e
        obtain ⟨rfl, rfl⟩ := e
        obtain ⟨he1, he2⟩ := hcell i hlt
        obtain ⟨x, hx⟩ : ∃ x, x = (at0 ds i).1 := ⟨_, rfl⟩
        obtain ⟨n, hn⟩ : ∃ n, n = (at0 ds i).2 := ⟨_, rfl⟩
        rw [← hx] at he1
        rw [← hn] at he2
        have hD : D < w.heap.size := World.block_lt_of_cell? _ _ he1
        have e1 : wr.cell? ⟨D, o + i * 2, none⟩ = some (.int .i64 x) := by rw [World.cell?_of_block (w := w) (hS.fr.block D hD (fun h => h))]; exact he1
        have e2 : wr.cell? ⟨D, o + i * 2 + 1, none⟩ = some (.int .i64 n) := by rw [World.cell?_of_block (w := w) (hS.fr.block D hD (fun h => h))]; exact he2
        have hi0 : (0 : Int) ≤ (i : Int) := by omega
        have hi1 : (i : Int) < (ds.length : Int) := by omega
        have hDr : D < wr.heap.size := World.block_lt_of_cell? _ _ e1
        have m0 : ¬ D = wr.heap.size := by omega
        have m1 : ¬ D = wr.heap.size + 1 := by omega
        have m2 : ¬ wr.heap.size = D := by omega
        have m3 : ¬ wr.heap.size + 1 = D := by omega
        have HS := hide hS
        have Hst := hide hst
        have Hnum := hide hnum
        have Hbl := hide hbl
        clear hS hst hnum hbl hcell he1 he2 hx hn
        go_upto_region 11 with fail
        go_cut [9, 10] from 30 to 61 (fun s9 s10 wx => ∃ p9 p10, s9 = .pointer (some ⟨p9, 0, none⟩) ∧ s10 = .pointer (some ⟨p10, 0, none⟩) ∧ (wr.heap.size ≤ p9 ∧ wr.heap.size ≤ p10) ∧ wx.heap[p9]? = some (.cells #[.int .i64 x] 3) ∧ wx.heap[p10]? = some (.cells #[.int .i64 n] 3) ∧ Fr (fun _ => False) wr wx)
        case first =>
          go_region
          all_goals
            go_wp2_with fail
            go_meet
            first
              | exact ⟨_, _, rfl, rfl, ⟨by omega, by omega⟩, pair_a _ _ _, pair_b _ _ _, pair_f _ _ _⟩
              | exact ⟨_, _, rfl, rfl, ⟨by omega, by omega⟩, pair_b _ _ _, pair_a _ _ _, pair_f _ _ _⟩
        case rest =>
          obtain ⟨p9, p10, rfl, rfl, ⟨hp9, hp10⟩, h9, h10, hfx⟩ := hcut
          obtain ⟨wq, hwq⟩ : ∃ wq, wq = wc := ⟨_, rfl⟩
          rw [← hwq] at h9 h10 hfx ⊢
          clear hwq
          have hS1 := HS.out.far hfx (fun _ _ h => h)
          have kx := cell_of (o := 0) h9 rfl
          have kn := cell_of (o := 0) h10 rfl
          have l1 := HS.out.lt
          have l2 := HS.out.ne
          have l3 := HS.out.gr
          have l4 := HS.out.wr.lts
          have l5 := HS.out.pk.lts
          have HS1 := hide hS1
          have H9 := hide h9
          have H10 := hide h10
          have Hl1 := hide l1
          have Hl2 := hide l2
          have Hl3 := hide l3
          have Hl4 := hide l4
          have Hl5 := hide l5
          clear hS1 h9 h10 hfx l1 l2 l3 l4 l5
          by_cases hok : 0 ≤ n ∧ n ≤ 24
          · obtain ⟨m, rfl⟩ := Int.eq_ofNat_of_zero_le hok.1
            have hm : m ≤ 24 := by omega
            have hm0 : (0 : Int) ≤ (m : Int) := by omega
            have hm1 : (m : Int) ≤ 24 := by omega
            clear hok
            go_wp2_with fail
            refine (wguard_low_ok A w.heap.size p5 p6 p9 p10 g os bl.length m x _ HS1.out.wr Hst.out (by have := Hbl.out; omega) hm HS1.out.c3 HS1.out.ca H9.out H10.out).mono ?_
            rintro e w4 ⟨rfl, g', os', r1, r2, r3, r4, r5⟩
            have o9 : w4.heap[p9]? = some (.cells #[.int .i64 x] 3) := (r4.block p9 (lt_of H9.out) (by
              have l1 := Hl1.out
              rintro (e | e)
              · omega
              · have := Hl4.out _ e; omega)).trans H9.out
            have o10 : w4.heap[p10]? = some (.cells #[.int .i64 (m : Int)] 3) := (r4.block p10 (lt_of H10.out) (by
              have l1 := Hl1.out
              rintro (e | e)
              · omega
              · have := Hl4.out _ e; omega)).trans H10.out
            have kx4 := cell_of (o := 0) o9 rfl
            have kn4 := cell_of (o := 0) o10 rfl
            have hPk : Hid (Pk w4 K gk bl false) := HS1.out.pk.keep r4 (by
              have l1 := Hl1.out
              have l2 := Hl2.out
              rintro (e | e)
              · omega
              · have := Hl3.out.1 _ e; omega) (by
              have l1 := Hl1.out
              rintro k hk (e | e)
              · have := Hl3.out.2.1 _ hk; omega
              · exact Hl3.out.2.2 k e hk)
            have R1 := hide r1
            have R2 := hide r2
            have R3 := hide r3
            have R4 := hide r4
            have R5 := hide r5
            clear o9 o10 r1 r2 r3 r4 r5
            go_wp2_with fail
            refine (pk_put_low K gk bl m x w4 hPk.out HS1.out.bits hm (by have := Hbl.out; omega)).mono ?_
            rintro e w5 ⟨rfl, gk', bl', q1, ⟨u1, u2, u3⟩, q3, q4⟩
            have hS5 := HS1.out.next (bl' := bl') (by rw [u1]; exact R1.out) R4.out R5.out q1 q3 q4 u2
            have HS5 := hide hS5
            have U1 := hide u1
            have U3 := hide u3
            clear hS5 q1 q3 q4 u1 u2 u3
            go_wp2
            refine ⟨⟨i + 1, g', gk', os', bl', by simp, by omega, HS5.out, by rw [U1.out]; exact R2.out, ?_, by have := Hbl.out; have := U1.out; omega⟩, low_meas i ds.length hlt⟩
            have u3 : numL bl' = numL bl + lowBits (bitsOf x) 0 m * 2 ^ bl.length := by simpa using U3.out
            rw [R3.out, Hnum.out, u3]
            rfl
          · have hbad : n < 0 ∨ 24 < n := by omega
            have Hbad := hide hbad
            have hz : (0 ≤ n ∧ ¬ n ≤ 24) ∨ ¬ 0 ≤ n := by omega
            clear hbad hok
            go_wp2_with fail
            refine (wguard_low_no A w.heap.size p5 p6 p9 p10 x n _ Hbad.out HS1.out.c3 HS1.out.ca H9.out H10.out).mono ?_
            rintro e w4 ⟨rfl, r4⟩
            have o10 : w4.heap[p10]? = some (.cells #[.int .i64 n] 3) := (r4.block p10 (lt_of H10.out) (fun h => h)).trans H10.out
            have kn4 := cell_of (o := 0) o10 rfl
            have HS4 := hide (HS1.out.far r4 (fun _ _ h => h))
            clear o10 r4
            rcases hz with ⟨z1, z2⟩ | z1
            · go_wp2
              exact ⟨⟨i + 1, g, gk, os, bl, by simp, by omega, HS4.out, Hst.out, Hnum.out, by have := Hbl.out; omega⟩, low_meas i ds.length hlt⟩
            · go_wp2
              exact ⟨⟨i + 1, g, gk, os, bl, by simp, by omega, HS4.out, Hst.out, Hnum.out, by have := Hbl.out; omega⟩, low_meas i ds.length hlt⟩
      · have ei : i = ds.length := by omega
        subst ei
        have hol : os.length ≤ 1000 := by have := hst.len; omega
        have hbl9 : bl.length ≤ 100000 := by omega
        have k3 := cell_of (o := 0) hS.c3 rfl
        have ka := cell_of (o := 0) hS.ca rfl
        have ky := cell_of (o := 0) hS.cy rfl
        have HS := hide hS
        have Hst := hide hst
        have Hnum := hide hnum
        clear hS hst hnum hbl
        go_wp2_with fail
        refine (low_out 56 wr 0 A g os _ HS.out.wr (by omega)).mono ?_
        rintro e w5 ⟨a5, c5, rfl, hl5, f5, _⟩
        have k3 := cell_of (o := 0) ((f5.block _ (lt_of HS.out.c3) (fun h => h)).trans HS.out.c3) rfl
        have F5 := hide f5
        have Hl5 := hide hl5
        clear hl5 f5
        go_wp2_with fail
        have hb0 : ∀ (W : World) (sv : Value), Lies W sv os → (convert 22 9 sv).run Try.prog W = .ok (.string (strOf os)) W := fun W sv h => str_lies h Hst.out.bytes
        have false0 := hide hb0
        clear hb0
        generalize strOf os = S0 at false0
        have hcv : ∀ W, Fr (fun _ => False) w5 W → (convert 22 9 (.slice a5 os.length c5)).run Try.prog W = .ok (.string S0) W := fun W f => false0.out W _ (lies_fr Hl5.out f)
        have Hcv := hide hcv
        have hPk : Hid (Pk w5.drew K gk bl false) := HS.out.pk.keep (F5.out.join (Fr.of_drewN w5 1)) (fun h => h) (fun _ _ h => h)
        have hs1 := hcv _ (Fr.of_drewN w5 1)
        clear hcv
        refine wp_region_noPanic ?_
        refine wp_region_held_drew (S := fun w' => (convert 22 9 (.slice a5 os.length c5)).run Try.prog w' = .ok (.string S0) w') (by kernel_rfl) hs1 (fun hHeld => ?_)
        refine wpAnyH_take (i := 0) (v := ?v0) rfl (by kernel_rfl) (by kernel_rfl) (by kernel_rfl) (fun _ _ _ h => h) (Or.inl ⟨by rfl, ?hy0⟩) hHeld ?rest0
        case hy0 => (intro W hSw; (try dsimp only at hSw); go_simp; all_goals (with_reducible rfl))
        change wpAnyH _ _ _ _ _ _ _ (Act.put _ (some 67) _) _
        simp only [Act.put, List.setIfInBounds_toArray, List.set_cons_zero, List.set_cons_succ]
        refine wpAnyH_take (i := 1) (v := ?v1) rfl (by kernel_rfl) (by kernel_rfl) (by kernel_rfl) (fun _ _ _ h => h) (Or.inl ⟨by rfl, ?hy1⟩) hHeld ?rest1
        case hy1 => (intro W hSw; (try dsimp only at hSw); go_simp; all_goals (with_reducible rfl))
        change wpAnyH _ _ _ _ _ _ _ (Act.put _ (some 68) _) _
        simp only [Act.put, List.setIfInBounds_toArray, List.set_cons_zero, List.set_cons_succ]
        refine wpAnyH_take (i := 2) (v := ?v2) rfl (by kernel_rfl) (by kernel_rfl) (by kernel_rfl) (fun _ _ _ h => h) (Or.inl ⟨by rfl, ?hy2⟩) hHeld ?rest2
        case hy2 => (intro W hSw; (try dsimp only at hSw); go_simp; all_goals (with_reducible rfl))
        change wpAnyH _ _ _ _ _ _ _ (Act.put _ (some 69) _) _
        simp only [Act.put, List.setIfInBounds_toArray, List.set_cons_zero, List.set_cons_succ]
        refine wpAnyH_ready (rs := [3]) (by kernel_rfl) (by simp) ?_
        refine AllReadyH.cons rfl (fun Kx hK => ?_) AllReadyH.nil
        try simp only [List.getElem_toArray, List.getElem_cons_succ, List.getElem_cons_zero]
        go_simp
        refine (pk_out_low K gk bl _ hPk.out HS.out.bits hbl9).mono ?_
        rintro e w6 ⟨ob, c6, rfl, hl6, ho6, f6⟩
        have eob := write_low_eq bl ob os ho6 Hst.out Hnum.out
        subst eob
        have F6 := hide ((F5.out.join (Fr.of_drewN w5 1)).join f6)
        have k1 := Hcv.out _ ((Fr.of_drewN w5 1).join f6)
        have k2 : (convert 22 9 (.slice (some ⟨w5.heap.size, 0, none⟩) ob.length c6)).run Try.prog w6 = .ok (.string S0) w6 := false0.out _ _ hl6
        clear hl6 ho6 f6 hHeld
        refine hK.out _ _ k1 (fun hHeld => ?_)
        clear hK Kx
        refine wpAnyH_ready (rs := [4]) (by kernel_rfl) (by simp) ?_
        refine AllReadyH.cons rfl (fun Kx hK => ?_) AllReadyH.nil
        try simp only [List.getElem_toArray, List.getElem_cons_succ, List.getElem_cons_zero]
        go_simp
        refine hK.out _ _ k1 (fun hHeld => ?_)
        clear hK Kx
        refine wpAnyH_take (i := 5) (v := ?v5) rfl (by kernel_rfl) (by kernel_rfl) (by kernel_rfl) (fun _ _ _ h => h) (Or.inl ⟨by rfl, ?hy5⟩) hHeld ?rest5
        case hy5 => (intro W hSw; (try dsimp only at hSw); go_simp; all_goals (with_reducible rfl))
        change wpAnyH _ _ _ _ _ _ _ (Act.put _ (some 72) _) _
        simp only [Act.put, List.setIfInBounds_toArray, List.set_cons_zero, List.set_cons_succ]
        refine wpAnyH_take (i := 6) (v := ?v6) rfl (by kernel_rfl) (by kernel_rfl) (by kernel_rfl) (fun _ _ _ h => h) (Or.inl ⟨by rfl, ?hy6⟩) hHeld ?rest6
        case hy6 => (intro W hSw; (try dsimp only at hSw); go_simp; all_goals (with_reducible rfl))
        change wpAnyH _ _ _ _ _ _ _ (Act.put _ (some 4) _) _
        simp only [Act.put, List.setIfInBounds_toArray, List.set_cons_zero, List.set_cons_succ]
        refine wpAnyH_done (by kernel_rfl) ?_ _
        refine NoPanic.normal ?_
        go_wp2
        go_ret
        exact ⟨rfl, HS.out.fr.join F6.out⟩

set_option maxHeartbeats 12800000 in
set_option maxRecDepth 100000 in
theorem write_high (a0 : Option Addr) (c0 : Nat) (ds : List (Int × Int)) (w : World) (hl : LiesD w (.slice a0 ds.length c0) ds) (hbn : (ds.length : Int) ≤ 300) :
    Calls Try.prog 5 #[.slice a0 ds.length c0, .bool true] w fun e w' => e = .returned (.bool true) ∧ Fr (fun _ => False) w w' := by
  have hmf : ∀ (fn : Fn) (first cap : Array Value) (w : World), (Instr.makeFunc fn first cap).run Try.prog w = .ok (.func fn first cap) w := fun _ _ _ _ => rfl
  have Hl := hide hl
  clear hl
  go_enter Try.func5, Try.ntmps5
  go_wp2_with fail
  refine (awake_c _).mono ?_
  rintro e w1 ⟨rfl, f1⟩
  have F1 := hide ((Fr.of_alloc w (.cells #[.bool true] 4)).join f1)
  have hc3 : w1.heap[w.heap.size]? = some (.cells #[.bool true] 4) := by rw [f1.block _ (by simp) (fun h => h)]; exact heap_alloc_new _ _
  have k3 : w1.cell? ⟨w.heap.size, 0, none⟩ = some (.bool true) := cell_of (o := 0) hc3 rfl
  have Hc3 := hide hc3
  clear f1 hc3
  go_upto_region 5 with fail
  go_cut [5, 6, 7] from 19 to 23 (fun s5 s6 s7 wx => ∃ p5 p6 A B K, s5 = .pointer (some ⟨p5, 0, none⟩) ∧ s6 = .pointer (some ⟨p6, 0, none⟩) ∧ s7 = .pointer (some ⟨K, 0, none⟩) ∧ W0 true w w.heap.size p5 p6 A B K wx)
  case first =>
    refine wp_region_noPanic ?_
    refine wp_region_held_drew (S := fun w' => w'.cell? ⟨w.heap.size, 0, none⟩ = some (.bool true)) (by kernel_rfl) (by rw [World.cell?_drew]; exact k3) (fun hHeld => ?_)
    refine region5 true w w1 w.heap.size Hc3.out F1.out (Nat.le_refl _) _ ?_
    intro A B K p5 p6 wF h
    go_wp2_with fail
    go_meet
    exact ⟨p5, p6, A, B, K, rfl, rfl, rfl, h⟩
  case rest =>
    obtain ⟨p5, p6, A, B, K, rfl, rfl, rfl, h0⟩ := hcut
    have k5 := cell_of (o := 0) h0.c5 rfl
    have k6 := cell_of (o := 0) h0.c6 rfl
    have HW := hide h0.high
    clear h0
    obtain ⟨N0, hN0⟩ : ∃ N0, N0 = wc.heap.size := ⟨_, rfl⟩
    rw [← hN0] at HW
    clear hN0
    go_wp2_with fail
    go_loopw [8] (fun t wr => ∃ (i : Nat) (g gk : Option Nat) (os bl : List Nat), t = .int .i64 i ∧ i ≤ ds.length ∧ WSt true 63 40 56 25 w N0 w.heap.size p6 p5 B A K g gk os bl wr ∧ HighSt os bl.length ∧ hiNum os bl.length = numH bl ∧ bl.length ≤ 24 * i) (fun t _ => ds.length - (intOf t).toNat)
    case atStart => exact ⟨0, none, none, [], [], rfl, Nat.zero_le _, HW.out, highSt_zero, rfl, by simp⟩
    case round =>
      obtain ⟨i, g, gk, os, bl, rfl, hi, hS, hst, hnum, hbl⟩ := hrel
      by_cases hlt : i < ds.length
      · obtain ⟨D, o, c, e, hcell⟩ := Hl.out.at (by omega)
        simp only [Value.slice.injEq, true_and] at e
        obtain ⟨rfl, rfl⟩ := e
        obtain ⟨he1, he2⟩ := hcell i hlt
        obtain ⟨x, hx⟩ : ∃ x, x = (at0 ds i).1 := ⟨_, rfl⟩
        obtain ⟨n, hn⟩ : ∃ n, n = (at0 ds i).2 := ⟨_, rfl⟩
        rw [← hx] at he1
        rw [← hn] at he2
        have hD : D < w.heap.size := World.block_lt_of_cell? _ _ he1
        have e1 : wr.cell? ⟨D, o + i * 2, none⟩ = some (.int .i64 x) := by rw [World.cell?_of_block (w := w) (hS.fr.block D hD (fun h => h))]; exact he1
        have e2 : wr.cell? ⟨D, o + i * 2 + 1, none⟩ = some (.int .i64 n) := by rw [World.cell?_of_block (w := w) (hS.fr.block D hD (fun h => h))]; exact he2
        have hi0 : (0 : Int) ≤ (i : Int) := by omega
        have hi1 : (i : Int) < (ds.length : Int) := by omega
        have hDr : D < wr.heap.size := World.block_lt_of_cell? _ _ e1
        have m0 : ¬ D = wr.heap.size := by omega
        have m1 : ¬ D = wr.heap.size + 1 := by omega
        have m2 : ¬ wr.heap.size = D := by omega
        have m3 : ¬ wr.heap.size + 1 = D := by omega
        have HS := hide hS
        have Hst := hide hst
        have Hnum := hide hnum
        have Hbl := hide hbl
        clear hS hst hnum hbl hcell he1 he2 hx hn
        go_upto_region 11 with fail
        go_cut [9, 10] from 30 to 61 (fun s9 s10 wx => ∃ p9 p10, s9 = .pointer (some ⟨p9, 0, none⟩) ∧ s10 = .pointer (some ⟨p10, 0, none⟩) ∧ (wr.heap.size ≤ p9 ∧ wr.heap.size ≤ p10) ∧ wx.heap[p9]? = some (.cells #[.int .i64 x] 3) ∧ wx.heap[p10]? = some (.cells #[.int .i64 n] 3) ∧ Fr (fun _ => False) wr wx)
        case first =>
          go_region
          all_goals
            go_wp2_with fail
            go_meet
            first
              | exact ⟨_, _, rfl, rfl, ⟨by omega, by omega⟩, pair_a _ _ _, pair_b _ _ _, pair_f _ _ _⟩
              | exact ⟨_, _, rfl, rfl, ⟨by omega, by omega⟩, pair_b _ _ _, pair_a _ _ _, pair_f _ _ _⟩
        case rest =>
          obtain ⟨p9, p10, rfl, rfl, ⟨hp9, hp10⟩, h9, h10, hfx⟩ := hcut
          obtain ⟨wq, hwq⟩ : ∃ wq, wq = wc := ⟨_, rfl⟩
          rw [← hwq] at h9 h10 hfx ⊢
          clear hwq
          have hS1 := HS.out.far hfx (fun _ _ h => h)
          have kx := cell_of (o := 0) h9 rfl
          have kn := cell_of (o := 0) h10 rfl
          have l1 := HS.out.lt
          have l2 := HS.out.ne
          have l3 := HS.out.gr
          have l4 := HS.out.wr.lts
          have l5 := HS.out.pk.lts
          have HS1 := hide hS1
          have H9 := hide h9
          have H10 := hide h10
          have Hl1 := hide l1
          have Hl2 := hide l2
          have Hl3 := hide l3
          have Hl4 := hide l4
          have Hl5 := hide l5
          clear hS1 h9 h10 hfx l1 l2 l3 l4 l5
          by_cases hok : 0 ≤ n ∧ n ≤ 24
          · obtain ⟨m, rfl⟩ := Int.eq_ofNat_of_zero_le hok.1
            have hm : m ≤ 24 := by omega
            have hm0 : (0 : Int) ≤ (m : Int) := by omega
            have hm1 : (m : Int) ≤ 24 := by omega
            clear hok
            go_wp2_with fail
            refine (wguard_high_ok B w.heap.size p5 p6 p9 p10 g os bl.length m x _ HS1.out.wr Hst.out (by have := Hbl.out; omega) hm HS1.out.c3 HS1.out.ca H9.out H10.out).mono ?_
            rintro e w4 ⟨rfl, g', os', r1, r2, r3, r4, r5⟩
            have o9 : w4.heap[p9]? = some (.cells #[.int .i64 x] 3) := (r4.block p9 (lt_of H9.out) (by
              have l1 := Hl1.out
              rintro (e | e)
              · omega
              · have := Hl4.out _ e; omega)).trans H9.out
            have o10 : w4.heap[p10]? = some (.cells #[.int .i64 (m : Int)] 3) := (r4.block p10 (lt_of H10.out) (by
              have l1 := Hl1.out
              rintro (e | e)
              · omega
              · have := Hl4.out _ e; omega)).trans H10.out
            have kx4 := cell_of (o := 0) o9 rfl
            have kn4 := cell_of (o := 0) o10 rfl
            have hPk : Hid (Pk w4 K gk bl true) := HS1.out.pk.keep r4 (by
              have l1 := Hl1.out
              have l2 := Hl2.out
              rintro (e | e)
              · omega
              · have := Hl3.out.1 _ e; omega) (by
              have l1 := Hl1.out
              rintro k hk (e | e)
              · have := Hl3.out.2.1 _ hk; omega
              · exact Hl3.out.2.2 k e hk)
            have R1 := hide r1
            have R2 := hide r2
            have R3 := hide r3
            have R4 := hide r4
            have R5 := hide r5
            clear o9 o10 r1 r2 r3 r4 r5
            go_wp2_with fail
            refine (pk_put_high K gk bl m x w4 hPk.out HS1.out.bits hm (by have := Hbl.out; omega)).mono ?_
            rintro e w5 ⟨rfl, gk', bl', q1, ⟨u1, u2, u3⟩, q3, q4⟩
            have hS5 := HS1.out.next (bl' := bl') (by rw [u1]; exact R1.out) R4.out R5.out q1 q3 q4 u2
            have HS5 := hide hS5
            have U1 := hide u1
            have U3 := hide u3
            clear hS5 q1 q3 q4 u1 u2 u3
            go_wp2
            refine ⟨⟨i + 1, g', gk', os', bl', by simp, by omega, HS5.out, by rw [U1.out]; exact R2.out, ?_, by have := Hbl.out; have := U1.out; omega⟩, low_meas i ds.length hlt⟩
            have u3 : numH bl' = numH bl * 2 ^ m + lowBits (bitsOf x) 0 m := by simpa using U3.out
            rw [U1.out, R3.out, Hnum.out, u3]
            rfl
          · have hbad : n < 0 ∨ 24 < n := by omega
            have Hbad := hide hbad
            have hz : (0 ≤ n ∧ ¬ n ≤ 24) ∨ ¬ 0 ≤ n := by omega
            clear hbad hok
            go_wp2_with fail
            refine (wguard_high_no B w.heap.size p5 p6 p9 p10 x n _ Hbad.out HS1.out.c3 HS1.out.ca H9.out H10.out).mono ?_
            rintro e w4 ⟨rfl, r4⟩
            have o10 : w4.heap[p10]? = some (.cells #[.int .i64 n] 3) := (r4.block p10 (lt_of H10.out) (fun h => h)).trans H10.out
            have kn4 := cell_of (o := 0) o10 rfl
            have HS4 := hide (HS1.out.far r4 (fun _ _ h => h))
            clear o10 r4
            rcases hz with ⟨z1, z2⟩ | z1
            · go_wp2
              exact ⟨⟨i + 1, g, gk, os, bl, by simp, by omega, HS4.out, Hst.out, Hnum.out, by have := Hbl.out; omega⟩, low_meas i ds.length hlt⟩
            · go_wp2
              exact ⟨⟨i + 1, g, gk, os, bl, by simp, by omega, HS4.out, Hst.out, Hnum.out, by have := Hbl.out; omega⟩, low_meas i ds.length hlt⟩
      · have ei : i = ds.length := by omega
        subst ei
        have hol : os.length ≤ 1000 := by have := hst.len; omega
        have hbl9 : bl.length ≤ 100000 := by omega
        have k3 := cell_of (o := 0) hS.c3 rfl
        have ka := cell_of (o := 0) hS.ca rfl
        have ky := cell_of (o := 0) hS.cy rfl
        have HS := hide hS
        have Hst := hide hst
        have Hnum := hide hnum
        clear hS hst hnum hbl
        go_wp2_with fail
        refine (low_out 56 wr 0 A none [] _ HS.out.idle (by simp)).mono ?_
        rintro e w4 ⟨a4, c4, rfl, _, f4, _⟩
        have k3 := cell_of (o := 0) ((f4.block _ (lt_of HS.out.c3) (fun h => h)).trans HS.out.c3) rfl
        have ka := cell_of (o := 0) ((f4.block _ (lt_of HS.out.ca) (fun h => h)).trans HS.out.ca) rfl
        have HS4 := hide (HS.out.far f4 (fun _ _ h => h))
        have F4 := hide f4
        clear f4
        go_wp2_with fail
        refine (high_out 63 w4 0 B g os _ HS4.out.wr (by omega)).mono ?_
        rintro e w5 ⟨a5, c5, rfl, hl5, f5, _⟩
        have F5 := hide (F4.out.join f5)
        have Hl5 := hide hl5
        clear hl5 f5
        go_wp2_with fail
        have hb0 : ∀ (W : World) (sv : Value), Lies W sv os → (convert 22 9 sv).run Try.prog W = .ok (.string (strOf os)) W := fun W sv h => str_lies h Hst.out.bytes
        have true0 := hide hb0
        clear hb0
        generalize strOf os = S0 at true0
        have hcv : ∀ W, Fr (fun _ => False) w5 W → (convert 22 9 (.slice a5 os.length c5)).run Try.prog W = .ok (.string S0) W := fun W f => true0.out W _ (lies_fr Hl5.out f)
        have Hcv := hide hcv
        have hPk : Hid (Pk w5.drew K gk bl true) := HS.out.pk.keep (F5.out.join (Fr.of_drewN w5 1)) (fun h => h) (fun _ _ h => h)
        have hs1 := hcv _ (Fr.of_drewN w5 1)
        clear hcv
        refine wp_region_noPanic ?_
        refine wp_region_held_drew (S := fun w' => (convert 22 9 (.slice a5 os.length c5)).run Try.prog w' = .ok (.string S0) w') (by kernel_rfl) hs1 (fun hHeld => ?_)
        refine wpAnyH_take (i := 0) (v := ?v0) rfl (by kernel_rfl) (by kernel_rfl) (by kernel_rfl) (fun _ _ _ h => h) (Or.inl ⟨by rfl, ?hy0⟩) hHeld ?rest0
        case hy0 => (intro W hSw; (try dsimp only at hSw); go_simp; all_goals (with_reducible rfl))
        change wpAnyH _ _ _ _ _ _ _ (Act.put _ (some 67) _) _
        simp only [Act.put, List.setIfInBounds_toArray, List.set_cons_zero, List.set_cons_succ]
        refine wpAnyH_take (i := 1) (v := ?v1) rfl (by kernel_rfl) (by kernel_rfl) (by kernel_rfl) (fun _ _ _ h => h) (Or.inl ⟨by rfl, ?hy1⟩) hHeld ?rest1
        case hy1 => (intro W hSw; (try dsimp only at hSw); go_simp; all_goals (with_reducible rfl))
        change wpAnyH _ _ _ _ _ _ _ (Act.put _ (some 68) _) _
        simp only [Act.put, List.setIfInBounds_toArray, List.set_cons_zero, List.set_cons_succ]
        refine wpAnyH_take (i := 2) (v := ?v2) rfl (by kernel_rfl) (by kernel_rfl) (by kernel_rfl) (fun _ _ _ h => h) (Or.inl ⟨by rfl, ?hy2⟩) hHeld ?rest2
        case hy2 => (intro W hSw; (try dsimp only at hSw); go_simp; all_goals (with_reducible rfl))
        change wpAnyH _ _ _ _ _ _ _ (Act.put _ (some 69) _) _
        simp only [Act.put, List.setIfInBounds_toArray, List.set_cons_zero, List.set_cons_succ]
        refine wpAnyH_ready (rs := [3]) (by kernel_rfl) (by simp) ?_
        refine AllReadyH.cons rfl (fun Kx hK => ?_) AllReadyH.nil
        try simp only [List.getElem_toArray, List.getElem_cons_succ, List.getElem_cons_zero]
        go_simp
        refine (pk_out_high K gk bl _ hPk.out HS.out.bits hbl9).mono ?_
        rintro e w6 ⟨ob, c6, rfl, hl6, ho6, f6⟩
        have eob := write_high_eq bl ob os ho6 Hst.out Hnum.out
        subst eob
        have F6 := hide ((F5.out.join (Fr.of_drewN w5 1)).join f6)
        have k1 := Hcv.out _ ((Fr.of_drewN w5 1).join f6)
        have k2 : (convert 22 9 (.slice (some ⟨w5.heap.size, 0, none⟩) ob.length c6)).run Try.prog w6 = .ok (.string S0) w6 := true0.out _ _ hl6
        clear hl6 ho6 f6 hHeld
        refine hK.out _ _ k1 (fun hHeld => ?_)
        clear hK Kx
        refine wpAnyH_ready (rs := [4]) (by kernel_rfl) (by simp) ?_
        refine AllReadyH.cons rfl (fun Kx hK => ?_) AllReadyH.nil
        try simp only [List.getElem_toArray, List.getElem_cons_succ, List.getElem_cons_zero]
        go_simp
        refine hK.out _ _ k1 (fun hHeld => ?_)
        clear hK Kx
        refine wpAnyH_take (i := 5) (v := ?v5) rfl (by kernel_rfl) (by kernel_rfl) (by kernel_rfl) (fun _ _ _ h => h) (Or.inl ⟨by rfl, ?hy5⟩) hHeld ?rest5
        case hy5 => (intro W hSw; (try dsimp only at hSw); go_simp; all_goals (with_reducible rfl))
        change wpAnyH _ _ _ _ _ _ _ (Act.put _ (some 72) _) _
        simp only [Act.put, List.setIfInBounds_toArray, List.set_cons_zero, List.set_cons_succ]
        refine wpAnyH_take (i := 6) (v := ?v6) rfl (by kernel_rfl) (by kernel_rfl) (by kernel_rfl) (fun _ _ _ h => h) (Or.inl ⟨by rfl, ?hy6⟩) hHeld ?rest6
        case hy6 => (intro W hSw; (try dsimp only at hSw); go_simp; all_goals (with_reducible rfl))
        change wpAnyH _ _ _ _ _ _ _ (Act.put _ (some 4) _) _
        simp only [Act.put, List.setIfInBounds_toArray, List.set_cons_zero, List.set_cons_succ]
        refine wpAnyH_done (by kernel_rfl) ?_ _
        refine NoPanic.normal ?_
        go_wp2
        go_ret
        exact ⟨rfl, HS.out.fr.join F6.out⟩
end Go.Proofs.Ytkmgpapopgeldaa
