/-
  adam: AdamOnce.
-/
import Derived.Test.YtdnhndiaiejkoaaDoorMc
import Derived.Test.YtdnhndiaiejkoaaDoorMb
import Derived.Laws.MakeOwn
namespace Go.Proofs.YtdnhndiaiejkoaaDoor
open Go.RowKit
set_option linter.unusedVariables false

def cellsZ (zs : List Int) : List Value := zs.map fun z => .int .i64 z
theorem Tryd.info3 : (Tryd.prog.info? 3).map (fun i => (i.zero, i.size, i.bytes)) = some (some (.int .i64 0), 1, 8) := by kernel_rfl
theorem makeZ (n : Nat) (hn : n ≤ 5000000) : ∀ W : World, (Instr.makeSlice 30 (.int .i64 (n : Int)) (.int .i64 (n : Int))).run Tryd.prog W = .ok (.slice (some ⟨W.heap.size, 0, none⟩) n n) (W.alloc (.cells (cellsZ (List.replicate n 0)).toArray 3)) := by
  obtain ⟨i0, hi, hz0, hz1, hz2⟩ := info_parts Tryd.info3
  intro W
  have := run_make (P := Tryd.prog) W 30 3 i0 (.int .i64 0) Tryd.underlying30 hi hz0 .i64 .i64 n n (by omega) (Int.le_refl _) (by rw [hz2]; omega) (by omega)
  rw [hz1] at this
  have e : madeCells (Value.int .i64 0).cells (n * 1) = (cellsZ (List.replicate n 0)).toArray := by
    apply Array.ext'
    rw [Nat.mul_one]
    show (madeCells #[.int .i64 0] n).toList = _
    rw [toList_madeCells_one]
    simp [cellsZ]
  rw [← e]
  simpa using this
theorem cellsZ_get {zs : List Int} {i : Nat} (h : i < zs.length) : (cellsZ zs).toArray[i]? = some (.int .i64 (zs.getD i 0)) := by
  simp [cellsZ, List.getD_eq_getElem?_getD, List.getElem?_eq_getElem h]
theorem cellsZ_set (zs : List Int) (i : Nat) (z : Int) : (cellsZ zs).toArray.setIfInBounds i (.int .i64 z) = (cellsZ (zs.set i z)).toArray := by
  simp [cellsZ, List.map_set]
theorem seen_zero {a b T : Nat} (h : T = a * b) : Seen a b (List.replicate T 0) (fun _ _ => 0) := by
  refine ⟨by rw [List.length_replicate, h], fun p hp => ?_⟩
  simp [List.getD_eq_getElem?_getD, h, hp]

set_option maxHeartbeats 3200000 in
set_option maxRecDepth 100000 in
theorem once_law (x y : Int) (w : World) (hg : Gw w) (hx : 0 ≤ x ∧ x < 256) (hy : 0 ≤ y ∧ y < 256) : Calls Tryd.prog 4 #[.int .u8 x, .int .u8 y] w fun e w' => e = .returned (.bool true) ∧ Below w.heap.size w w' := by
  have HG := hide hg
  clear hg
  obtain ⟨hx0, hx1⟩ := hx
  obtain ⟨hy0, hy1⟩ := hy
  go_enter Tryd.func4, Tryd.ntmps4
  go_wp2_with fail
  refine (awake_c w HG.out).mono ?_
  rintro e w1 ⟨rfl, hf1⟩
  have HF1 := hide hf1
  have HG1 := hide (HG.out.fr hf1)
  clear hf1 HG
  go_upto_region 4 with fail
  have hA : 1 ≤ 1 + x % 64 ∧ 1 + x % 64 ≤ 64 := by omega
  have hB : 1 ≤ 1 + y % 64 ∧ 1 + y % 64 ≤ 64 := by omega
  generalize 1 + x % 64 = A at *
  generalize 1 + y % 64 = B at *
  clear hx0 hx1 hy0 hy1
  obtain ⟨a, rfl⟩ := Int.eq_ofNat_of_zero_le (show 0 ≤ A by omega)
  obtain ⟨b, rfl⟩ := Int.eq_ofNat_of_zero_le (show 0 ≤ B by omega)
  obtain ⟨t1, t2, t3, t4, t5, t6, t7, t8, t9⟩ := sums_all hA hB (N := 1) (by omega)
  have HP := hide (fun w hg => passes_any (a : Int) (b : Int) w hg)
  rw [t2] at HP
  have h7 := pas_le (a : Int) (b : Int) 7
  have HPI : Hid (∀ q ∈ pas (a : Int) (b : Int) 7, PassIn (a : Int) (b : Int) q) := fun q hq => pas_in t1 hq
  have HON : Hid (∀ px py : Int, 0 ≤ px → px < (a : Int) → 0 ≤ py → py < (b : Int) → hits (pas (a : Int) (b : Int) 7) px py = 1) := fun px py h1 h2 h3 h4 => once t1 h1 h2 h3 h4
  have HAR := hide t4
  clear t1 t2 t3 t4 t5 t6 t7 t8 t9
  generalize pas (a : Int) (b : Int) 7 = l at *
  obtain ⟨T, hT⟩ : ∃ T : Nat, T = a * b := ⟨_, rfl⟩
  have hTi : (a : Int) * (b : Int) = (T : Int) := by rw [hT]; push_cast; rfl
  have hT2 := (mul_le64 (c := 64) (x := (a : Int)) (y := (b : Int)) ⟨by omega, by omega⟩ ⟨by omega, by omega⟩).2
  rw [hTi] at hT2
  rw [hTi] at HAR
  have HT := hide hT
  have HTi := hide hTi
  clear hT
  have hmk := makeZ T (by omega)
  go_upto_region 5 with fail
  clear hmk hTi
  obtain ⟨D, hD⟩ : ∃ D, D = w1.heap.size := ⟨_, rfl⟩
  obtain ⟨w2, hw2⟩ : ∃ w2, w2 = w1.alloc (.cells (cellsZ (List.replicate T 0)).toArray 3) := ⟨_, rfl⟩
  have HD2 : Hid (w2.heap[D]? = some (.cells (cellsZ (List.replicate T 0)).toArray 3 (0, 0))) := by rw [hw2]; exact heap_alloc_at hD
  have hf2 : Fr (fun _ => False) w1 w2 := by rw [hw2]; exact Fr.of_alloc _ _
  have HG2 := hide (HG1.out.fr hf2)
  have HF2 := hide (HF1.out.join hf2)
  have HDw : Hid (w.heap.size ≤ D) := by show _ ≤ _; rw [hD]; exact HF1.out.size
  have HDl : Hid (D < w2.heap.size) := lt_of HD2.out
  rw [← hw2, ← hD]
  clear hw2 hD hf2 HG1 HF1
  go_wp2_with fail
  refine (calls_args (HP.out w2 HG2.out) (by rfl)).mono ?_
  rintro e w3 ⟨v, rfl, ho, hf3⟩
  obtain ⟨a3, c3, rfl, _, _, _⟩ := ho.form
  have HO3 := hide ho
  have HD3 := hide (cells_at HD2.out hf3 fun e => e)
  have HF3 := hide (HF2.out.join hf3)
  have HS3 : Hid (w2.heap.size ≤ w3.heap.size) := hf3.size
  have HSn : Hid (Seen a b (List.replicate T 0) (hits (l.take 0))) := (seen_zero HT.out).congr (by omega) fun _ _ _ _ _ _ => rfl
  clear hf3 ho HG2 HF2 HD2 HP
  go_wp2
  go_loopw [9, 10] (fun nv iv wr => ∃ (k : Nat) (N : Int) (zs : List Int), k ≤ l.length ∧ iv = .int .i64 k ∧ nv = .int .i64 N ∧ Hid (N = sumF area (l.take k)) ∧ Hid (Seen a b zs (hits (l.take k))) ∧ Hid (wr.heap[D]? = some (.cells (cellsZ zs).toArray 3 (0, 0))) ∧ Hid (Fr (fun i => i = D) w3 wr)) (fun _ iv _ => l.length - (intOf iv).toNat)
  case atStart => exact ⟨0, 0, _, by omega, rfl, rfl, rfl, HSn.out, HD3.out, Fr.refl _ _⟩
  case round =>
    obtain ⟨k, N, zs, hkl, rfl, rfl, HN, HZ, HDr, HF⟩ := hrel
    obtain ⟨wo, rfl⟩ : ∃ wo : World, wo = wr := ⟨_, rfl⟩
    clear HSn HD3
    by_cases hlt : k < l.length
    · have hkeep := HO3.out.keep HF.out fun j hj e => by
        have h1 := (HO3.out.block hj).1
        have h2 := HDl.out
        have h3 : j = D := e
        omega
      obtain ⟨a', c', he, _, _, hl⟩ := hkeep.form
      cases he
      obtain ⟨g, o, rfl, hA⟩ := hl k hlt
      clear hkeep hl
      have h0 : (0 : Int) ≤ (k : Int) := by omega
      have h1 : (k : Int) < (l.length : Int) := by omega
      have hmem := getD_memP hlt
      have HQ := hide (HPI.out _ hmem)
      have HNs : Hid (N + area (l.getD k default) = sumF area (l.take (k + 1))) := by show _ = _; rw [sumF_snoc _ _ _ hlt, HN.out]
      have HHs : Hid (∀ px py, hits (l.take (k + 1)) px py = hits (l.take k) px py + hit (l.getD k default) px py) := fun px py => hits_snoc l k hlt px py
      have HHb : Hid (∀ px py, 0 ≤ hits (l.take k) px py ∧ hits (l.take k) px py ≤ 7) := fun px py => hits_le h7 k px py
      obtain ⟨n0, n1⟩ := sumF_take_le (f := area) (B := 4096) (l := l) (by omega) h7 (fun q hq => by
        obtain ⟨e1, e2, e3, e4⟩ := (HPI.out q hq).ok
        exact mul_le64 (c := 64) ⟨by omega, by omega⟩ ⟨by omega, by omega⟩) k
      rw [← HN.out] at n0 n1
      generalize hits (l.take k) = f at *
      obtain ⟨d0, d1, d2, d3, d4, d5⟩ := hA
      obtain ⟨q, hq⟩ : ∃ q, q = l.getD k default := ⟨_, rfl⟩
      rw [← hq] at HQ HNs HHs d0 d1 d2 d3 d4 d5
      clear hmem hq
      obtain ⟨⟨e1, e2, e3, e4⟩, i1, i2, i3, i4, i5, i6, i7, i8⟩ := HQ.out
      obtain ⟨qx, qy, qdx, qdy, qw, qh⟩ := q
      simp only [] at e1 e2 e3 e4 i1 i2 i3 i4 i5 i6 d0 d1 d2 d3 d4 d5
      have HCx := hide (fun j => (cnt_lt (s := (a : Int)) (x := qx) (d := qdx) (j := j) (by omega)))
      have HCy := hide (fun j => (cnt_lt (s := (b : Int)) (x := qy) (d := qdy) (j := j) (by omega)))
      rw [← show qw = cnt (a : Int) qx qdx from i7] at HCx
      rw [← show qh = cnt (b : Int) qy qdy from i8] at HCy
      clear i7 i8
      go_upto_region 11 with fail
      obtain ⟨P, hP⟩ : ∃ P, P = wo.heap.size := ⟨_, rfl⟩
      obtain ⟨w4, hw4⟩ : ∃ w4, w4 = wo.alloc (.cells #[.int .i64 qx, .int .i64 qy, .int .i64 qdx, .int .i64 qdy, .int .i64 qw, .int .i64 qh] 32) := ⟨_, rfl⟩
      have hB4 : w4.heap[P]? = some (.cells #[.int .i64 qx, .int .i64 qy, .int .i64 qdx, .int .i64 qdy, .int .i64 qw, .int .i64 qh] 32 (0, 0)) := by rw [hw4]; exact heap_alloc_at hP
      have hf4 : Fr (fun _ => False) wo w4 := by rw [hw4]; exact Fr.of_alloc _ _
      have HPD : Hid (¬ P = D) := by
        show ¬ P = D
        have := HF.out.size
        have := HS3.out
        have := HDl.out
        omega
      have HD4 := hide (cells_at HDr.out hf4 fun e => e)
      have HF4 := hide ((HF.out.trans hf4).mono fun i _ h => (h.elim id (fun h => h.elim) : i = D))
      have HZ0 : Hid (Seen a b zs (gone ⟨qx, qy, qdx, qdy, qw, qh⟩ 0 0 f)) := HZ.out.congr (by omega) fun px py u0 u1 v0 v1 => (gone_zero (by show 0 < qdx; omega) (by show 0 < qdy; omega) u0 v0).symm
      rw [← hw4, ← hP]
      have HB4 := hide hB4
      have k4 := cell_of (o := 4) hB4 rfl
      have k5 := cell_of (o := 5) hB4 rfl
      clear d0 d1 d2 d3 d4 d5 hw4 hP hB4 hf4 HF HZ HDr
      go_wp2
      clear k4 k5
      go_loopw [9, 12] (fun nv yv wq => ∃ (j : Nat) (N1 : Int) (zs1 : List Int), (j : Int) ≤ qh ∧ yv = .int .i64 j ∧ nv = .int .i64 N1 ∧ Hid (N1 = N + (j : Int) * qw) ∧ Hid (Seen a b zs1 (gone ⟨qx, qy, qdx, qdy, qw, qh⟩ (j : Int) 0 f)) ∧ Hid (wq.heap[D]? = some (.cells (cellsZ zs1).toArray 3 (0, 0))) ∧ Hid (Fr (fun i => i = D) w4 wq)) (fun _ yv _ => (qh - intOf yv).toNat)
      case atStart => exact ⟨0, N, zs, by omega, rfl, rfl, by show _ = _; simp, HZ0.out, HD4.out, Fr.refl _ _⟩
      case round =>
        obtain ⟨j, N1, zs1, hj, rfl, rfl, HN1, HZ1, HD5, HF5⟩ := hrel
        obtain ⟨wp, rfl⟩ : ∃ wp : World, wp = wr := ⟨_, rfl⟩
        clear HZ0
        have hB5 := cells_at HB4.out HF5.out HPD.out
        have k5 := cell_of (o := 5) hB5 rfl
        have hj0 : (0 : Int) ≤ (j : Int) := by omega
        by_cases hjh : (j : Int) < qh
        · have hm := mul_le64 (x := (j : Int)) (y := qw) (c := 64) ⟨by omega, by omega⟩ ⟨by omega, by omega⟩
          have hn1 : 0 ≤ N1 ∧ N1 ≤ 40000 := by rw [HN1.out]; omega
          have hYb := (HCy.out (j : Int)).2 hjh
          clear hB5
          go_wp2
          clear k5
          go_loopw [9, 13] (fun nv xv wq => ∃ (i : Nat) (N2 : Int) (zs2 : List Int), (i : Int) ≤ qw ∧ xv = .int .i64 i ∧ nv = .int .i64 N2 ∧ Hid (N2 = N1 + (i : Int)) ∧ Hid (Seen a b zs2 (gone ⟨qx, qy, qdx, qdy, qw, qh⟩ (j : Int) (i : Int) f)) ∧ Hid (wq.heap[D]? = some (.cells (cellsZ zs2).toArray 3 (0, 0))) ∧ Hid (Fr (fun i => i = D) w4 wq)) (fun _ xv _ => (qw - intOf xv).toNat)
          case atStart => exact ⟨0, N1, zs1, by omega, rfl, rfl, by show _ = _; simp, HZ1.out, HD5.out, HF5.out⟩
          case round =>
            obtain ⟨i, N2, zs2, hi, rfl, rfl, HN2, HZ2, HD6, HF6⟩ := hrel
            clear HZ1 HD5 HF5
            have hB6 := cells_at HB4.out HF6.out HPD.out
            have k4 := cell_of (o := 4) hB6 rfl
            have hi0 : (0 : Int) ≤ (i : Int) := by omega
            by_cases hiw : (i : Int) < qw
            · have hn2 : 0 ≤ N2 ∧ N2 ≤ 41000 := by rw [HN2.out]; omega
              have hXb := (HCx.out (i : Int)).2 hiw
              have k0 := cell_of (o := 0) hB6 rfl
              have k1 := cell_of (o := 1) hB6 rfl
              have k2 := cell_of (o := 2) hB6 rfl
              have k3 := cell_of (o := 3) hB6 rfl
              clear hB6
              have hmx : 0 ≤ (i : Int) * qdx := Int.mul_nonneg (by omega) (by omega)
              have hmy : 0 ≤ (j : Int) * qdy := Int.mul_nonneg (by omega) (by omega)
              have HW1 := hide (wrap_i64_id ((i : Int) * qdx) (by omega) (by omega))
              have HW2 := hide (wrap_i64_id (qx + (i : Int) * qdx) (by omega) (by omega))
              have HW3 := hide (wrap_i64_id ((j : Int) * qdy) (by omega) (by omega))
              have HW4 := hide (wrap_i64_id (qy + (j : Int) * qdy) (by omega) (by omega))
              have hX0 : 0 ≤ qx + (i : Int) * qdx := by omega
              have hY0 : 0 ≤ qy + (j : Int) * qdy := by omega
              obtain ⟨X, hX⟩ := Int.eq_ofNat_of_zero_le hX0
              obtain ⟨Y, hY⟩ := Int.eq_ofNat_of_zero_le hY0
              have HX := hide hX
              have HY := hide hY
              clear hmx hmy hX0 hY0
              have hXa : (X : Int) < (a : Int) := by omega
              have hYb2 : (Y : Int) < (b : Int) := by omega
              clear hX hY hXb
              have hXa2 : X < a := by omega
              have hYb3 : Y < b := by omega
              have HG := hide (gone_le (q := ⟨qx, qy, qdx, qdy, qw, qh⟩) (y := (j : Int)) (x := (i : Int)) (HHb.out (X : Int) (Y : Int)))
              have HAt := hide (HZ2.out.at hXa2 hYb3)
              have HStep := hide (HZ2.out.step hXa2 hYb3)
              have hpl := place_lt (a := a) (b := b) hXa2 hYb3
              have hI : (Y : Int) * (a : Int) + (X : Int) = ((Y * a + X : Nat) : Int) := by push_cast; rfl
              have hYa := mul_le64 (x := (Y : Int)) (y := (a : Int)) (c := 64) ⟨by omega, by omega⟩ ⟨by omega, by omega⟩
              have hlen := HZ2.out.len
              rw [← HT.out] at hpl hlen
              obtain ⟨M, hM⟩ : ∃ M : Int, M = (Y : Int) * (a : Int) := ⟨_, rfl⟩
              have hb1 : -9223372036854775808 ≤ (Y : Int) * (a : Int) := by omega
              have hb2 : (Y : Int) * (a : Int) < 9223372036854775808 := by omega
              have Hm1 : Hid (wrap64 ((Y : Int) * (a : Int)) = M) := (wrap64_id _ hb1 hb2).trans hM.symm
              have Hm2 : Hid (IntKind.i64.wrap ((Y : Int) * (a : Int)) = M) := (wrap_i64_id _ hb1 hb2).trans hM.symm
              clear hb1 hb2
              rw [← hM] at hI hYa
              clear hM
              generalize Y * a + X = I at *
              have HStep2 : Hid (Seen a b (zs2.set I (gone ⟨qx, qy, qdx, qdy, qw, qh⟩ (j : Int) (i : Int) f (X : Int) (Y : Int) + 1)) (gone ⟨qx, qy, qdx, qdy, qw, qh⟩ (j : Int) ((i + 1 : Nat) : Int) f)) := HStep.out.congr (by omega) fun px py _ _ _ _ => by
                push_cast
                rw [gone_x HQ.out, show (⟨qx, qy, qdx, qdy, qw, qh⟩ : Pz).x + (i : Int) * (⟨qx, qy, qdx, qdy, qw, qh⟩ : Pz).dx = (X : Int) from HX.out, show (⟨qx, qy, qdx, qdy, qw, qh⟩ : Pz).y + (j : Int) * (⟨qx, qy, qdx, qdy, qw, qh⟩ : Pz).dy = (Y : Int) from HY.out]
              obtain ⟨v0, v1⟩ := HG.out
              generalize gone ⟨qx, qy, qdx, qdy, qw, qh⟩ (j : Int) (i : Int) f (X : Int) (Y : Int) = V at *
              have hcI : wr.cell? ⟨D, I, none⟩ = some (.int .i64 V) := cell_of HD6.out (by rw [cellsZ_get (by omega), HAt.out])
              have hzI : wr.frozen? ⟨D, I, none⟩ = false := frozen_of HD6.out
              have HcI := hide hcI
              have HzI := hide hzI
              have HhI := hide hI
              have HD7 := hide (heap_setCell_own (o := I) (.int .i64 (V + 1)) HD6.out)
              rw [cellsZ_set] at HD7
              have HF7 := hide (HF6.out.join ((Fr.of_setCell wr ⟨D, I, none⟩ (.int .i64 (V + 1))).mono fun i _ h => h))
              have hIT : (I : Int) < (T : Int) := by omega
              clear hcI hzI hI HStep HAt HG hlen HZ2
              go_upto_region 19 with fail
              clear k4
              refine wp_region_held_drew (S := fun W' => Fr (fun _ => False) wr W') (by kernel_rfl) (by exact Fr.drew1 _ wr) (fun hHeld => ?_)
              refine wpAnyH_take (i := 0) (v := ?v0a) rfl (by kernel_rfl) (by kernel_rfl) (by kernel_rfl) (fun _ _ _ h => h) (Or.inl ⟨by rfl, ?hy0a⟩) hHeld ?rest0a
              case hy0a => (intro W hSw; (try dsimp only at hSw); have z0 := hSw.cell0 k0; have z1 := hSw.cell0 k1; have z2 := hSw.cell0 k2; have z3 := hSw.cell0 k3; go_simp; all_goals (with_reducible rfl))
              change wpAnyH _ _ _ _ _ _ _ (Act.put _ (some 76) _) _
              simp only [Act.put, List.setIfInBounds_toArray, List.set_cons_zero, List.set_cons_succ]
              refine wpAnyH_take (i := 2) (v := ?v2a) rfl (by kernel_rfl) (by kernel_rfl) (by kernel_rfl) (fun _ _ _ h => h) (Or.inl ⟨by rfl, ?hy2a⟩) hHeld ?rest2a
              case hy2a => (intro W hSw; (try dsimp only at hSw); have z0 := hSw.cell0 k0; have z1 := hSw.cell0 k1; have z2 := hSw.cell0 k2; have z3 := hSw.cell0 k3; go_simp; all_goals (with_reducible rfl))
              change wpAnyH _ _ _ _ _ _ _ (Act.put _ (some 78) _) _
              simp only [Act.put, List.setIfInBounds_toArray, List.set_cons_zero, List.set_cons_succ]
              refine wpAnyH_take (i := 3) (v := ?v3a) rfl (by kernel_rfl) (by kernel_rfl) (by kernel_rfl) (fun _ _ _ h => h) (Or.inl ⟨by rfl, ?hy3a⟩) hHeld ?rest3a
              case hy3a => (intro W hSw; (try dsimp only at hSw); have z0 := hSw.cell0 k0; have z1 := hSw.cell0 k1; have z2 := hSw.cell0 k2; have z3 := hSw.cell0 k3; go_simp; all_goals (with_reducible rfl))
              change wpAnyH _ _ _ _ _ _ _ (Act.put _ (some 79) _) _
              simp only [Act.put, List.setIfInBounds_toArray, List.set_cons_zero, List.set_cons_succ]
              refine wpAnyH_take (i := 7) (v := ?v7a) rfl (by kernel_rfl) (by kernel_rfl) (by kernel_rfl) (fun _ _ _ h => h) (Or.inl ⟨by rfl, ?hy7a⟩) hHeld ?rest7a
              case hy7a => (intro W hSw; (try dsimp only at hSw); have z0 := hSw.cell0 k0; have z1 := hSw.cell0 k1; have z2 := hSw.cell0 k2; have z3 := hSw.cell0 k3; go_simp; all_goals (with_reducible rfl))
              change wpAnyH _ _ _ _ _ _ _ (Act.put _ (some 83) _) _
              simp only [Act.put, List.setIfInBounds_toArray, List.set_cons_zero, List.set_cons_succ]
              refine wpAnyH_take (i := 9) (v := ?v9a) rfl (by kernel_rfl) (by kernel_rfl) (by kernel_rfl) (fun _ _ _ h => h) (Or.inl ⟨by rfl, ?hy9a⟩) hHeld ?rest9a
              case hy9a => (intro W hSw; (try dsimp only at hSw); have z0 := hSw.cell0 k0; have z1 := hSw.cell0 k1; have z2 := hSw.cell0 k2; have z3 := hSw.cell0 k3; go_simp; all_goals (with_reducible rfl))
              change wpAnyH _ _ _ _ _ _ _ (Act.put _ (some 85) _) _
              simp only [Act.put, List.setIfInBounds_toArray, List.set_cons_zero, List.set_cons_succ]
              refine wpAnyH_take (i := 10) (v := ?v10a) rfl (by kernel_rfl) (by kernel_rfl) (by kernel_rfl) (fun _ _ _ h => h) (Or.inl ⟨by rfl, ?hy10a⟩) hHeld ?rest10a
              case hy10a => (intro W hSw; (try dsimp only at hSw); have z0 := hSw.cell0 k0; have z1 := hSw.cell0 k1; have z2 := hSw.cell0 k2; have z3 := hSw.cell0 k3; go_simp; all_goals (with_reducible rfl))
              change wpAnyH _ _ _ _ _ _ _ (Act.put _ (some 86) _) _
              simp only [Act.put, List.setIfInBounds_toArray, List.set_cons_zero, List.set_cons_succ]
              refine wpAnyH_take (i := 1) (v := ?v1a) rfl (by kernel_rfl) (by kernel_rfl) (by kernel_rfl) (fun _ _ _ h => h) (Or.inl ⟨by rfl, ?hy1a⟩) hHeld ?rest1a
              case hy1a => (intro W hSw; (try dsimp only at hSw); have z0 := hSw.cell0 k0; have z1 := hSw.cell0 k1; have z2 := hSw.cell0 k2; have z3 := hSw.cell0 k3; go_simp; all_goals (with_reducible rfl))
              change wpAnyH _ _ _ _ _ _ _ (Act.put _ (some 77) _) _
              simp only [Act.put, List.setIfInBounds_toArray, List.set_cons_zero, List.set_cons_succ]
              refine wpAnyH_take (i := 4) (v := ?v4a) rfl (by kernel_rfl) (by kernel_rfl) (by kernel_rfl) (fun _ _ _ h => h) (Or.inl ⟨by rfl, ?hy4a⟩) hHeld ?rest4a
              case hy4a => (intro W hSw; (try dsimp only at hSw); have z0 := hSw.cell0 k0; have z1 := hSw.cell0 k1; have z2 := hSw.cell0 k2; have z3 := hSw.cell0 k3; go_simp; all_goals (with_reducible rfl))
              change wpAnyH _ _ _ _ _ _ _ (Act.put _ (some 80) _) _
              simp only [Act.put, List.setIfInBounds_toArray, List.set_cons_zero, List.set_cons_succ]
              refine wpAnyH_take (i := 8) (v := ?v8a) rfl (by kernel_rfl) (by kernel_rfl) (by kernel_rfl) (fun _ _ _ h => h) (Or.inl ⟨by rfl, ?hy8a⟩) hHeld ?rest8a
              case hy8a => (intro W hSw; (try dsimp only at hSw); have z0 := hSw.cell0 k0; have z1 := hSw.cell0 k1; have z2 := hSw.cell0 k2; have z3 := hSw.cell0 k3; go_simp; all_goals (with_reducible rfl))
              change wpAnyH _ _ _ _ _ _ _ (Act.put _ (some 84) _) _
              simp only [Act.put, List.setIfInBounds_toArray, List.set_cons_zero, List.set_cons_succ]
              refine wpAnyH_take (i := 11) (v := ?v11a) rfl (by kernel_rfl) (by kernel_rfl) (by kernel_rfl) (fun _ _ _ h => h) (Or.inl ⟨by rfl, ?hy11a⟩) hHeld ?rest11a
              case hy11a => (intro W hSw; (try dsimp only at hSw); have z0 := hSw.cell0 k0; have z1 := hSw.cell0 k1; have z2 := hSw.cell0 k2; have z3 := hSw.cell0 k3; go_simp; all_goals (with_reducible rfl))
              change wpAnyH _ _ _ _ _ _ _ (Act.put _ (some 87) _) _
              simp only [Act.put, List.setIfInBounds_toArray, List.set_cons_zero, List.set_cons_succ]
              refine wpAnyH_take (i := 5) (v := ?v5a) rfl (by kernel_rfl) (by kernel_rfl) (by kernel_rfl) (fun _ _ _ h => h) (Or.inl ⟨by rfl, ?hy5a⟩) hHeld ?rest5a
              case hy5a => (intro W hSw; (try dsimp only at hSw); have z0 := hSw.cell0 k0; have z1 := hSw.cell0 k1; have z2 := hSw.cell0 k2; have z3 := hSw.cell0 k3; go_simp; all_goals (with_reducible rfl))
              change wpAnyH _ _ _ _ _ _ _ (Act.put _ (some 81) _) _
              simp only [Act.put, List.setIfInBounds_toArray, List.set_cons_zero, List.set_cons_succ]
              refine wpAnyH_take (i := 12) (v := ?v12a) rfl (by kernel_rfl) (by kernel_rfl) (by kernel_rfl) (fun _ _ _ h => h) (Or.inl ⟨by rfl, ?hy12a⟩) hHeld ?rest12a
              case hy12a => (intro W hSw; (try dsimp only at hSw); have z0 := hSw.cell0 k0; have z1 := hSw.cell0 k1; have z2 := hSw.cell0 k2; have z3 := hSw.cell0 k3; go_simp; all_goals (with_reducible rfl))
              change wpAnyH _ _ _ _ _ _ _ (Act.put _ (some 88) _) _
              simp only [Act.put, List.setIfInBounds_toArray, List.set_cons_zero, List.set_cons_succ]
              refine wpAnyH_take (i := 6) (v := ?v6a) rfl (by kernel_rfl) (by kernel_rfl) (by kernel_rfl) (fun _ _ _ h => h) (Or.inl ⟨by rfl, ?hy6a⟩) hHeld ?rest6a
              case hy6a => (intro W hSw; (try dsimp only at hSw); have z0 := hSw.cell0 k0; have z1 := hSw.cell0 k1; have z2 := hSw.cell0 k2; have z3 := hSw.cell0 k3; go_simp; all_goals (with_reducible rfl))
              change wpAnyH _ _ _ _ _ _ _ (Act.put _ (some 82) _) _
              simp only [Act.put, List.setIfInBounds_toArray, List.set_cons_zero, List.set_cons_succ]
              refine wpAnyH_take (i := 13) (v := ?v13a) rfl (by kernel_rfl) (by kernel_rfl) (by kernel_rfl) (fun _ _ _ h => h) (Or.inl ⟨by rfl, ?hy13a⟩) hHeld ?rest13a
              case hy13a => (intro W hSw; (try dsimp only at hSw); have z0 := hSw.cell0 k0; have z1 := hSw.cell0 k1; have z2 := hSw.cell0 k2; have z3 := hSw.cell0 k3; go_simp; all_goals (with_reducible rfl))
              change wpAnyH _ _ _ _ _ _ _ (Act.put _ (some 89) _) _
              simp only [Act.put, List.setIfInBounds_toArray, List.set_cons_zero, List.set_cons_succ]
              refine wpAnyH_take (i := 14) (v := ?v14a) rfl (by kernel_rfl) (by kernel_rfl) (by kernel_rfl) (fun _ _ _ h => h) (Or.inl ⟨by rfl, ?hy14a⟩) hHeld ?rest14a
              case hy14a => (intro W hSw; (try dsimp only at hSw); have z0 := hSw.cell0 k0; have z1 := hSw.cell0 k1; have z2 := hSw.cell0 k2; have z3 := hSw.cell0 k3; go_simp; all_goals (with_reducible rfl))
              change wpAnyH _ _ _ _ _ _ _ (Act.put _ (some 14) _) _
              simp only [Act.put, List.setIfInBounds_toArray, List.set_cons_zero, List.set_cons_succ]
              refine wpAnyH_take (i := 15) (v := ?v15a) rfl (by kernel_rfl) (by kernel_rfl) (by kernel_rfl) (fun _ _ _ h => h) (Or.inl ⟨by rfl, ?hy15a⟩) hHeld ?rest15a
              case hy15a => (intro W hSw; (try dsimp only at hSw); have z0 := hSw.cell0 k0; have z1 := hSw.cell0 k1; have z2 := hSw.cell0 k2; have z3 := hSw.cell0 k3; go_simp; all_goals (with_reducible rfl))
              change wpAnyH _ _ _ _ _ _ _ (Act.put _ (some 15) _) _
              simp only [Act.put, List.setIfInBounds_toArray, List.set_cons_zero, List.set_cons_succ]
              refine wpAnyH_done (by kernel_rfl) ?_ _
              rw [HW1.out, HW2.out, HW3.out, HW4.out, HX.out, HY.out]
              clear k0 k1 k2 k3 hHeld
              have hcI : wr.cell? ⟨D, I, none⟩ = some (.int .i64 V) := HcI.out
              have hzI : wr.frozen? ⟨D, I, none⟩ = false := HzI.out
              have hI := HhI.out
              have hX0 : 0 ≤ (X : Int) := Int.natCast_nonneg X
              have hY0 : 0 ≤ (Y : Int) := Int.natCast_nonneg Y
              have hm1 := Hm1.out
              have hm2 := Hm2.out
              go_wp2
              · exfalso
                clear hm1 hm2
                omega
              · clear hm1 hm2
                go_roundw
                case rel => exact ⟨i + 1, N2 + 1, _, by omega, by go_num, by go_num, by show _ = _; rw [HN2.out]; push_cast; omega, HStep2.out, HD7.out, HF7.out.join (Fr.drew1 _ _)⟩
                case measure => simp [intOf]; omega
            · have hie : (i : Int) = qw := by omega
              have HZ3 : Hid (Seen a b zs2 (gone ⟨qx, qy, qdx, qdy, qw, qh⟩ ((j + 1 : Nat) : Int) 0 f)) := HZ2.out.congr (by omega) fun px py u0 u1 v0 v1 => by
                rw [hie]
                push_cast
                exact gone_y HQ.out u0 u1
              have HN3 : Hid (N2 = N + ((j + 1 : Nat) : Int) * qw) := by
                show _ = _
                rw [HN2.out, HN1.out, hie]
                push_cast
                rw [Int.add_mul, Int.one_mul, Int.add_assoc]
              clear hB6 HZ2 HN2 hie
              go_wp2
              go_roundw
              case rel => exact ⟨j + 1, N2, zs2, by omega, by go_num, rfl, HN3.out, HZ3.out, HD6.out, HF6.out⟩
              case measure => simp [intOf]; omega
        · have hje : (j : Int) = qh := by omega
          have HZ3 : Hid (Seen a b zs1 (hits (l.take (k + 1)))) := HZ1.out.congr (by omega) fun px py u0 u1 v0 v1 => by
            rw [hje, HHs.out]
            exact gone_h HQ.out u0 v0 v1
          have HN3 : Hid (N1 = sumF area (l.take (k + 1))) := by
            show _ = _
            rw [← HNs.out, HN1.out, hje]
            show N + qh * qw = N + qw * qh
            rw [Int.mul_comm]
          have HF6 := hide (HF4.out.join HF5.out)
          clear hB5 HZ1 HN1 hje
          go_wp2
          go_roundw
          case rel => exact ⟨k + 1, N1, zs1, hlt, by go_num, rfl, HN3.out, HZ3.out, HD5.out, HF6.out⟩
          case measure => simp [intOf]; omega
    · have hke : k = l.length := by omega
      subst hke
      rw [List.take_length] at HN HZ
      have HV : Hid (∀ p, p < T → zs.getD p 0 = 1) := fun p hp => by
        rw [HT.out] at hp
        rw [HZ.out.val p hp]
        exact HON.out _ _ (Int.natCast_nonneg _) (Int.ofNat_lt.2 (Nat.mod_lt p (by omega))) (Int.natCast_nonneg _) (Int.ofNat_lt.2 (Nat.div_lt_of_lt_mul hp))
      have HLn : Hid (zs.length = T) := by show _ = _; rw [HZ.out.len, HT.out]
      have HNT : Hid (N = (T : Int)) := by show _ = _; rw [HN.out, HAR.out]
      have HFe : Hid (Fr (fun i => i = D) w3 wo) := HF.out
      have HFb : Hid (Below w.heap.size w wo) := ((HF3.out.trans HF.out).below (Nat.le_refl _) fun i h => by
        rcases h with h | h
        · exact h.elim
        · have : i = D := h
          rw [this]
          exact HDw.out)
      clear HN HZ HF HFe
      go_wp2
      go_loopw [16] (fun iv wq => ∃ p : Nat, p ≤ T ∧ iv = .int .i64 p ∧ wq = wo) (fun iv _ => T - (intOf iv).toNat)
      case atStart => exact ⟨0, by omega, rfl, rfl⟩
      case round =>
        obtain ⟨p, hp, rfl, rfl⟩ := hrel
        have hp0 : (0 : Int) ≤ (p : Int) := by omega
        by_cases hpT : p < T
        · have hp1 : (p : Int) < (T : Int) := by omega
          have hc := cell_of HDr.out (cellsZ_get (i := p) (by rw [HLn.out]; exact hpT))
          rw [HV.out p hpT] at hc
          go_wp2
          go_roundw
          case rel => exact ⟨p + 1, hpT, by go_num, by first | rfl | trivial⟩
          case measure => simp [intOf]; omega
        · have hp1 : ¬ (p : Int) < (T : Int) := by omega
          have hTi := HTi.out
          have hNT := HNT.out
          have hb1 : -9223372036854775808 ≤ (a : Int) * (b : Int) := by rw [hTi]; omega
          have hb2 : (a : Int) * (b : Int) < 9223372036854775808 := by rw [hTi]; omega
          have hw1 : wrap64 ((a : Int) * (b : Int)) = (T : Int) := (wrap64_id _ hb1 hb2).trans hTi
          go_wp2
          go_ret
          exact ⟨rfl, HFb.out⟩
end Go.Proofs.YtdnhndiaiejkoaaDoor
