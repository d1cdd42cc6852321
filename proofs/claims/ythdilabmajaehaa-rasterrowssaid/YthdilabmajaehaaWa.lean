/-
  raster: RasterRows, the walk.
-/
import Derived.Test.YthdilabmajaehaaUe
import Derived.Test.YthdilabmajaehaaHg
namespace Go.Proofs.Ythdilabmajaehaa
open Go.RowKit

theorem size_small {A B : Nat} (h1 : 1 ≤ A) (h2 : A ≤ 40) (h3 : 1 ≤ B) (h4 : B ≤ 40) : sizeE (A : Int) (B : Int) = 0 := by
  unfold sizeE
  rw [if_neg (by omega), if_neg]
  have hq : (16384 : Int).tdiv (B : Int) = 16384 / (B : Int) := Int.tdiv_eq_ediv_of_nonneg (by omega)
  rw [hq]
  have h5 : A * B ≤ 40 * 40 := Nat.mul_le_mul h2 h4
  have h6 : ((A * B : Nat) : Int) ≤ 16384 := by omega
  rw [Int.natCast_mul] at h6
  have : (A : Int) ≤ 16384 / (B : Int) := (Int.le_ediv_iff_mul_le (by omega)).2 h6
  omega

/-- Sides and pixels. -/
theorem rows_nums (x y : Nat) : ∃ A B N n x4 y4 : Nat, 1 ≤ A ∧ A ≤ 40 ∧ 1 ≤ B ∧ B ≤ 40 ∧ 1 ≤ N ∧ N ≤ 1600 ∧ n = 4 * N ∧ N = A * B ∧ (x : Int).tmod 40 = (x4 : Int) ∧ (y : Int).tmod 40 = (y4 : Int) ∧ (1 : Int) + (x4 : Int) = (A : Int) ∧ (1 : Int) + (y4 : Int) = (B : Int) ∧ (A : Int) * (B : Int) = (N : Int) ∧ (n : Int) = 4 * (A : Int) * (B : Int) ∧ sizeE (A : Int) (B : Int) = 0 := by
  have h5 : (1 + x % 40) * (1 + y % 40) ≤ 40 * 40 := Nat.mul_le_mul (by omega) (by omega)
  have h6 : 1 * 1 ≤ (1 + x % 40) * (1 + y % 40) := Nat.mul_le_mul (by omega) (by omega)
  refine ⟨1 + x % 40, 1 + y % 40, (1 + x % 40) * (1 + y % 40), 4 * ((1 + x % 40) * (1 + y % 40)), x % 40, y % 40, by omega, by omega, by omega, by omega, by omega, by omega, rfl, rfl, ?_, ?_, by omega, by omega, ?_, ?_, size_small (by omega) (by omega) (by omega) (by omega)⟩
  · rw [Int.tmod_eq_emod_of_nonneg (by omega)]; omega
  · rw [Int.tmod_eq_emod_of_nonneg (by omega)]; omega
  · rw [Int.natCast_mul]
  · rw [Int.natCast_mul, Int.natCast_mul, Int.mul_assoc]; rfl

theorem rows_in {A B N n k : Nat} (hA : 1 ≤ A) (hN : N = A * B) (hn : (n : Int) = 4 * (A : Int) * (B : Int)) (hs : sizeE (A : Int) (B : Int) = 0) (hk : k < N) : ∃ x y : Nat, (k : Int).tmod (A : Int) = (x : Int) ∧ (k : Int).tdiv (A : Int) = (y : Int) ∧ inB (A : Int) (B : Int) n (x : Int) (y : Int) = true ∧ ((4 * k : Nat) : Int) = 4 * ((y : Int) * (A : Int) + (x : Int)) := by
  have h1 : k % A < A := Nat.mod_lt _ (by omega)
  have h2 : k / A < B := (Nat.div_lt_iff_lt_mul (by omega)).2 (by rw [Nat.mul_comm, ← hN]; exact hk)
  have e : k / A * A + k % A = k := by rw [Nat.mul_comm]; exact Nat.div_add_mod k A
  have e2 : ((k / A * A + k % A : Nat) : Int) = (k : Int) := by rw [e]
  rw [Int.natCast_add, Int.natCast_mul] at e2
  refine ⟨k % A, k / A, ?_, ?_, ?_, ?_⟩
  · rw [Int.tmod_eq_emod_of_nonneg (by omega)]; simp
  · rw [Int.tdiv_eq_ediv_of_nonneg (by omega)]; simp
  · have hm : mayB (A : Int) (B : Int) n = true := decide_eq_true ⟨hs, hn⟩
    generalize k % A = x at h1
    generalize k / A = y at h2
    clear hn hs hN e e2
    simp only [inB, hm, Bool.true_and, Bool.and_eq_true, decide_eq_true_eq]
    omega
  · rw [e2]
    omega

theorem wrap_u16 (k : Nat) (h : k < 65536) : IntKind.u16.wrap (k : Int) = (k : Int) := by
  simp [IntKind.wrap, IntKind.bits, IntKind.signed]
  omega

theorem rows_small {k : Nat} (h : k < 1600) : ∀ b ∈ [k, 1, k / 256, 9], b < 65536 := fun b hb => by
  simp only [List.mem_cons, List.not_mem_nil, or_false] at hb
  omega

theorem pixL_rows {px : List Nat} {k : Nat} (h : PxIs px k) : (pixL px (4 * k)).toArray = pxV k 1 (k / 256) 9 := by
  obtain ⟨a, b, c, d⟩ := h
  unfold pixL
  rw [a, b, c, d]

theorem set4 {w : World} {P : Nat} {a0 a1 a2 a3 : Value} (x0 x1 x2 x3 : Value) (h : w.heap[P]? = some (.cells #[a0, a1, a2, a3] 36 (0, 0))) :
    ((((w.setCell ⟨P, 0, none⟩ x0).setCell ⟨P, 1, none⟩ x1).setCell ⟨P, 2, none⟩ x2).setCell ⟨P, 3, none⟩ x3).heap[P]? = some (.cells #[x0, x1, x2, x3] 36 (0, 0)) ∧ Fr (fun i => i = P) w ((((w.setCell ⟨P, 0, none⟩ x0).setCell ⟨P, 1, none⟩ x1).setCell ⟨P, 2, none⟩ x2).setCell ⟨P, 3, none⟩ x3) :=
  ⟨heap_setCell_own (o := 3) x3 (heap_setCell_own (o := 2) x2 (heap_setCell_own (o := 1) x1 (heap_setCell_own (o := 0) x0 h))),
    (((Fr.of_setCell w ⟨P, 0, none⟩ x0).join (Fr.of_setCell _ ⟨P, 1, none⟩ x1)).join (Fr.of_setCell _ ⟨P, 2, none⟩ x2)).join (Fr.of_setCell _ ⟨P, 3, none⟩ x3)⟩

theorem rows_out (A B : Int) (n : Nat) : inB A B n A 0 = false ∧ inB A B n 0 (-1) = false ∧ inB A B n 0 B = false := by
  simp [inB]

theorem rows_args {A B X Y : Int} {n k : Nat} (hin : inB A B n X Y = true) (hk : k < 1600) : IntKind.i64.wrap Y = Y ∧ IntKind.u16.wrap ((k : Int) / 256) = ((k / 256 : Nat) : Int) := by
  obtain ⟨hm, _, h1, h2⟩ := inB_true hin
  have h3 := (size_ok (mayB_true hm).1).2.2.2.1
  refine ⟨wrap_i64_id _ (by omega) (by omega), ?_⟩
  rw [show (k : Int) / 256 = ((k / 256 : Nat) : Int) by omega]
  exact wrap_u16 _ (by omega)

set_option maxHeartbeats 1000000 in
set_option maxRecDepth 100000 in
theorem rows_law (x y t : Nat) (w : World) (hx : x < 256) (hy : y < 256) (ht : t < 65536) :
    Calls Try.prog 4 #[.int .u8 (x : Int), .int .u8 (y : Int), .int .u16 (t : Int)] w fun e w' => e = .returned (.bool true) ∧ Fr (fun _ => False) w w' := by
  obtain ⟨A, B, N, n, x4, y4, hA1, hA40, hB1, hB40, hN1, hN16, hn4, hNAB, ex, ey, eA, eB, eN, en, hs⟩ := rows_nums x y
  have HA := hide (awake_c w)
  have HX := hide fun (k : Nat) (hk : k < N) => rows_in hA1 hNAB en hs hk
  have Hm : Hid (mayB (A : Int) (B : Int) n = true) := decide_eq_true ⟨hs, en⟩
  have Hn4 := hide hn4
  have Hs := hide hs
  have HeN := hide eN
  have HbN : Hid (1 ≤ N ∧ N ≤ 1600) := ⟨hN1, hN16⟩
  have HA0 : Hid (¬ (A : Int) = 0) := by show ¬ _; omega
  have Ht := hide ht
  have hx4 : x4 ≤ 40 := by omega
  have hy4 : y4 ≤ 40 := by omega
  clear hn4 hNAB en hs eN hA1 hB1 hN1 hN16 ht
  go_enter Try.func4, Try.ntmps4
  go_wp2_with fail
  refine HA.out.mono ?_
  rintro e w1 ⟨rfl, hF⟩
  have HF1 := hide hF
  have HNW := hide (new_c (A : Int) (B : Int) w1)
  clear hF HA
  go_wp2_with fail
  clear ex ey eA eB hx hy hx4 hy4 hA40 hB40
  refine HNW.out.mono ?_
  rintro e w2 ⟨v, er, rfl, hD⟩
  have hF2 := hD.fr
  rcases hD.out with ⟨h, _⟩ | ⟨_, rfl, n', g, hn', rfl, hgl, hg⟩
  · exact absurd Hs.out h
  clear hD
  obtain rfl : n' = n := Int.ofNat.inj (hn'.trans (mayB_true Hm.out).2.symm)
  obtain ⟨w3, hw3⟩ : ∃ w3, w3 = w2.alloc (.cells #[.int .i64 (A : Int), .int .i64 (B : Int), .slice (some ⟨g, 0, none⟩) n' n'] 24) := ⟨_, rfl⟩
  obtain ⟨G, hG⟩ : ∃ G, G = w2.heap.size := ⟨_, rfl⟩
  have hb3 : w3.heap[G]? = some (.cells #[.int .i64 (A : Int), .int .i64 (B : Int), .slice (some ⟨g, 0, none⟩) n' n'] 24 (0, 0)) := by rw [hw3]; exact heap_alloc_at hG
  have hF3 : Fr (fun _ => False) w2 w3 := by rw [hw3]; exact Fr.of_alloc _ _
  have hO3 : Own w3 w1.heap.size (some ⟨g, 0, none⟩) n' n' (List.replicate n' 0) := by
    refine ⟨⟨by simp [cellsU], Or.inr ⟨g, n', _, rfl, hgl, cells_at hg hF3 (fun e => e), Nat.le_refl _, ?_, by simp [cellsU], ?_⟩⟩, fun b hb => ?_⟩
    · have h4 := Hn4.out; have h5 := HbN.out; clear hn'; unfold maxLen; omega
    · rw [Nat.mul_one, List.take_of_length_le (by simp [cellsU])]
    · rw [(List.mem_replicate.1 hb).2]; decide
  have Hgl := hide hgl
  have HgG : Hid (g < G) := by rw [hG]; exact lt_of hg
  have HF3 := hide (HF1.out.join (hF2.join hF3))
  have Hb3 := hide hb3
  have HO3 := hide hO3
  have Hw3 := hide hw3
  have HG := hide hG
  have HM := hide (may_c (A : Int) (B : Int) (some ⟨g, 0, none⟩) n' n' w3)
  rw [Hm.out] at HM
  have k0 := cell_of (o := 0) hb3 rfl
  have k1 := cell_of (o := 1) hb3 rfl
  have k2 := cell_of (o := 2) hb3 rfl
  rw [hw3, hG] at k0 k1 k2
  have eN := HeN.out
  have hN1 := HbN.out.1
  have hN16 := HbN.out.2
  clear hgl hg hb3 hF3 hO3 hw3 hG hF2 hn'
  go_wp2_with fail
  rw [← Hw3.out, ← HG.out]
  refine HM.out.mono ?_
  rintro e w4 ⟨rfl, hF⟩
  have HF4 := hide (HF3.out.join hF)
  have HO4 := hide (HO3.out.keep hF fun _ _ h => h)
  have HB4 := hide (cells_at Hb3.out hF fun h => h)
  have HL4 : Hid (w.heap.size ≤ w1.heap.size) := HF1.out.size
  clear hF HO3 Hb3 HF3 k0 k1 k2 Hw3
  go_wp2_with fail
  clear eN
  go_loopw [12, 13] (fun v12 _ wr => ∃ (i : Nat) (px : List Nat), v12 = .int .i64 (i : Int) ∧ i ≤ N ∧ Hid (Own wr w1.heap.size (some ⟨g, 0, none⟩) n' n' px) ∧ Hid (Turned N t i px) ∧ Hid (wr.heap[G]? = some (.cells #[.int .i64 (A : Int), .int .i64 (B : Int), .slice (some ⟨g, 0, none⟩) n' n'] 24 (0, 0))) ∧ Hid (Fr (fun _ => False) w wr)) (fun v12 _ _ => N - (intOf v12).toNat)
  case atStart => exact ⟨0, _, rfl, Nat.zero_le _, HO4.out, Turned.zero _ _ _, HB4.out, HF4.out⟩
  case round =>
    obtain ⟨i, px, rfl, hi, HO, HT, HB, HFr⟩ := hrel
    by_cases hlt : i < N
    · have hii : (i : Int) < (N : Int) := by omega
      obtain ⟨k, hk⟩ : ∃ k, k = (i + t) % N := ⟨_, rfl⟩
      have hkN : k < N := by rw [hk]; exact Nat.mod_lt _ (by omega)
      have hN0 : (N : Int) ≠ 0 := by omega
      have ht := Ht.out
      have q4 : ((i : Int) + (t : Int)).tmod (N : Int) = (k : Int) := by
        rw [Int.tmod_eq_emod_of_nonneg (by omega), hk]
        simp
      have Hk := hide hk
      clear hk
      obtain ⟨X, Y, hX, hY, hin, h4k⟩ := HX.out k hkN
      have Hin := hide hin
      have H4k := hide h4k
      have HkN := hide hkN
      have HX2 := hide hX
      have HY2 := hide hY
      clear hin h4k hkN hX hY
      have HS := hide (set_yes (A : Int) (B : Int) (X : Int) (Y : Int) w1.heap.size g px n' n' (4 * k) k 1 (k / 256) 9)
      go_upto_region 12 with fail
      clear q4 ht
      have hA0 : ¬ A = 0 := fun e => HA0.out (by rw [e]; rfl)
      have hX := HX2.out
      have hY := HY2.out
      have hk16 : k < 1600 := Nat.lt_of_lt_of_le HkN.out hN16
      have hku := wrap_u16 k (by omega)
      refine wp_region_G (S := fun W' => Fr (fun _ => False) wr W') 13 (by kernel_rfl) (by exact Fr.drew1 _ wr) (fun hHeld => ?_)
      refine wpAnyG_take [13, 14] (i := 0) (v := ?v0g) rfl (by kernel_rfl) (by kernel_rfl) (by kernel_rfl) (by kernel_rfl) (fun _ _ _ h => h) (Or.inl ⟨by rfl, ?hy0g⟩) hHeld ?rest0g
      case hy0g => (intro W hSw; (try dsimp only at hSw); have hcs := cells_at HB.out hSw (fun e => e); have k0 := cell_of (o := 0) hcs rfl; have k1 := cell_of (o := 1) hcs rfl; have k2 := cell_of (o := 2) hcs rfl; go_simp; all_goals (with_reducible rfl))
      change wpAnyG _ _ _ _ _ _ _ _ (Act.put _ (some 60) _) _
      simp only [Act.put, List.setIfInBounds_toArray, List.set_cons_zero, List.set_cons_succ]
      refine wpAnyG_take [3, 13, 14] (i := 1) (v := ?v1g) rfl (by kernel_rfl) (by kernel_rfl) (by kernel_rfl) (by kernel_rfl) (fun _ _ _ h => h) (Or.inl ⟨by rfl, ?hy1g⟩) hHeld ?rest1g
      case hy1g => (intro W hSw; (try dsimp only at hSw); have hcs := cells_at HB.out hSw (fun e => e); have k0 := cell_of (o := 0) hcs rfl; have k1 := cell_of (o := 1) hcs rfl; have k2 := cell_of (o := 2) hcs rfl; go_simp; all_goals (with_reducible rfl))
      change wpAnyG _ _ _ _ _ _ _ _ (Act.put _ (some 61) _) _
      simp only [Act.put, List.setIfInBounds_toArray, List.set_cons_zero, List.set_cons_succ]
      refine wpAnyG_take [3, 13, 14] (i := 2) (v := ?v2g) rfl (by kernel_rfl) (by kernel_rfl) (by kernel_rfl) (by kernel_rfl) (fun _ _ _ h => h) (Or.inl ⟨by rfl, ?hy2g⟩) hHeld ?rest2g
      case hy2g => (intro W hSw; (try dsimp only at hSw); have hcs := cells_at HB.out hSw (fun e => e); have k0 := cell_of (o := 0) hcs rfl; have k1 := cell_of (o := 1) hcs rfl; have k2 := cell_of (o := 2) hcs rfl; go_simp; all_goals (with_reducible rfl))
      change wpAnyG _ _ _ _ _ _ _ _ (Act.put _ (some 62) _) _
      simp only [Act.put, List.setIfInBounds_toArray, List.set_cons_zero, List.set_cons_succ]
      refine wpAnyG_take [6, 13, 14] (i := 4) (v := ?v4g) rfl (by kernel_rfl) (by kernel_rfl) (by kernel_rfl) (by kernel_rfl) (fun _ _ _ h => h) (Or.inl ⟨by rfl, ?hy4g⟩) hHeld ?rest4g
      case hy4g => (intro W hSw; (try dsimp only at hSw); have hcs := cells_at HB.out hSw (fun e => e); have k0 := cell_of (o := 0) hcs rfl; have k1 := cell_of (o := 1) hcs rfl; have k2 := cell_of (o := 2) hcs rfl; go_simp; all_goals (with_reducible rfl))
      change wpAnyG _ _ _ _ _ _ _ _ (Act.put _ (some 64) _) _
      simp only [Act.put, List.setIfInBounds_toArray, List.set_cons_zero, List.set_cons_succ]
      refine wpAnyG_take [6, 13, 14] (i := 5) (v := ?v5g) rfl (by kernel_rfl) (by kernel_rfl) (by kernel_rfl) (by kernel_rfl) (fun _ _ _ h => h) (Or.inl ⟨by rfl, ?hy5g⟩) hHeld ?rest5g
      case hy5g => (intro W hSw; (try dsimp only at hSw); have hcs := cells_at HB.out hSw (fun e => e); have k0 := cell_of (o := 0) hcs rfl; have k1 := cell_of (o := 1) hcs rfl; have k2 := cell_of (o := 2) hcs rfl; go_simp; all_goals (with_reducible rfl))
      change wpAnyG _ _ _ _ _ _ _ _ (Act.put _ (some 65) _) _
      simp only [Act.put, List.setIfInBounds_toArray, List.set_cons_zero, List.set_cons_succ]
      refine wpAnyG_take [8, 12, 13, 14] (i := 7) (v := ?v7g) rfl (by kernel_rfl) (by kernel_rfl) (by kernel_rfl) (by kernel_rfl) (fun _ _ _ h => h) (Or.inl ⟨by rfl, ?hy7g⟩) hHeld ?rest7g
      case hy7g => (intro W hSw; (try dsimp only at hSw); have hcs := cells_at HB.out hSw (fun e => e); have k0 := cell_of (o := 0) hcs rfl; have k1 := cell_of (o := 1) hcs rfl; have k2 := cell_of (o := 2) hcs rfl; go_simp; all_goals (with_reducible rfl))
      change wpAnyG _ _ _ _ _ _ _ _ (Act.put _ (some 67) _) _
      simp only [Act.put, List.setIfInBounds_toArray, List.set_cons_zero, List.set_cons_succ]
      refine wpAnyG_take [10, 11, 12, 13, 14] (i := 9) (v := ?v9g) rfl (by kernel_rfl) (by kernel_rfl) (by kernel_rfl) (by kernel_rfl) (fun _ _ _ h => h) (Or.inl ⟨by rfl, ?hy9g⟩) hHeld ?rest9g
      case hy9g => (intro W hSw; (try dsimp only at hSw); have hcs := cells_at HB.out hSw (fun e => e); have k0 := cell_of (o := 0) hcs rfl; have k1 := cell_of (o := 1) hcs rfl; have k2 := cell_of (o := 2) hcs rfl; go_simp; all_goals (with_reducible rfl))
      change wpAnyG _ _ _ _ _ _ _ _ (Act.put _ (some 69) _) _
      simp only [Act.put, List.setIfInBounds_toArray, List.set_cons_zero, List.set_cons_succ]
      refine wpAnyG_take [13, 14] (i := 3) (v := ?v3g) rfl (by kernel_rfl) (by kernel_rfl) (by kernel_rfl) (by kernel_rfl) (fun _ _ _ h => h) (Or.inl ⟨by rfl, ?hy3g⟩) hHeld ?rest3g
      case hy3g => (intro W hSw; (try dsimp only at hSw); have hcs := cells_at HB.out hSw (fun e => e); have k0 := cell_of (o := 0) hcs rfl; have k1 := cell_of (o := 1) hcs rfl; have k2 := cell_of (o := 2) hcs rfl; go_simp; all_goals (with_reducible rfl))
      change wpAnyG _ _ _ _ _ _ _ _ (Act.put _ (some 63) _) _
      simp only [Act.put, List.setIfInBounds_toArray, List.set_cons_zero, List.set_cons_succ]
      refine wpAnyG_take [13, 14] (i := 6) (v := ?v6g) rfl (by kernel_rfl) (by kernel_rfl) (by kernel_rfl) (by kernel_rfl) (fun _ _ _ h => h) (Or.inl ⟨by rfl, ?hy6g⟩) hHeld ?rest6g
      case hy6g => (intro W hSw; (try dsimp only at hSw); have hcs := cells_at HB.out hSw (fun e => e); have k0 := cell_of (o := 0) hcs rfl; have k1 := cell_of (o := 1) hcs rfl; have k2 := cell_of (o := 2) hcs rfl; go_simp; all_goals (with_reducible rfl))
      change wpAnyG _ _ _ _ _ _ _ _ (Act.put _ (some 66) _) _
      simp only [Act.put, List.setIfInBounds_toArray, List.set_cons_zero, List.set_cons_succ]
      refine wpAnyG_take [12, 13, 14] (i := 8) (v := ?v8g) rfl (by kernel_rfl) (by kernel_rfl) (by kernel_rfl) (by kernel_rfl) (fun _ _ _ h => h) (Or.inl ⟨by rfl, ?hy8g⟩) hHeld ?rest8g
      case hy8g => (intro W hSw; (try dsimp only at hSw); have hcs := cells_at HB.out hSw (fun e => e); have k0 := cell_of (o := 0) hcs rfl; have k1 := cell_of (o := 1) hcs rfl; have k2 := cell_of (o := 2) hcs rfl; go_simp; all_goals (with_reducible rfl))
      change wpAnyG _ _ _ _ _ _ _ _ (Act.put _ (some 68) _) _
      simp only [Act.put, List.setIfInBounds_toArray, List.set_cons_zero, List.set_cons_succ]
      refine wpAnyG_take [11, 12, 13, 14] (i := 10) (v := ?v10g) rfl (by kernel_rfl) (by kernel_rfl) (by kernel_rfl) (by kernel_rfl) (fun _ _ _ h => h) (Or.inl ⟨by rfl, ?hy10g⟩) hHeld ?rest10g
      case hy10g => (intro W hSw; (try dsimp only at hSw); have hcs := cells_at HB.out hSw (fun e => e); have k0 := cell_of (o := 0) hcs rfl; have k1 := cell_of (o := 1) hcs rfl; have k2 := cell_of (o := 2) hcs rfl; go_simp; all_goals (with_reducible rfl))
      change wpAnyG _ _ _ _ _ _ _ _ (Act.put _ (some 70) _) _
      simp only [Act.put, List.setIfInBounds_toArray, List.set_cons_zero, List.set_cons_succ]
      refine wpAnyG_take [12, 13, 14] (i := 11) (v := ?v11g) rfl (by kernel_rfl) (by kernel_rfl) (by kernel_rfl) (by kernel_rfl) (fun _ _ _ h => h) (Or.inl ⟨by rfl, ?hy11g⟩) hHeld ?rest11g
      case hy11g => (intro W hSw; (try dsimp only at hSw); have hcs := cells_at HB.out hSw (fun e => e); have k0 := cell_of (o := 0) hcs rfl; have k1 := cell_of (o := 1) hcs rfl; have k2 := cell_of (o := 2) hcs rfl; go_simp; all_goals (with_reducible rfl))
      change wpAnyG _ _ _ _ _ _ _ _ (Act.put _ (some 71) _) _
      simp only [Act.put, List.setIfInBounds_toArray, List.set_cons_zero, List.set_cons_succ]
      refine wpAnyG_take [13, 14] (i := 12) (v := ?v12g) rfl (by kernel_rfl) (by kernel_rfl) (by kernel_rfl) (by kernel_rfl) (fun _ _ _ h => h) (Or.inl ⟨by rfl, ?hy12g⟩) hHeld ?rest12g
      case hy12g => (intro W hSw; (try dsimp only at hSw); have hcs := cells_at HB.out hSw (fun e => e); have k0 := cell_of (o := 0) hcs rfl; have k1 := cell_of (o := 1) hcs rfl; have k2 := cell_of (o := 2) hcs rfl; go_simp; all_goals (with_reducible rfl))
      change wpAnyG _ _ _ _ _ _ _ _ (Act.put _ (some 72) _) _
      simp only [Act.put, List.setIfInBounds_toArray, List.set_cons_zero, List.set_cons_succ]
      refine wpAnyG_one (i := 13) (by kernel_rfl) rfl (fun K hK => ?_)
      try simp only [List.getElem_toArray, List.getElem_cons_succ, List.getElem_cons_zero]
      go_simp
      refine (calls_args (HS.out wr.drew Hin.out H4k.out (by have h1 := Hn4.out; have h2 := HkN.out; omega) (HO.out.keep (S := fun _ => False) (Fr.drew1 _ wr) fun _ _ h => h) (rows_small hk16)) (by rw [(rows_args Hin.out hk16).1, (rows_args Hin.out hk16).2]; rfl)).mono ?_
      rintro e w5 ⟨rfl, hF5, hO5⟩
      have HO5 := hide hO5
      have HF5 := hide hF5
      clear hF5 hO5
      refine hK.out _ _ (fun h => absurd h (by decide)) (fun _ => ?_)
      clear hK K
      refine wpAnyG_one (i := 14) (by kernel_rfl) rfl (fun K hK => ?_)
      try simp only [List.getElem_toArray, List.getElem_cons_succ, List.getElem_cons_zero]
      go_simp
      refine hK.out _ _ (fun h => absurd h (by decide)) (fun _ => ?_)
      clear hK K
      refine wpAnyG_done (by kernel_rfl) ?_ _
      clear hX hY hku
      go_wp2_with fail
      refine ⟨⟨i + 1, setP px (4 * k) [k, 1, k / 256, 9], by go_num, by omega, HO5.out, HT.out.step (by have h1 := HO.out.len; have h2 := Hn4.out; omega) (by omega) Hk.out, cells_at HB.out ((Fr.drew1 _ wr).join HF5.out) (fun e => ?_), frJ HFr.out ((Fr.drew1 _ wr).join HF5.out) fun j hj => ?_⟩, by simp [intOf]; omega⟩
      · have e2 : G = g := e
        have := HgG.out
        omega
      · have e2 : j = g := hj
        rw [e2]
        exact Nat.le_trans HL4.out Hgl.out
    · have hii : ¬ (i : Int) < (N : Int) := by omega
      have e : i = N := by omega
      obtain ⟨wo, rfl⟩ : ∃ wo : World, wo = wr := ⟨_, rfl⟩
      have HP : Hid (∀ k, k < N → PxIs px k) := Turned.all (t := t) (by have h := HT.out; rw [e] at h; exact h)
      clear HT
      go_wp2_with fail
      clear hii e
      go_loopw [14, 15, 16] (fun v14 _ _ wr => ∃ k : Nat, v14 = .int .i64 (k : Int) ∧ k ≤ N ∧ Hid (Fr (fun _ => False) wo wr)) (fun v14 _ _ _ => N - (intOf v14).toNat)
      case atStart => exact ⟨0, rfl, Nat.zero_le _, Fr.refl _ _⟩
      case round =>
        obtain ⟨k, rfl, hk, HFk⟩ := hrel
        by_cases hlt : k < N
        · have hki : (k : Int) < (N : Int) := by omega
          have HkN := hide hlt
          obtain ⟨X, Y, hX, hY, hin, h4k⟩ := HX.out k hlt
          have Hin := hide hin
          have H4k := hide h4k
          have HX2 := hide hX
          have HY2 := hide hY
          have hk16 : k < 1600 := Nat.lt_of_lt_of_le hlt hN16
          have HS := hide (at_yes (A : Int) (B : Int) (X : Int) (Y : Int) g 0 px n' n' (4 * k))
          clear hin h4k hX hY
          obtain ⟨q, hq⟩ : ∃ q, q = k / 256 := ⟨_, rfl⟩
          have Hq := hide hq
          clear hq
          go_upto_region 17 with fail
          go_cut [15, 16] from 80 to 90 (fun v15 v16 wx => ∃ P : Nat, v15 = .pointer (some ⟨P, 0, none⟩) ∧ v16 = .bool true ∧ wx.heap[P]? = some (.cells (pxV k 1 q 9) 36 (0, 0)) ∧ Fr (fun _ => False) wr wx ∧ wr.heap.size ≤ P)
          case first =>
            have hA0 : ¬ A = 0 := fun e => HA0.out (by rw [e]; rfl)
            have hX := HX2.out
            have hY := HY2.out
            refine wp_region_held_drew (S := fun W' => Fr (fun _ => False) wr W') (by kernel_rfl) (by exact Fr.drew1 _ wr) (fun hHeld => ?_)
            obtain ⟨v0, hv0⟩ : ∃ W, W = wr.drew := ⟨_, rfl⟩
            rw [← hv0] at hHeld ⊢
            clear hv0
            refine wpAnyH_take (i := 0) (v := ?v0_1) rfl (by kernel_rfl) (by kernel_rfl) (by kernel_rfl) (fun _ _ _ h => h) (Or.inl ⟨by rfl, ?hy0_1⟩) hHeld ?rest0_1
            case hy0_1 => (intro W hSw; (try dsimp only at hSw); have hcs := cells_at HB.out (HFk.out.join hSw) (fun e => e); have k0 := cell_of (o := 0) hcs rfl; have k1 := cell_of (o := 1) hcs rfl; have k2 := cell_of (o := 2) hcs rfl; go_simp; all_goals (with_reducible rfl))
            change wpAnyH _ _ _ _ _ _ _ (Act.put _ (some 81) _) _
            simp only [Act.put, List.setIfInBounds_toArray, List.set_cons_zero, List.set_cons_succ]
            refine wpAnyH_take (i := 1) (v := ?v1_1) rfl (by kernel_rfl) (by kernel_rfl) (by kernel_rfl) (fun _ _ _ h => h) (Or.inl ⟨by rfl, ?hy1_1⟩) hHeld ?rest1_1
            case hy1_1 => (intro W hSw; (try dsimp only at hSw); have hcs := cells_at HB.out (HFk.out.join hSw) (fun e => e); have k0 := cell_of (o := 0) hcs rfl; have k1 := cell_of (o := 1) hcs rfl; have k2 := cell_of (o := 2) hcs rfl; go_simp; all_goals (with_reducible rfl))
            change wpAnyH _ _ _ _ _ _ _ (Act.put _ (some 82) _) _
            simp only [Act.put, List.setIfInBounds_toArray, List.set_cons_zero, List.set_cons_succ]
            refine wpAnyH_take (i := 2) (v := ?v2_1) rfl (by kernel_rfl) (by kernel_rfl) (by kernel_rfl) (fun _ _ _ h => h) (Or.inl ⟨by rfl, ?hy2_1⟩) hHeld ?rest2_1
            case hy2_1 => (intro W hSw; (try dsimp only at hSw); have hcs := cells_at HB.out (HFk.out.join hSw) (fun e => e); have k0 := cell_of (o := 0) hcs rfl; have k1 := cell_of (o := 1) hcs rfl; have k2 := cell_of (o := 2) hcs rfl; go_simp; all_goals (with_reducible rfl))
            change wpAnyH _ _ _ _ _ _ _ (Act.put _ (some 83) _) _
            simp only [Act.put, List.setIfInBounds_toArray, List.set_cons_zero, List.set_cons_succ]
            refine wpAnyH_take (i := 4) (v := ?v4_1) rfl (by kernel_rfl) (by kernel_rfl) (by kernel_rfl) (fun _ _ _ h => h) (Or.inl ⟨by rfl, ?hy4_1⟩) hHeld ?rest4_1
            case hy4_1 => (intro W hSw; (try dsimp only at hSw); have hcs := cells_at HB.out (HFk.out.join hSw) (fun e => e); have k0 := cell_of (o := 0) hcs rfl; have k1 := cell_of (o := 1) hcs rfl; have k2 := cell_of (o := 2) hcs rfl; go_simp; all_goals (with_reducible rfl))
            change wpAnyH _ _ _ _ _ _ _ (Act.put _ (some 85) _) _
            simp only [Act.put, List.setIfInBounds_toArray, List.set_cons_zero, List.set_cons_succ]
            refine wpAnyH_take (i := 5) (v := ?v5_1) rfl (by kernel_rfl) (by kernel_rfl) (by kernel_rfl) (fun _ _ _ h => h) (Or.inl ⟨by rfl, ?hy5_1⟩) hHeld ?rest5_1
            case hy5_1 => (intro W hSw; (try dsimp only at hSw); have hcs := cells_at HB.out (HFk.out.join hSw) (fun e => e); have k0 := cell_of (o := 0) hcs rfl; have k1 := cell_of (o := 1) hcs rfl; have k2 := cell_of (o := 2) hcs rfl; go_simp; all_goals (with_reducible rfl))
            change wpAnyH _ _ _ _ _ _ _ (Act.put _ (some 86) _) _
            simp only [Act.put, List.setIfInBounds_toArray, List.set_cons_zero, List.set_cons_succ]
            refine wpAnyH_take (i := 3) (v := ?v3_2) rfl (by kernel_rfl) (by kernel_rfl) (by kernel_rfl) (fun _ _ _ h => h) (Or.inl ⟨by rfl, ?hy3_2⟩) hHeld ?rest3_2
            case hy3_2 => (intro W hSw; (try dsimp only at hSw); have hcs := cells_at HB.out (HFk.out.join hSw) (fun e => e); have k0 := cell_of (o := 0) hcs rfl; have k1 := cell_of (o := 1) hcs rfl; have k2 := cell_of (o := 2) hcs rfl; go_simp; all_goals (with_reducible rfl))
            change wpAnyH _ _ _ _ _ _ _ (Act.put _ (some 84) _) _
            simp only [Act.put, List.setIfInBounds_toArray, List.set_cons_zero, List.set_cons_succ]
            refine wpAnyH_take (i := 6) (v := ?v6_2) rfl (by kernel_rfl) (by kernel_rfl) (by kernel_rfl) (fun _ _ _ h => h) (Or.inl ⟨by rfl, ?hy6_2⟩) hHeld ?rest6_2
            case hy6_2 => (intro W hSw; (try dsimp only at hSw); have hcs := cells_at HB.out (HFk.out.join hSw) (fun e => e); have k0 := cell_of (o := 0) hcs rfl; have k1 := cell_of (o := 1) hcs rfl; have k2 := cell_of (o := 2) hcs rfl; go_simp; all_goals (with_reducible rfl))
            change wpAnyH _ _ _ _ _ _ _ (Act.put _ (some 87) _) _
            simp only [Act.put, List.setIfInBounds_toArray, List.set_cons_zero, List.set_cons_succ]
            refine wpAnyH_ready (rs := [7, 11]) (by kernel_rfl) (by simp) ?_
            refine (AllReadyH.cons rfl (fun K hK => ?_) (AllReadyH.cons rfl (fun K hK => ?_) AllReadyH.nil))
            · skip
              try simp only [List.getElem_toArray, List.getElem_cons_succ, List.getElem_cons_zero]
              go_simp
              refine (calls_args (HS.out v0 Hin.out H4k.out (by have h1 := Hn4.out; have h2 := HkN.out; omega) (HO.out.lies.keep0 (HFk.out.join hHeld)) HO.out.len (Nat.le_refl _)) (by rw [(rows_args Hin.out hk16).1])).mono ?_
              rintro e v1 ⟨rfl, hF1⟩
              rw [pixL_rows (HP.out k HkN.out), ← Hq.out]
              refine hK.out _ _ (hHeld.join hF1) (fun hHeld => ?_)
              clear hK K
              refine wpAnyH_take (i := 8) (v := ?v8_3) rfl (by kernel_rfl) (by kernel_rfl) (by kernel_rfl) (fun _ _ _ h => h) (Or.inl ⟨by rfl, ?hy8_3⟩) hHeld ?rest8_3
              case hy8_3 => (intro W hSw; (try dsimp only at hSw); have hcs := cells_at HB.out (HFk.out.join hSw) (fun e => e); have k0 := cell_of (o := 0) hcs rfl; have k1 := cell_of (o := 1) hcs rfl; have k2 := cell_of (o := 2) hcs rfl; go_simp; all_goals (with_reducible rfl))
              change wpAnyH _ _ _ _ _ _ _ (Act.put _ (some 80) _) _
              simp only [Act.put, List.setIfInBounds_toArray, List.set_cons_zero, List.set_cons_succ]
              refine wpAnyH_take (i := 9) (v := ?v9_4) rfl (by kernel_rfl) (by kernel_rfl) (by kernel_rfl) (fun _ _ _ h => h) (Or.inl ⟨by rfl, ?hy9_4⟩) hHeld ?rest9_4
              case hy9_4 => (intro W hSw; (try dsimp only at hSw); have hcs := cells_at HB.out (HFk.out.join hSw) (fun e => e); have k0 := cell_of (o := 0) hcs rfl; have k1 := cell_of (o := 1) hcs rfl; have k2 := cell_of (o := 2) hcs rfl; go_simp; all_goals (with_reducible rfl))
              change wpAnyH _ _ _ _ _ _ _ (Act.put _ (some 89) _) _
              simp only [Act.put, List.setIfInBounds_toArray, List.set_cons_zero, List.set_cons_succ]
              refine wpAnyH_take (i := 10) (v := ?v10_4) rfl (by kernel_rfl) (by kernel_rfl) (by kernel_rfl) (fun _ _ _ h => h) (Or.inl ⟨by rfl, ?hy10_4⟩) hHeld ?rest10_4
              case hy10_4 => (intro W hSw; (try dsimp only at hSw); have hcs := cells_at HB.out (HFk.out.join hSw) (fun e => e); have k0 := cell_of (o := 0) hcs rfl; have k1 := cell_of (o := 1) hcs rfl; have k2 := cell_of (o := 2) hcs rfl; go_simp; all_goals (with_reducible rfl))
              change wpAnyH _ _ _ _ _ _ _ (Act.put _ (some 90) _) _
              simp only [Act.put, List.setIfInBounds_toArray, List.set_cons_zero, List.set_cons_succ]
              refine wpAnyH_ready (rs := [11]) (by kernel_rfl) (by simp) ?_
              refine (AllReadyH.cons rfl (fun K hK => ?_) AllReadyH.nil)
              try simp only [List.getElem_toArray, List.getElem_cons_succ, List.getElem_cons_zero]
              go_simp
              obtain ⟨v2, hv2⟩ : ∃ W, W = v1.alloc (.cells #[.int .u16 0, .int .u16 0, .int .u16 0, .int .u16 0] 36) := ⟨_, rfl⟩
              obtain ⟨P, hP⟩ : ∃ P, P = v1.heap.size := ⟨_, rfl⟩
              rw [← hv2, ← hP]
              have hF2 : Fr (fun _ => False) v1 v2 := by rw [hv2]; exact Fr.of_alloc _ _
              have hb2 : v2.heap[P]? = some (.cells #[.int .u16 0, .int .u16 0, .int .u16 0, .int .u16 0] 36 (0, 0)) := by rw [hv2]; exact heap_alloc_at hP
              have hle : wr.heap.size ≤ P := by rw [hP]; exact hHeld.size
              clear hv2 hP
              refine hK.out _ _ (hHeld.join hF2) (fun hHeld => ?_)
              clear hK K
              refine wpAnyH_ready (rs := [12]) (by kernel_rfl) (by simp) ?_
              refine (AllReadyH.cons rfl (fun K hK => ?_) AllReadyH.nil)
              try simp only [List.getElem_toArray, List.getElem_cons_succ, List.getElem_cons_zero]
              have c0 := cell_of (o := 0) hb2 rfl
              have c1 := cell_of (o := 1) hb2 rfl
              have c2 := cell_of (o := 2) hb2 rfl
              have c3 := cell_of (o := 3) hb2 rfl
              have f0 := frozen_of (o := 0) hb2
              have f1 := frozen_of (o := 1) hb2
              have f2 := frozen_of (o := 2) hb2
              have f3 := frozen_of (o := 3) hb2
              go_simp
              obtain ⟨v3, hv3⟩ : ∃ W, W = (((v2.setCell ⟨P, 0, none⟩ (.int .u16 (k : Int))).setCell ⟨P, 1, none⟩ (.int .u16 1)).setCell ⟨P, 2, none⟩ (.int .u16 (q : Int))).setCell ⟨P, 3, none⟩ (.int .u16 9) := ⟨_, rfl⟩
              rw [← hv3]
              obtain ⟨hb3, hF3⟩ := set4 (.int .u16 (k : Int)) (.int .u16 1) (.int .u16 (q : Int)) (.int .u16 9) hb2
              rw [← hv3] at hb3 hF3
              clear hv3 c0 c1 c2 c3 f0 f1 f2 f3
              refine hK.out _ _ (frJ hHeld hF3 (fun i e => by have e2 : i = P := e; omega)) (fun hHeld => ?_)
              clear hK K
              refine wpAnyH_ready (rs := [13]) (by kernel_rfl) (by simp) ?_
              refine (AllReadyH.cons rfl (fun K hK => ?_) AllReadyH.nil)
              try simp only [List.getElem_toArray, List.getElem_cons_succ, List.getElem_cons_zero]
              go_simp
              refine hK.out _ _ hHeld (fun hHeld => ?_)
              clear hK K
              refine wpAnyH_done (by kernel_rfl) ?_ _
              go_wp2_with fail
              go_meet
              case rel => exact ⟨P, rfl, rfl, hb3, hHeld, hle⟩
            · skip
              try simp only [List.getElem_toArray, List.getElem_cons_succ, List.getElem_cons_zero]
              go_simp
              obtain ⟨v1, hv1⟩ : ∃ W, W = v0.alloc (.cells #[.int .u16 0, .int .u16 0, .int .u16 0, .int .u16 0] 36) := ⟨_, rfl⟩
              obtain ⟨P, hP⟩ : ∃ P, P = v0.heap.size := ⟨_, rfl⟩
              rw [← hv1, ← hP]
              have hF1 : Fr (fun _ => False) v0 v1 := by rw [hv1]; exact Fr.of_alloc _ _
              have hb1 : v1.heap[P]? = some (.cells #[.int .u16 0, .int .u16 0, .int .u16 0, .int .u16 0] 36 (0, 0)) := by rw [hv1]; exact heap_alloc_at hP
              have hle : wr.heap.size ≤ P := by rw [hP]; exact hHeld.size
              clear hv1 hP
              refine hK.out _ _ (hHeld.join hF1) (fun hHeld => ?_)
              clear hK K
              refine wpAnyH_ready (rs := [7]) (by kernel_rfl) (by simp) ?_
              refine (AllReadyH.cons rfl (fun K hK => ?_) AllReadyH.nil)
              try simp only [List.getElem_toArray, List.getElem_cons_succ, List.getElem_cons_zero]
              go_simp
              refine (calls_args (HS.out v1 Hin.out H4k.out (by have h1 := Hn4.out; have h2 := HkN.out; omega) (HO.out.lies.keep0 (HFk.out.join hHeld)) HO.out.len (Nat.le_refl _)) (by rw [(rows_args Hin.out hk16).1])).mono ?_
              rintro e v2 ⟨rfl, hF2⟩
              rw [pixL_rows (HP.out k HkN.out), ← Hq.out]
              have hb2 := cells_at hb1 hF2 (fun e => e)
              refine hK.out _ _ (hHeld.join hF2) (fun hHeld => ?_)
              clear hK K
              refine wpAnyH_take (i := 8) (v := ?v8_5) rfl (by kernel_rfl) (by kernel_rfl) (by kernel_rfl) (fun _ _ _ h => h) (Or.inl ⟨by rfl, ?hy8_5⟩) hHeld ?rest8_5
              case hy8_5 => (intro W hSw; (try dsimp only at hSw); have hcs := cells_at HB.out (HFk.out.join hSw) (fun e => e); have k0 := cell_of (o := 0) hcs rfl; have k1 := cell_of (o := 1) hcs rfl; have k2 := cell_of (o := 2) hcs rfl; go_simp; all_goals (with_reducible rfl))
              change wpAnyH _ _ _ _ _ _ _ (Act.put _ (some 80) _) _
              simp only [Act.put, List.setIfInBounds_toArray, List.set_cons_zero, List.set_cons_succ]
              refine wpAnyH_take (i := 9) (v := ?v9_6) rfl (by kernel_rfl) (by kernel_rfl) (by kernel_rfl) (fun _ _ _ h => h) (Or.inl ⟨by rfl, ?hy9_6⟩) hHeld ?rest9_6
              case hy9_6 => (intro W hSw; (try dsimp only at hSw); have hcs := cells_at HB.out (HFk.out.join hSw) (fun e => e); have k0 := cell_of (o := 0) hcs rfl; have k1 := cell_of (o := 1) hcs rfl; have k2 := cell_of (o := 2) hcs rfl; go_simp; all_goals (with_reducible rfl))
              change wpAnyH _ _ _ _ _ _ _ (Act.put _ (some 89) _) _
              simp only [Act.put, List.setIfInBounds_toArray, List.set_cons_zero, List.set_cons_succ]
              refine wpAnyH_take (i := 10) (v := ?v10_6) rfl (by kernel_rfl) (by kernel_rfl) (by kernel_rfl) (fun _ _ _ h => h) (Or.inl ⟨by rfl, ?hy10_6⟩) hHeld ?rest10_6
              case hy10_6 => (intro W hSw; (try dsimp only at hSw); have hcs := cells_at HB.out (HFk.out.join hSw) (fun e => e); have k0 := cell_of (o := 0) hcs rfl; have k1 := cell_of (o := 1) hcs rfl; have k2 := cell_of (o := 2) hcs rfl; go_simp; all_goals (with_reducible rfl))
              change wpAnyH _ _ _ _ _ _ _ (Act.put _ (some 90) _) _
              simp only [Act.put, List.setIfInBounds_toArray, List.set_cons_zero, List.set_cons_succ]
              refine wpAnyH_ready (rs := [12]) (by kernel_rfl) (by simp) ?_
              refine (AllReadyH.cons rfl (fun K hK => ?_) AllReadyH.nil)
              try simp only [List.getElem_toArray, List.getElem_cons_succ, List.getElem_cons_zero]
              have c0 := cell_of (o := 0) hb2 rfl
              have c1 := cell_of (o := 1) hb2 rfl
              have c2 := cell_of (o := 2) hb2 rfl
              have c3 := cell_of (o := 3) hb2 rfl
              have f0 := frozen_of (o := 0) hb2
              have f1 := frozen_of (o := 1) hb2
              have f2 := frozen_of (o := 2) hb2
              have f3 := frozen_of (o := 3) hb2
              go_simp
              obtain ⟨v3, hv3⟩ : ∃ W, W = (((v2.setCell ⟨P, 0, none⟩ (.int .u16 (k : Int))).setCell ⟨P, 1, none⟩ (.int .u16 1)).setCell ⟨P, 2, none⟩ (.int .u16 (q : Int))).setCell ⟨P, 3, none⟩ (.int .u16 9) := ⟨_, rfl⟩
              rw [← hv3]
              obtain ⟨hb3, hF3⟩ := set4 (.int .u16 (k : Int)) (.int .u16 1) (.int .u16 (q : Int)) (.int .u16 9) hb2
              rw [← hv3] at hb3 hF3
              clear hv3 c0 c1 c2 c3 f0 f1 f2 f3
              refine hK.out _ _ (frJ hHeld hF3 (fun i e => by have e2 : i = P := e; omega)) (fun hHeld => ?_)
              clear hK K
              refine wpAnyH_ready (rs := [13]) (by kernel_rfl) (by simp) ?_
              refine (AllReadyH.cons rfl (fun K hK => ?_) AllReadyH.nil)
              try simp only [List.getElem_toArray, List.getElem_cons_succ, List.getElem_cons_zero]
              go_simp
              refine hK.out _ _ hHeld (fun hHeld => ?_)
              clear hK K
              refine wpAnyH_done (by kernel_rfl) ?_ _
              go_wp2_with fail
              go_meet
              case rel => exact ⟨P, rfl, rfl, hb3, hHeld, hle⟩
          case rest =>
          obtain ⟨P, rfl, rfl, hbP, hFP, hle⟩ := hcut
          have HFw := hide (HFk.out.join hFP)
          have hbw := cells_at HB.out HFw.out (fun e => e)
          have k0 := cell_of (o := 0) hbw rfl
          have k1 := cell_of (o := 1) hbw rfl
          have k2 := cell_of (o := 2) hbw rfl
          have c0 := cell_of (o := 0) hbP rfl
          obtain ⟨p0, p1, p2, p3⟩ := HP.out k HkN.out
          have hlw := HO.out.lies.keep0 HFw.out
          obtain ⟨K, hK⟩ : ∃ K, K = 4 * k := ⟨_, rfl⟩
          obtain ⟨K3, hK3⟩ : ∃ K3, K3 = K + 3 := ⟨_, rfl⟩
          have hn : n' = 4 * N := Hn4.out
          have hkN : k < N := HkN.out
          have d0 := hlw.cell (j := K) (by rw [HO.out.len]; omega)
          have d3 := hlw.cell (j := K3) (by rw [HO.out.len]; omega)
          rw [hK, p0, Nat.zero_add, ← hK] at d0
          rw [hK3, hK, p3, Nat.zero_add, ← hK, ← hK3] at d3
          have e1 : 4 * (k : Int) = (K : Int) := by omega
          have e2 : (K : Int) + 3 = (K3 : Int) := by omega
          have b1 : K < n' := by omega
          have b2 : K3 < n' := by omega
          have b3 : n' ≤ 6400 := by omega
          have hku := wrap_u16 k (by omega)
          clear hK hK3 hn hkN hlw p0 p1 p2 p3 hbw hbP hFP hle
          go_wp2_with fail
          refine ⟨⟨k + 1, by go_num, by omega, HFw.out⟩, by simp [intOf]; omega⟩
        · have hki : ¬ (k : Int) < (N : Int) := by omega
          obtain ⟨wp, rfl⟩ : ∃ wp : World, wp = wr := ⟨_, rfl⟩
          have hbw := cells_at HB.out HFk.out (fun e => e)
          have k0 := cell_of (o := 0) hbw rfl
          have k1 := cell_of (o := 1) hbw rfl
          have k2 := cell_of (o := 2) hbw rfl
          have HN1 := hide (at_no (A : Int) (B : Int) (A : Int) 0 (some ⟨g, 0, none⟩) n' n' wp (rows_out _ _ _).1)
          clear hki
          go_wp2_with fail
          refine HN1.out.mono ?_
          rintro e w6 ⟨rfl, hF⟩
          have HF6 := hide (HFk.out.join hF)
          clear hF k0 k1 k2 HN1
          obtain ⟨w7, hw7⟩ : ∃ w7, w7 = w6.alloc (.cells #[.int .u16 0, .int .u16 0, .int .u16 0, .int .u16 0] 36) := ⟨_, rfl⟩
          have hF7 : Fr (fun _ => False) w6 w7 := by rw [hw7]; exact Fr.of_alloc _ _
          have HF7 := hide (HF6.out.join hF7)
          have Hw7 := hide hw7
          have HN2 := hide (at_no (A : Int) (B : Int) 0 (-1) (some ⟨g, 0, none⟩) n' n' w7 (rows_out _ _ _).2.1)
          have hbw := cells_at HB.out HF7.out (fun e => e)
          have k0 := cell_of (o := 0) hbw rfl
          have k1 := cell_of (o := 1) hbw rfl
          have k2 := cell_of (o := 2) hbw rfl
          rw [hw7] at k0 k1 k2
          clear hbw hF7 hw7
          go_wp2_with fail
          rw [← Hw7.out]
          refine HN2.out.mono ?_
          rintro e w8 ⟨rfl, hF⟩
          have HF8 := hide (HF7.out.join hF)
          clear hF k0 k1 k2 HN2
          obtain ⟨w9, hw9⟩ : ∃ w9, w9 = w8.alloc (.cells #[.int .u16 0, .int .u16 0, .int .u16 0, .int .u16 0] 36) := ⟨_, rfl⟩
          have hF9 : Fr (fun _ => False) w8 w9 := by rw [hw9]; exact Fr.of_alloc _ _
          have HF9 := hide (HF8.out.join hF9)
          have Hw9 := hide hw9
          have HC := hide (colours_yes (A : Int) (B : Int) (N : Int) (some ⟨g, 0, none⟩) n' n' N px w9 (HO.out.lies.keep0 HF9.out) HO.out.len Hm.out HeN.out.symm)
          have hbw := cells_at HB.out HF9.out (fun e => e)
          have k0 := cell_of (o := 0) hbw rfl
          have k1 := cell_of (o := 1) hbw rfl
          have k2 := cell_of (o := 2) hbw rfl
          rw [hw9] at k0 k1 k2
          clear hbw hF9 hw9
          go_wp2_with fail
          rw [← Hw9.out]
          refine HC.out.mono ?_
          rintro e w10 ⟨hF, D, hD, hDm, rfl⟩
          have hDN : D.length = N := rows_count HO.out.small HP.out hD (by rw [← Hn4.out]; exact hDm)
          rw [hDN, if_neg (by omega)]
          have HF10 := hide (HF9.out.join hF)
          clear hF k0 k1 k2 HC hD hDm hDN
          have HN3 := hide (set_no (A : Int) (B : Int) 0 (B : Int) (some ⟨g, 0, none⟩) n' n' 0 0 0 0 w10 (rows_out _ _ _).2.2)
          have hbw := cells_at HB.out HF10.out (fun e => e)
          have k0 := cell_of (o := 0) hbw rfl
          have k1 := cell_of (o := 1) hbw rfl
          have k2 := cell_of (o := 2) hbw rfl
          clear hbw
          go_wp2_with fail
          refine HN3.out.mono ?_
          rintro e w11 ⟨rfl, hF⟩
          have HF11 := hide (HF10.out.join hF)
          clear hF k0 k1 k2 HN3
          go_wp2_with fail
          go_ret
          exact ⟨rfl, HFr.out.join HF11.out⟩
end Go.Proofs.Ythdilabmajaehaa
