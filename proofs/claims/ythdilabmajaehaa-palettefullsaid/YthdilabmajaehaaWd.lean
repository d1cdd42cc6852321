/-
  raster: the document's List.
-/
import Derived.Test.YthdilabmajaehaaWc
namespace Go.Proofs.Ythdilabmajaehaa
open Go.RowKit

/-- What List answers. -/
def Listed (most : Int) (px : List Nat) (m : Nat) (lo : Nat) (e : Ending) (w' : World) : Prop :=
  (most < ((uniq px m).length : Int) ∧ e = .returned (.tuple #[.slice none 0 0, .slice none 0 0, .bool false])) ∨
  (((uniq px m).length : Int) ≤ most ∧ ∃ v1 v2, e = .returned (.tuple #[v1, v2, .bool true]) ∧ OwnP w' lo v1 (uniq px m) ∧ OwnI w' lo v2 (places px m))

theorem results_ttt {fn : Func} {tmps : Array Value} {P : Program} {w : World} {a b c : Nat} {x y z : Value} (hf : fn.results = #[.tmp a, .tmp b, .tmp c]) (ha : tmps[a]? = some x) (hb : tmps[b]? = some y) (hc : tmps[c]? = some z) :
    (results fn tmps).run P w = .ok (.tuple #[x, y, z]) w := by
  simp [results, hf, ha, hb, hc]

theorem OwnP.low {w : World} {lo lo' : Nat} {v : Value} {ls : List (List Nat)} (h : OwnP w lo v ls) (hl : lo' ≤ lo) : OwnP w lo' v ls := by
  refine ⟨⟨h.own.1, ?_⟩, h.four⟩
  rcases h.own.2 with ⟨e, h1⟩ | ⟨g, cap, cur, e, hb, hr⟩
  · exact Or.inl ⟨e, h1⟩
  · exact Or.inr ⟨g, cap, cur, e, Nat.le_trans hl hb, hr⟩
theorem OwnI.low {w : World} {lo lo' : Nat} {v : Value} {ks : List Nat} (h : OwnI w lo v ks) (hl : lo' ≤ lo) : OwnI w lo' v ks := by
  refine ⟨h.1, ?_⟩
  rcases h.2 with ⟨e, h1⟩ | ⟨g, cap, cur, e, hb, hr⟩
  · exact Or.inl ⟨e, h1⟩
  · exact Or.inr ⟨g, cap, cur, e, Nat.le_trans hl hb, hr⟩

theorem four_list {x : List Nat} (h : x.length = 4) : x = [x.getD 0 0, x.getD 1 0, x.getD 2 0, x.getD 3 0] := by
  match x, h with
  | [_, _, _, _], _ => rfl

theorem uniq_small {px : List Nat} (h : ∀ b ∈ px, b < 65536) {i k r : Nat} : ((uniq px i).getD k []).getD r 0 < 65536 := by
  by_cases hk : k < (uniq px i).length
  · have hm : (uniq px i).getD k [] ∈ uniq px i := by rw [List.getD_eq_getElem?_getD, List.getElem?_eq_getElem hk]; exact List.getElem_mem hk
    obtain ⟨j, _, e⟩ := (mem_uniq px _ i).1 hm
    rw [← e]
    refine getD_lt (fun b hb => ?_) r
    simp only [pix, List.mem_cons, List.not_mem_nil, or_false] at hb
    rcases hb with rfl | rfl | rfl | rfl <;> exact getD_lt h _
  · have e : (uniq px i).getD k [] = [] := by
      rw [List.getD_eq_getElem?_getD, List.getElem?_eq_none (by omega)]
      rfl
    rw [e]
    simp

theorem Fr.cell0 {w w' : World} {a : Addr} {v : Value} (f : Fr (fun _ => False) w w') (h : w.cell? a = some v) : w'.cell? a = some v := (cell_blk (f.block _ (cell_lt h) (fun e => e))).trans h

set_option maxHeartbeats 1000000 in
set_option maxRecDepth 100000 in
theorem list_c (W H most : Int) (g o n c m : Nat) (px : List Nat) (w : World) (hl : Lies w (some ⟨g, o, none⟩) px) (hp : px.length = n) (hnm : n = 4 * m) (hm : (m : Int) = W * H) (hmb : m ≤ 16384) (hm1 : 1 ≤ m) (hc : n ≤ c) :
    Calls Try.prog 38 #[rasV W H (some ⟨g, o, none⟩) n c, .int .i64 most] w fun e w' => Fr (fun _ => False) w w' ∧ Listed most px m w.heap.size e w' := by
  obtain ⟨w1, hw1⟩ : ∃ w1, w1 = w.alloc (.cells #[.int .i64 W, .int .i64 H, .slice (some ⟨g, o, none⟩) n c] 24) := ⟨_, rfl⟩
  have hb1 : w1.heap[w.heap.size]? = some (.cells #[.int .i64 W, .int .i64 H, .slice (some ⟨g, o, none⟩) n c] 24 (0, 0)) := by rw [hw1]; exact heap_alloc_at rfl
  have hF1 : Fr (fun _ => False) w w1 := by rw [hw1]; exact Fr.of_alloc _ _
  obtain ⟨R, hR⟩ : ∃ R, R = w.heap.size := ⟨_, rfl⟩
  rw [← hR] at hb1 ⊢
  have HR := hide hR
  have HRl : Hid (R < w1.heap.size) := lt_of hb1
  have hm2 : W * H = (m : Int) := hm.symm
  have HL := hide (hl.keep0 hF1)
  have Hb1 := hide hb1
  have HF1 := hide hF1
  have Hw1 := hide hw1
  have Hp := hide hp
  have Hnm := hide hnm
  have Hc := hide hc
  have Hm1 := hide hm1
  have Hsm := hide hl.1
  clear hl hp hnm hm hc hb1 hF1 hw1 hR hm1
  go_enter Try.func38, Try.ntmps38
  go_wp2_with fail
  rw [← Hw1.out, ← HR.out]
  go_loopw [7, 8, 9, 10, 11] (fun v7 v8 v9 _ _ wr => ∃ i : Nat, v9 = .int .i64 (i : Int) ∧ i ≤ m ∧ Hid (OwnP wr w1.heap.size v7 (uniq px i)) ∧ Hid (OwnI wr w1.heap.size v8 (places px i)) ∧ Hid (Fr (fun _ => False) w1 wr) ∧ Hid (i = 0 ∨ ((uniq px i).length : Int) ≤ most)) (fun _ _ v9 _ _ _ => m - (intOf v9).toNat)
  case atStart => exact ⟨0, rfl, Nat.zero_le _, ⟨⟨rfl, Or.inl ⟨rfl, rfl⟩⟩, fun x hx => by cases hx⟩, ⟨rfl, Or.inl ⟨rfl, rfl⟩⟩, Fr.refl _ _, Or.inl rfl⟩
  case round =>
    obtain ⟨i, rfl, hi, HP, HI, HFr, HM⟩ := hrel
    obtain ⟨a7, c7, rfl⟩ := ownsRow_shape HP.out.own
    obtain ⟨a8, c8, rfl⟩ := ownsRow_shape HI.out
    obtain ⟨L, hL⟩ : ∃ L, L = (uniq px i).length := ⟨_, rfl⟩
    rw [← hL] at HP ⊢
    rw [places_length] at HI ⊢
    have hLi : L ≤ i := by rw [hL]; exact uniq_le px i
    have HL2 := hide hL
    clear hL
    have hbr := cells_at Hb1.out HFr.out (fun e => e)
    have k0 := cell_of (o := 0) hbr rfl
    have k1 := cell_of (o := 1) hbr rfl
    by_cases hlt : i < m
    · have hii : (i : Int) < (m : Int) := by omega
      obtain ⟨wo, rfl⟩ : ∃ wo : World, wo = wr := ⟨_, rfl⟩
      obtain ⟨P, hP⟩ : ∃ P, P = wo.heap.size := ⟨_, rfl⟩
      obtain ⟨w2, hw2⟩ : ∃ w2, w2 = wo.alloc (.cells #[.int .u16 0, .int .u16 0, .int .u16 0, .int .u16 0] 36) := ⟨_, rfl⟩
      have hF2 : Fr (fun _ => False) wo w2 := by rw [hw2]; exact Fr.of_alloc _ _
      have HbP : Hid (w2.heap[P]? = some (.cells #[.int .u16 0, .int .u16 0, .int .u16 0, .int .u16 0] 36 (0, 0))) := by rw [hw2]; exact heap_alloc_at hP
      have HP1 : Hid (w1.heap.size ≤ P) := by rw [hP]; exact HFr.out.size
      have HPo : Hid (P = wo.heap.size) := hP
      have HRP : Hid (R < P) := by rw [hP]; exact Nat.lt_of_lt_of_le HRl.out HFr.out.size
      have HF2 := hide (HFr.out.join hF2)
      have HF2o := hide hF2
      have HA2 := hide (cells_at hbr hF2 (fun e => e))
      have Hw2 := hide hw2
      have HPs := hide hP
      obtain ⟨J, hJ⟩ : ∃ J, J = 4 * i := ⟨_, rfl⟩
      have e1 : 4 * (i : Int) = (J : Int) := by omega
      have hKn : J + 4 ≤ n := by have := Hnm.out; omega
      have hKc : J + 4 ≤ c := Nat.le_trans hKn Hc.out
      have hck : ¬ c = J := by omega
      have hKi : (J : Int) ≤ (n : Int) := by omega
      have r3 : IntKind.i64.wrap (J : Int) = (J : Int) := wrap_i64_id _ (by omega) (by have := Hnm.out; omega)
      have hn5 : n ≤ 65536 := by have := Hnm.out; omega
      have HJ := hide hJ
      clear hJ hF2 hw2 hP hbr
      go_upto_region 7 with fail
      rw [← Hw2.out, ← HPs.out]
      clear k0 k1
      refine wp_region_held_drew (S := fun W' => Fr (fun j => j = P) w2 W') (by kernel_rfl) (by exact (Fr.of_drewN _ 1).mono fun _ _ h => h.elim) (fun hHeld => ?_)
      refine wpAnyH_take (i := 0) (v := ?v0) rfl (by kernel_rfl) (by kernel_rfl) (by kernel_rfl) (fun _ _ _ h => h) (Or.inl ⟨by rfl, ?hy0⟩) hHeld ?rest0
      case hy0 => (intro W hSw; (try dsimp only at hSw); have hcs := cells_at HA2.out hSw (fun e => absurd e (by have := HRP.out; omega)); have k0 := cell_of (o := 0) hcs rfl; have k1 := cell_of (o := 1) hcs rfl; have k2 := cell_of (o := 2) hcs rfl; have he := add_none g o J; go_simp; all_goals (with_reducible rfl))
      change wpAnyH _ _ _ _ _ _ _ (Act.put _ (some 21) _) _
      simp only [Act.put, List.setIfInBounds_toArray, List.set_cons_zero, List.set_cons_succ]
      refine wpAnyH_take (i := 1) (v := ?v1) rfl (by kernel_rfl) (by kernel_rfl) (by kernel_rfl) (fun _ _ _ h => h) (Or.inl ⟨by rfl, ?hy1⟩) hHeld ?rest1
      case hy1 => (intro W hSw; (try dsimp only at hSw); have hcs := cells_at HA2.out hSw (fun e => absurd e (by have := HRP.out; omega)); have k0 := cell_of (o := 0) hcs rfl; have k1 := cell_of (o := 1) hcs rfl; have k2 := cell_of (o := 2) hcs rfl; have he := add_none g o J; go_simp; all_goals (with_reducible rfl))
      change wpAnyH _ _ _ _ _ _ _ (Act.put _ (some 22) _) _
      simp only [Act.put, List.setIfInBounds_toArray, List.set_cons_zero, List.set_cons_succ]
      refine wpAnyH_take (i := 3) (v := ?v3) rfl (by kernel_rfl) (by kernel_rfl) (by kernel_rfl) (fun _ _ _ h => h) (Or.inl ⟨by rfl, ?hy3⟩) hHeld ?rest3
      case hy3 => (intro W hSw; (try dsimp only at hSw); have hcs := cells_at HA2.out hSw (fun e => absurd e (by have := HRP.out; omega)); have k0 := cell_of (o := 0) hcs rfl; have k1 := cell_of (o := 1) hcs rfl; have k2 := cell_of (o := 2) hcs rfl; have he := add_none g o J; go_simp; all_goals (with_reducible rfl))
      change wpAnyH _ _ _ _ _ _ _ (Act.put _ (some 24) _) _
      simp only [Act.put, List.setIfInBounds_toArray, List.set_cons_zero, List.set_cons_succ]
      refine wpAnyH_take (i := 2) (v := ?v2) rfl (by kernel_rfl) (by kernel_rfl) (by kernel_rfl) (fun _ _ _ h => h) (Or.inl ⟨by rfl, ?hy2⟩) hHeld ?rest2
      case hy2 => (intro W hSw; (try dsimp only at hSw); have hcs := cells_at HA2.out hSw (fun e => absurd e (by have := HRP.out; omega)); have k0 := cell_of (o := 0) hcs rfl; have k1 := cell_of (o := 1) hcs rfl; have k2 := cell_of (o := 2) hcs rfl; have he := add_none g o J; go_simp; all_goals (with_reducible rfl))
      change wpAnyH _ _ _ _ _ _ _ (Act.put _ (some 23) _) _
      simp only [Act.put, List.setIfInBounds_toArray, List.set_cons_zero, List.set_cons_succ]
      refine wpAnyH_take (i := 4) (v := ?v4) rfl (by kernel_rfl) (by kernel_rfl) (by kernel_rfl) (fun _ _ _ h => h) (Or.inl ⟨by rfl, ?hy4⟩) hHeld ?rest4
      case hy4 => (intro W hSw; (try dsimp only at hSw); have hcs := cells_at HA2.out hSw (fun e => absurd e (by have := HRP.out; omega)); have k0 := cell_of (o := 0) hcs rfl; have k1 := cell_of (o := 1) hcs rfl; have k2 := cell_of (o := 2) hcs rfl; have he := add_none g o J; go_simp; all_goals (with_reducible rfl))
      change wpAnyH _ _ _ _ _ _ _ (Act.put _ (some 25) _) _
      simp only [Act.put, List.setIfInBounds_toArray, List.set_cons_zero, List.set_cons_succ]
      refine wpAnyH_take (i := 5) (v := ?v5) rfl (by kernel_rfl) (by kernel_rfl) (by kernel_rfl) (fun _ _ _ h => h) (Or.inl ⟨by rfl, ?hy5⟩) hHeld ?rest5
      case hy5 => (intro W hSw; (try dsimp only at hSw); have hcs := cells_at HA2.out hSw (fun e => absurd e (by have := HRP.out; omega)); have k0 := cell_of (o := 0) hcs rfl; have k1 := cell_of (o := 1) hcs rfl; have k2 := cell_of (o := 2) hcs rfl; have he := add_none g o J; go_simp; all_goals (with_reducible rfl))
      change wpAnyH _ _ _ _ _ _ _ (Act.put _ (some 26) _) _
      simp only [Act.put, List.setIfInBounds_toArray, List.set_cons_zero, List.set_cons_succ]
      refine wpAnyH_ready (rs := [6]) (by kernel_rfl) (by simp) ?_
      refine AllReadyH.cons rfl (fun K hK => ?_) AllReadyH.nil
      try simp only [List.getElem_toArray, List.getElem_cons_succ, List.getElem_cons_zero]
      rw [if_pos (by rfl)]
      have hcb : w2.drew.heap[P]? = some (.cells #[.int .u16 0, .int .u16 0, .int .u16 0, .int .u16 0] 36 (0, 0)) := HbP.out
      refine wp_copy_own _ _ 22 22 rfl 29 Try.underlying22 (by kernel_rfl) P 0 4 4 ⟨g, o + J, none⟩ (n - J) (c - J) rfl rfl _ 36 hcb (pixL px J) ?hmin (pixL_cell (HL.out.keep0 (HF2.out.join (Fr.of_drewN w2 1))) (by have := Hp.out; omega)) (by simp [pixL]) (pixL_one px J) ?_
      case hmin => (show 4 = min (n - J) 4; omega)
      refine hK.out _ _ ((Fr.drew1 _ w2).join (setRow_fr _ _ _)) (fun hHeld => ?_)
      clear hK K
      refine wpAnyH_done (by kernel_rfl) ?_ _
      have hr3 := setRow_heap w2.drew P _ (pixL px J).toArray 36 _ HbP.out
      have hf3 := setRow_fr w2.drew P (pixL px J).toArray
      have hw3 : ∀ (L M : List Value), L = M → w2.drew.setRow P L.toArray = w2.drew.setRow P M.toArray := fun L M e => by rw [e]
      rw [hw3 _ (pixL px J) (by simp [pixL])]
      generalize w2.drew.setRow P (pixL px J).toArray = w3 at hr3 hf3 ⊢
      obtain ⟨p0, hp0⟩ : ∃ s, s = px.getD J 0 := ⟨_, rfl⟩
      obtain ⟨p1, hp1⟩ : ∃ s, s = px.getD (J + 1) 0 := ⟨_, rfl⟩
      obtain ⟨p2, hp2⟩ : ∃ s, s = px.getD (J + 2) 0 := ⟨_, rfl⟩
      obtain ⟨p3, hp3⟩ : ∃ s, s = px.getD (J + 3) 0 := ⟨_, rfl⟩
      rw [show (pixL px J).toArray = pxV p0 p1 p2 p3 by rw [hp0, hp1, hp2, hp3]; rfl] at hr3
      have HPX : Hid (pix px i = [p0, p1, p2, p3]) := by show _ = _; rw [hp0, hp1, hp2, hp3, HJ.out]; rfl
      have HPS : Hid (∀ x ∈ [p0, p1, p2, p3], x < 65536) := by
        show ∀ x ∈ _, _
        rw [hp0, hp1, hp2, hp3]
        intro x hx
        simp only [List.mem_cons, List.not_mem_nil, or_false] at hx
        rcases hx with rfl | rfl | rfl | rfl <;> exact getD_lt Hsm.out _
      have hfo : Fr (fun j => j = P) wo w3 := ((HF2o.out.mono fun _ _ h => h.elim).join ((Fr.of_drewN w2 1).mono fun _ _ h => h.elim)).join hf3
      have HP3 := hide (HP.out.keep hfo fun k hk e => by
        obtain ⟨_, cur, hc⟩ := HP.out.block hk
        have h1 := lt_of hc
        have h2 := HPo.out
        have e2 : k = P := e
        omega)
      have HI3 := hide (HI.out.keep hfo fun k hk e => by
        obtain ⟨_, cur, hc⟩ := HI.out.block hk
        have h1 := lt_of hc
        have h2 := HPo.out
        have e2 : k = P := e
        omega)
      have HF3 := hide (frJ HFr.out hfo fun j hj => by have e : j = P := hj; rw [e]; exact HP1.out)
      have HC3 := hide hr3
      clear hp0 hp1 hp2 hp3 hr3 hf3 hw3 hfo hHeld r3 e1 hck hKi hKn hKc
      go_wp2_with fail
      go_loopw [11] (fun v11 wr => ∃ k : Nat, v11 = .int .i64 (k : Int) ∧ k ≤ L ∧ Hid (∀ j, j < k → (uniq px i).getD j [] ≠ pix px i) ∧ Hid (Fr (fun _ => False) w3 wr)) (fun v11 _ => L - (intOf v11).toNat)
      case atStart => exact ⟨0, rfl, Nat.zero_le _, fun j hj => absurd hj (Nat.not_lt_zero _), Fr.refl _ _⟩
      case round =>
        obtain ⟨k, rfl, hk, HB, HFw⟩ := hrel
        have HPw := hide (HP3.out.keep HFw.out fun _ _ h => h)
        have HIw := hide (HI3.out.keep HFw.out fun _ _ h => h)
        have hcw := cells_at HC3.out HFw.out (fun e => e)
        have c0 := cell_of (o := 0) hcw rfl
        have c1 := cell_of (o := 1) hcw rfl
        have c2 := cell_of (o := 2) hcw rfl
        have c3 := cell_of (o := 3) hcw rfl
        clear hcw
        by_cases hkL : k < L
        · have hki : (k : Int) < (L : Int) := by omega
          obtain ⟨hf1, hf2, gl, rfl⟩ := HPw.out.form (by rw [← HL2.out]; omega)
          clear hf1 hf2
          obtain ⟨a0, ha0⟩ : ∃ s, s = ((uniq px i).getD k []).getD 0 0 := ⟨_, rfl⟩
          obtain ⟨a1, ha1⟩ : ∃ s, s = ((uniq px i).getD k []).getD 1 0 := ⟨_, rfl⟩
          obtain ⟨a2, ha2⟩ : ∃ s, s = ((uniq px i).getD k []).getD 2 0 := ⟨_, rfl⟩
          obtain ⟨a3, ha3⟩ : ∃ s, s = ((uniq px i).getD k []).getD 3 0 := ⟨_, rfl⟩
          obtain ⟨k4, hk4⟩ : ∃ k4, k4 = k * 4 := ⟨_, rfl⟩
          have hkU : k < (uniq px i).length := by rw [← HL2.out]; exact hkL
          have d0 := HPw.out.cell (r := 0) hkU (by decide)
          have d1 := HPw.out.cell (r := 1) hkU (by decide)
          have d2 := HPw.out.cell (r := 2) hkU (by decide)
          have d3 := HPw.out.cell (r := 3) hkU (by decide)
          rw [← ha0, Nat.add_zero, Nat.mul_comm] at d0
          rw [← ha1, Nat.mul_comm] at d1
          rw [← ha2, Nat.mul_comm] at d2
          rw [← ha3, Nat.mul_comm] at d3
          go_upto_region 9 with fail
          have HZs : Hid (∀ x ∈ [a0, a1, a2, a3], x < 65536) := by
            show ∀ x ∈ _, _
            rw [ha0, ha1, ha2, ha3]
            intro x hx
            simp only [List.mem_cons, List.not_mem_nil, or_false] at hx
            rcases hx with rfl | rfl | rfl | rfl <;> exact uniq_small Hsm.out
          have HU : Hid ((uniq px i).getD k [] = [a0, a1, a2, a3]) := by
            show _ = _
            rw [ha0, ha1, ha2, ha3]
            exact four_list (uniq_four px i _ (by rw [List.getD_eq_getElem?_getD, List.getElem?_eq_getElem hkU]; exact List.getElem_mem hkU))
          obtain ⟨Z, hZ⟩ : ∃ Z, Z = decide ([a0, a1, a2, a3] = [p0, p1, p2, p3]) := ⟨_, rfl⟩
          have hE : ∀ w : World, (Op.equalIn 10000 36 (.agg #[.int .u16 (a0 : Int), .int .u16 (a1 : Int), .int .u16 (a2 : Int), .int .u16 (a3 : Int)]) (.agg #[.int .u16 (p0 : Int), .int .u16 (p1 : Int), .int .u16 (p2 : Int), .int .u16 (p3 : Int)])).run Try.prog w = .ok Z w := fun w => by rw [hZ]; exact eq_four a0 a1 a2 a3 p0 p1 p2 p3 HZs.out HPS.out w
          have HZ : Hid (Z = decide ((uniq px i).getD k [] = pix px i)) := by show _ = _; rw [hZ, HU.out, HPX.out]
          have HkU := hide hkU
          clear ha0 ha1 ha2 ha3 hZ hk4 hkU
          refine wp_region_held_drew (S := fun W' => Fr (fun _ => False) wr W') (by kernel_rfl) (by exact Fr.drew1 _ wr) (fun hHeld => ?_)
          refine wpAnyH_take (i := 0) (v := ?v0i) rfl (by kernel_rfl) (by kernel_rfl) (by kernel_rfl) (fun _ _ _ h => h) (Or.inl ⟨by rfl, ?hy0i⟩) hHeld ?rest0i
          case hy0i => (intro W hSw; (try dsimp only at hSw); have x0 := hSw.cell0 d0; have x1 := hSw.cell0 d1; have x2 := hSw.cell0 d2; have x3 := hSw.cell0 d3; have y0 := hSw.cell0 c0; have y1 := hSw.cell0 c1; have y2 := hSw.cell0 c2; have y3 := hSw.cell0 c3; go_simp; all_goals (with_reducible rfl))
          change wpAnyH _ _ _ _ _ _ _ (Act.put _ (some 28) _) _
          simp only [Act.put, List.setIfInBounds_toArray, List.set_cons_zero, List.set_cons_succ]
          refine wpAnyH_take (i := 1) (v := ?v1i) rfl (by kernel_rfl) (by kernel_rfl) (by kernel_rfl) (fun _ _ _ h => h) (Or.inl ⟨by rfl, ?hy1i⟩) hHeld ?rest1i
          case hy1i => (intro W hSw; (try dsimp only at hSw); have x0 := hSw.cell0 d0; have x1 := hSw.cell0 d1; have x2 := hSw.cell0 d2; have x3 := hSw.cell0 d3; have y0 := hSw.cell0 c0; have y1 := hSw.cell0 c1; have y2 := hSw.cell0 c2; have y3 := hSw.cell0 c3; go_simp; all_goals (with_reducible rfl))
          change wpAnyH _ _ _ _ _ _ _ (Act.put _ (some 29) _) _
          simp only [Act.put, List.setIfInBounds_toArray, List.set_cons_zero, List.set_cons_succ]
          refine wpAnyH_take (i := 2) (v := ?v2i) rfl (by kernel_rfl) (by kernel_rfl) (by kernel_rfl) (fun _ _ _ h => h) (Or.inl ⟨by rfl, ?hy2i⟩) hHeld ?rest2i
          case hy2i => (intro W hSw; (try dsimp only at hSw); have x0 := hSw.cell0 d0; have x1 := hSw.cell0 d1; have x2 := hSw.cell0 d2; have x3 := hSw.cell0 d3; have y0 := hSw.cell0 c0; have y1 := hSw.cell0 c1; have y2 := hSw.cell0 c2; have y3 := hSw.cell0 c3; go_simp; all_goals (with_reducible rfl))
          change wpAnyH _ _ _ _ _ _ _ (Act.put _ (some 30) _) _
          simp only [Act.put, List.setIfInBounds_toArray, List.set_cons_zero, List.set_cons_succ]
          refine wpAnyH_take (i := 3) (v := ?v3i) rfl (by kernel_rfl) (by kernel_rfl) (by kernel_rfl) (fun _ _ _ h => h) (Or.inl ⟨by rfl, ?hy3i⟩) hHeld ?rest3i
          case hy3i => (intro W hSw; (try dsimp only at hSw); have x0 := hSw.cell0 d0; have x1 := hSw.cell0 d1; have x2 := hSw.cell0 d2; have x3 := hSw.cell0 d3; have y0 := hSw.cell0 c0; have y1 := hSw.cell0 c1; have y2 := hSw.cell0 c2; have y3 := hSw.cell0 c3; go_simp; all_goals (with_reducible rfl))
          change wpAnyH _ _ _ _ _ _ _ (Act.put _ (some 31) _) _
          simp only [Act.put, List.setIfInBounds_toArray, List.set_cons_zero, List.set_cons_succ]
          refine wpAnyH_take (i := 4) (v := ?v4i) rfl (by kernel_rfl) (by kernel_rfl) (by kernel_rfl) (fun _ _ _ h => h) (Or.inl ⟨by rfl, ?hy4i⟩) hHeld ?rest4i
          case hy4i => (intro W hSw; (try dsimp only at hSw); have x0 := hSw.cell0 d0; have x1 := hSw.cell0 d1; have x2 := hSw.cell0 d2; have x3 := hSw.cell0 d3; have y0 := hSw.cell0 c0; have y1 := hSw.cell0 c1; have y2 := hSw.cell0 c2; have y3 := hSw.cell0 c3; go_simp; all_goals (with_reducible rfl))
          change wpAnyH _ _ _ _ _ _ _ (Act.put _ (some 32) _) _
          simp only [Act.put, List.setIfInBounds_toArray, List.set_cons_zero, List.set_cons_succ]
          refine wpAnyH_take (i := 5) (v := ?v5i) rfl (by kernel_rfl) (by kernel_rfl) (by kernel_rfl) (fun _ _ _ h => h) (Or.inl ⟨by rfl, ?hy5i⟩) hHeld ?rest5i
          case hy5i => (intro W hSw; (try dsimp only at hSw); have x0 := hSw.cell0 d0; have x1 := hSw.cell0 d1; have x2 := hSw.cell0 d2; have x3 := hSw.cell0 d3; have y0 := hSw.cell0 c0; have y1 := hSw.cell0 c1; have y2 := hSw.cell0 c2; have y3 := hSw.cell0 c3; go_simp; all_goals (with_reducible rfl))
          change wpAnyH _ _ _ _ _ _ _ (Act.put _ (some 33) _) _
          simp only [Act.put, List.setIfInBounds_toArray, List.set_cons_zero, List.set_cons_succ]
          refine wpAnyH_take (i := 6) (v := ?v6i) rfl (by kernel_rfl) (by kernel_rfl) (by kernel_rfl) (fun _ _ _ h => h) (Or.inl ⟨by rfl, ?hy6i⟩) hHeld ?rest6i
          case hy6i => (intro W hSw; (try dsimp only at hSw); have x0 := hSw.cell0 d0; have x1 := hSw.cell0 d1; have x2 := hSw.cell0 d2; have x3 := hSw.cell0 d3; have y0 := hSw.cell0 c0; have y1 := hSw.cell0 c1; have y2 := hSw.cell0 c2; have y3 := hSw.cell0 c3; go_simp; all_goals (with_reducible rfl))
          change wpAnyH _ _ _ _ _ _ _ (Act.put _ (some 34) _) _
          simp only [Act.put, List.setIfInBounds_toArray, List.set_cons_zero, List.set_cons_succ]
          refine wpAnyH_take (i := 9) (v := ?v9i) rfl (by kernel_rfl) (by kernel_rfl) (by kernel_rfl) (fun _ _ _ h => h) (Or.inl ⟨by rfl, ?hy9i⟩) hHeld ?rest9i
          case hy9i => (intro W hSw; (try dsimp only at hSw); have x0 := hSw.cell0 d0; have x1 := hSw.cell0 d1; have x2 := hSw.cell0 d2; have x3 := hSw.cell0 d3; have y0 := hSw.cell0 c0; have y1 := hSw.cell0 c1; have y2 := hSw.cell0 c2; have y3 := hSw.cell0 c3; go_simp; all_goals (with_reducible rfl))
          change wpAnyH _ _ _ _ _ _ _ (Act.put _ (some 37) _) _
          simp only [Act.put, List.setIfInBounds_toArray, List.set_cons_zero, List.set_cons_succ]
          refine wpAnyH_take (i := 7) (v := ?v7i) rfl (by kernel_rfl) (by kernel_rfl) (by kernel_rfl) (fun _ _ _ h => h) (Or.inl ⟨by rfl, ?hy7i⟩) hHeld ?rest7i
          case hy7i => (intro W hSw; (try dsimp only at hSw); have x0 := hSw.cell0 d0; have x1 := hSw.cell0 d1; have x2 := hSw.cell0 d2; have x3 := hSw.cell0 d3; have y0 := hSw.cell0 c0; have y1 := hSw.cell0 c1; have y2 := hSw.cell0 c2; have y3 := hSw.cell0 c3; go_simp; all_goals (with_reducible rfl))
          change wpAnyH _ _ _ _ _ _ _ (Act.put _ (some 35) _) _
          simp only [Act.put, List.setIfInBounds_toArray, List.set_cons_zero, List.set_cons_succ]
          refine wpAnyH_take (i := 8) (v := ?v8i) rfl (by kernel_rfl) (by kernel_rfl) (by kernel_rfl) (fun _ _ _ h => h) (Or.inl ⟨by rfl, ?hy8i⟩) hHeld ?rest8i
          case hy8i => (intro W hSw; (try dsimp only at hSw); have x0 := hSw.cell0 d0; have x1 := hSw.cell0 d1; have x2 := hSw.cell0 d2; have x3 := hSw.cell0 d3; have y0 := hSw.cell0 c0; have y1 := hSw.cell0 c1; have y2 := hSw.cell0 c2; have y3 := hSw.cell0 c3; go_simp; all_goals (with_reducible rfl))
          change wpAnyH _ _ _ _ _ _ _ (Act.put _ (some 36) _) _
          simp only [Act.put, List.setIfInBounds_toArray, List.set_cons_zero, List.set_cons_succ]
          refine wpAnyH_take (i := 10) (v := ?v10i) rfl (by kernel_rfl) (by kernel_rfl) (by kernel_rfl) (fun _ _ _ h => h) (Or.inl ⟨by rfl, ?hy10i⟩) hHeld ?rest10i
          case hy10i => (intro W hSw; (try dsimp only at hSw); have x0 := hSw.cell0 d0; have x1 := hSw.cell0 d1; have x2 := hSw.cell0 d2; have x3 := hSw.cell0 d3; have y0 := hSw.cell0 c0; have y1 := hSw.cell0 c1; have y2 := hSw.cell0 c2; have y3 := hSw.cell0 c3; go_simp; all_goals (with_reducible rfl))
          change wpAnyH _ _ _ _ _ _ _ (Act.put _ (some 38) _) _
          simp only [Act.put, List.setIfInBounds_toArray, List.set_cons_zero, List.set_cons_succ]
          refine wpAnyH_take (i := 11) (v := ?v11i) rfl (by kernel_rfl) (by kernel_rfl) (by kernel_rfl) (fun _ _ _ h => h) (Or.inl ⟨by rfl, ?hy11i⟩) hHeld ?rest11i
          case hy11i => (intro W hSw; (try dsimp only at hSw); have x0 := hSw.cell0 d0; have x1 := hSw.cell0 d1; have x2 := hSw.cell0 d2; have x3 := hSw.cell0 d3; have y0 := hSw.cell0 c0; have y1 := hSw.cell0 c1; have y2 := hSw.cell0 c2; have y3 := hSw.cell0 c3; go_simp; all_goals (with_reducible rfl))
          change wpAnyH _ _ _ _ _ _ _ (Act.put _ (some 39) _) _
          simp only [Act.put, List.setIfInBounds_toArray, List.set_cons_zero, List.set_cons_succ]
          refine wpAnyH_done (by kernel_rfl) ?_ _
          cases Z with
          | false =>
            have HB2 : Hid (∀ j, j < k + 1 → (uniq px i).getD j [] ≠ pix px i) := fun j hj => by
              by_cases e : j = k
              · rw [e]; exact of_decide_eq_false HZ.out.symm
              · exact HB.out j (by omega)
            go_wp2_with fail
            exact ⟨⟨k + 1, by go_num, by omega, HB2.out, HFw.out.join hHeld⟩, by simp [intOf]; omega⟩
          | true =>
            have HPw4 := hide (HPw.out.keep hHeld fun _ _ h => h)
            have HIw4 := hide (HIw.out.keep hHeld fun _ _ h => h)
            have HF4 := hide (HF3.out.join (HFw.out.join hHeld))
            have HE := hide (uniq_at HkU.out (of_decide_eq_true HZ.out.symm) HB.out)
            have hne : ¬ k = L := by omega
            have hLp : 1 ≤ L := by omega
            clear d0 d1 d2 d3 c0 c1 c2 c3 hHeld hE hki
            generalize wr.drew = w4 at HPw4 HIw4 HF4 ⊢
            go_wp2_with (refine wpList_plain rfl fun _ hK => ?_
                         refine wp_appI (.tmp 54) (.tmp 56) rfl w1.heap.size _ (places px i) rfl (OwnI.keep HIw4.out (Fr.of_alloc _ _) fun _ _ h => h) ⟨_, 0, none⟩ 1 k rfl (cell_of (o := 0) (heap_alloc_at rfl) rfl) rfl (by rw [places_length]; omega) (by have := HF4.out.size; simp; omega) ?_
                         intro a' c' w6 hO6 hF6
                         refine hK _ _ ?_
                         clear hK)
            have HP5 := HPw4.out.keep (Fr.of_alloc w4 (.cells #[.int .i64 (k : Int)] 3)) (fun _ _ h => h)
            have HI5 := HIw4.out.keep (Fr.of_alloc w4 (.cells #[.int .i64 (k : Int)] 3)) (fun _ _ h => h)
            have HP6 : OwnP w6 w1.heap.size (.slice (some ⟨gl, 0, none⟩) L c7) (uniq px (i + 1)) := by
              rw [HE.out.1]
              exact HP5.keep hF6 fun j hj hS => own_apart HP5 HI5 hj hS
            have HM6 : i + 1 = 0 ∨ ((uniq px (i + 1)).length : Int) ≤ most := by
              rw [HE.out.1]
              rcases HM.out with h | h
              · omega
              · exact Or.inr h
            exact ⟨⟨i + 1, by go_num, by omega, HP6, by rw [HE.out.2]; exact hO6, frJ (HF4.out.join (Fr.of_alloc _ _)) hF6 fun j hj => (HI5.block hj).1, HM6⟩, by simp [intOf]; omega⟩
        · have hke : k = L := by omega
          have hki : ¬ (k : Int) < (L : Int) := by omega
          go_upto_region 9 with fail
          refine wp_region_held_drew (S := fun W' => Fr (fun _ => False) wr W') (by kernel_rfl) (by exact Fr.drew1 _ wr) (fun hHeld => ?_)
          refine wpAnyH_take (i := 0) (v := ?v0j) rfl (by kernel_rfl) (by kernel_rfl) (by kernel_rfl) (fun _ _ _ h => h) (Or.inl ⟨by rfl, ?hy0j⟩) hHeld ?rest0j
          case hy0j => (intro W hSw; (try dsimp only at hSw); go_simp; all_goals (with_reducible rfl))
          change wpAnyH _ _ _ _ _ _ _ (Act.put _ (some 28) _) _
          simp only [Act.put, List.setIfInBounds_toArray, List.set_cons_zero, List.set_cons_succ]
          refine wpAnyH_take (i := 1) (v := ?v1j) rfl (by kernel_rfl) (by kernel_rfl) (by kernel_rfl) (fun _ _ _ h => h) (Or.inl ⟨by rfl, ?hy1j⟩) hHeld ?rest1j
          case hy1j => (intro W hSw; (try dsimp only at hSw); go_simp; all_goals (with_reducible rfl))
          change wpAnyH _ _ _ _ _ _ _ (Act.put _ (some 29) _) _
          simp only [Act.put, List.setIfInBounds_toArray, List.set_cons_zero, List.set_cons_succ]
          refine wpAnyH_take (i := 2) (v := ?v2j) rfl (by kernel_rfl) (by kernel_rfl) (by kernel_rfl) (fun _ _ _ h => h) (Or.inl ⟨by rfl, ?hy2j⟩) hHeld ?rest2j
          case hy2j => (intro W hSw; (try dsimp only at hSw); go_simp; all_goals (with_reducible rfl))
          change wpAnyH _ _ _ _ _ _ _ (Act.put _ (some 30) _) _
          simp only [Act.put, List.setIfInBounds_toArray, List.set_cons_zero, List.set_cons_succ]
          refine wpAnyH_take (i := 3) (v := ?v3j) rfl (by kernel_rfl) (by kernel_rfl) (by kernel_rfl) (fun _ _ _ h => h) (Or.inl ⟨by rfl, ?hy3j⟩) hHeld ?rest3j
          case hy3j => (intro W hSw; (try dsimp only at hSw); go_simp; all_goals (with_reducible rfl))
          change wpAnyH _ _ _ _ _ _ _ (Act.put _ (some 31) _) _
          simp only [Act.put, List.setIfInBounds_toArray, List.set_cons_zero, List.set_cons_succ]
          refine wpAnyH_take (i := 4) (v := ?v4j) rfl (by kernel_rfl) (by kernel_rfl) (by kernel_rfl) (fun _ _ _ h => h) (Or.inl ⟨by rfl, ?hy4j⟩) hHeld ?rest4j
          case hy4j => (intro W hSw; (try dsimp only at hSw); go_simp; all_goals (with_reducible rfl))
          change wpAnyH _ _ _ _ _ _ _ (Act.put _ (some 32) _) _
          simp only [Act.put, List.setIfInBounds_toArray, List.set_cons_zero, List.set_cons_succ]
          refine wpAnyH_take (i := 5) (v := undef) rfl (by kernel_rfl) (by kernel_rfl) (by kernel_rfl) (fun _ _ _ h => h) (Or.inr ⟨by rfl, rfl⟩) hHeld ?rest5j
          change wpAnyH _ _ _ _ _ _ _ (Act.put _ (some 33) _) _
          simp only [Act.put, List.setIfInBounds_toArray, List.set_cons_zero, List.set_cons_succ]
          refine wpAnyH_take (i := 6) (v := undef) rfl (by kernel_rfl) (by kernel_rfl) (by kernel_rfl) (fun _ _ _ h => h) (Or.inr ⟨by rfl, rfl⟩) hHeld ?rest6j
          change wpAnyH _ _ _ _ _ _ _ (Act.put _ (some 34) _) _
          simp only [Act.put, List.setIfInBounds_toArray, List.set_cons_zero, List.set_cons_succ]
          refine wpAnyH_take (i := 9) (v := undef) rfl (by kernel_rfl) (by kernel_rfl) (by kernel_rfl) (fun _ _ _ h => h) (Or.inr ⟨by rfl, rfl⟩) hHeld ?rest9j
          change wpAnyH _ _ _ _ _ _ _ (Act.put _ (some 37) _) _
          simp only [Act.put, List.setIfInBounds_toArray, List.set_cons_zero, List.set_cons_succ]
          refine wpAnyH_take (i := 7) (v := undef) rfl (by kernel_rfl) (by kernel_rfl) (by kernel_rfl) (fun _ _ _ h => h) (Or.inr ⟨by rfl, rfl⟩) hHeld ?rest7j
          change wpAnyH _ _ _ _ _ _ _ (Act.put _ (some 35) _) _
          simp only [Act.put, List.setIfInBounds_toArray, List.set_cons_zero, List.set_cons_succ]
          refine wpAnyH_take (i := 8) (v := undef) rfl (by kernel_rfl) (by kernel_rfl) (by kernel_rfl) (fun _ _ _ h => h) (Or.inr ⟨by rfl, rfl⟩) hHeld ?rest8j
          change wpAnyH _ _ _ _ _ _ _ (Act.put _ (some 36) _) _
          simp only [Act.put, List.setIfInBounds_toArray, List.set_cons_zero, List.set_cons_succ]
          refine wpAnyH_take (i := 10) (v := undef) rfl (by kernel_rfl) (by kernel_rfl) (by kernel_rfl) (fun _ _ _ h => h) (Or.inr ⟨by rfl, rfl⟩) hHeld ?rest10j
          change wpAnyH _ _ _ _ _ _ _ (Act.put _ (some 38) _) _
          simp only [Act.put, List.setIfInBounds_toArray, List.set_cons_zero, List.set_cons_succ]
          refine wpAnyH_take (i := 11) (v := ?v11j) rfl (by kernel_rfl) (by kernel_rfl) (by kernel_rfl) (fun _ _ _ h => h) (Or.inl ⟨by rfl, ?hy11j⟩) hHeld ?rest11j
          case hy11j => (intro W hSw; (try dsimp only at hSw); go_simp; all_goals (with_reducible rfl))
          change wpAnyH _ _ _ _ _ _ _ (Act.put _ (some 39) _) _
          simp only [Act.put, List.setIfInBounds_toArray, List.set_cons_zero, List.set_cons_succ]
          refine wpAnyH_done (by kernel_rfl) ?_ _
          have HPw4 := hide (HPw.out.keep hHeld fun _ _ h => h)
          have HIw4 := hide (HIw.out.keep hHeld fun _ _ h => h)
          have HF4 := hide (HF3.out.join (HFw.out.join hHeld))
          have HE := hide (uniq_new (px := px) (i := i) (fun j hj => HB.out j (by rw [hke, HL2.out]; exact hj)))
          have c0 := hHeld.cell0 c0
          have c1 := hHeld.cell0 c1
          have c2 := hHeld.cell0 c2
          have c3 := hHeld.cell0 c3
          have HlenE : Hid ((uniq px (i + 1)).length = L + 1) := by show _ = _; rw [HE.out.1, List.length_append, ← HL2.out]; rfl
          clear hHeld hki
          generalize wr.drew = w4 at HPw4 HIw4 HF4 c0 c1 c2 c3 ⊢
          by_cases hmo : most ≤ (L : Int)
          · go_wp2_with fail
            refine bodyPost_ret (results_ttt (a := 4) (b := 5) (c := 6) Try.results38 rfl rfl rfl) rfl ⟨HF1.out.join HF4.out, Or.inl ⟨?_, rfl⟩⟩
            have h1 := uniq_mono px (i + 1) (m - (i + 1))
            rw [show i + 1 + (m - (i + 1)) = m by omega] at h1
            have h2 := HlenE.out
            omega
          · go_upto_region 15 with (refine wpList_plain rfl fun _ hK => ?_
                                    refine wp_appP (.tmp 50) (.tmp 52) rfl w1.heap.size _ (uniq px i) rfl (OwnP.keep HPw4.out (Fr.of_alloc _ _) fun _ _ h => h) ⟨_, 0, none⟩ 1 [p0, p1, p2, p3] rfl rfl (fun j u hj => by rw [add_none, Nat.zero_add]; exact cell_of (heap_alloc_at rfl) (by rw [← Array.getElem?_toList]; exact hj)) (by rw [← HL2.out]; omega) (by have := HF4.out.size; simp; omega) ?_
                                    intro a6 c6 w6 hO6 hF6
                                    refine hK _ _ ?_
                                    clear hK)
            have hF5 := Fr.of_alloc w4 (.cells #[.agg (pxV p0 p1 p2 p3)] 36)
            have HF6 := hide (frJ (HF4.out.join (Fr.of_alloc _ _)) hF6 fun j hj => (HPw4.out.block hj).1)
            have HI6 := hide ((HIw4.out.keep (Fr.of_alloc _ _) (fun _ _ h => h)).keep hF6 fun j hj hS => own_apart HPw4.out HIw4.out hS hj)
            have HO6 : Hid (OwnP w6 w1.heap.size (.slice a6 ((uniq px i).length + 1) c6) (uniq px (i + 1))) := by show OwnP _ _ _ _; rw [HE.out.1, HPX.out]; exact hO6
            clear hF6 hO6 c0 c1 c2 c3 hF5
            go_wp2_with (refine wpList_plain rfl fun _ hK => ?_
                         refine wp_appI (.tmp 54) (.tmp 56) rfl w1.heap.size _ (places px i) rfl (OwnI.keep HI6.out (Fr.of_alloc _ _) fun _ _ h => h) ⟨_, 0, none⟩ 1 L rfl (cell_of (o := 0) (heap_alloc_at rfl) rfl) rfl (by rw [places_length]; omega) (by have := HF6.out.size; simp; omega) ?_
                         intro a' c' w8 hO8 hF8
                         refine hK _ _ ?_
                         clear hK)
            have HP7 := HO6.out.keep (Fr.of_alloc w6 (.cells #[.int .i64 (L : Int)] 3)) (fun _ _ h => h)
            have HI7 := HI6.out.keep (Fr.of_alloc w6 (.cells #[.int .i64 (L : Int)] 3)) (fun _ _ h => h)
            have HP8 := HP7.keep hF8 fun j hj hS => own_apart HP7 HI7 hj hS
            exact ⟨⟨i + 1, by go_num, by omega, HP8, by rw [HE.out.2, ← HL2.out]; exact hO8, frJ (HF6.out.join (Fr.of_alloc _ _)) hF8 fun j hj => (HI7.block hj).1, Or.inr (by rw [HlenE.out]; omega)⟩, by simp [intOf]; omega⟩
    · have hii : ¬ (i : Int) < (m : Int) := by omega
      have e : i = m := by omega
      go_wp2_with fail
      have hbase : R ≤ w1.heap.size := Nat.le_of_lt HRl.out
      refine bodyPost_ret (results_ttt (a := 4) (b := 5) (c := 6) Try.results38 rfl rfl rfl) rfl ⟨HF1.out.join HFr.out, Or.inr ⟨?_, _, _, rfl, ?_, ?_⟩⟩
      · rcases HM.out with h | h
        · have := Hm1.out
          omega
        · rw [← e]
          exact h
      · rw [← e]
        exact HP.out.low hbase
      · rw [← e]
        exact HI.out.low hbase
end Go.Proofs.Ythdilabmajaehaa
