/-
  The contract of huff.Lengths.
-/
import Derived.Test.YtlkidddbndkfiaaPf
namespace Go.Proofs.Ytlkidddbndkfiaa
open Go.RowKit
open Go.Sort (swp PermIn SortedIn SWO swp_get swp_size swp_permIn permIn_refl permIn_trans permIn_mono permIn_all Ins)

theorem lengths_most (a : Option Addr) (c : Nat) (fq : List Int) (m : Int) (w : World) (hm : m < 1 ∨ 15 < m) (Q : Ending → World → Prop) (hQ : Q (.returned (.tuple #[.slice none 0 0, .bool false])) w) :
    Calls Try.prog 24 #[.slice a fq.length c, .int .i64 m] w Q := by
  have HQ := hide hQ
  clear hQ
  rcases hm with hm | hm
  · go_enter Try.func24, Try.ntmps24
    go_wp2
    exact HQ.out
  · have h1 : ¬ m < 1 := by omega
    go_enter Try.func24, Try.ntmps24
    go_wp2
    exact HQ.out

theorem lengths_bad (a : Option Addr) (c : Nat) (fq : List Int) (m : Int) (w : World) (h1 : 1 ≤ m) (h2 : m ≤ 15) (hl : LiesI w a fq) (hlen : (fq.length : Int) ≤ 9223372036854775807) (hg : ¬ goodF fq) (Q : Ending → World → Prop) (hQ : Q (.returned (.tuple #[.slice none 0 0, .bool false])) w) :
    Calls Try.prog 24 #[.slice a fq.length c, .int .i64 m] w Q := by
  have HQ := hide hQ
  clear hQ
  have C := hide (mayFreq_no a c fq w hl hlen hg)
  clear hl hg
  have h3 : ¬ m < 1 := by omega
  have h4 : ¬ 15 < m := by omega
  go_enter Try.func24, Try.ntmps24
  go_wp2_with fail
  refine C.out.mono ?_
  rintro e w2 ⟨rfl, rfl⟩
  go_wp2
  exact HQ.out

theorem outM_new (w : World) (zs : Array Value) (n : Nat) (h1 : zs.size = n) (h2 : ∀ i, i < n → zs[i]? = some (.int .i64 0)) : OutM (w.alloc (.cells zs 3)) w.heap.size (zeros n) := by
  refine ⟨zs, heap_alloc_at rfl, by simp [zeros, h1], fun k hk => ?_⟩
  rw [at0_zeros]
  exact h2 k (by simpa [zeros] using hk)

set_option maxHeartbeats 3200000 in
set_option maxRecDepth 100000 in
theorem lengths_good (a : Option Addr) (c : Nat) (fq : List Int) (L : Nat) (w : World) (h1 : 1 ≤ L) (h2 : L ≤ 15) (hl : LiesI w a fq) (hg : goodF fq) (Q : Ending → World → Prop)
    (q0 : 2 ^ L < (posL fq fq.length).length → ∀ w', Fr (fun _ => False) w w' → Q (.returned (.tuple #[.slice none 0 0, .bool false])) w')
    (q1 : (posL fq fq.length).length ≤ 2 ^ L → ∀ g o w', OutM w' g o → LenOk fq L o → w.heap.size ≤ g → Fr (fun _ => False) w w' → Q (.returned (.tuple #[.slice (some ⟨g, 0, none⟩) fq.length fq.length, .bool true])) w') :
    Calls Try.prog 24 #[.slice a fq.length c, .int .i64 (L : Int)] w Q := by
  have h320 := hg.1
  have CG := hide (mayFreq_ok a c fq w hl hg)
  have Hl := hide hl
  have Hg := hide hg
  have Q0 := hide q0
  have Q1 := hide q1
  clear hl hg q0 q1
  obtain ⟨zs, hmk, hzs, hz0⟩ := makeInts fq.length (by omega)
  have Hzs := hide hzs
  have Hz0 := hide hz0
  clear hzs hz0
  obtain ⟨P2, hP2⟩ : ∃ P2, P2 = 2 ^ L := ⟨_, rfl⟩
  have hPi : (2:Int) ^ L = (P2 : Int) := by rw [hP2]; simp
  have hPb : P2 ≤ 32768 := by rw [hP2]; exact Nat.pow_le_pow_right (by decide) h2 
  have HP2 := hide hP2
  rw [← hP2] at Q0 Q1
  clear hP2
  have h3 : ¬ (L : Int) < 1 := by omega
  have h4 : ¬ 15 < (L : Int) := by omega
  go_enter Try.func24, Try.ntmps24
  go_wp2_with fail
  refine CG.out.mono ?_
  rintro e w2 ⟨rfl, rfl⟩
  go_wp2_with fail
  refine rarest_c a c fq w Hl.out h320 _ ?_ ?_
  · intro hp w2 hF
    have HF := hide hF
    have Hp := hide hp
    clear hF hp
    obtain ⟨w3, hw3⟩ : ∃ w3, w3 = w2.alloc (.cells zs 3) := ⟨_, rfl⟩
    obtain ⟨G, hG⟩ : ∃ G, G = w2.heap.size := ⟨_, rfl⟩
    have hmk2 := hmk w2
    rw [← hw3, ← hG] at hmk2
    have HG := hide hG
    have HO : Hid (OutM w3 G (zeros fq.length)) := by rw [hw3, hG]; exact outM_new w2 zs _ Hzs.out Hz0.out
    have HF3 : Hid (Fr (fun _ => False) w w3) := by rw [hw3]; exact HF.out.join (Fr.of_alloc _ _)
    have hP0 : ¬ ((P2 : Int) < 0) := by omega
    clear hmk hw3 hG
    go_wp2
    exact Q1.out (by rw [Hp.out]; simp) G _ w3 HO.out (lenOk_none fq L Hp.out) (by have := HF.out.size; have := HG.out; omega) HF3.out
  · intro g c' d w2 hD hp hs hc hgs hF
    have hds : d.size = (posL fq fq.length).length := by have := hp.length_eq; simpa using this
    have HD := hide hD
    have Hp := hide hp
    have Hs := hide hs
    have HF := hide hF
    have Hgs := hide hgs
    have Hc := hide hc
    have Hds := hide hds
    have hsm := hD.small
    clear hD hp hs hF hgs hc hds
    obtain ⟨n, hn⟩ : ∃ n, n = d.size := ⟨_, rfl⟩
    rw [← hn] at Hc Hds hsm ⊢
    have Hn := hide hn
    clear hn
    by_cases hbig : P2 < n
    · go_wp2
      exact Q0.out (by have := Hds.out; omega) w2 HF.out
    · obtain ⟨w3, hw3⟩ : ∃ w3, w3 = w2.alloc (.cells zs 3) := ⟨_, rfl⟩
      obtain ⟨G, hG⟩ : ∃ G, G = w2.heap.size := ⟨_, rfl⟩
      have hmk2 := hmk w2
      rw [← hw3, ← hG] at hmk2
      have HG := hide hG
      have hO : OutM w3 G (zeros fq.length) := by rw [hw3, hG]; exact outM_new w2 zs _ Hzs.out Hz0.out
      have hF23 : Fr (fun _ => False) w2 w3 := by rw [hw3]; exact Fr.of_alloc _ _
      have hs3 : w3.heap.size = G + 1 := by rw [hw3, hG]; simp
      have HF3 := hide (HF.out.join hF23)
      have HD3 := hide (HD.out.keep hF23 (fun h => h))
      have HO := hide hO
      have hwG : w.heap.size ≤ G := by have := HF.out.size; omega
      have hgG : g < G := by obtain ⟨cs, h, _⟩ := HD.out.eobj; have := lt_of h; omega
      have Hlow : Hid (∀ i, i < n → d[i]! < fq.length ∧ 0 < at0 fq d[i]!) := by
        intro i hi
        have hi' : i < d.size := by have := Hn.out; omega
        have hm : d[i]! ∈ d.toList := by
          have : d[i]! = d.toList[i]'(by simpa using hi') := by simp [hi']
          rw [this]
          exact List.getElem_mem _
        exact (posL_mem fq fq.length _).1 (Hp.out.mem_iff.1 hm)
      have Hs3 := hide hs3
      clear hmk hw3 hG hO hF23 hs3
      by_cases h1n : n = 1
      · subst h1n
        have hcu := HD3.out.cell (j := 0) (by have := Hn.out; omega)
        have hul := (Hlow.out 0 (by omega)).1
        have hpo : posL fq fq.length = [d[0]!] := by
          have e : d.toList = [d[0]!] := by
            have h := Hn.out
            obtain ⟨l⟩ := d
            match l, h with
            | [x], _ => rfl
          have h := Hp.out
          rw [e] at h
          exact (List.perm_singleton.1 h.symm)
        obtain ⟨u, hu⟩ : ∃ u, u = d[0]! := ⟨_, rfl⟩
        rw [← hu] at hcu hul hpo
        obtain ⟨hcu2, hfz⟩ := HO.out.cell (k := u) (by simp [zeros]; exact hul)
        rw [at0_zeros] at hcu2
        have Hpo := hide hpo
        clear hpo hu
        go_wp2
        exact Q1.out (by have := Hds.out; omega) G _ _ (HO.out.set (k := u) (by simp [zeros]; exact hul) 1) (lenOk_one fq L u h1 Hpo.out) hwG (HF3.out.join_new ((Fr.of_setCell _ _ _).mono fun i _ e => by subst e; exact hwG))
      · by_cases h0n : n = 0
        · subst h0n
          go_wp2
          exact Q1.out (by have := Hds.out; omega) G _ w3 HO.out (lenOk_none fq L (List.length_eq_zero_iff.1 Hds.out.symm)) hwG HF3.out
        · have hul : d.toList.length = n := by have := Hn.out; simp; omega
          have Hge : Hid (∀ j, j < n → d.toList.getD j 0 = d[j]!) := by
            intro j hj
            have hj' : j < d.size := by have := Hn.out; omega
            simp [hj']
          have CS := hide (symbolItems_c a (some ⟨g, 0, none⟩) c c' fq d.toList w3 (Hl.out.keep HF3.out (fun _ _ _ h => h)) (by
            intro j hj
            rw [hul] at hj
            refine ⟨⟨g, 0, none⟩, rfl, ?_⟩
            rw [Hge.out j hj]
            have := HD3.out.cell (j := j) (by have := Hn.out; omega)
            rw [add_none]
            simpa using this) (by omega) (by
            intro u hu
            have := (posL_mem fq fq.length u).1 (Hp.out.mem_iff.1 hu)
            exact ⟨this.1, by omega⟩))
          rw [hul] at CS
          go_wp2_with fail
          refine CS.out.mono ?_
          rintro e w4 ⟨pa, pc, rfl, hO4, hF4⟩
          have HS : Hid (Syms (items fq d.toList) L) := items_syms Hs.out (by have := Hn.out; omega) (by have := Hn.out; have := HP2.out; omega) h1
          obtain ⟨S, hS⟩ : ∃ S, S = items fq d.toList := ⟨_, rfl⟩
          have hSl : S.length = n := by rw [hS]; simp [items]; have := Hn.out; omega
          have hO4' : w4.ownsRow w3.heap.size 92 2 (.slice pa n pc) n (cellsT S) := by rw [hS]; exact hO4
          have Hw : Hid (∀ x ∈ S, x.1 ≤ 1048576) := by
            intro x hx
            rw [hS] at hx
            simp only [items, List.mem_map] at hx
            obtain ⟨u, hu, rfl⟩ := hx
            have h5 := (posL_mem fq fq.length u).1 (Hp.out.mem_iff.1 hu)
            have := Hg.out.2 u h5.1
            show (at0 fq u).toNat ≤ 1048576
            omega
          have HLT := hide (own_liesT hO4' hSl.symm)
          have hpc : n ≤ pc ∧ (pa = none → pc = 0) := by
            rcases hO4'.2 with ⟨hv, e0⟩ | ⟨g, cap, cur, hv, hg, hh, hr, _⟩
            · obtain ⟨e1, e2, e3⟩ := Value.slice.inj hv
              exact ⟨by omega, fun _ => e3⟩
            · obtain ⟨e1, e2, e3⟩ := Value.slice.inj hv
              exact ⟨by omega, fun h => by rw [h] at e1; cases e1⟩
          have Hpb : Hid (∀ ad, pa = some ad → w3.heap.size ≤ ad.block ∧ ad.block < w4.heap.size) := fun ad e => hO4'.lt ad.block (by rw [e]; rfl)
          have CM := hide (mergedRows_c pa pc L w3.heap.size S w4 HLT.out (by omega) hpc.2 (by omega) h1 h2 Hw.out (fun ad e _ => (Hpb.out ad e).1) hF4.size)
          rw [hSl] at CM
          have HF4 := hide hF4
          have HSl := hide hSl
          have HSe := hide hS
          rw [← hS] at HS
          clear hO4 hO4' hF4 hpc hS hSl
          go_wp2_with fail
          refine CM.out.mono ?_
          rintro e w5 ⟨ra, rp, vals, rfl, hov, hR, hF5⟩
          have HF35 := hide (HF4.out.join hF5)
          have hz : (zeros fq.length).length = fq.length := by simp [zeros]
          have CL := hide (lengthen_c G g fq.length c' L w3.heap.size rp ra S d (zeros fq.length) vals w5 HS.out h2 (HO.out.keep HF35.out (fun h => h)) (HD3.out.keep HF35.out (fun h => h)) (by rw [HSl.out]; exact Hn.out.symm) (⟨hov.1, hov.2.imp id fun ⟨g, cap, cur, y1, y2, y3⟩ => ⟨g, cap, cur, y1, Nat.le_trans HF4.out.size y2, y3⟩⟩) hR (by have := Hs3.out; omega) (by omega) (by
            intro i hi
            rw [HSl.out] at hi
            rw [hz]
            exact (Hlow.out i hi).1) (by
            intro i j hi hj e
            rw [HSl.out] at hi hj
            have hi' : i < d.size := by have := Hn.out; omega
            have hj' : j < d.size := by have := Hn.out; omega
            have e1 : d[i]! = d.toList[i]'(by simpa using hi') := by simp [hi']
            have e2 : d[j]! = d.toList[j]'(by simpa using hj') := by simp [hj']
            rw [e1, e2] at e
            have hnd := List.pairwise_iff_getElem.1 (Hp.out.nodup_iff.2 (posL_nodup _ _))
            rcases Nat.lt_trichotomy i j with h | h | h
            · exact absurd e (hnd i j _ _ h)
            · exact h
            · exact absurd e.symm (hnd j i _ _ h)) (by
            refine ⟨fun k _ _ => at0_zeros _ _, fun i _ => ?_, fun _ => ?_, fun h => absurd h (by decide)⟩
            · rw [at0_zeros]; simp [ln]
            · exact (nxk_zeros _ _).trans (by simp)) (by rw [HSl.out]; exact Hc.out) (by rw [HSl.out]; exact hsm))
          rw [HSl.out, hz] at CL
          clear hov hR hF5
          go_wp2_with fail
          refine CL.out.mono ?_
          rintro e w6 ⟨rfl, o, hol, hOM, hLS, hF6⟩
          have HQ := hide (Q1.out (by have := Hds.out; omega) G o w6 hOM (lenOk_many Hp.out Hs.out (by have := Hn.out; omega) (by have := Hn.out; have := HP2.out; omega) h1 hol (by rw [← HSe.out]; exact hLS)) hwG ((HF3.out.join HF35.out).join_new (hF6.mono fun i _ e => by subst e; exact hwG)))
          clear hOM hLS hF6 hol
          go_wp2
          exact HQ.out

/-- What Lengths answers. -/
theorem lengths_c (a : Option Addr) (c : Nat) (fq : List Int) (m : Int) (w : World) (hl : LiesI w a fq) (hlen : (fq.length : Int) ≤ 9223372036854775807) (Q : Ending → World → Prop)
    (q0 : ¬ (1 ≤ m ∧ m ≤ 15 ∧ goodF fq ∧ (posL fq fq.length).length ≤ 2 ^ m.toNat) → ∀ w', Fr (fun _ => False) w w' → Q (.returned (.tuple #[.slice none 0 0, .bool false])) w')
    (q1 : 1 ≤ m → m ≤ 15 → goodF fq → (posL fq fq.length).length ≤ 2 ^ m.toNat → ∀ g o w', OutM w' g o → LenOk fq m.toNat o → w.heap.size ≤ g → Fr (fun _ => False) w w' → Q (.returned (.tuple #[.slice (some ⟨g, 0, none⟩) fq.length fq.length, .bool true])) w') :
    Calls Try.prog 24 #[.slice a fq.length c, .int .i64 m] w Q := by
  by_cases h1 : m < 1
  · exact lengths_most a c fq m w (Or.inl h1) Q (q0 (fun h => by omega) w (Fr.refl _ _))
  by_cases h2 : 15 < m
  · exact lengths_most a c fq m w (Or.inr h2) Q (q0 (fun h => by omega) w (Fr.refl _ _))
  by_cases hg : goodF fq
  · obtain ⟨L, rfl⟩ : ∃ L : Nat, m = (L : Int) := ⟨m.toNat, by omega⟩
    simp only [Int.toNat_natCast] at q0 q1
    exact lengths_good a c fq L w (by omega) (by omega) hl hg Q (fun h => q0 (fun h2 => by omega)) (fun h => q1 (by omega) (by omega) hg h)
  · exact lengths_bad a c fq m w (by omega) (by omega) hl hlen hg Q (q0 (fun h => hg h.2.2.1) w (Fr.refl _ _))
end Go.Proofs.Ytlkidddbndkfiaa
