/-
  chunk: the document's Cut.
-/
import Derived.Test.YtflapcaaaipoeaaCo
namespace Go.Proofs.Ytflapcaaaipoeaa
open Go.RowKit Go.Lib
set_option linter.unusedVariables false

theorem i64w (n : Int) (h0 : -9223372036854775808 ≤ n) (h1 : n ≤ 9223372036854775807) : IntKind.i64.wrap n = n := by rw [IntKind.wrap_i64]; omega
theorem ofInt_i64 (a : Nat) (ha : a < 9223372036854775808) : (BitVec.ofInt 64 (a : Int)).toNat = a := by
  rw [BitVec.ofInt_natCast, BitVec.toNat_ofNat]; exact Nat.mod_eq_of_lt (by omega)
theorem i64_or_nat (a b : Nat) (ha : a < 4294967296) (hb : b < 4294967296) : bits .or .i64 (a : Int) (b : Int) = ((a ||| b : Nat) : Int) := by
  have hx : a ||| b < 2 ^ 32 := Nat.or_lt_two_pow (by omega) (by omega)
  show IntKind.i64.wrap ((BitVec.ofInt 64 (a : Int) ||| BitVec.ofInt 64 (b : Int)).toNat : Int) = _
  rw [BitVec.toNat_or, ofInt_i64 a (by omega), ofInt_i64 b (by omega), i64w _ (by omega) (by omega)]

/-- Four bytes put together, as the document does: in 64 bits, in 32. -/
theorem four_or (k : IntKind) (hk : k = .i64 ∨ k = .u32) (b0 b1 b2 b3 : Nat) (k0 : b0 < 256) (k1 : b1 < 256) (k2 : b2 < 256) (k3 : b3 < 256) :
    ∃ m1 m2 : Nat, bits .or k ((b0 : Int) * 16777216) ((b1 : Int) * 65536) = (m1 : Int) ∧ bits .or k (m1 : Int) ((b2 : Int) * 256) = (m2 : Int) ∧ bits .or k (m2 : Int) (b3 : Int) = ((b0 * 16777216 + b1 * 65536 + b2 * 256 + b3 : Nat) : Int) := by
  have hor : ∀ a b : Nat, a < 4294967296 → b < 4294967296 → bits .or k (a : Int) (b : Int) = ((a ||| b : Nat) : Int) := by
    rcases hk with rfl | rfl
    · exact i64_or_nat
    · exact u32_or_nat
  refine ⟨b0 * 16777216 ||| b1 * 65536, (b0 * 16777216 ||| b1 * 65536) ||| b2 * 256, hor (b0 * 16777216) (b1 * 65536) (by omega) (by omega), hor (b0 * 16777216 ||| b1 * 65536) (b2 * 256) (or_two_lt b0 b1 k0 k1) (by omega), ?_⟩
  rw [← or_three b0 b1 b2 b3 k0 k1 k2 k3]
  exact hor _ _ (or_thr_lt b0 b1 b2 k0 k1 k2) (by omega)

theorem getD_drop (bs : List Nat) (p k : Nat) : (bs.drop p).getD k 0 = bs.getD (p + k) 0 := by
  rw [List.getD_eq_getElem?_getD, List.getD_eq_getElem?_getD, List.getElem?_drop]

theorem add_ne (ad : Addr) (k : Nat) (h : k ≠ 0) : ad.add k = ⟨ad.block, ad.off + k, none⟩ := by unfold Addr.add; rw [if_neg h]

/-- What the document's Cut leaves. -/
def RCutOut (bs : List Nat) (lo : Nat) (e : Ending) (w' : World) : Prop :=
  match cutV bs with
  | .error er => e = .returned (.tuple #[.slice none 0 0, .int .i64 er])
  | .ok l => ∃ v, e = .returned (.tuple #[v, .int .i64 0]) ∧ OwnC 44 w' lo v l

set_option maxHeartbeats 1600000 in
set_option maxRecDepth 20000 in
theorem rcut_c (a : Option Addr) (c : Nat) (bs : List Nat) (w : World) (hl : Lies w a bs) (hc : bs.length ≤ c) (hcm : c ≤ maxLen) :
    Calls Try.prog 9 #[.slice a bs.length c] w fun e w' => RCutOut bs w.heap.size e w' ∧ Fr (fun _ => False) w w' := by
  by_cases h26 : 262144 < bs.length
  · have HN : Hid (cutV bs = .error 3) := by show _ = _; unfold cutV startE; rw [if_pos h26, if_pos (by decide)]
    have d1 : decide ((262144 : Int) < (bs.length : Int)) = true := by simp; omega
    clear hl hc hcm h26
    generalize bs.length = n at *
    go_enter Try.func9, Try.ntmps9
    go_wp2
    go_ret2
    refine ⟨?_, Fr.refl _ _⟩
    unfold RCutOut
    rw [HN.out]
    rfl
  · have d1 : decide ((262144 : Int) < (bs.length : Int)) = false := by simp; omega
    by_cases h8 : bs.length < 8
    · have HN : Hid (cutV bs = .error 2) := by show _ = _; unfold cutV startE; rw [if_neg h26, if_pos h8, if_pos (by decide)]
      have d2 : decide ((bs.length : Int) < 8) = true := by simp; omega
      clear hl hc hcm h26 h8
      generalize bs.length = n at *
      go_enter Try.func9, Try.ntmps9
      go_wp2
      go_ret2
      refine ⟨?_, Fr.refl _ _⟩
      unfold RCutOut
      rw [HN.out]
      rfl
    · have d2 : decide ((bs.length : Int) < 8) = false := by simp; omega
      have hcv := fun k c' => conv_str c' ((hl.keep (Fr.of_drewN w k) (fun _ _ h => h)).take 8)
      rw [show (bs.take 8).length = 8 by rw [List.length_take]; omega] at hcv
      have h3 := eqL (strOf (bs.take 8)) [137, 80, 78, 71, 13, 10, 26, 10]
      have hsg := sig_iff (hl.take 8).1
      have g8 : (8 : Int) ≤ (c : Int) := by unfold maxLen at hcm; omega
      have hsig := fun W : World => (show Calls Try.prog 23 #[] W fun e w' => e = .returned (.string ⟨#[137, 80, 78, 71, 13, 10, 26, 10]⟩) ∧ w' = W from by
        go_enter Try.func23, Try.ntmps23
        go_wp2
        go_ret
        exact ⟨rfl, rfl⟩)
      by_cases he : bs.take 8 = sigL
      · rw [decide_eq_true (hsg.2 he)] at h3
        have hs0 : startE bs = 0 := by unfold startE; rw [if_neg h26, if_neg h8, if_pos he]
        have HG : Hid (cutV bs = match runC (bs.length + 1) (bs.drop 8) with
          | .error e => .error e
          | .ok (l, q) => if 0 < q.length then .error 4 else .ok l) := by show _ = _; unfold cutV; rw [if_neg (by simpa using hs0)]; rfl
        obtain ⟨ad, rfl, _⟩ := hl.2 0 (by omega)
        have HL := hide (CutAt.start (bs.drop 8) (bs.length + 1) (by rw [List.length_drop]; omega))
        have Hl := hide hl
        have h8' : 8 ≤ bs.length := by omega
        have h26' : bs.length ≤ 262144 := by omega
        have hcm2 := hide hcm
        unfold maxLen at hcm
        obtain ⟨F, hF⟩ : ∃ F, F = bs.length + 1 := ⟨_, rfl⟩
        rw [← hF] at HL HG
        have HG2 := hide HG
        clear hl hsg he hF hs0 HG h26 h8
        generalize strOf (bs.take 8) = st at *
        obtain ⟨n, hn⟩ : ∃ n, bs.length = n := ⟨_, rfl⟩
        have Hn := hide hn
        rw [hn] at h8' h26' hc d1 d2 ⊢
        clear hn
        go_enter Try.func9, Try.ntmps9
        go_wp2_with fail
        go_quiet ((go_at_call 23; exact Calls.quiet_of_same (hsig _)))
        have Hl1 := hide (Hl.out.keep (Fr.of_drewN w nq) (fun _ _ h => h))
        have HF1 := hide (Fr.of_drewN w nq)
        obtain ⟨w1, hw1⟩ : ∃ w1, w1 = w.drewN nq := ⟨_, rfl⟩
        rw [← hw1] at Hl1 HF1 ⊢
        clear hw1 hcv h3 hsig d1 d2
        go_wp2_with fail
        go_loopw [4, 5] (fun lv pv wr => ∃ (ls : List Ck) (p : Nat) (va : Option Addr) (vc : Nat), pv = .int .i64 p ∧ 8 ≤ p ∧ p ≤ n ∧ lv = .slice va ls.length vc ∧ OwnC 44 wr w1.heap.size (.slice va ls.length vc) ls ∧ Hid (CutAt F (bs.drop 8) ls (bs.drop p)) ∧ endB ls = false ∧ Fr (fun _ => False) w1 wr ∧ ls.length * 12 + 8 ≤ p) (fun _ pv _ => n - (intOf pv).toNat)
        case atStart => exact ⟨[], 8, none, 0, rfl, by omega, h8', rfl, OwnC.nil _ _ _, HL, rfl, Fr.refl _ _, by simp⟩
        case round =>
          clear HL
          obtain ⟨ls, p, va, vc, rfl, hp8, hpn, rfl, ho, HC, he, hf, hcnt⟩ := hrel
          have HO := hide ho
          have HE := hide he
          have HF := hide hf
          have hrl : (bs.drop p).length = n - p := by rw [List.length_drop, Hn.out]
          clear ho he hf
          by_cases h12 : n - p < 12
          · have HN : Hid (cutV bs = .error 2) := by
              have hfe : firstE (bs.drop p) = 2 := by unfold firstE; rw [if_pos (by omega)]
              show _ = _; rw [HG2.out, HC.out.err HE.out (by rw [hfe]; decide), hfe]
            have d3 : decide ((n : Int) - (p : Int) < 12) = true := by simp; omega
            clear hrl h12 hcnt
            go_wp2
            go_ret2
            refine ⟨?_, HF1.out.join HF.out⟩
            unfold RCutOut
            rw [HN.out]
            rfl
          · have d3 : decide ((n : Int) - (p : Int) < 12) = false := by simp; omega
            have hp12 : p + 12 ≤ n := by omega
            clear h12
            have hcells : ∀ k, k < 12 → wr.cell? (ad.add (p + k)) = some (.int .u8 ((bs.getD (p + k) 0 : Nat) : Int)) := fun k hk => by
              obtain ⟨ad', e, hh⟩ := Hl.out.2 (p + k) (by rw [Hn.out]; omega)
              cases e
              exact cell_fr (HF1.out.join HF.out) hh (fun h => h)
            have hsml : ∀ k, bs.getD k 0 < 256 := fun k => by
              by_cases hk : k < bs.length
              · exact Hl.out.1 _ (getD_mem bs k hk)
              · rw [List.getD_eq_getElem?_getD, List.getElem?_eq_none (by omega)]; decide
            have c0 := hcells 0 (by decide)
            have c1 := hcells 1 (by decide)
            have c2 := hcells 2 (by decide)
            have c3 := hcells 3 (by decide)
            rw [Nat.add_zero] at c0
            rw [add_ne ad (p + 1) (by omega)] at c1
            rw [add_ne ad (p + 2) (by omega)] at c2
            rw [add_ne ad (p + 3) (by omega)] at c3
            have k0 := hsml p
            have k1 := hsml (p + 1)
            have k2 := hsml (p + 2)
            have k3 := hsml (p + 3)
            have hw32 : w32 (bs.drop p) = bs.getD p 0 * 16777216 + bs.getD (p + 1) 0 * 65536 + bs.getD (p + 2) 0 * 256 + bs.getD (p + 3) 0 := by
              unfold w32
              rw [getD_drop, getD_drop, getD_drop, getD_drop, Nat.add_zero]
            have Hc := hide hcells
            have Hsml := hide hsml
            obtain ⟨m1, m2, y1, y2, y3⟩ := four_or .i64 (.inl rfl) _ _ _ _ k0 k1 k2 k3
            rw [← hw32] at y3
            clear hcells hsml hw32
            generalize bs.getD p 0 = b0 at *
            generalize bs.getD (p + 1) 0 = b1 at *
            generalize bs.getD (p + 2) 0 = b2 at *
            generalize bs.getD (p + 3) 0 = b3 at *
            generalize hwm : w32 (bs.drop p) = m at *
            have q0 : (p : Int) < (n : Int) := by omega
            have q1 : (p : Int) + 1 < (n : Int) := by omega
            have q2 : (p : Int) + 2 < (n : Int) := by omega
            have q3 : (p : Int) + 3 < (n : Int) := by omega
            have qq : (0 : Int) ≤ (p : Int) := by omega
            have qq1 : (0 : Int) ≤ (p : Int) + 1 := by omega
            have qq2 : (0 : Int) ≤ (p : Int) + 2 := by omega
            have qq3 : (0 : Int) ≤ (p : Int) + 3 := by omega
            have t1 : ((p : Int) + 1).toNat = p + 1 := by omega
            have t2 : ((p : Int) + 2).toNat = p + 2 := by omega
            have t3 : ((p : Int) + 3).toNat = p + 3 := by omega
            have i1 := i64w ((p : Int) + 1) (by omega) (by omega)
            have i2 := i64w ((p : Int) + 2) (by omega) (by omega)
            have i3 := i64w ((p : Int) + 3) (by omega) (by omega)
            have v0 := i64w (b0 : Int) (by omega) (by omega)
            have v1 := i64w (b1 : Int) (by omega) (by omega)
            have v2 := i64w (b2 : Int) (by omega) (by omega)
            have v3 := i64w (b3 : Int) (by omega) (by omega)
            have x0 := i64w ((b0 : Int) * 16777216) (by omega) (by omega)
            have x1 := i64w ((b1 : Int) * 65536) (by omega) (by omega)
            have x2 := i64w ((b2 : Int) * 256) (by omega) (by omega)
            go_upto_region 11 with fail
            go_quiet (fail)
            clear y1 y2 y3 x0 x1 x2 v0 v1 v2 v3 i1 i2 i3 t1 t2 t3 qq1 qq2 qq3 q0 q1 q2 q3 c0 c1 c2 c3 k0 k1 k2 k3
            have HF2 := hide (HF.out.join (Fr.of_drewN wr nq))
            have HO2 := hide (HO.out.keep (Fr.of_drewN wr nq) (fun _ _ h => h))
            have hob := HO.out.form.2
            have Hob := hide (show ∀ k, (Value.slice va ls.length vc).ownBlock = some k → w1.heap.size ≤ k ∧ k < (wr.drewN nq).heap.size from hob)
            clear hob
            obtain ⟨w2, hw2⟩ : ∃ w2, w2 = wr.drewN nq := ⟨_, rfl⟩
            rw [← hw2] at HF2 HO2 Hob ⊢
            clear hw2 HO HF
            have hfe : firstE (bs.drop p) = if (bs.drop p).length < 12 then 2 else if 2147483647 < w32 (bs.drop p) ∨ kindB (kindOf (bs.drop p)) = false then 4 else if (bs.drop p).length - 12 < w32 (bs.drop p) then 2 else if w32 ((bs.drop p).drop (8 + w32 (bs.drop p))) ≠ sumOf (kindOf (bs.drop p)) (dataOf (bs.drop p)) then 5 else 0 := rfl
            rw [if_neg (by rw [hrl]; omega), hrl, hwm] at hfe
            have HFE := hide hfe
            have Hwm := hide hwm
            have Hrl := hide hrl
            clear hfe hwm hrl
            have hl2 := Hl.out.keep (HF1.out.join HF2.out) (fun _ _ h => h)
            have hcv : ∀ c', (convert 22 9 (.slice (some ⟨ad.block, ad.off + (p + 3 + 1), none⟩) 4 c')).run Try.prog w2 = .ok (.string (kindOf (bs.drop p))) w2 := by
              intro c'
              have h1 := (hl2.drop (p + 4) c (by rw [Hn.out]; omega) (by rw [Hn.out]; omega)).take 4
              rw [if_neg (by omega)] at h1
              have h2 := conv_str c' h1
              have e4 : ((bs.drop (p + 4)).take 4).length = 4 := by rw [List.length_take, List.length_drop, Hn.out]; omega
              rw [e4, show (some ad).map (·.add (p + 4)) = some (ad.add (p + 4)) from rfl, add_ne ad (p + 4) (by omega)] at h2
              refine Eq.trans h2 ?_
              unfold kindOf
              rw [List.drop_drop]
            have hks : (kindOf (bs.drop p)).size ≤ 4 := by
              unfold kindOf
              rw [strOf_size, List.length_take]
              omega
            have hks2 : (kindOf (bs.drop p)).size ≤ maxLen := by unfold maxLen; omega
            have hlet := letters_c (kindOf (bs.drop p))
            have c4 : ¬ c = p + 4 := by omega
            have s1 : (p : Int) + 4 ≤ (p : Int) + 8 := by omega
            have s2 : (p : Int) + 8 ≤ (c : Int) := by omega
            have Hl2 := hide hl2
            have hkr : (firstK (bs.drop p)).1 = kindOf (bs.drop p) := rfl
            have Hkr := hide hkr
            have Hks := hide hks
            clear hl2 hkr hks
            by_cases hA : 2147483647 < m
            · have HN : Hid (cutV bs = .error 4) := by
                have h4 : firstE (bs.drop p) = 4 := by rw [HFE.out, if_pos (.inl hA)]
                show _ = _; rw [HG2.out, HC.out.err HE.out (by rw [h4]; decide), h4]
              have d4 : decide ((2147483647 : Int) < (m : Int)) = true := by simp; omega
              generalize kindOf (bs.drop p) = kd at *
              clear hA hlet
              go_wp2
              go_ret2
              refine ⟨?_, HF1.out.join HF2.out⟩
              unfold RCutOut
              rw [HN.out]
              rfl
            · have d4 : decide ((2147483647 : Int) < (m : Int)) = false := by simp; omega
              have hmB : m ≤ 2147483647 := by omega
              cases hkb : kindB (kindOf (bs.drop p))
              · have HN : Hid (cutV bs = .error 4) := by
                  have h4 : firstE (bs.drop p) = 4 := by rw [HFE.out, if_pos (.inr hkb)]
                  show _ = _; rw [HG2.out, HC.out.err HE.out (by rw [h4]; decide), h4]
                rw [hkb] at hlet
                generalize kindOf (bs.drop p) = kd at *
                clear hA hkb
                go_wp2_with (go_at_call 24; refine (hlet _ hks2).mono ?_; rintro e w' ⟨rfl, rfl⟩)
                go_ret2
                refine ⟨?_, HF1.out.join HF2.out⟩
                unfold RCutOut
                rw [HN.out]
                rfl
              · rw [hkb] at hlet
                by_cases hS : n - p - 12 < m
                · have HN : Hid (cutV bs = .error 2) := by
                    have h4 : firstE (bs.drop p) = 2 := by rw [HFE.out, if_neg (fun h => h.elim hA (by rw [hkb]; intro h; cases h)), if_pos hS]
                    show _ = _; rw [HG2.out, HC.out.err HE.out (by rw [h4]; decide), h4]
                  have d5 : decide ((n : Int) - (p : Int) - 12 < (m : Int)) = true := by simp; omega
                  have d6 : (n : Int) - (p : Int) - 12 < (m : Int) := by omega
                  generalize kindOf (bs.drop p) = kd at *
                  clear hA hkb hS
                  go_wp2_with (go_at_call 24; refine (hlet _ hks2).mono ?_; rintro e w' ⟨rfl, rfl⟩)
                  go_ret2
                  refine ⟨?_, HF1.out.join HF2.out⟩
                  unfold RCutOut
                  rw [HN.out]
                  rfl
                · have d5 : decide ((n : Int) - (p : Int) - 12 < (m : Int)) = false := by simp; omega
                  have hpm : p + 12 + m ≤ n := by omega
                  have HFE2 : Hid (firstE (bs.drop p) = if w32 ((bs.drop p).drop (8 + m)) ≠ sumOf (kindOf (bs.drop p)) (dataOf (bs.drop p)) then 5 else 0) := by
                    show _ = _
                    rw [HFE.out, if_neg (fun h => h.elim hA (by rw [hkb]; intro h; cases h)), if_neg hS]
                  have hdn : (dataOf (bs.drop p)).length = m := by
                    unfold dataOf
                    rw [List.length_take, List.length_drop, Hrl.out, Hwm.out]; omega
                  go_upto_region 17 with (go_at_call 24; refine (hlet _ hks2).mono ?_; rintro e w' ⟨rfl, rfl⟩)
                  obtain ⟨Q, hQ⟩ : ∃ Q, Q = p + 8 := ⟨_, rfl⟩
                  obtain ⟨P, hP⟩ : ∃ P, P = p + 8 + m := ⟨_, rfl⟩
                  have hdl : Lies w2 (some (ad.add Q)) (dataOf (bs.drop p)) := by
                    have h1 := (Hl2.out.drop (p + 8) c (by rw [Hn.out]; omega) (by rw [Hn.out]; omega)).take m
                    rw [if_neg (by omega), show (some ad).map (·.add (p + 8)) = some (ad.add (p + 8)) from rfl, ← hQ] at h1
                    unfold dataOf
                    rw [List.drop_drop, Hwm.out, ← hQ]
                    exact h1
                  have c8 : ¬ c = Q := by omega
                  have hQP : Q ≤ P := by omega
                  have hPc : P + 4 ≤ c := by omega
                  have hPQ : P - Q = m := by omega
                  have r1 : (p : Int) + 8 = (Q : Int) := by omega
                  have r2 : (Q : Int) + (m : Int) = (P : Int) := by omega
                  have s3 : (Q : Int) ≤ (P : Int) := by omega
                  have s4 : (P : Int) ≤ (c : Int) := by omega
                  have hPn : P + 4 ≤ n := by omega
                  have hPm : P ≤ 300000 := by omega
                  have Hdn := hide hdn
                  have Hdl := hide hdl
                  have HQ := hide hQ
                  have HP := hide hP
                  have Hpm := hide hpm
                  have HPQ := hide hPQ
                  have hdn2 : Hid (P - Q = (dataOf (bs.drop p)).length) := by show _ = _; rw [hdn]; exact hPQ
                  clear hA hkb hS HFE hdn hdl hQ hP hPQ
                  have Hcnt := hide hcnt
                  have Hp8 := hide hp8
                  have Hob3 : Hid (∀ k, (Value.slice va ls.length vc).ownBlock = some k → w1.heap.size ≤ k ∧ k < w2.heap.size) := Hob.out
                  clear hcnt hp8 hpn hp12 s1 s2 hmB d4 d5 hks2 h8' hcv hlet Hob hpm
                  have hdlen : Hid (([] : List Nat).length + (dataOf (bs.drop p)).length ≤ 140737488355328) := by show _ ≤ _; rw [← hdn2.out, List.length_nil]; omega
                  have Hc := hide hc
                  have Hcm := hide hcm
                  clear hcm hc h26'
                  have Hfd : Hid (firstK (bs.drop p) = (kindOf (bs.drop p), dataOf (bs.drop p))) := rfl
                  have Hre : Hid (restOf (bs.drop p) = (bs.drop p).drop (12 + (dataOf (bs.drop p)).length)) := rfl
                  have Hso : Hid (sumOf (kindOf (bs.drop p)) (dataOf (bs.drop p)) = (crc 0#32 (strBytes (kindOf (bs.drop p)) ++ dataOf (bs.drop p))).toNat) := rfl
                  generalize kindOf (bs.drop p) = kd at *
                  generalize dataOf (bs.drop p) = ds at *
                  have hrun5 := hide (OwnB.nil w2 w2.heap.size)
                  go_wp2_with (at_builtin; go_must (refine wpList_appBn rfl _ _ rfl w2.heap.size (.slice none 0 0) [] rfl hrun5.out (some (ad.add Q)) (P - Q) (c - Q) ds rfl hdn2.out Hdl.out (fun h => by cases h) hdlen.out (Nat.le_refl _) ?_); intro vd w3 hvd hf3)
                  rw [List.nil_append] at hvd
                  have hf3' : Fr (fun _ => False) w2 w3 := hf3.mono fun _ _ h => by cases h
                  obtain ⟨da, dc, hv, hdc, hdnil, hdb⟩ := hvd.form
                  subst hv
                  have HF3 := hide (HF2.out.join hf3')
                  have HO3 := hide (HO2.out.keep hf3' (fun _ _ h => h))
                  have Hl3 := hide (Hl2.out.keep hf3' (fun _ _ h => h))
                  have Hvd := hide hvd
                  have Hdb := hide hdb
                  have hsz3 : Hid (w2.heap.size ≤ w3.heap.size) := hf3'.size
                  have Hdc := hide hdc
                  have Hdnil := hide hdnil
                  have hdsl : ds.length = m := hdn2.out.symm.trans HPQ.out
                  have Hdsl := hide hdsl
                  rw [hdsl]
                  clear hf3 hf3' hvd hdb hdc hdnil HF2 HO2 Hl2 Hdl hrun5 hdsl
                  have hcells : ∀ k, k < 4 → w3.cell? (ad.add (P + k)) = some (.int .u8 ((bs.getD (P + k) 0 : Nat) : Int)) := fun k hk => by
                    obtain ⟨ad', e, hh⟩ := Hl3.out.2 (P + k) (by rw [Hn.out]; omega)
                    cases e
                    exact hh
                  have c0 := hcells 0 (by decide)
                  have c1 := hcells 1 (by decide)
                  have c2 := hcells 2 (by decide)
                  have c3 := hcells 3 (by decide)
                  rw [Nat.add_zero] at c0
                  rw [add_ne ad (P + 1) (by omega)] at c1
                  rw [add_ne ad (P + 2) (by omega)] at c2
                  rw [add_ne ad (P + 3) (by omega)] at c3
                  have k0 := Hsml.out P
                  have k1 := Hsml.out (P + 1)
                  have k2 := Hsml.out (P + 2)
                  have k3 := Hsml.out (P + 3)
                  have hw32 : w32 ((bs.drop p).drop (8 + m)) = bs.getD P 0 * 16777216 + bs.getD (P + 1) 0 * 65536 + bs.getD (P + 2) 0 * 256 + bs.getD (P + 3) 0 := by
                    unfold w32
                    rw [List.drop_drop, show p + (8 + m) = P by rw [HP.out]; omega, getD_drop, getD_drop, getD_drop, getD_drop, Nat.add_zero]
                  obtain ⟨m3, m4, y1, y2, y3⟩ := four_or .u32 (.inr rfl) _ _ _ _ k0 k1 k2 k3
                  rw [← hw32] at y3
                  clear hcells hw32
                  generalize bs.getD P 0 = d0 at *
                  generalize bs.getD (P + 1) 0 = d1 at *
                  generalize bs.getD (P + 2) 0 = d2 at *
                  generalize bs.getD (P + 3) 0 = d3 at *
                  generalize w32 ((bs.drop p).drop (8 + m)) = sm at *
                  have q0 : (P : Int) < (n : Int) := by omega
                  have q1 : (P : Int) + 1 < (n : Int) := by omega
                  have q2 : (P : Int) + 2 < (n : Int) := by omega
                  have q3 : (P : Int) + 3 < (n : Int) := by omega
                  have qq : (0 : Int) ≤ (P : Int) := by omega
                  have qq1 : (0 : Int) ≤ (P : Int) + 1 := by omega
                  have qq2 : (0 : Int) ≤ (P : Int) + 2 := by omega
                  have qq3 : (0 : Int) ≤ (P : Int) + 3 := by omega
                  have t1 : ((P : Int) + 1).toNat = P + 1 := by omega
                  have t2 : ((P : Int) + 2).toNat = P + 2 := by omega
                  have t3 : ((P : Int) + 3).toNat = P + 3 := by omega
                  have i1 := i64w ((P : Int) + 1) (by omega) (by omega)
                  have i2 := i64w ((P : Int) + 2) (by omega) (by omega)
                  have i3 := i64w ((P : Int) + 3) (by omega) (by omega)
                  have v0 := wrap_u32_nat d0 (by omega)
                  have v1 := wrap_u32_nat d1 (by omega)
                  have v2 := wrap_u32_nat d2 (by omega)
                  have v3 := wrap_u32_nat d3 (by omega)
                  have x0 : IntKind.u32.wrap ((d0 : Int) * 16777216) = (d0 : Int) * 16777216 := by rw [IntKind.wrap_u32']; omega
                  have x1 : IntKind.u32.wrap ((d1 : Int) * 65536) = (d1 : Int) * 65536 := by rw [IntKind.wrap_u32']; omega
                  have x2 : IntKind.u32.wrap ((d2 : Int) * 256) = (d2 : Int) * 256 := by rw [IntKind.wrap_u32']; omega
                  go_quiet (fail)
                  clear y1 y2 y3 x0 x1 x2 v0 v1 v2 v3 i1 i2 i3 t1 t2 t3 qq1 qq2 qq3 q0 q1 q2 q3 c0 c1 c2 c3 k0 k1 k2 k3
                  have HF4 := hide (HF3.out.join (Fr.of_drewN w3 nq))
                  have HO4 := hide (HO3.out.keep (Fr.of_drewN w3 nq) (fun _ _ h => h))
                  have Hvd4 := hide (Hvd.out.keep (Fr.of_drewN w3 nq) (fun _ _ h => h))
                  have hsz4 : Hid (w2.heap.size ≤ (w3.drewN nq).heap.size) := hsz3.out
                  obtain ⟨w4, hw4⟩ : ∃ w4, w4 = w3.drewN nq := ⟨_, rfl⟩
                  rw [← hw4] at HF4 HO4 Hvd4 hsz4 ⊢
                  clear hw4 HF3 HO3 Hvd Hl3
                  have hkl : (strBytes kd).length ≤ 2147483648 := by rw [strBytes_length]; have := Hks.out; omega
                  have hsum := chunkSum_c kd da dc ds w4 hkl Hvd4.out.lies (by have := hdlen.out; rw [Hdsl.out]; omega)
                  rw [Hdsl.out, ← Hso.out] at hsum
                  have HSM := hide hsum
                  clear hkl hsum
                  go_wp2_with fail
                  refine HSM.out.mono ?_
                  rintro e w5 ⟨rfl, hf5⟩
                  have HF5 := hide (HF4.out.join hf5)
                  have HO5 := hide (HO4.out.keep hf5 (fun _ _ h => h))
                  have Hvd5 := hide (Hvd4.out.keep hf5 (fun _ _ h => h))
                  have hsz5 : Hid (w2.heap.size ≤ w5.heap.size) := Nat.le_trans hsz4.out hf5.size
                  clear hf5 HF4 HO4 Hvd4 hsz4 HSM
                  generalize sumOf kd ds = sz at *
                  by_cases hsq : sm = sz
                  · subst hsq
                    have hz : firstE (bs.drop p) = 0 := by rw [HFE2.out, if_neg (fun h => h rfl)]
                    have HST := hide (HC.out.step HE.out hz)
                    have hre2 : restOf (bs.drop p) = bs.drop (P + 4) := by
                      rw [Hre.out, List.drop_drop, Hdsl.out, HP.out, show p + (12 + m) = p + 8 + m + 4 by omega]
                    rw [hre2, Hfd.out] at HST
                    have hen := endB_snoc ls (kd, ds)
                    have hbe : (kd.toList == [73, 69, 78, 68]) = decide (kd = sIend) := eqL kd _
                    have hbs : ((sm : Int) == (sm : Int)) = true := by simp
                    clear HFE2 hre2 hz
                    have hA := heap_alloc_new w5 (Obj.cells #[.string kd, .slice da m dc] 44)
                    have hc70 : (w5.alloc (Obj.cells #[.string kd, .slice da m dc] 44)).cell? ((⟨w5.heap.size, 0, none⟩ : Addr).add 0) = some (.string ((kd, ds) : Ck).1) := by
                      rw [add_none]; simp only [World.cell?]; rw [hA]; rfl
                    have hc71 : (w5.alloc (Obj.cells #[.string kd, .slice da m dc] 44)).cell? ((⟨w5.heap.size, 0, none⟩ : Addr).add 1) = some (.slice da ((kd, ds) : Ck).2.length dc) := by
                      rw [add_none]; simp only [World.cell?]; rw [hA, show ((kd, ds) : Ck).2.length = m from Hdsl.out]; rfl
                    have hdat : Dat (w5.alloc (Obj.cells #[.string kd, .slice da m dc] 44)) (.slice va ls.length vc) (kd, ds) da dc := ⟨Hvd5.out.lies.keep (Fr.of_alloc _ _) (fun _ _ h => h), Hdnil.out, by have := Hks.out; show kd.size ≤ _; omega, by show ds.length ≤ _; rw [Hdsl.out]; omega, Hdc.out, fun _ ad' e hb => by
                      have h1 := (Hob3.out _ hb).2
                      subst e
                      have h2 := (Hdb.out ad'.block rfl).1
                      omega⟩
                    have HDT := hide hdat
                    have Hc70 := hide hc70
                    have Hc71 := hide hc71
                    have HO6 := hide (HO5.out.keep (Fr.of_alloc w5 (Obj.cells #[.string kd, .slice da m dc] 44)) (fun _ _ h => h))
                    have hz1 : Hid (w1.heap.size ≤ (w5.alloc (Obj.cells #[.string kd, .slice da m dc] 44)).heap.size) := by
                      have := HF5.out.size
                      show _ ≤ _
                      simp; omega
                    have hl1 : Hid (ls.length ≤ 1000000) := by have := Hcnt.out; have := HP.out; show _ ≤ _; omega
                    clear hA hc70 hc71 hdat HO5 Hvd5
                    have b4 : Hid ((bs.drop (P + 4)).length = n - (P + 4)) := by show _ = _; rw [List.length_drop, Hn.out]
                    have hw0 : Hid (w.heap.size ≤ w1.heap.size) := HF1.out.size
                    by_cases hk : kd = sIend
                    · rw [decide_eq_true hk] at hbe
                      have HR := hide (HST.out.fin (by rw [hen]; exact decide_eq_true hk))
                      clear hen hk HST
                      by_cases h4 : P + 4 < n
                      · have HN : Hid (cutV bs = .error 4) := by show _ = _; rw [HG2.out.out, HR.out]; simp only []; rw [b4.out, if_pos (by omega)]
                        have d7 : decide ((P : Int) + 4 < (n : Int)) = true := by simp; omega
                        go_wp2_with (at_builtin; go_must (refine wpList_appC 44 28 Try.underlying28 Try.info44 rfl _ _ rfl w1.heap.size _ ls rfl HO6.out ⟨w5.heap.size, 0, none⟩ 1 rfl (kd, ds) da dc Hc70.out Hc71.out HDT.out hl1.out hz1.out ?_); intro v' w8 ho8 hf8)
                        have HF8 : Hid (Fr (fun _ => False) w1 w8) := by
                          refine ((HF5.out.join (Fr.of_alloc _ _)).trans hf8).mono fun i hi h => ?_
                          rcases h with h | h
                          · exact h
                          · have := (Hob3.out _ h).1
                            omega
                        obtain ⟨⟨va', vc', hv', _⟩, _⟩ := ho8.form
                        subst hv'
                        go_ret2
                        refine ⟨?_, HF1.out.join HF8.out⟩
                        unfold RCutOut
                        rw [HN.out]
                        rfl
                      · have HN : Hid (cutV bs = .ok (ls ++ [(kd, ds)])) := by show _ = _; rw [HG2.out.out, HR.out]; simp only []; rw [b4.out, if_neg (by omega)]
                        have d7 : decide ((P : Int) + 4 < (n : Int)) = false := by simp; omega
                        go_wp2_with (at_builtin; go_must (refine wpList_appC 44 28 Try.underlying28 Try.info44 rfl _ _ rfl w1.heap.size _ ls rfl HO6.out ⟨w5.heap.size, 0, none⟩ 1 rfl (kd, ds) da dc Hc70.out Hc71.out HDT.out hl1.out hz1.out ?_); intro v' w8 ho8 hf8)
                        have HF8 : Hid (Fr (fun _ => False) w1 w8) := by
                          refine ((HF5.out.join (Fr.of_alloc _ _)).trans hf8).mono fun i hi h => ?_
                          rcases h with h | h
                          · exact h
                          · have := (Hob3.out _ h).1
                            omega
                        obtain ⟨⟨va', vc', hv', _⟩, _⟩ := ho8.form
                        subst hv'
                        go_ret2
                        refine ⟨?_, HF1.out.join HF8.out⟩
                        unfold RCutOut
                        rw [HN.out]
                        exact ⟨_, rfl, ho8.base' _ hw0.out⟩
                    · rw [decide_eq_false hk] at hbe
                      have hen2 : endB (ls ++ [(kd, ds)]) = false := by rw [hen]; exact decide_eq_false hk
                      have Hen2 := hide hen2
                      clear hen hk hen2
                      go_wp2_with (at_builtin; go_must (refine wpList_appC 44 28 Try.underlying28 Try.info44 rfl _ _ rfl w1.heap.size _ ls rfl HO6.out ⟨w5.heap.size, 0, none⟩ 1 rfl (kd, ds) da dc Hc70.out Hc71.out HDT.out hl1.out hz1.out ?_); intro v' w8 ho8 hf8)
                      have HF8 : Hid (Fr (fun _ => False) w1 w8) := by
                        refine ((HF5.out.join (Fr.of_alloc _ _)).trans hf8).mono fun i hi h => ?_
                        rcases h with h | h
                        · exact h
                        · have := (Hob3.out _ h).1
                          omega
                      obtain ⟨⟨va', vc', hv', _⟩, _⟩ := ho8.form
                      subst hv'
                      go_roundw
                      case rel => exact ⟨ls ++ [(kd, ds)], P + 4, va', vc', by go_num, by omega, by omega, rfl, ho8, HST, Hen2.out, HF8.out, by rw [List.length_append]; simp only [List.length_cons, List.length_nil]; have := Hcnt.out; have := HP.out; omega⟩
                      case measure => simp [intOf]; have := HP.out; omega
                  · have HN : Hid (cutV bs = .error 5) := by
                      have h4 : firstE (bs.drop p) = 5 := by rw [HFE2.out, if_pos hsq]
                      show _ = _; rw [HG2.out, HC.out.err HE.out (by rw [h4]; decide), h4]
                    have hbs : ((sm : Int) == (sz : Int)) = false := by simp; omega
                    clear HFE2 hsq
                    go_wp2
                    go_ret2
                    refine ⟨?_, HF1.out.join HF5.out⟩
                    unfold RCutOut
                    rw [HN.out]
                    rfl
      · have HN : Hid (cutV bs = .error 4) := by show _ = _; unfold cutV startE; rw [if_neg h26, if_neg h8, if_neg he, if_pos (by decide)]
        rw [decide_eq_false (fun h => he (hsg.1 h))] at h3
        clear hl hcm h26 h8 hsg he
        generalize strOf (bs.take 8) = st at *
        generalize bs.length = n at *
        go_enter Try.func9, Try.ntmps9
        go_wp2_with fail
        go_quiet ((go_at_call 23; exact Calls.quiet_of_same (hsig _)))
        go_wp2
        go_ret2
        refine ⟨?_, Fr.of_drewN _ _⟩
        unfold RCutOut
        rw [HN.out]
        rfl
end Go.Proofs.Ytflapcaaaipoeaa
