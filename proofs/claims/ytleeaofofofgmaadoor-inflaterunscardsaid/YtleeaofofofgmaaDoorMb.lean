/-
  Contracts of reading a row's length and distance, a stored block's length.
-/
import Derived.Test.YtleeaofofofgmaaDoorMa
namespace Go.Proofs.YtleeaofofofgmaaDoor
open Go.RowKit

theorem xor_i64 (a b : Nat) (ha : a < 65536) (hb : b < 65536) : bits .xor .i64 (a : Int) (b : Int) = ((a ^^^ b : Nat) : Int) := by
  have e1 : (BitVec.ofInt 64 (a : Int)).toNat = a := by rw [BitVec.toNat_ofInt]; omega
  have e2 : (BitVec.ofInt 64 (b : Int)).toNat = b := by rw [BitVec.toNat_ofInt]; omega
  have e3 : (BitVec.ofInt 64 (a : Int) ^^^ BitVec.ofInt 64 (b : Int)).toNat = a ^^^ b := by
    rw [BitVec.toNat_xor, e1, e2]
  have e4 : bits .xor .i64 (a : Int) (b : Int) = IntKind.i64.wrap ((a ^^^ b : Nat) : Int) := by
    exact congrArg (fun n : Nat => IntKind.i64.wrap (n : Int)) e3
  have h : a ^^^ b < 2 ^ 16 := Nat.xor_lt_two_pow ha hb
  rw [e4, wrap_i64_id] <;> omega

theorem xor_all (a : Nat) (ha : a < 65536) : a ^^^ (65535 - a) = 65535 := by
  apply Nat.eq_of_testBit_eq
  intro i
  have h : 65535 - a = 2 ^ 16 - (a + 1) := by omega
  rw [Nat.testBit_xor, h, Nat.testBit_two_pow_sub_succ (by exact ha), show (65535 : Nat) = 2 ^ 16 - 1 from rfl, Nat.testBit_two_pow_sub_one]
  by_cases hi : i < 16
  · simp [hi]
  · have : a.testBit i = false := Nat.testBit_lt_two_pow (Nat.lt_of_lt_of_le ha (by exact Nat.pow_le_pow_right (by decide) (by omega) : 2 ^ 16 ≤ 2 ^ i))
    simp [hi, this]

theorem xor_iff (a b : Nat) (ha : a < 65536) : a ^^^ b = 65535 ↔ a + b = 65535 := by
  constructor
  · intro h
    have h2 := xor_all a ha
    have : b = 65535 - a := by
      have e : a ^^^ (a ^^^ b) = a ^^^ (a ^^^ (65535 - a)) := by rw [h, h2]
      rwa [← Nat.xor_assoc, ← Nat.xor_assoc, Nat.xor_self, Nat.zero_xor, Nat.zero_xor] at e
    omega
  · intro h
    rw [show b = 65535 - a by omega]
    exact xor_all a ha

set_option maxHeartbeats 1000000 in
theorem rlen_c (w : World) (lo R M B : Nat) (bs : List Nat) (p s : Nat) (h : Mi w lo R M B bs p) (hs : 257 ≤ s) (Q : Ending → World → Prop) (hQ : Reads (rlen s) lo R B bs p w Q) :
    Calls Tryd.prog 48 #[.pointer (some ⟨M, 0, none⟩), .int .i64 s] w Q := by
  have H := hide h
  have HQ := hide hQ
  clear h hQ
  by_cases h1 : 285 < s
  · have h1i : (285 : Int) < s := by omega
    go_enter Tryd.func48, Tryd.ntmps48
    go_wp2
    exact ⟨rfl, HQ.out.no 4 _ (by unfold rlen; rw [if_pos h1]; rfl) (Fr.refl _ _)⟩
  · by_cases h2 : s = 285
    · subst h2
      go_enter Tryd.func48, Tryd.ntmps48
      go_wp2
      exact HQ.out.ok 258 _ _ rfl H.out.rd (Fr.refl _ _)
    · have h1i : ¬ (285 : Int) < s := by omega
      have h2i : ¬ (s : Int) = 285 := by omega
      obtain ⟨i, hi⟩ : ∃ i, i = s - 257 := ⟨_, rfl⟩
      have hii : (s : Int) - 257 = (i : Int) := by omega
      have hib : i ≤ 29 := by omega
      have E : Hid (rlen s (leNum bs) (8 * bs.length) p = andThen (rung i 4) (fun x => ret (3 + x)) (leNum bs) (8 * bs.length) p) := by
        show rlen s (leNum bs) (8 * bs.length) p = _
        unfold rlen
        rw [if_neg h1, if_neg h2, hi]
      clear hi h1 h2
      go_enter Tryd.func48, Tryd.ntmps48
      go_wp2_with fail
      refine calls_args (rung4_c _ lo R M B bs p i H.out hib _ ⟨?ok1, ?no1⟩) rfl
      case no1 => (intro er w1 hx hF; exact ⟨rfl, HQ.out.no er w1 (E.out.trans (then_err hx)) hF⟩)
      intro x q w1 hx hR hF
      have hxb : x ≤ 1000000 := rung_le hib hx
      have Hx := hide hx
      have HR := hide hR
      have HF := hide hF
      clear hx hR hF
      go_wp2
      have := HQ.out.ok (3 + x) _ _ (E.out.trans (then_ok Hx.out)) HR.out HF.out
      simpa using this

theorem tkn_lt {n V L p x q : Nat} (h : tkn n V L p = .ok (x, q)) : x < 2 ^ n := by
  rw [(tkn_inv h).2.1]
  exact lowBits_lt _ _ _

set_option maxHeartbeats 1000000 in
theorem storedHead_c (w : World) (lo R M B : Nat) (bs : List Nat) (p : Nat) (h : Mi w lo R M B bs p) (Q : Ending → World → Prop) (hQ : Reads storedHead lo R B bs p w Q) :
    Calls Tryd.prog 51 #[.pointer (some ⟨M, 0, none⟩)] w Q := by
  have hp := h.ptr
  have H := hide h
  have HQ := hide hQ
  clear h hQ
  have E : Hid (storedHead (leNum bs) (8 * bs.length) p = andThen (tkn 16) (fun n => andThen (tkn 16) fun m => if n + m = 65535 then ret n else bad 4) (leNum bs) (8 * bs.length) ((p + 7) / 8 * 8)) := rfl
  go_enter Tryd.func51, Tryd.ntmps51
  go_wp2_with fail
  refine (align_c w lo R B bs p H.out.rd).mono ?_
  rintro e w1 ⟨rfl, hR1, hF1⟩
  have H1 := hide (H.out.next hR1 hF1)
  have HF1 := hide hF1
  have hp1 := H1.out.ptr
  clear hR1 hF1 hp
  generalize (p + 7) / 8 * 8 = p1 at *
  go_wp2_with fail
  refine calls_args (low_reads _ lo R B bs p1 16 H1.out.rd (by omega) _ ⟨?ok2, ?no2⟩) rfl
  case no2 => (intro er w2 hx hF; exact ⟨rfl, HQ.out.no er w2 (E.out.trans (then_err hx)) (HF1.out.join hF)⟩)
  intro n p2 w2 hx hR2 hF2
  have hn : n < 65536 := tkn_lt hx
  have E2 := hide (E.out.trans (then_ok hx))
  have H2 := hide (H1.out.next hR2 hF2)
  have HF2 := hide (HF1.out.join hF2)
  have hp2 := H2.out.ptr
  clear hx hR2 hF2 hp1
  go_wp2_with fail
  refine calls_args (low_reads _ lo R B bs p2 16 H2.out.rd (by omega) _ ⟨?ok3, ?no3⟩) rfl
  case no3 => (intro er w3 hx hF; exact ⟨rfl, HQ.out.no er w3 (E2.out.trans (then_err hx)) (HF2.out.join hF)⟩)
  intro m p3 w3 hx hR3 hF3
  have hm : m < 65536 := tkn_lt hx
  have E3 := hide (E2.out.trans (then_ok hx))
  have HR3 := hide hR3
  have HF3 := hide (HF2.out.join hF3)
  have hxor := xor_i64 n m hn hm
  obtain ⟨X, hX⟩ : ∃ X, X = n ^^^ m := ⟨_, rfl⟩
  rw [← hX] at hxor
  have Hiff : Hid (X = 65535 ↔ n + m = 65535) := by rw [hX]; exact xor_iff n m hn
  clear hx hR3 hF3 hp2 hX
  by_cases hq : X = 65535
  · have hqi : ((X : Int) == 65535) = true := by simp [hq]
    have hqj : (X : Int) = 65535 := by omega
    have E4 := E3.out
    rw [if_pos (Hiff.out.1 hq)] at E4
    have HE4 := hide E4
    clear E4 hq
    go_wp2
    exact HQ.out.ok n _ _ HE4.out HR3.out HF3.out
  · have hqi : ((X : Int) == 65535) = false := beq_false_of_ne (by omega)
    have hqj : ¬ (X : Int) = 65535 := by omega
    have E4 := E3.out
    rw [if_neg (fun h => hq (Hiff.out.2 h))] at E4
    have HE4 := hide E4
    clear E4 hq
    go_wp2
    exact ⟨rfl, HQ.out.no 4 _ HE4.out HF3.out⟩

set_option maxHeartbeats 1000000 in
theorem rdist_c (w : World) (lo R M B : Nat) (bs : List Nat) (p : Nat) (h : Mi w lo R M B bs p) (D clo chi : Nat) (dl : List Int) (hd : w.cell? ⟨M, 8, none⟩ = some (.pointer (some ⟨D, 0, none⟩))) (hC : Cd w clo chi D dl) (hRc : R ≤ clo)
    (oa : Option Addr) (o oc : Nat) (ho : w.cell? ⟨M, 11, none⟩ = some (.slice oa o oc)) (Q : Ending → World → Prop) (hQ : Reads (rdist dl o) lo R B bs p w Q) :
    Calls Tryd.prog 49 #[.pointer (some ⟨M, 0, none⟩)] w Q := by
  have hp := h.ptr
  have H := hide h
  have HC := hide hC
  have Hap : Hid (chi ≤ B ∨ B < clo) := Or.inr (by have := h.rd.ehi; omega)
  have HQ := hide hQ
  have Ho : Hid (∀ w', Fr (fun k => k = B) w w' → w'.cell? ⟨M, 11, none⟩ = some (.slice oa o oc)) := by
    intro w' hF
    rw [cell_blk (hF.block M (cell_lt ho) h.ne)]
    exact ho
  have Hp : Hid (∀ w', Fr (fun k => k = B) w w' → w'.cell? ⟨M, 0, none⟩ = some (.pointer (some ⟨B, 0, none⟩)) ∧ w'.cell? ⟨M, 8, none⟩ = some (.pointer (some ⟨D, 0, none⟩))) := by
    intro w' hF
    rw [cell_blk (a := ⟨M, 0, none⟩) (hF.block M (cell_lt hp) h.ne), cell_blk (a := ⟨M, 8, none⟩) (hF.block M (cell_lt hd) h.ne)]
    exact ⟨hp, hd⟩
  have E : Hid (rdist dl o (leNum bs) (8 * bs.length) p = andThen (tk dl) (fun s => if 30 ≤ s then bad 4 else andThen (rung s 2) fun x => if o < 1 + x then bad 4 else ret (1 + x)) (leNum bs) (8 * bs.length) p) := rfl
  clear h hC hQ ho hRc
  go_enter Tryd.func49, Tryd.ntmps49
  go_wp2_with fail
  refine wp_region_held_drew (S := fun w' => w'.cell? ⟨M, 0, none⟩ = some (.pointer (some ⟨B, 0, none⟩)) ∧ w'.cell? ⟨M, 8, none⟩ = some (.pointer (some ⟨D, 0, none⟩))) (by kernel_rfl) (by exact Hp.out _ (Fr.none _)) (fun hHeld => ?_)
  refine wpAnyH_take (i := 0) (v := ?v0) rfl (by kernel_rfl) (by kernel_rfl) (by kernel_rfl) (fun _ _ _ h => h) (Or.inl ⟨by rfl, ?hy0⟩) hHeld ?rest0
  case hy0 => (intro W hSw; (try dsimp only at hSw); obtain ⟨s1, s2⟩ := hSw; go_simp; all_goals (with_reducible rfl))
  change wpAnyH _ _ _ _ _ _ _ (Act.put _ (some 5) _) _
  simp only [Act.put, List.setIfInBounds_toArray, List.set_cons_zero, List.set_cons_succ]
  refine wpAnyH_take (i := 5) (v := ?v5) rfl (by kernel_rfl) (by kernel_rfl) (by kernel_rfl) (fun _ _ _ h => h) (Or.inl ⟨by rfl, ?hy5⟩) hHeld ?rest5
  case hy5 => (intro W hSw; (try dsimp only at hSw); obtain ⟨s1, s2⟩ := hSw; go_simp; all_goals (with_reducible rfl))
  change wpAnyH _ _ _ _ _ _ _ (Act.put _ (some 10) _) _
  simp only [Act.put, List.setIfInBounds_toArray, List.set_cons_zero, List.set_cons_succ]
  refine wpAnyH_take (i := 1) (v := ?v1) rfl (by kernel_rfl) (by kernel_rfl) (by kernel_rfl) (fun _ _ _ h => h) (Or.inl ⟨by rfl, ?hy1⟩) hHeld ?rest1
  case hy1 => (intro W hSw; (try dsimp only at hSw); obtain ⟨s1, s2⟩ := hSw; go_simp; all_goals (with_reducible rfl))
  change wpAnyH _ _ _ _ _ _ _ (Act.put _ (some 6) _) _
  simp only [Act.put, List.setIfInBounds_toArray, List.set_cons_zero, List.set_cons_succ]
  refine wpAnyH_take (i := 6) (v := ?v6) rfl (by kernel_rfl) (by kernel_rfl) (by kernel_rfl) (fun _ _ _ h => h) (Or.inl ⟨by rfl, ?hy6⟩) hHeld ?rest6
  case hy6 => (intro W hSw; (try dsimp only at hSw); obtain ⟨s1, s2⟩ := hSw; go_simp; all_goals (with_reducible rfl))
  change wpAnyH _ _ _ _ _ _ _ (Act.put _ (some 11) _) _
  simp only [Act.put, List.setIfInBounds_toArray, List.set_cons_zero, List.set_cons_succ]
  refine wpAnyH_take (i := 2) (v := ?v2) rfl (by kernel_rfl) (by kernel_rfl) (by kernel_rfl) (fun _ _ _ h => h) (Or.inl ⟨by rfl, ?hy2⟩) hHeld ?rest2
  case hy2 => (intro W hSw; (try dsimp only at hSw); obtain ⟨s1, s2⟩ := hSw; go_simp; all_goals (with_reducible rfl))
  change wpAnyH _ _ _ _ _ _ _ (Act.put _ (some 7) _) _
  simp only [Act.put, List.setIfInBounds_toArray, List.set_cons_zero, List.set_cons_succ]
  refine wpAnyH_take (i := 7) (v := ?v7) rfl (by kernel_rfl) (by kernel_rfl) (by kernel_rfl) (fun _ _ _ h => h) (Or.inl ⟨by rfl, ?hy7⟩) hHeld ?rest7
  case hy7 => (intro W hSw; (try dsimp only at hSw); obtain ⟨s1, s2⟩ := hSw; go_simp; all_goals (with_reducible rfl))
  change wpAnyH _ _ _ _ _ _ _ (Act.put _ (some 12) _) _
  simp only [Act.put, List.setIfInBounds_toArray, List.set_cons_zero, List.set_cons_succ]
  refine wpAnyH_take (i := 3) (v := ?v3) rfl (by kernel_rfl) (by kernel_rfl) (by kernel_rfl) (fun _ _ _ h => h) (Or.inl ⟨by rfl, ?hy3⟩) hHeld ?rest3
  case hy3 => (intro W hSw; (try dsimp only at hSw); obtain ⟨s1, s2⟩ := hSw; go_simp; all_goals (with_reducible rfl))
  change wpAnyH _ _ _ _ _ _ _ (Act.put _ (some 8) _) _
  simp only [Act.put, List.setIfInBounds_toArray, List.set_cons_zero, List.set_cons_succ]
  refine wpAnyH_take (i := 8) (v := ?v8) rfl (by kernel_rfl) (by kernel_rfl) (by kernel_rfl) (fun _ _ _ h => h) (Or.inl ⟨by rfl, ?hy8⟩) hHeld ?rest8
  case hy8 => (intro W hSw; (try dsimp only at hSw); obtain ⟨s1, s2⟩ := hSw; go_simp; all_goals (with_reducible rfl))
  change wpAnyH _ _ _ _ _ _ _ (Act.put _ (some 13) _) _
  simp only [Act.put, List.setIfInBounds_toArray, List.set_cons_zero, List.set_cons_succ]
  refine wpAnyH_take (i := 4) (v := ?v4) rfl (by kernel_rfl) (by kernel_rfl) (by kernel_rfl) (fun _ _ _ h => h) (Or.inl ⟨by rfl, ?hy4⟩) hHeld ?rest4
  case hy4 => (intro W hSw; (try dsimp only at hSw); obtain ⟨s1, s2⟩ := hSw; go_simp; all_goals (with_reducible rfl))
  change wpAnyH _ _ _ _ _ _ _ (Act.put _ (some 9) _) _
  simp only [Act.put, List.setIfInBounds_toArray, List.set_cons_zero, List.set_cons_succ]
  refine wpAnyH_ready (rs := [9]) (by kernel_rfl) (by simp) ?_
  refine AllReadyH.cons rfl (fun K hK => ?_) AllReadyH.nil
  try simp only [List.getElem_toArray, List.getElem_cons_succ, List.getElem_cons_zero]
  go_simp
  refine calls_args (take_E clo chi D lo R B dl bs p _ (HC.out.keep (Fr.none (S := fun _ => False) _) (fun _ _ _ h => h)) (H.out.call ⟨_, rfl⟩).rd Hap.out _ ⟨?ok4, ?no4⟩) rfl
  case no4 => (intro er w1 hx hF; exact ⟨rfl, HQ.out.no er w1 (E.out.trans (then_err hx)) ((Fr.none _).join hF)⟩)
  intro s q w1 hx hR hF
  have E1 := hide (E.out.trans (then_ok hx))
  have H1 := hide ((H.out.call ⟨_, rfl⟩).next hR hF)
  have HF1 := hide ((Fr.none (S := fun k => k = B) _).join hF)
  clear hx hR hF
  refine hK.out _ _ (Hp.out _ HF1.out) (fun hHeld => ?_)
  clear hK K
  refine wpAnyH_take (i := 10) (v := ?v10) rfl (by kernel_rfl) (by kernel_rfl) (by kernel_rfl) (fun _ _ _ h => h) (Or.inl ⟨by rfl, ?hy10⟩) hHeld ?rest10
  case hy10 => (intro W hSw; (try dsimp only at hSw); obtain ⟨s1, s2⟩ := hSw; go_simp; all_goals (with_reducible rfl))
  change wpAnyH _ _ _ _ _ _ _ (Act.put _ (some 3) _) _
  simp only [Act.put, List.setIfInBounds_toArray, List.set_cons_zero, List.set_cons_succ]
  refine wpAnyH_done (by kernel_rfl) ?_ _
  by_cases hs : 30 ≤ s
  · have hsi : (30 : Int) ≤ s := by omega
    have E2 := E1.out
    rw [if_pos hs] at E2
    have HE2 := hide E2
    clear E2 hs
    go_wp2
    exact ⟨rfl, HQ.out.no 4 _ HE2.out HF1.out⟩
  · have hsi : ¬ (30 : Int) ≤ s := by omega
    have E2 := E1.out
    rw [if_neg hs] at E2
    have HE2 := hide E2
    have hsb : s ≤ 29 := by omega
    clear E2 hs
    go_wp2_with fail
    refine calls_args (rung2_c _ lo R M B bs q s H1.out hsb _ ⟨?ok5, ?no5⟩) rfl
    case no5 => (intro er w2 hx hF; exact ⟨rfl, HQ.out.no er w2 (HE2.out.trans (then_err hx)) (HF1.out.join hF)⟩)
    intro x q2 w2 hx hR hF
    have hxb : x ≤ 1000000 := rung_le hsb hx
    have E3 := (HE2.out.trans (then_ok hx))
    have HR2 := hide hR
    have HF2 := hide (HF1.out.join hF)
    have ho2 := Ho.out _ HF2.out
    clear hx hR hF
    by_cases hq : o < 1 + x
    · have hqi : (o : Int) < 1 + x := by omega
      rw [if_pos hq] at E3
      have HE3 := hide E3
      clear E3 hq
      go_wp2
      exact ⟨rfl, HQ.out.no 4 _ HE3.out HF2.out⟩
    · have hqi : ¬ (o : Int) < 1 + x := by omega
      rw [if_neg hq] at E3
      have HE3 := hide E3
      clear E3 hq
      go_wp2
      have := HQ.out.ok (1 + x) _ _ HE3.out HR2.out HF2.out
      simpa using this

theorem rlen_le {s V L p n q : Nat} (h : rlen s V L p = .ok (n, q)) : 1 ≤ n ∧ n ≤ 1000003 := by
  unfold rlen at h
  split at h
  · cases h
  split at h
  · cases h; omega
  · obtain ⟨a, m, h1, h2⟩ := then_inv h
    have := rung_le (by omega) h1
    cases h2
    omega

theorem rdist_le {dl : List Int} {o V L p d q : Nat} (h : rdist dl o V L p = .ok (d, q)) : 1 ≤ d ∧ d ≤ o := by
  obtain ⟨s, m, h1, h2⟩ := then_inv h
  split at h2
  · cases h2
  · obtain ⟨x, m2, h3, h4⟩ := then_inv h2
    split at h4
    · cases h4
    · cases h4; omega

theorem storedHead_le {V L p n q : Nat} (h : storedHead V L p = .ok (n, q)) : n ≤ 65535 := by
  obtain ⟨_, m0, h1, h2⟩ := then_inv h
  obtain ⟨a, m1, h3, h4⟩ := then_inv h2
  obtain ⟨b, m2, h5, h6⟩ := then_inv h4
  split at h6
  · cases h6; omega
  · cases h6
end Go.Proofs.YtleeaofofofgmaaDoor
