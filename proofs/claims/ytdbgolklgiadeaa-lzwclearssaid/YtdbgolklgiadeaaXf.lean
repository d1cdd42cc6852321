/-
  lzw: the document's Unblock.
-/
import Derived.Test.YtdbgolklgiadeaaXe
namespace Go.Proofs.Ytdbgolklgiadeaa
open Go.RowKit

set_option maxHeartbeats 3200000 in
set_option maxRecDepth 100000 in
theorem runblock_c (a : Option Addr) (c : Nat) (bs : List Nat) (w : World) (h : Lies w (.slice a bs.length c) bs) (hb : ∀ b ∈ bs, b < 256) (hlen : bs.length ≤ 1000000) (hc : bs.length ≤ c) :
    Calls Try.prog 24 #[.slice a bs.length c] w (Ubd w bs) := by
  have H := hide h
  have Hb := hide hb
  obtain ⟨N, hN⟩ : ∃ N, N = bs.length := ⟨_, rfl⟩
  have HN := hide hN
  rw [← hN] at hlen hc ⊢
  clear h hb hN
  go_enter Try.func24, Try.ntmps24
  go_wp2_with fail
  go_loopw [5, 6, 7] (fun tv ti _ wr => ∃ (p : Nat) (o : List Nat) (oa : Option Addr) (oc : Nat), ti = .int .i64 (p : Int) ∧ p ≤ N ∧ tv = .slice oa o.length oc ∧ Hid (OwnB wr w.heap.size (.slice oa o.length oc) o) ∧ Hid (∀ b ∈ o, b < 256) ∧ o.length ≤ p ∧ Hid (∀ r, Ub bs p o r → Ub bs 0 [] r) ∧ Hid (Fr (fun _ => False) w wr)) (fun _ ti _ _ => N - (intOf ti).toNat)
  case atStart => exact ⟨0, [], none, 0, rfl, Nat.zero_le _, rfl, World.ownsRow_nil _ _ _ _, (fun b hb => by cases hb), Nat.zero_le _, fun r h => h, Fr.refl _ _⟩
  case round =>
    obtain ⟨p, o, oa, oc, rfl, hp, rfl, HO, HOb, hol, HR, HF⟩ := hrel
    by_cases hlt : p < N
    · have hlti : (p : Int) < (N : Int) := by omega
      obtain ⟨ad, rfl, hcp⟩ := (Lz.of (lies_false H.out HF.out) Hb.out).2 p (by rw [← HN.out]; exact hlt)
      have hb8 : bs.getD p 0 < 256 := Hb.out _ (getD_mem bs p (by rw [← HN.out]; exact hlt))
      obtain ⟨n, hn⟩ : ∃ n, n = bs.getD p 0 := ⟨_, rfl⟩
      rw [← hn] at hcp hb8
      have Hn := hide hn
      have hltn : p < bs.length := by rw [← HN.out]; exact hlt
      have hge : ¬ (N : Int) ≤ (p : Int) := by omega
      by_cases h0 : n = 0
      · subst h0
        have hz : ¬ (N : Int) - (p : Int) - 1 < 0 := by omega
        have HU := hide (HR.out _ (.fin hltn Hn.out.symm))
        clear hn
        go_wp2_with fail
        go_ret3
        exact ⟨_, oa, oc, HU.out, rfl, lies_own HO.out, HOb.out, HF.out⟩
      · have h0i : ¬ (n : Int) = 0 := by omega
        have h0b : ((n : Int) == 0) = false := by rw [beq_eq_false_iff_ne]; exact h0i
        by_cases hs : N < p + 1 + n
        · have hsi : (N : Int) - (p : Int) - 1 < (n : Int) := by omega
          have HU := hide (HR.out _ (.short hltn (by rw [← Hn.out]; exact h0) (by rw [← Hn.out, ← HN.out]; exact hs)))
          clear hn
          go_wp2_with fail
          go_ret3
          exact ⟨_, none, 0, HU.out, rfl, Or.inl ⟨rfl, rfl⟩, (fun b hb => by cases hb), HF.out⟩
        · have hsi : ¬ (N : Int) - (p : Int) - 1 < (n : Int) := by omega
          have hcp1 : ¬ c = p + 1 := by omega
          have hpn : p + 1 + n ≤ c := by omega
          have hpni : (p : Int) + 1 + (n : Int) ≤ (c : Int) := by omega
          have hpp : (p : Int) + 1 ≤ (p : Int) + 1 + (n : Int) := by omega
          obtain ⟨T, hT⟩ : ∃ T, T = (bs.drop (p + 1)).take n := ⟨_, rfl⟩
          have HTl : Hid (T.length = n) := by show _ = _; rw [hT, List.length_take, List.length_drop, ← HN.out]; omega
          have HTw : Hid (Lies wr (.slice (some ⟨ad.block, ad.off + (p + 1), none⟩) (p + 1 + n - (p + 1)) (c - (p + 1))) T) := by rw [hT, show p + 1 + n - (p + 1) = n by omega]; exact mid_lies (lies_false H.out HF.out) (p + 1) n _ (by rw [← HN.out]; omega)
          have HTb : Hid (∀ b ∈ o ++ T, b < 256) := fun b hb => by
            rcases List.mem_append.1 hb with h | h
            · exact HOb.out b h
            · rw [hT] at h; exact Hb.out b (List.mem_of_mem_drop (List.mem_of_mem_take h))
          have HRn : Hid (∀ r, Ub bs (p + 1 + n) (o ++ T) r → Ub bs 0 [] r) := fun r hr => HR.out r (.go hltn (by rw [← Hn.out]; exact h0) (by rw [← Hn.out, ← HN.out]; omega) (by rw [← Hn.out, ← hT]; exact hr))
          have HQ : Hid (o.length + T.length ≤ 2147483648) := by show _ ≤ _; rw [HTl.out]; omega
          have HS := hide HF.out.size
          clear hT hn
          go_upto_region 9 with (at_builtin; go_must (refine wpList_app rfl (.tmp 35) (.tmp 43) rfl w.heap.size (.slice oa o.length oc) o rfl HO.out (.slice (some ⟨ad.block, ad.off + (p + 1), none⟩) (p + 1 + n - (p + 1)) (c - (p + 1))) T rfl HTw.out HQ.out HS.out ?_); intro a2 c2 w2 hO2 hF2 _
                                 have HF2 := hide (frJ HF.out hF2 fun j hj => (World.ownsRow.lt HO.out j hj).1)
                                 have HO2 := hide hO2
                                 clear hO2 hF2)
          have HO2b : Hid (OwnB w2 w.heap.size (.slice a2 (o ++ T).length c2) (o ++ T)) := by
            have h := HO2.out
            rw [← List.length_append] at h
            exact h
          have hlo : o.length + T.length = (o ++ T).length := by rw [List.length_append]
          have Hlo := hide hlo
          clear hlo HO2
          go_wp2_with fail
          go_roundw
          case rel => exact ⟨p + 1 + n, o ++ T, a2, c2, by go_num, by omega, by rw [Hlo.out], HO2b.out, HTb.out, by rw [← Hlo.out, HTl.out]; omega, HRn.out, HF2.out⟩
          case measure => simp [intOf]; omega
    · have HU := hide (HR.out _ (.out (by rw [← HN.out]; omega)))
      have hlti : (N : Int) ≤ (p : Int) := by omega
      go_wp2_with fail
      go_ret3
      exact ⟨_, none, 0, HU.out, rfl, Or.inl ⟨rfl, rfl⟩, (fun b hb => by cases hb), HF.out⟩
end Go.Proofs.Ytdbgolklgiadeaa
