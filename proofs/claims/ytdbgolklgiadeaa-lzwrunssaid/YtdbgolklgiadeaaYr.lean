/-
  lzw: LzwBack.
-/
import Derived.Test.YtdbgolklgiadeaaYp
namespace Go.Proofs.Ytdbgolklgiadeaa
open Go.RowKit

theorem IsRow.capY {k : IntKind} {w : World} {a : Option Addr} {len cap : Nat} {zs : List Int} (h : IsRow k w a len cap zs) : len ≤ cap := by
  rcases h with ⟨_, rfl, rfl, _⟩ | ⟨x, _, hl, _⟩
  · exact Nat.le_refl _
  · exact hl

theorem write_at (a : Option Addr) (c : Nat) (bs : List Nat) (k : Nat) (w : World) (hk : 2 ≤ k ∧ k ≤ 8) (h : Lies w (.slice a bs.length c) bs) (hb : ∀ b ∈ bs, b < 256) (hbk : ∀ b ∈ bs, b < 2 ^ k) (hlen : bs.length ≤ 1048576) :
    Calls Try.prog 19 #[.slice a bs.length c, .int .i64 (k : Int)] w fun e w' => ∃ Z az cz, e = .returned (.tuple #[.slice az Z.length cz, .int .i64 0]) ∧ Lies w' (.slice az Z.length cz) Z ∧ (∀ b ∈ Z, b < 256) ∧ Z.length ≤ 2 * bs.length + bs.length / 4 + 16 ∧ ReadOk Z (k : Int) (bs.length : Int) (.ok bs) ∧ Fr (fun _ => False) w w' :=
  (write_c a c bs k w hk h hb hbk hlen).mono fun e w' ⟨Z, az, cz, h1, h2, h3, h4, h5, h6⟩ => ⟨Z, az, cz, h1, lies_ownB h2, h3, h4, Or.inr ⟨by omega, by omega, by omega, by
    have e1 : (k : Int).toNat = k := by omega
    have e2 : (bs.length : Int).toNat = bs.length := by omega
    rw [e1, e2]
    exact h5 _ (Nat.le_refl _)⟩, h6⟩

set_option maxHeartbeats 6400000 in
set_option maxRecDepth 100000 in
/-- LzwBack. -/
theorem back_c (a : Option Addr) (n c : Nat) (bs : List Nat) (sz : Int) (m : Nat) (w : World) (hn : n = bs.length) (h : Lies w (.slice a n c) bs) (hlt : ∀ b ∈ bs, b < 256) (hm : m < 65536) :
    Calls Try.prog 5 #[.slice a n c, .int .i64 sz, .int .u16 (m : Int)] w fun e w' => e = .returned (.bool true) ∧ Fr (fun _ => False) w w' := by
  have HL := hide h
  have Hlt := hide hlt
  have Hn := hide hn
  have HLz := hide (Lz.of h hlt)
  obtain ⟨q, hq⟩ : ∃ q, q = m % 200 := ⟨_, rfl⟩
  have hq2 : q < 200 := by omega
  have hmq : (m : Int).tmod 200 = (q : Int) := by rw [Int.tmod_eq_emod_of_nonneg (by omega), hq]; simp
  have hmw : IntKind.i64.wrap (m : Int) = (m : Int) := wrap_i64_id _ (by omega) (by omega)
  clear h hlt hn hq
  go_enter Try.func5, Try.ntmps5
  go_wp2_with fail
  refine (awake_c w).mono ?_
  rintro e w0 ⟨rfl, hF0⟩
  have HF0 := hide hF0
  clear hF0
  by_cases hbig : 300 < n
  · have hbi : (300 : Int) < n := by omega
    go_wp2
    go_ret
    exact ⟨rfl, HF0.out⟩
  have hbi : ¬ (300 : Int) < n := by omega
  go_wp2_with fail
  go_loopw [7, 8] (fun v7 v8 wr => ∃ (all : List Nat) (oa : Option Addr) (oc j : Nat), v7 = .slice oa all.length oc ∧ v8 = .int .i64 (j : Int) ∧ j ≤ 200 ∧ all.length ≤ 30300 ∧ (j = 0 → all = []) ∧ Hid (OwnB wr w0.heap.size (.slice oa all.length oc) all) ∧ Hid ((∀ x ∈ all, x ∈ bs) ∧ (0 < j → ∀ x ∈ bs, x ∈ all)) ∧ Hid (Fr (fun _ => False) w0 wr)) (fun _ v8 _ => 200 - (intOf v8).toNat)
  case atStart => exact ⟨[], none, 0, 0, rfl, rfl, by omega, by simp, fun _ => rfl, World.ownsRow_nil _ _ _ _, ⟨(fun x hx => by cases hx), fun h => by omega⟩, Fr.refl _ _⟩
  case round =>
    obtain ⟨all, oa, oc, j, rfl, rfl, hj, hal, hj0, HO, HM, HF⟩ := hrel
    have hgo : j < 1 + q ∧ all.length < 30000 ∨ ¬ (j < 1 + q ∧ all.length < 30000) := Classical.em _
    rcases hgo with ⟨hg1, hg2⟩ | hgo
    · have hi1 : (j : Int) < 1 + (q : Int) := by omega
      have hi2 : (all.length : Int) < 30000 := by omega
      have HLr : Hid (Lies wr (.slice a n c) bs) := lies_false HL.out (HF0.out.join HF.out)
      have hqa : Hid (all.length + bs.length ≤ 2147483648) := by show _ ≤ _; have := Hn.out; omega
      have hsr : Hid (w0.heap.size ≤ wr.heap.size) := HF.out.size
      clear hj0
      go_wp2_with (at_builtin; go_must (refine wpList_app rfl (.tmp 35) (.tmp 36) rfl w0.heap.size (.slice oa all.length oc) all rfl HO.out (.slice a n c) bs rfl HLr.out hqa.out hsr.out ?_); intro a2 c2 w2 hO2 hF2 _
                   have HO2 := hide hO2
                   have HF2 := hide (frJ HF.out hF2 fun j hj => (World.ownsRow.lt HO.out j hj).1)
                   clear hO2 hF2)
      go_roundw
      case rel =>
        refine ⟨all ++ bs, a2, c2, j + 1, by rw [List.length_append], by go_num, by omega, by rw [List.length_append]; have := Hn.out; omega, fun e => by omega, ?_, ⟨fun x hx => ?_, fun _ x hx => List.mem_append_right _ hx⟩, HF2.out⟩
        · have h := HO2.out
          rw [← List.length_append] at h
          exact h
        · rcases List.mem_append.1 hx with hx | hx
          · exact HM.out.1 x hx
          · exact hx
      case measure => simp [intOf]; omega
    · have hj1 : 0 < j := by
        rcases Nat.eq_zero_or_pos j with h | h
        · exfalso
          subst h
          exact hgo ⟨by omega, by rw [hj0 rfl]; simp⟩
        · exact h
      have hall : ∀ b ∈ all, b < 256 := fun b hb => Hlt.out b (HM.out.1 b hb)
      have Hall := hide hall
      have HMall := hide (HM.out.2 hj1)
      have hstop : Hid (¬ (j : Int) < 1 + (q : Int) ∨ ((j : Int) < 1 + (q : Int) ∧ decide ((all.length : Int) < 30000) = false)) := by
        show _ ∨ _
        by_cases h1 : j < 1 + q
        · exact Or.inr ⟨by omega, decide_eq_false (by omega)⟩
        · exact Or.inl (by omega)
      have HFr := hide (HF0.out.join HF.out)
      have HOr := hide (own_monoZ HO.out HF0.out.size)
      clear hall hj0 hgo
      have Hall30 : Hid (all.length ≤ 30300) := hal
      obtain ⟨N, hN⟩ : ∃ N, N = all.length := ⟨_, rfl⟩
      rw [← hN] at hstop ⊢
      have hN30 : N ≤ 30300 := by omega
      have HN := hide hN
      clear hN hal
      by_cases hsz : sz < 2 ∨ 8 < sz
      · have HWr := hide (write_size oa N oc sz wr hsz)
        by_cases h2 : (2 : Int) ≤ sz
        · have h8 : ¬ sz ≤ 8 := by omega
          clear hsz
          rcases hstop.out with hst | ⟨hst, hst2⟩
          all_goals
            go_wp2_with fail
            go_loop [9, 10] (fun v9 v10 => v9 = .bool false ∧ v10 = .int .i64 0) (fun _ _ => 0)
            case atStart => exact ⟨rfl, rfl⟩
            case round =>
              obtain ⟨rfl, rfl⟩ := hrel
              by_cases hn0 : 0 < n
              · have hn1 : (0 : Int) < (n : Int) := by omega
                go_wp2_with fail
                refine HWr.out.mono ?_
                rintro e w2 ⟨rfl, rfl⟩
                go_wp2
                go_ret
                exact ⟨rfl, HFr.out⟩
              · have hn1 : n = 0 := by omega
                subst hn1
                go_wp2_with fail
                refine HWr.out.mono ?_
                rintro e w2 ⟨rfl, rfl⟩
                go_wp2
                go_ret
                exact ⟨rfl, HFr.out⟩
        · clear hsz
          rcases hstop.out with hst | ⟨hst, hst2⟩
          all_goals
            go_wp2_with fail
            go_loop [9, 10] (fun v9 v10 => v9 = .bool false ∧ v10 = .int .i64 0) (fun _ _ => 0)
            case atStart => exact ⟨rfl, rfl⟩
            case round =>
              obtain ⟨rfl, rfl⟩ := hrel
              by_cases hn0 : 0 < n
              · have hn1 : (0 : Int) < (n : Int) := by omega
                go_wp2_with fail
                refine HWr.out.mono ?_
                rintro e w2 ⟨rfl, rfl⟩
                go_wp2
                go_ret
                exact ⟨rfl, HFr.out⟩
              · have hn1 : n = 0 := by omega
                subst hn1
                go_wp2_with fail
                refine HWr.out.mono ?_
                rintro e w2 ⟨rfl, rfl⟩
                go_wp2
                go_ret
                exact ⟨rfl, HFr.out⟩
      obtain ⟨k, rfl⟩ : ∃ k : Nat, sz = (k : Int) := ⟨sz.toNat, by omega⟩
      have hk : 2 ≤ k ∧ k ≤ 8 := by omega
      obtain ⟨P, hP⟩ : ∃ P, P = 2 ^ k := ⟨_, rfl⟩
      have hPi : (2 : Int) ^ k = (P : Int) := by rw [hP]; simp
      have hPb : P ≤ 256 := by rw [hP]; exact pow_le k hk.2
      have hwk : IntKind.u64.wrap (k : Int) = (k : Int) := by show (k : Int) % 18446744073709551616 = k; omega
      have HP := hide hP
      have hka : (2 : Int) ≤ (k : Int) := by omega
      have hkb : (k : Int) ≤ 8 := by omega
      clear hP hsz
      rcases hstop.out with hst | ⟨hst, hst2⟩
      all_goals
        go_wp2_with fail
        go_loop [9, 10] (fun v9 v10 => ∃ (fl : Bool) (i : Nat), v9 = .bool fl ∧ v10 = .int .i64 (i : Int) ∧ i ≤ n ∧ Hid ((fl = true → ∀ x ∈ bs.take i, x < P) ∧ (fl = false → ∃ x ∈ bs, ¬ x < P))) (fun _ v10 => n - (intOf v10).toNat)
        case atStart => exact ⟨true, 0, rfl, rfl, Nat.zero_le _, ⟨(fun _ x hx => by simp at hx), fun e => by cases e⟩⟩
        case round =>
          obtain ⟨fl, i, rfl, rfl, hi, HFl⟩ := hrel
          cases fl with
          | false =>
            have hno : ¬ ∀ b ∈ all, b < 2 ^ k := by
              obtain ⟨x, hx, hxp⟩ := HFl.out.2 rfl
              intro hh
              exact hxp (by rw [HP.out]; exact hh x (HMall.out x hx))
            have HWr := hide (write_great oa oc all k wr hk (lies_ownB HOr.out) Hall.out (by have := Hall30.out; omega) hno)
            rw [← HN.out] at HWr
            clear hno
            by_cases hin : (i : Int) < (n : Int)
            all_goals
              go_wp2_with fail
              refine HWr.out.mono ?_
              rintro e w2 ⟨rfl, rfl⟩
              go_wp2
              go_ret
              exact ⟨rfl, HFr.out⟩
          | true =>
            by_cases hin : i < n
            · have hini : (i : Int) < (n : Int) := by omega
              have hib : i < bs.length := by have := Hn.out; omega
              obtain ⟨ad, rfl, hcell⟩ := ((HLz.out.fr HF0.out).fr HF.out).2 i hib
              have hx8 : bs.getD i 0 < 256 := Hlt.out _ (getD_mem bs i hib)
              have htk := getD_take_succ bs i hib
              have hmem := getD_mem bs i hib
              obtain ⟨x, hx⟩ : ∃ x, x = bs.getD i 0 := ⟨_, rfl⟩
              rw [← hx] at hcell hx8 htk hmem
              have q1 : IntKind.i64.wrap (x : Int) = (x : Int) := wrap_i64_id _ (by omega) (by omega)
              have Htk := hide htk
              have Hmem := hide hmem
              clear hx htk hmem
              by_cases hxP : x < P
              · have hxPi : (x : Int) < (P : Int) := by omega
                go_wp2_with fail
                go_round
                case rel =>
                  refine ⟨true, i + 1, rfl, by go_num, by omega, ⟨fun _ y hy => ?_, fun e => by cases e⟩⟩
                  rw [Htk.out] at hy
                  rcases List.mem_append.1 hy with hy | hy
                  · exact HFl.out.1 rfl y hy
                  · simp only [List.mem_singleton] at hy
                    rw [hy]; exact hxP
                case measure => simp [intOf]; omega
              · have hxPi : ¬ (x : Int) < (P : Int) := by omega
                go_wp2_with fail
                go_round
                case rel => exact ⟨false, i + 1, rfl, by go_num, by omega, ⟨(fun e => by cases e), fun _ => ⟨x, Hmem.out, hxP⟩⟩⟩
                case measure => simp [intOf]; omega
            · have hini : ¬ (i : Int) < (n : Int) := by omega
              have hbk : ∀ b ∈ all, b < 2 ^ k := fun b hb => by
                have := HFl.out.1 rfl b (by rw [List.take_of_length_le (by have := Hn.out; omega)]; exact HM.out.1 b hb)
                rw [HP.out] at this
                exact this
              have HWr := hide (write_at oa oc all k wr hk (lies_ownB HOr.out) Hall.out hbk (by have := Hall30.out; omega))
              rw [← HN.out] at HWr
              clear hbk
              go_wp2_with fail
              refine HWr.out.mono ?_
              rintro e w2 ⟨Z, za, zc, rfl, hLZ, hZb, hZl, hR, hF2⟩
              have HLZ := hide hLZ
              have HZb := hide hZb
              have HR := hide hR
              have HF2 := hide (HFr.out.join hF2)
              have HF12 := hide hF2
              have hZl2 : Z.length ≤ 70000 := by omega
              have HRr := hide (rread_at (.slice za Z.length zc) Z (k : Int) (N : Int) w2 hLZ hZb (by omega) (by omega))
              clear hLZ hZb hR hF2 HWr
              go_wp2_with fail
              refine HRr.out.mono ?_
              rintro e w3 ⟨r3, xa, xc, h3, rfl, hLx, hF3⟩
              obtain rfl := h3.det HR.out
              have HLx := hide hLx
              have HF3 := hide (HF2.out.join hF3)
              have HF23 := hide hF3
              have HRp := hide (read_at (.slice za Z.length zc) Z (k : Int) (N : Int) w3 (lies_false HLZ.out hF3) HZb.out (by omega) (by omega))
              simp only [outZ, errZ, ← HN.out] at HLx ⊢
              clear h3 hLx hF3 HRr
              go_wp2_with fail
              refine HRp.out.mono ?_
              rintro e w4 ⟨r4, ya, yc, h4, rfl, hLy, hF4⟩
              obtain rfl := h4.det HR.out
              have HF4 := hide (HF3.out.join hF4)
              simp only [outZ, errZ, ← HN.out] at hLy ⊢
              have s1 := str_lies (lies_false HLx.out hF4) Hall.out
              have s2 := str_lies hLy Hall.out
              have s3 := str_lies (lies_false (sv := .slice oa N oc) (by rw [HN.out]; exact lies_ownB HOr.out) (HF12.out.join (HF23.out.join hF4))) Hall.out
              
              have HMo := hide (mostL_c N w4 (by omega))
              have hZli : (Z.length : Int) ≤ ((2 * N + N / 4 + 16 : Nat) : Int) := by omega
              obtain ⟨N2, hN2⟩ : ∃ N2 : Nat, N2 = 2 * N + N / 4 + 16 := ⟨_, rfl⟩
              rw [← hN2] at HMo hZli
              have hNe : (2 * (N : Int) + (N : Int) / 4 + 16 == (N2 : Int)) = true := by rw [beq_iff_eq]; omega
              have hNe2 : ((N2 : Int) == 2 * (N : Int) + (N : Int) / 4 + 16) = true := by rw [beq_iff_eq]; omega
              clear h4 hLy hF4 hN2 HRp
              go_wp2_with fail
              refine HMo.out.mono ?_
              rintro e w5 ⟨rfl, rfl⟩
              go_wp2_with fail
              refine HMo.out.mono ?_
              rintro e w5 ⟨rfl, rfl⟩
              go_wp2
              go_ret
              exact ⟨rfl, HF4.out⟩
end Go.Proofs.Ytdbgolklgiadeaa
