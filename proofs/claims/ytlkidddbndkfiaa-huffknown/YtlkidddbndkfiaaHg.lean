/-
  The document's own code: Word.
-/
import Derived.Test.YtlkidddbndkfiaaHf
namespace Go.Proofs.Ytlkidddbndkfiaa
open Go.RowKit

theorem own_cellI {w : World} {lo n : Nat} {a : Option Addr} {c : Nat} {xs : List Nat} (h : w.ownsRow lo 3 1 (.slice a n c) n (cellsI xs)) {j x : Nat} (hx : xs[j]? = some x) : ∃ ad, a = some ad ∧ w.cell? (ad.add j) = some (.int .i64 (x : Int)) := by
  rcases h.2 with ⟨hv, e0⟩ | ⟨g, cap, cur, hv, hg, hh, hr⟩
  · have hl := h.1
    have hj := (List.getElem?_eq_some_iff.1 hx).1
    simp [cellsI] at hl
    omega
  · cases hv
    refine ⟨⟨g, 0, none⟩, rfl, ?_⟩
    refine h.cells (g := g) rfl j _ ?_
    simp [cellsI, hx]
theorem own_cellZ {w : World} {lo n : Nat} {a : Option Addr} {c : Nat} {zs : List Int} (h : w.ownsRow lo 3 1 (.slice a n c) n (cellsZ zs)) {j : Nat} (hj : j < zs.length) : ∃ ad, a = some ad ∧ w.cell? (ad.add j) = some (.int .i64 (at0 zs j)) := by
  rcases h.2 with ⟨hv, e0⟩ | ⟨g, cap, cur, hv, hg, hh, hr⟩
  · have hl := h.1
    simp [cellsZ] at hl
    omega
  · cases hv
    refine ⟨⟨g, 0, none⟩, rfl, ?_⟩
    refine h.cells (g := g) rfl j _ ?_
    simp [cellsZ, at0, List.getElem?_eq_getElem hj]

set_option maxHeartbeats 400000 in
theorem rword_none (lo hi B : Nat) (i : Int) (ls : List Int) (w : World) (h : Rc w lo hi B ls) (hi : (i < 0 ∨ (ls.length : Int) ≤ i) ∨ (0 ≤ i ∧ at0 ls i.toNat = 0)) :
    Calls Try.prog 13 #[.pointer (some ⟨B, 0, none⟩), .int .i64 i] w fun e w' => e = .returned (.tuple #[.int .i64 0, .int .i64 0, .bool false]) ∧ w = w' := by
  obtain ⟨sv, lv, h1, h2, h3, h4, h5⟩ := h.eobj
  obtain ⟨la, lc, rfl⟩ := ownsRow_shape h4
  have hc0 := h1.cell17
  have h320 := h.egood.1
  have H4 := hide h4
  clear h h1 h2 h3 h4 h5
  by_cases hneg : i < 0
  · go_enter Try.func13, Try.ntmps13
    go_wp2
    go_ret3
    exact ⟨rfl, rfl⟩
  · by_cases hbig : (ls.length : Int) ≤ i
    · go_enter Try.func13, Try.ntmps13
      go_wp2
      go_ret3
      exact ⟨rfl, rfl⟩
    · obtain ⟨k, rfl⟩ : ∃ k : Nat, i = (k : Int) := ⟨i.toNat, by omega⟩
      have hk : k < ls.length := by omega
      have hz : at0 ls k = 0 := by
        rcases hi with hi | hi
        · omega
        · simpa using hi.2
      obtain ⟨ad, rfl, hc⟩ := own_cellZ H4.out hk
      rw [hz] at hc
      clear hi hz
      go_enter Try.func13, Try.ntmps13
      go_wp2
      go_ret3
      exact ⟨rfl, rfl⟩

set_option maxHeartbeats 1600000 in
set_option maxRecDepth 100000 in
theorem rword_in (lo hi B i : Nat) (ls : List Int) (w : World) (h : Rc w lo hi B ls) (hi : i < ls.length) (hz : 1 ≤ at0 ls i) :
    Calls Try.prog 13 #[.pointer (some ⟨B, 0, none⟩), .int .i64 (i : Int)] w fun e w' => e = .returned (.tuple #[.int .i64 (wd ls i : Nat), .int .i64 (at0 ls i), .bool true]) ∧ w = w' := by
  obtain ⟨sv, lv, h1, h2, h3, h4, h5⟩ := h.eobj
  obtain ⟨la, lc, rfl⟩ := ownsRow_shape h4
  obtain ⟨sa, sc, rfl⟩ := ownsRow_shape h2
  have hgd := h.egood
  obtain ⟨L, hL⟩ : ∃ L : Nat, at0 ls i = (L : Int) := ⟨(at0 ls i).toNat, by omega⟩
  have hL15 : L ≤ 15 := by have := (hgd.2 i hi).2; omega
  have hL1 : 1 ≤ L := by omega
  have hwd : wd ls i = 2 * nx ls (L - 1) + rank ls L i := by unfold wd; rw [hL]; rfl
  have hrk : rank ls L i < cnt ls L := rank_lt ls L hi hL
  rw [hL, hwd]
  obtain ⟨ad, rfl, hcl⟩ := own_cellZ h4 hi
  rw [hL] at hcl
  have hc17 := h1.cell17
  have hc16 := h1.cell16
  have h320 := hgd.1
  have hLne : ((L : Int) == 0) = false := beq_false_of_ne (by omega)
  have H1 := hide h1
  have H2 := hide h2
  have HL := hide hL
  clear h h1 h2 h3 h4 h5 hz hL hwd
  go_enter Try.func13, Try.ntmps13
  go_wp2
  go_loop [7, 8, 9, 10] (fun wv av nv _ => ∃ m s : Nat, m < L ∧ Hid (s = m + 1) ∧ nv = .int .i64 (s : Int) ∧ wv = .int .i64 (nx ls m : Nat) ∧ av = .int .i64 (tot ls m : Nat)) (fun _ _ nv _ => 16 - (intOf nv).toNat)
  case atStart => exact ⟨0, 1, by omega, rfl, rfl, rfl, rfl⟩
  case round =>
    obtain ⟨m, s, hm, Hs, rfl, rfl, rfl⟩ := hrel
    have hs15 : (s : Int) ≤ 15 := by have := Hs.out; omega
    have hs15' : decide ((s : Int) ≤ 15) = true := decide_eq_true hs15
    have hs16 : (s : Int) < 16 := by omega
    have hcn := H1.out.cell (i := s) (by have := Hs.out; omega) (by have := Hs.out; omega)
    have hnb := nx_bound ls h320 (n := m) (by omega)
    have htb := tot_le ls m
    have hcb := cnt_le ls s
    go_wp2
    go_loop [7, 8, 10] (fun wv av kv => ∃ k : Nat, k ≤ cnt ls s ∧ kv = .int .i64 (k : Int) ∧ wv = .int .i64 ((2 * nx ls m + k : Nat) : Int) ∧ av = .int .i64 ((tot ls m + k : Nat) : Int) ∧ Hid (s = L → k ≤ rank ls L i)) (fun _ _ kv => cnt ls s - (intOf kv).toNat)
    case atStart => exact ⟨0, Nat.zero_le _, rfl, by simp; omega, by simp, fun _ => Nat.zero_le _⟩
    case round =>
      obtain ⟨k, hk, rfl, rfl, rfl, Hk⟩ := hrel
      by_cases hlt : k < cnt ls s
      · obtain ⟨y, hy⟩ : ∃ y, (syms ls s ls.length)[k]? = some y := ⟨_, List.getElem?_eq_getElem (by rw [syms_length]; exact hlt)⟩
        have hy2 := (syms_idx ls s ls.length k y).1 hy
        have hat : (rkd ls 15)[tot ls m + k]? = some y := by
          have hs := Hs.out
          subst hs
          rw [rkd_at ls (by omega) hlt]
          exact hy
        obtain ⟨sad, rfl, hcs⟩ := own_cellI H2.out hat
        have hidx : tot ls m + k < tot ls 15 := by
          have := (List.getElem?_eq_some_iff.1 hat).1
          rw [rkd_length] at this
          exact this
        obtain ⟨A, hA⟩ : ∃ A, A = tot ls m + k := ⟨_, rfl⟩
        obtain ⟨W, hW⟩ : ∃ W, W = 2 * nx ls m + k := ⟨_, rfl⟩
        rw [← hA] at hcs hidx ⊢
        rw [← hW]
        have hAb : A ≤ 1000 := by omega
        have hWb : W ≤ 100000000 := by omega
        have hT : tot ls 15 ≤ 1000 := by have := tot_le ls 15; omega
        have hAlt : (A : Int) < (tot ls 15 : Nat) := by omega
        have HA := hide hA
        have HW := hide hW
        have Hy := hide hy2
        by_cases hfound : y = i
        · have hsL : s = L := by
            have h1 := hy2.2.1
            have h2 := HL.out
            rw [hfound, h2] at h1
            omega
          have hkr : k = rank ls L i := by rw [← hfound, ← hsL]; exact hy2.2.2
          subst hfound
          have hq : ((y : Int) == (y : Int)) = true := by simp
          have HsL := hide hsL
          have Hkr := hide hkr
          clear hy hy2 hat hA hW hsL hkr
          go_wp2
          go_ret3
          have e1 := HW.out
          have e2 := Hs.out
          have e3 := HsL.out
          have e4 := Hkr.out
          have e5 : L - 1 = m := by omega
          exact ⟨ret_word (by rw [e1, e4, e5]; simp) (by rw [e3]) rfl, rfl⟩
        · have hq : ((y : Int) == (i : Int)) = false := beq_false_of_ne (by omega)
          have Hk2 : Hid (s = L → k + 1 ≤ rank ls L i) := by
            intro hsL
            have h1 := Hk.out hsL
            rcases Nat.lt_or_ge k (rank ls L i) with h | h
            · omega
            · exfalso
              have hkr : k = rank ls L i := by omega
              have h2 : (syms ls s ls.length)[k]? = some i := (syms_idx ls s ls.length k i).2 ⟨hi, by rw [hsL]; exact HL.out, by rw [hsL]; exact hkr⟩
              rw [hy] at h2
              exact hfound (Option.some.inj h2)
          clear hy hy2 hat hA hW hfound
          go_wp2
          go_round
          case rel => exact ⟨k + 1, by omega, by go_num, by rw [HW.out]; go_num, by rw [HA.out]; go_num, Hk2⟩
          case measure => simp [intOf]; omega
      · have e : k = cnt ls s := by omega
        have hmL : m + 1 < L := by
          rcases Nat.lt_or_ge (m + 1) L with h | h
          · exact h
          · have hsL : s = L := by have := Hs.out; omega
            have := Hk.out hsL
            rw [e, hsL] at this
            omega
        obtain ⟨A, hA⟩ : ∃ A, A = tot ls m + k := ⟨_, rfl⟩
        obtain ⟨W, hW⟩ : ∃ W, W = 2 * nx ls m + k := ⟨_, rfl⟩
        rw [← hA]
        rw [← hW]
        have hWb : W ≤ 100000000 := by omega
        have HA : Hid (A = tot ls (m + 1)) := by show A = _; rw [hA, tot_succ, ← Hs.out, e]
        have HW : Hid (W = nx ls (m + 1)) := by show W = _; rw [hW, nx_succ, ← Hs.out, e]
        have hle : ¬ k < cnt ls s := hlt
        have He := hide e
        clear hA hW e
        go_wp2
        exact ⟨⟨_, _, _, .int .i64 (nx ls (m + 1) : Nat), .int .i64 (tot ls (m + 1) : Nat), .int .i64 ((s + 1 : Nat) : Int), ⟨m + 1, hmL, s + 1, by have := Hs.out; show s + 1 = m + 1 + 1; omega, rfl, rfl, rfl⟩, rfl, rfl, rfl, by rw [HW.out], by rw [HA.out], by go_num⟩, by simp [intOf]; omega⟩
end Go.Proofs.Ytlkidddbndkfiaa
