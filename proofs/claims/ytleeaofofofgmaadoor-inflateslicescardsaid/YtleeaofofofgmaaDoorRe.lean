/-
  The document's own fixed codes.
-/
import Derived.Test.YtleeaofofofgmaaDoorRd
namespace Go.Proofs.YtleeaofofofgmaaDoor
open Go.RowKit

theorem take_succZ {L : List Int} {i : Nat} (hi : i < L.length) : L.take (i + 1) = L.take i ++ [at0 L i] := by
  rw [List.take_add_one, List.getElem?_eq_getElem hi]
  simp [at0, List.getElem?_eq_getElem hi]

theorem row_append {w wr w3 : World} {L : List Int} {a : Option Addr} {i c g cap : Nat} {v : Int} {o : Obj} (hF : Fr (fun _ => False) w wr) (hown : wr.ownsRow w.heap.size 3 1 (.slice a i c) i (cellsZ (L.take i))) (hi : i < L.length) (hv : at0 L i = v)
    (hown3 : w3.ownsRow w.heap.size 3 1 (.slice (some ⟨g, 0, none⟩) (i + 1) cap) (i + 1) (cellsZ (L.take i) ++ [.int .i64 v])) (hgrow : (wr.alloc o).grownBy w3 (Value.slice a i c).ownBlock) :
    w3.ownsRow w.heap.size 3 1 (.slice (some ⟨g, 0, none⟩) (i + 1) cap) (i + 1) (cellsZ (L.take (i + 1))) ∧ Fr (fun _ => False) w w3 := by
  refine ⟨by rw [take_succZ hi, hv, ← cellsZ_snoc]; exact hown3, ?_⟩
  have f1 : Fr (fun k => (Value.slice a i c).ownBlock = some k) (wr.alloc o) w3 := ⟨hgrow.os, hgrow.tape, hgrow.output, hgrow.size, fun k hk hn => hgrow.block k hk (fun e => hn e.symm)⟩
  exact ((hF.trans (Fr.of_alloc wr o)).trans f1).mono fun k hk h => by
    rcases h with (h | h) | h
    · exact h
    · exact h
    · have := (hown.lt k h).1; omega

set_option maxHeartbeats 1600000 in
set_option maxRecDepth 100000 in
theorem rfixed_c (w : World) : Calls Tryd.prog 25 #[] w fun e w' => ∃ A B l1 h1 l2 h2, e = .returned (.tuple #[.pointer (some ⟨A, 0, none⟩), .pointer (some ⟨B, 0, none⟩)]) ∧ Rc w' l1 h1 A fixL ∧ Rc w' l2 h2 B fixD ∧ w.heap.size ≤ l1 ∧ w.heap.size ≤ l2 ∧ Fr (fun _ => False) w w' := by
  obtain ⟨i0, hi, hz0, hz1, hz2⟩ := info_parts Tryd.info3
  go_enter Tryd.func25, Tryd.ntmps25
  go_wp2
  go_loopw [2, 4] (fun v iv wr => ∃ i : Nat, i ≤ 288 ∧ iv = .int .i64 (i : Int) ∧ ∃ a c, v = .slice a i c ∧ wr.ownsRow w.heap.size 3 1 (.slice a i c) i (cellsZ (fixL.take i)) ∧ Fr (fun _ => False) w wr) (fun _ iv _ => 288 - (intOf iv).toNat)
  case atStart => exact ⟨0, Nat.zero_le _, rfl, none, 0, rfl, World.ownsRow_nil _ _ _ _, Fr.refl _ _⟩
  case round =>
    obtain ⟨i, hi1, rfl, a, c, rfl, hown, hF⟩ := hrel
    have Hown := hide hown
    have HF := hide hF
    have hsz := hF.size
    clear hown hF
    by_cases hlt : i < 288
    · have hlti : (i : Int) < 288 := by omega
      by_cases a1 : i < 144
      · have a1i : (i : Int) < 144 := by omega
        go_wp2_with (at_builtin; go_must (refine wpList_append_lies _ rfl _ _ 30 rfl w.heap.size 3 i0 (.int .i64 0) 1 8 Tryd.underlying30 hi hz0 hz1 hz2 rfl (by decide) (.slice a i c) i (cellsZ (fixL.take i)) rfl (Hown.out.alloc _) ⟨wr.heap.size, 0, none⟩ 1 1 [.int .i64 8] rfl rfl (cell_one_new _ _ _) (fun x hx => by simp at hx; subst hx; rfl) (by decide) (by unfold maxLen; omega) (by omega) (by simp; omega) (wr.heap.size + 1) (by simp) ?_); intro g cap w3 hown3 hgrow hat hlt3)
        obtain ⟨G1, G2⟩ := row_append (v := 8) HF.out Hown.out (by rw [fixL_len]; omega) (by rw [fixL_at, if_pos a1]) hown3 hgrow
        have G1' := hide G1
        have G2' := hide G2
        clear G1 G2 hown3 hgrow hat hlt3
        go_roundw
        case rel => exact ⟨i + 1, by omega, by go_num, some ⟨g, 0, none⟩, cap, rfl, G1'.out, G2'.out⟩
        case measure => simp [intOf]; omega
      · have a1i : ¬ (i : Int) < 144 := by omega
        by_cases a2 : i < 256
        · have a2i : (i : Int) < 256 := by omega
          go_wp2_with (at_builtin; go_must (refine wpList_append_lies _ rfl _ _ 30 rfl w.heap.size 3 i0 (.int .i64 0) 1 8 Tryd.underlying30 hi hz0 hz1 hz2 rfl (by decide) (.slice a i c) i (cellsZ (fixL.take i)) rfl (Hown.out.alloc _) ⟨wr.heap.size, 0, none⟩ 1 1 [.int .i64 9] rfl rfl (cell_one_new _ _ _) (fun x hx => by simp at hx; subst hx; rfl) (by decide) (by unfold maxLen; omega) (by omega) (by simp; omega) (wr.heap.size + 1) (by simp) ?_); intro g cap w3 hown3 hgrow hat hlt3)
          obtain ⟨G1, G2⟩ := row_append (v := 9) HF.out Hown.out (by rw [fixL_len]; omega) (by rw [fixL_at, if_neg a1, if_pos a2]) hown3 hgrow
          have G1' := hide G1
          have G2' := hide G2
          clear G1 G2 hown3 hgrow hat hlt3
          go_roundw
          case rel => exact ⟨i + 1, by omega, by go_num, some ⟨g, 0, none⟩, cap, rfl, G1'.out, G2'.out⟩
          case measure => simp [intOf]; omega
        · have a2i : ¬ (i : Int) < 256 := by omega
          by_cases a3 : i < 280
          · have a3i : (i : Int) < 280 := by omega
            go_wp2_with (at_builtin; go_must (refine wpList_append_lies _ rfl _ _ 30 rfl w.heap.size 3 i0 (.int .i64 0) 1 8 Tryd.underlying30 hi hz0 hz1 hz2 rfl (by decide) (.slice a i c) i (cellsZ (fixL.take i)) rfl (Hown.out.alloc _) ⟨wr.heap.size, 0, none⟩ 1 1 [.int .i64 7] rfl rfl (cell_one_new _ _ _) (fun x hx => by simp at hx; subst hx; rfl) (by decide) (by unfold maxLen; omega) (by omega) (by simp; omega) (wr.heap.size + 1) (by simp) ?_); intro g cap w3 hown3 hgrow hat hlt3)
            obtain ⟨G1, G2⟩ := row_append (v := 7) HF.out Hown.out (by rw [fixL_len]; omega) (by rw [fixL_at, if_neg a1, if_neg a2, if_pos a3]) hown3 hgrow
            have G1' := hide G1
            have G2' := hide G2
            clear G1 G2 hown3 hgrow hat hlt3
            go_roundw
            case rel => exact ⟨i + 1, by omega, by go_num, some ⟨g, 0, none⟩, cap, rfl, G1'.out, G2'.out⟩
            case measure => simp [intOf]; omega
          · have a3i : ¬ (i : Int) < 280 := by omega
            go_wp2_with (at_builtin; go_must (refine wpList_append_lies _ rfl _ _ 30 rfl w.heap.size 3 i0 (.int .i64 0) 1 8 Tryd.underlying30 hi hz0 hz1 hz2 rfl (by decide) (.slice a i c) i (cellsZ (fixL.take i)) rfl (Hown.out.alloc _) ⟨wr.heap.size, 0, none⟩ 1 1 [.int .i64 8] rfl rfl (cell_one_new _ _ _) (fun x hx => by simp at hx; subst hx; rfl) (by decide) (by unfold maxLen; omega) (by omega) (by simp; omega) (wr.heap.size + 1) (by simp) ?_); intro g cap w3 hown3 hgrow hat hlt3)
            obtain ⟨G1, G2⟩ := row_append (v := 8) HF.out Hown.out (by rw [fixL_len]; omega) (by rw [fixL_at, if_neg a1, if_neg a2, if_neg a3, if_pos hlt]) hown3 hgrow
            have G1' := hide G1
            have G2' := hide G2
            clear G1 G2 hown3 hgrow hat hlt3
            go_roundw
            case rel => exact ⟨i + 1, by omega, by go_num, some ⟨g, 0, none⟩, cap, rfl, G1'.out, G2'.out⟩
            case measure => simp [intOf]; omega
    · have hlti : ¬ (i : Int) < 288 := by omega
      have hie : i = 288 := by omega
      subst hie
      rw [List.take_of_length_le (by rw [fixL_len]; exact Nat.le_refl _)] at Hown
      have HL := hide (own_lies Hown.out)
      obtain ⟨al, hal⟩ : ∃ al, al = a := ⟨_, rfl⟩
      obtain ⟨cl, hcl⟩ : ∃ cl, cl = c := ⟨_, rfl⟩
      obtain ⟨wl, hwl⟩ : ∃ wl, wl = wr := ⟨_, rfl⟩
      rw [← hal, ← hwl] at HL
      rw [← hwl] at HF
      rw [← hal, ← hcl]
      clear hlt Hown
      subst hwl
      go_wp2
      go_loopw [3, 5] (fun v iv wr => ∃ i : Nat, i ≤ 32 ∧ iv = .int .i64 (i : Int) ∧ ∃ a c, v = .slice a i c ∧ wr.ownsRow wl.heap.size 3 1 (.slice a i c) i (cellsZ (fixD.take i)) ∧ Fr (fun _ => False) wl wr) (fun _ iv _ => 32 - (intOf iv).toNat)
      case atStart => exact ⟨0, Nat.zero_le _, rfl, none, 0, rfl, World.ownsRow_nil _ _ _ _, Fr.refl _ _⟩
      case round =>
        obtain ⟨i, hi1, rfl, a, c, rfl, hown, hFl⟩ := hrel
        have Hown := hide hown
        have HFl := hide hFl
        have hsz := hFl.size
        clear hown hFl
        by_cases hlt : i < 32
        · have hlti : (i : Int) < 32 := by omega
          go_wp2_with (at_builtin; go_must (refine wpList_append_lies _ rfl _ _ 30 rfl wl.heap.size 3 i0 (.int .i64 0) 1 8 Tryd.underlying30 hi hz0 hz1 hz2 rfl (by decide) (.slice a i c) i (cellsZ (fixD.take i)) rfl (Hown.out.alloc _) ⟨wr.heap.size, 0, none⟩ 1 1 [.int .i64 5] rfl rfl (cell_one_new _ _ _) (fun x hx => by simp at hx; subst hx; rfl) (by decide) (by unfold maxLen; omega) (by omega) (by simp; omega) (wr.heap.size + 1) (by simp) ?_); intro g cap w3 hown3 hgrow hat hlt3)
          obtain ⟨G1, G2⟩ := row_append (v := 5) HFl.out Hown.out (by rw [fixD_len]; omega) (by rw [fixD_at, if_pos hlt]) hown3 hgrow
          have G1' := hide G1
          have G2' := hide G2
          clear G1 G2 hown3 hgrow hat hlt3
          go_roundw
          case rel => exact ⟨i + 1, by omega, by go_num, some ⟨g, 0, none⟩, cap, rfl, G1'.out, G2'.out⟩
          case measure => simp [intOf]; omega
        · have hlti : ¬ (i : Int) < 32 := by omega
          have hie : i = 32 := by omega
          subst hie
          rw [List.take_of_length_le (by rw [fixD_len]; exact Nat.le_refl _)] at Hown
          have HD := hide (own_lies Hown.out)
          have HL2 := hide (HL.out.fr HFl.out)
          clear hlt Hown
          go_wp2_with fail
          refine calls_args (refNew_c al cl fixL wr HL2.out (by rw [fixL_len]; omega) _ ?b1 ?n1 ?y1) (by rw [fixL_len, hal, hcl])
          case b1 => (intro h; exact absurd fixL_good h)
          case n1 => (intro _ h; exact absurd fixL_ok h)
          intro _ _ w4 A hA hF4
          have HA := hide hA
          have HF4 := hide hF4
          have HD4 := hide (HD.out.fr hF4)
          clear hA hF4
          go_wp2_with fail
          refine calls_args (refNew_c a c fixD w4 HD4.out (by rw [fixD_len]; omega) _ ?b2 ?n2 ?y2) (by rw [fixD_len])
          case b2 => (intro h; exact absurd fixD_good h)
          case n2 => (intro _ h; exact absurd fixD_ok h)
          intro _ _ w5 B hB hF5
          have HB := hide hB
          have HF5 := hide hF5
          have HA5 := hide (HA.out.keep hF5 (fun _ _ _ h => h))
          clear hB hF5
          go_wp2
          go_ret2
          have s1 := HF.out.size
          have s4 := HF4.out.size
          exact ⟨A, B, _, _, _, _, rfl, HA5.out, HB.out, by omega, by omega, HF.out.join (HFl.out.join (HF4.out.join HF5.out))⟩
end Go.Proofs.YtleeaofofofgmaaDoor
