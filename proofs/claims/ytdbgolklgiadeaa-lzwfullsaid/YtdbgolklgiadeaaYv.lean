/-
  lzw: LzwFull.
-/
import Derived.Test.YtdbgolklgiadeaaYr
import Derived.Test.YtdbgolklgiadeaaYu
namespace Go.Proofs.Ytdbgolklgiadeaa
open Go.RowKit

set_option maxHeartbeats 6400000 in
set_option maxRecDepth 100000 in
theorem full_law (seed : Int) (n : Nat) (w : World) (hn : n < 65536) : Calls Try.prog 6 #[.int .u32 seed, .int .u16 (n : Int)] w fun e w' => e = .returned (.bool true) ∧ Fr (fun _ => False) w w' := by
  have hni : (n : Int) < 65536 := by omega
  have q1 : IntKind.i64.wrap (n : Int) = (n : Int) := wrap_i64_id _ (by omega) (by omega)
  obtain ⟨N, hN⟩ : ∃ N, N = n % 9000 := ⟨_, rfl⟩
  have hN2 : N < 9000 := by omega
  have hNi : (n : Int).tmod 9000 = (N : Int) := by rw [Int.tmod_eq_emod_of_nonneg (by omega), hN]; simp
  clear hN
  go_enter Try.func6, Try.ntmps6
  go_wp2_with fail
  refine (awake_c w).mono ?_
  rintro e w0 ⟨rfl, hF0⟩
  have HF0 := hide hF0
  clear hF0
  go_wp2_with fail
  go_loopw [5, 6, 7] (fun tx tb ti wr => ∃ (i : Nat) (x : Int) (bs : List Nat) (oa : Option Addr) (oc : Nat), ti = .int .i64 (i : Int) ∧ tx = .int .u32 x ∧ i ≤ 4000 + N ∧ bs.length = i ∧ tb = .slice oa i oc ∧ Hid (∀ b ∈ bs, b < 256) ∧ Hid (OwnB wr w0.heap.size (.slice oa bs.length oc) bs) ∧ Hid (Fr (fun _ => False) w0 wr)) (fun _ _ ti _ => 13000 - (intOf ti).toNat)
  case atStart => exact ⟨0, seed, [], none, 0, rfl, rfl, Nat.zero_le _, rfl, rfl, fun b hb => (by cases hb), World.ownsRow_nil _ _ _ _, Fr.refl _ _⟩
  case round =>
    obtain ⟨i, x, bs, oa, oc, rfl, rfl, hi, hbl, rfl, HB, HO, HF⟩ := hrel
    have Hbl := hide hbl
    clear hbl
    by_cases hlt : i < 4000 + N
    · have hlti : (i : Int) < 4000 + (N : Int) := by omega
      go_upto_region 9 with fail
      obtain ⟨x', hx'⟩ : ∃ x', x' = (x * 1664525 % 4294967296 + 1013904223) % 4294967296 := ⟨_, rfl⟩
      have hx0 : 0 ≤ x' := by omega
      have hx1 : x' < 4294967296 := by omega
      rw [← hx']
      obtain ⟨y, hy⟩ : ∃ y : Nat, x' / 16777216 = (y : Int) := ⟨(x' / 16777216).toNat, by omega⟩
      have hy8 : y < 256 := by omega
      have hyw : IntKind.u8.wrap (y : Int) = (y : Int) := by rw [IntKind.wrap_u8']; omega
      clear hx'
      have FA : Hid (Fr (fun _ => False) wr (wr.alloc (.cells (cellsOf [y]).toArray 5))) := Fr.of_alloc _ _
      have HO1 : Hid (OwnB (wr.alloc (.cells (cellsOf [y]).toArray 5)) w0.heap.size (.slice oa i oc) bs) := by
        have h : OwnB (wr.alloc (.cells (cellsOf [y]).toArray 5)) w0.heap.size (.slice oa bs.length oc) bs := ownsRow_fr HO.out fun j hj => FA.out.block j (World.ownsRow.lt HO.out j hj).2 (fun h => h)
        rw [Hbl.out] at h
        exact h
      have HL0 : Hid (Lies (wr.alloc (.cells (cellsOf [y]).toArray 5)) (.slice (some ⟨wr.heap.size, 0, none⟩) 1 1) [y]) := lies_lit wr [y] 1
      have HS1 : Hid (w0.heap.size ≤ (wr.alloc (.cells (cellsOf [y]).toArray 5)).heap.size) := Nat.le_trans HF.out.size FA.out.size
      have HQ1 : Hid (bs.length + [y].length ≤ 2147483648) := by show _ ≤ _; have := Hbl.out; simp; omega
      go_wp2_with (at_builtin; go_must (refine wpList_app rfl (.tmp 28) (.tmp 32) rfl w0.heap.size (.slice oa i oc) bs rfl HO1.out (.slice (some ⟨wr.heap.size, 0, none⟩) 1 1) [y] rfl HL0.out HQ1.out HS1.out ?_); intro a2 c2 w2 hO2 hF2 _
                   have HF2 := hide (frJ (HF.out.join FA.out) hF2 fun j hj => (World.ownsRow.lt HO1.out j hj).1)
                   have HO2 := hide hO2
                   clear hO2 hF2)
      go_roundw
      case rel =>
        refine ⟨i + 1, x', bs ++ [y], a2, c2, by go_num, rfl, by omega, by rw [List.length_append, Hbl.out]; rfl, by first | rw [Hbl.out, List.length_singleton] | (rw [Hbl.out]; rfl) | rw [Hbl.out], fun b hb => ?_, ?_, HF2.out⟩
        · rcases List.mem_append.1 hb with hb | hb
          · exact HB.out b hb
          · simp only [List.mem_singleton] at hb
            omega
        · have h := HO2.out
          rw [← List.length_append] at h
          exact h
      case measure => simp [intOf]; omega
    · have e : i = 4000 + N := by omega
      have hNn : ¬ (i : Int) < 4000 + (N : Int) := by omega
      have hi13 : i ≤ 13000 := by omega
      clear e hlt
      have hLb : Lies wr (.slice oa bs.length oc) bs := lies_ownB HO.out
      have hbk : ∀ b ∈ bs, b < 2 ^ 8 := fun b hb => HB.out b hb
      have HWr := hide (write_at oa oc bs 8 wr (by decide) hLb HB.out hbk (by have := Hbl.out; omega))
      rw [Hbl.out] at HWr
      have HFr := hide (HF0.out.join HF.out)
      have HLb := hide hLb
      clear hLb hbk
      go_wp2_with fail
      refine (calls_args HWr.out (by rfl)).mono ?_
      rintro e w2 ⟨Z, za, zc, rfl, hLZ, hZb, hZl, hR, hF2⟩
      have HR := hide hR
      have HF2 := hide (HFr.out.join hF2)
      have HF12 := hide hF2
      have hZl2 : Z.length ≤ 70000 := by omega
      have HRr := hide (rread_at (.slice za Z.length zc) Z 8 (i : Int) w2 hLZ hZb (by omega) (by omega))
      clear hLZ hZb hR hF2 HWr
      go_wp2_with fail
      refine (calls_args HRr.out (by rfl)).mono ?_
      rintro e w3 ⟨r3, xa, xc, h3, rfl, hLx, hF3⟩
      obtain rfl := h3.det HR.out
      have HLx := hide hLx
      have HF3 := hide (HF2.out.join hF3)
      have HF13 := hide (HF12.out.join hF3)
      have HF23 := hide hF3
      have HDw := hide (rwrite_c oa oc bs 8 w3 (by decide) (lies_false HLb.out HF13.out) HB.out (fun b hb => HB.out b hb) (by have := Hbl.out; omega))
      rw [Hbl.out] at HDw
      simp only [outZ, errZ, Hbl.out] at HLx ⊢
      clear h3 hLx hF3 HRr
      go_wp2_with fail
      refine (calls_args HDw.out (by rfl)).mono ?_
      rintro e w4 ⟨Y, ya, yc, rfl, hLY, hYb, hYl, hRY, hF4⟩
      have HRY := hide hRY
      have HF14 := hide (HF13.out.join hF4)
      have HF34 := hide hF4
      have HF4 := hide (HF3.out.join hF4)
      have HRp := hide (read_at (.slice ya Y.length yc) Y 8 (i : Int) w4 hLY hYb (by omega) (by omega))
      clear hLY hYb hRY hF4 HDw
      go_wp2_with fail
      refine (calls_args HRp.out (by rfl)).mono ?_
      rintro e w5 ⟨r5, va, vc, h5, rfl, hLv, hF5⟩
      obtain rfl := h5.det HRY.out
      have HF5 := hide (HF4.out.join hF5)
      simp only [outZ, errZ, Hbl.out] at hLv ⊢
      have s1 := str_lies (lies_false HLx.out (HF34.out.join hF5)) HB.out
      have s2 := str_lies hLv HB.out
      have s3 := str_lies (lies_false (sv := .slice oa i oc) (by have h := HLb.out; rw [Hbl.out] at h; exact h) (HF14.out.join hF5)) HB.out
      have hZli : (Z.length : Int) ≤ 2 * (i : Int) + (i : Int) / 4 + 16 := by omega
      clear h5 hLv hF5 HRp
      go_wp2
      go_ret
      exact ⟨rfl, HF5.out⟩
end Go.Proofs.Ytdbgolklgiadeaa
