/-
  filter: Undo.
-/
import Derived.Test.YtkafhjjdeldkbaaMe
namespace Go.Proofs.Ytkafhjjdeldkbaa
open Go.RowKit Go.Lib
set_option linter.unusedVariables false

theorem undo_no (K B : Int) (a a2 : Option Addr) (n c m c2 : Nat) (w : World) (h : mayV K B n m = false) :
    Calls Try.prog 10 #[.int .i64 K, .slice a n c, .slice a2 m c2, .int .i64 B] w fun e w' => e = .returned (.tuple #[.slice none 0 0, .bool false]) ∧ w = w' := by
  have HM := hide (mayBe_c K B a a2 n c m c2 w)
  rw [h] at HM
  clear h
  go_enter Try.func10, Try.ntmps10
  go_wp2_with fail
  refine (HM.out).mono ?_
  rintro e w' ⟨rfl, rfl⟩
  go_wp2
  go_ret2
  exact ⟨rfl, rfl⟩

set_option maxHeartbeats 3200000 in
theorem undo_yes (kind back : Nat) (a a2 : Option Addr) (c c2 : Nat) (xs ys : List Nat) (w : World) (hk : kind ≤ 4) (hb : 1 ≤ back ∧ back ≤ 8) (hx : Lies w a xs) (hy : Lies w a2 ys) (hm : ys.length = 0 ∨ ys.length = xs.length) (hl : xs.length ≤ 4000) :
    Calls Try.prog 10 #[.int .i64 (kind : Int), .slice a xs.length c, .slice a2 ys.length c2, .int .i64 (back : Int)] w fun e w' => ∃ v, e = .returned (.tuple #[v, .bool true]) ∧ OwnB w' w.heap.size v (undoV kind xs ys back) ∧ Fr (fun _ => False) w w' := by
  have HM := hide (mayBe_c (kind : Int) (back : Int) a a2 xs.length c ys.length c2 w)
  have hmay : mayV (kind : Int) (back : Int) xs.length ys.length = true := by unfold mayV; exact decide_eq_true ⟨⟨by omega, by omega⟩, ⟨by omega, by omega⟩, hm⟩
  rw [hmay] at HM
  clear hmay
  have Hx := hide hx
  have Hy := hide hy
  have HFT := hide (fun (w : World) (k : Nat) (a : Option Addr) (c : Nat) (zs : List Nat) (hi : k < zs.length) (hz : zs.length = xs.length) (hx : Lies w a zs) (hy : Lies w a2 ys) => foretold_c kind back k a a2 c c2 zs ys w hk hb hi hx hy (by rw [hz]; exact hm) (by omega))
  have HD : Hid ((undoV kind xs ys back).length = xs.length) := undoV_length kind xs ys back
  have HDlt : Hid (∀ b ∈ (undoV kind xs ys back), b < 256) := undoV_lt kind xs ys back
  have HRlt : Hid (∀ b ∈ (List.replicate xs.length 0), b < 256) := fun b hb => by rw [List.eq_of_mem_replicate hb]; omega
  have HRl : Hid ((List.replicate xs.length 0).length = xs.length) := by show _ = _; simp
  have HG : Hid (∀ k, k < xs.length → (undoV kind xs ys back).getD k 0 = (xs.getD k 0 + foreV kind (mix (undoV kind xs ys back) (List.replicate xs.length 0) k) ys back k) % 256) := by
    show ∀ k, _
    intro k hk
    rw [undoV_get kind xs ys back k hb.1 hk]
    rw [fore_congr kind (mix (undoV kind xs ys back) (List.replicate xs.length 0) k) (undoV kind xs ys back) ys back k hb.1 (fun j hj => mix_get_lt _ _ hj (by rw [undoV_length]; omega))]
  have HFl : Hid (∀ zs k, (∀ b ∈ zs, b < 256) → foreV kind zs ys back k < 256) := fun zs k h => fore_lt kind h hy.1 back k
  have hmk := makeB xs.length (by omega)
  have HO := hide (ownB_made w xs.length (by omega))
  have HF := hide (Fr.of_alloc w (Obj.cells (cellsOf (List.replicate xs.length 0)).toArray 5))
  clear hx hy hm hk hb
  generalize (undoV kind xs ys back) = D at *
  generalize (List.replicate xs.length 0) = R at *
  go_enter Try.func10, Try.ntmps10
  go_wp2_with fail
  refine (HM.out).mono ?_
  rintro e w' ⟨rfl, rfl⟩
  go_wp2
  go_loopw [24] (fun iv wr => ∃ k : Nat, k ≤ xs.length ∧ iv = .int .i64 k ∧ OwnB wr w.heap.size (.slice (some ⟨w.heap.size, 0, none⟩) xs.length xs.length) (mix D R k) ∧ Fr (fun _ => False) w wr) (fun iv _ => xs.length - (intOf iv).toNat)
  case atStart => exact ⟨0, by omega, rfl, by rw [mix_zero]; exact HO.out, HF.out⟩
  case round =>
    obtain ⟨k, hkl, rfl, ho, hf⟩ := hrel
    clear hmk HO HF
    have Hf := hide hf
    have HO := hide ho
    clear hf ho
    by_cases hlt : k < xs.length
    · have h0 : (0 : Int) ≤ (k : Int) := by omega
      have h1 : (k : Int) < (xs.length : Int) := by omega
      obtain ⟨ad, rfl, hck0⟩ := Hx.out.2 k hlt
      have hck := cell_fr Hf.out hck0 (fun h => h)
      clear hck0
      have hG := HG.out k hlt
      have hxl : xs.getD k 0 < 256 := Hx.out.1 _ (getD_mem xs k hlt)
      have hml : (mix D R k).length = xs.length := by rw [mix_length (by rw [HD.out, HRl.out]) (by rw [HRl.out]; omega)]; exact HRl.out
      have hfl := HFl.out (mix D R k) k (mix_lt HDlt.out HRlt.out k)
      have HC := hide (HFT.out wr k (some ⟨w.heap.size, 0, none⟩) xs.length (mix D R k) (by rw [hml]; exact hlt) hml (by rw [← hml] at HO; exact HO.out.lies) (Hy.out.keep Hf.out (fun _ _ h => h)))
      rw [hml] at HC
      generalize foreV kind (mix D R k) ys back k = fv at *
      have hDl : D.getD k 0 < 256 := by rw [hG]; exact Nat.mod_lt _ (by decide)
      have hms := mix_step (D := D) (R := R) (by rw [HD.out, HRl.out]) (k := k) (by rw [HRl.out]; exact hlt)
      obtain ⟨g, eg, hbg, hcell, hfro, hset⟩ := HO.out.set (k := k) (x := D.getD k 0) (by rw [hml]; exact hlt) hDl
      cases eg
      rw [hms] at hset
      have HS := hide hset
      have hwr : IntKind.u8.wrap ((xs.getD k 0 : Int) + (fv : Int)) = ((D.getD k 0 : Nat) : Int) := by rw [IntKind.wrap_u8', hG]; omega
      have HW := hide hwr
      have HFn := hide (((Hf.out).trans (Fr.of_setCell wr ⟨w.heap.size, k, none⟩ (.int .u8 ((D.getD k 0 : Nat) : Int)))).mono (S' := fun _ => False) fun i hi h => by
          rcases h with h | h
          · exact h
          · exact absurd h (Nat.ne_of_lt hi))
      clear hG hml hms hset hfl hDl hxl hbg
      generalize D.getD k 0 = dv at *
      generalize xs.getD k 0 = xv at *
      go_wp2_with fail
      refine (HC.out).mono ?_
      rintro e w' ⟨rfl, rfl⟩
      go_wp2
      go_roundw
      case rel => exact ⟨k + 1, by omega, by go_num, HS.out, HFn.out⟩
      case measure => simp [intOf]; omega
    · have hke : k = xs.length := by omega
      have hfin := HO.out
      rw [hke] at hfin
      rw [show mix D R xs.length = D by have := mix_all (D := D) (R := R) (by rw [HD.out, HRl.out]); rw [HRl.out] at this; exact this] at hfin
      have HFi := hide hfin
      clear hfin
      go_wp2
      go_ret2
      exact ⟨_, rfl, HFi.out, Hf.out⟩
end Go.Proofs.Ytkafhjjdeldkbaa
