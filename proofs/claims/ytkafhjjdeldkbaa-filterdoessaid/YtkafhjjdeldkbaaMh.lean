/-
  filter: the document's Do.
-/
import Derived.Test.YtkafhjjdeldkbaaMe
namespace Go.Proofs.Ytkafhjjdeldkbaa
open Go.RowKit Go.Lib
set_option linter.unusedVariables false

theorem OwnB.heap {w w' : World} {base : Nat} {v : Value} {bs : List Nat} (h : OwnB w base v bs) (hw : w'.heap = w.heap) : OwnB w' base v bs := by
  refine ⟨h.small, ?_⟩
  rcases h.own with h1 | ⟨g, cap, cur, fz, e, hb, hg, rest⟩
  · exact .inl h1
  · exact .inr ⟨g, cap, cur, fz, e, hb, by rw [hw]; exact hg, rest⟩
theorem lies_heap {w w' : World} {a : Option Addr} {bs : List Nat} (hw : w'.heap = w.heap) (h : Lies w a bs) : Lies w' a bs := by
  refine ⟨h.1, fun j hj => ?_⟩
  obtain ⟨ad, e, hc⟩ := h.2 j hj
  refine ⟨ad, e, ?_⟩
  rw [← hc]
  unfold World.cell?
  rw [hw]

set_option maxHeartbeats 800000 in
theorem rdo_no (K B : Int) (a a2 : Option Addr) (n c m c2 : Nat) (w : World) (h : mayV K B n m = false) :
    Calls Try.prog 9 #[.int .i64 K, .slice a n c, .slice a2 m c2, .int .i64 B] w fun e w' => e = .returned (.tuple #[.slice none 0 0, .bool false]) ∧ w = w' := by
  have h2 : ¬ ((0 ≤ K ∧ K ≤ 4) ∧ (1 ≤ B ∧ B ≤ 8) ∧ (m = 0 ∨ m = n)) := of_decide_eq_false h
  have H2 := hide h2
  clear h h2
  go_enter Try.func9, Try.ntmps9
  go_wp2
  all_goals first | (exfalso; have := H2.out; simp at *; omega) | (go_ret2; exact ⟨rfl, rfl⟩)

set_option maxHeartbeats 3200000 in
theorem rdo_yes (kind back : Nat) (a a2 : Option Addr) (c c2 : Nat) (xs ys : List Nat) (w : World) (hk : kind ≤ 4) (hb : 1 ≤ back ∧ back ≤ 8) (hx : Lies w a xs) (hn : a = none → c = 0 ∧ xs = []) (hy : Lies w a2 ys) (hm : ys.length = 0 ∨ ys.length = xs.length) (hl : xs.length ≤ 4000) :
    Calls Try.prog 9 #[.int .i64 (kind : Int), .slice a xs.length c, .slice a2 ys.length c2, .int .i64 (back : Int)] w fun e w' => ∃ v, e = .returned (.tuple #[v, .bool true]) ∧ OwnB w' w.heap.size v (doV kind xs ys back) ∧ Fr (fun _ => False) w w' := by
  have Hx := hide hx
  have Hy := hide hy
  have Hn := hide hn
  have HFT := hide (fun (w : World) (k : Nat) (a : Option Addr) (c : Nat) (zs : List Nat) (hi : k < zs.length) (hz : zs.length = xs.length) (hx : Lies w a zs) (hy : Lies w a2 ys) => told_c kind back k a a2 c c2 zs ys w hk hb hi hx hy (by rw [hz]; exact hm) (by omega))
  have HD : Hid ((doV kind xs ys back).length = xs.length) := doV_length kind xs ys back
  have HDlt : Hid (∀ b ∈ (doV kind xs ys back), b < 256) := doV_lt kind xs ys back
  have HG : Hid (∀ k, k < xs.length → (doV kind xs ys back).getD k 0 = (xs.getD k 0 + 256 - foreV kind xs ys back k) % 256) := by
    show ∀ k, _
    intro k hk
    exact doV_get kind xs ys back k hk
    
  have HFl : Hid (∀ zs k, (∀ b ∈ zs, b < 256) → foreV kind zs ys back k < 256) := fun zs k h => fore_lt kind h hy.1 back k
  have k0 : (0 : Int) ≤ (kind : Int) := by omega
  have k4 : (kind : Int) ≤ 4 := by omega
  have b1 : (1 : Int) ≤ (back : Int) := by omega
  have b8 : (back : Int) ≤ 8 := by omega
  have HM := hide hm
  clear hx hy hm hk hb hn
  generalize (doV kind xs ys back) = D at *
  go_enter Try.func9, Try.ntmps9
  go_wp2_with (at_builtin; go_must (refine wpList_appB rfl _ _ rfl w.heap.size (.slice none 0 0) [] rfl (OwnB.nil _ _) a c xs rfl Hx.out Hn.out (by simp; omega) (Nat.le_refl _) ?_); intro v w1 ho hf)
  · next h1 h2 =>
    exfalso
    rcases HM.out with h | h
    · omega
    · rw [h] at h2; simp at h2; omega
  all_goals
    obtain ⟨va, vc, hv, hvc, hvn, _⟩ := ho.form
    subst hv
    rw [List.nil_append] at ho hvc ⊢
    have HO := hide ho
    have HF := hide (hf.mono (S' := fun _ => False) (fun _ _ h => by cases h))
    clear ho hf hvn
    go_loopw [11] (fun iv wr => ∃ k : Nat, k ≤ xs.length ∧ iv = .int .i64 k ∧ OwnB wr w.heap.size (.slice va xs.length vc) (mix D xs k) ∧ Fr (fun _ => False) w wr) (fun iv _ => xs.length - (intOf iv).toNat)
    case atStart => exact ⟨0, by omega, rfl, by rw [mix_zero]; exact HO.out, HF.out⟩
    case round =>
      obtain ⟨k, hkl, rfl, ho, hf⟩ := hrel
      clear HO HF
      have Hf := hide hf
      have HO := hide ho
      clear hf ho
      by_cases hlt : k < xs.length
      · have h0 : (0 : Int) ≤ (k : Int) := by omega
        have h1 : (k : Int) < (xs.length : Int) := by omega
        have hG := HG.out k hlt
        have hxl : xs.getD k 0 < 256 := Hx.out.1 _ (getD_mem xs k hlt)
        have hml : (mix D xs k).length = xs.length := mix_length HD.out (by omega)
        have hfl := HFl.out xs k Hx.out.1
        have HC : Hid (∀ W : World, W.heap = wr.heap → _) := fun W hW => HFT.out W k a c xs hlt rfl (lies_heap hW (Hx.out.keep Hf.out (fun _ _ h => h))) (lies_heap hW (Hy.out.keep Hf.out (fun _ _ h => h)))
        
        generalize foreV kind xs ys back k = fv at *
        have hDl : D.getD k 0 < 256 := by rw [hG]; exact Nat.mod_lt _ (by decide)
        have hms := mix_step (D := D) (R := xs) HD.out (k := k) hlt
        have hmg := mix_get (D := D) (R := xs) HD.out hlt
        obtain ⟨g, eg, hbg, hcell, hfro, hset⟩ := HO.out.set (k := k) (x := D.getD k 0) (by rw [hml]; exact hlt) hDl
        subst eg
        rw [hms] at hset
        rw [hmg] at hcell
        have HS := hide hset
        have hwr : IntKind.u8.wrap ((xs.getD k 0 : Int) - (fv : Int)) = ((D.getD k 0 : Nat) : Int) := by rw [IntKind.wrap_u8', hG]; omega
        have HFn := hide (((Hf.out).trans (Fr.of_setCell wr ⟨g, k, none⟩ (.int .u8 ((D.getD k 0 : Nat) : Int)))).mono (S' := fun _ => False) fun i hi h => by
            rcases h with h | h
            · exact h
            · exact absurd (show i = g from h) (by omega))
        clear hG hml hms hset hfl hDl hxl hmg
        generalize D.getD k 0 = dv at *
        generalize xs.getD k 0 = xv at *
        go_wp2
        go_region_with ((go_at_call 20; refine (HC.out _ (by first | rfl | simp)).mono ?_; rintro e w' ⟨rfl, rfl⟩))
        all_goals
          go_wp2
          go_roundw
          case rel => exact ⟨k + 1, by omega, by go_num, HS.out.heap rfl, HFn.out.join ⟨rfl, rfl, rfl, Nat.le_refl _, fun _ _ _ => rfl⟩⟩
          case measure => simp [intOf]; omega
      · have hke : k = xs.length := by omega
        have hfin := HO.out
        rw [hke] at hfin
        rw [show mix D xs xs.length = D from mix_all HD.out] at hfin
        have HFi := hide hfin
        clear hfin
        go_wp2
        go_ret2
        exact ⟨_, rfl, HFi.out, Hf.out⟩
end Go.Proofs.Ytkafhjjdeldkbaa
