/-
  chunk: ChunkJoins.
-/
import Derived.Test.YtflapcaaaipoeaaCx
import Derived.Test.YtflapcaaaipoeaaCy
namespace Go.Proofs.Ytflapcaaaipoeaa
open Go.RowKit Go.Lib
set_option linter.unusedVariables false

def jE (l : List Ck) : Int := match joinV l with
  | .error er => er
  | .ok _ => 0
def jB (l : List Ck) : List Nat := match joinV l with
  | .error _ => []
  | .ok bs => bs
theorem JoinOut.both {l : List Ck} {lo : Nat} {e : Ending} {w' : World} (h : JoinOut l lo e w') : ∃ a c, e = .returned (.tuple #[.slice a (jB l).length c, .int .i64 (jE l)]) ∧ OwnB w' lo (.slice a (jB l).length c) (jB l) := by
  unfold JoinOut at h
  unfold jE jB
  cases hj : joinV l with
  | error er => rw [hj] at h; exact ⟨none, 0, h, OwnB.nil _ _⟩
  | ok bs =>
    rw [hj] at h
    obtain ⟨v, e1, ho⟩ := h
    obtain ⟨a, c, hv, _⟩ := ho.form
    subst hv
    exact ⟨a, c, e1, ho⟩

theorem few_data {l : List Ck} (h : fewB l = true) : l.length ≤ 100 ∧ fewN l ≤ 9000 ∧ ∀ i, i < l.length → (l.getD i default).2.length ≤ 9000 := by
  unfold fewB at h
  simp only [Bool.and_eq_true, decide_eq_true_eq] at h
  refine ⟨h.1, h.2, fun i hi => ?_⟩
  have h1 := few_snoc l i hi
  have h2 : fewN (l.take (i + 1)) ≤ fewN l := by
    unfold fewN
    have e : l.map (fun c => c.2.length + c.1.size) = (l.take (i + 1)).map (fun c => c.2.length + c.1.size) ++ (l.drop (i + 1)).map (fun c => c.2.length + c.1.size) := by
      rw [← List.map_append, List.take_append_drop]
    rw [e, List.sum_append]; omega
  omega

theorem quiet_same {f : FuncId} {args : Array Value} {w : World} {v : Value} {n : Nat} (h : ∀ W, Calls Try.prog f args W fun e w' => e = .returned v ∧ W = w') : Calls Try.prog f args (w.drewN n) fun e w'' => e = .returned v ∧ ∃ m, w'' = w.drewN m :=
  Calls.quiet_of_same ((h (w.drewN n)).mono fun e w' ⟨he, hw⟩ => ⟨he, hw.symm⟩)

set_option maxHeartbeats 1600000 in
set_option maxRecDepth 20000 in
theorem joins_law (a : Option Addr) (c : Nat) (l : List Ck) (w : World) (hl : LiesC w a l) (hlen : l.length ≤ 281474976710656) (hc : l.length ≤ c) :
    Calls Try.prog 4 #[.slice a l.length c] w fun e w' => e = .returned (.bool true) ∧ Fr (fun _ => False) w w' := by
  have Hl := hide hl
  have Hfew := hide (fun w hl => few_c a c l w hl hlen)
  clear hl
  cases hfw : fewB l
  · rw [hfw] at Hfew
    go_enter Try.func4, Try.ntmps4
    go_wp2_with fail
    refine (awake_c w).mono ?_
    rintro e w1 ⟨rfl, hf1⟩
    go_wp2_with fail
    refine (Hfew.out w1 (Hl.out.keep hf1 (fun _ _ h => h))).mono ?_
    rintro e w2 ⟨rfl, hf2⟩
    go_wp2
    go_ret
    exact ⟨rfl, hf1.join hf2⟩
  · rw [hfw] at Hfew
    obtain ⟨h100, _, hds⟩ := few_data hfw
    have Hback := hide (fun w hl => back_c a c l w hl (by omega) (fun i hi => Nat.le_trans (hds i hi) (by decide)))
    have Hrj := hide (fun w hl => rjoin_c a c l w hl hlen)
    have Hro := hide (fun w hl => rorder_c a c l w hl hlen)
    clear hfw hds
    go_enter Try.func4, Try.ntmps4
    go_wp2_with fail
    refine (awake_c w).mono ?_
    rintro e w1 ⟨rfl, hf1⟩
    go_wp2_with fail
    refine (Hfew.out w1 (Hl.out.keep hf1 (fun _ _ h => h))).mono ?_
    rintro e w2 ⟨rfl, hf2⟩
    have HF2 := hide (hf1.join hf2)
    clear hf1 hf2 Hfew
    go_wp2_with fail
    refine (Hback.out w2 (Hl.out.keep HF2.out (fun _ _ h => h))).mono ?_
    rintro e w3 ⟨v, rfl, ho, hf3⟩
    obtain ⟨⟨xa, xc, hx, _, _, _⟩, _⟩ := ho.form
    subst hx
    have HF3 := hide (HF2.out.join hf3)
    have HJ := hide (join_c xa xc l w3 ho.lies hlen)
    clear hf3 ho HF2
    go_wp2_with fail
    refine HJ.out.mono ?_
    rintro e w4 ⟨hout, hf4⟩
    obtain ⟨ba, bc, rfl, hb4⟩ := hout.both
    have HF4 := hide (HF3.out.join hf4)
    have HB4 := hide hb4.lies
    clear hout hf4 hb4 HF3 HJ
    go_wp2_with fail
    refine (Hrj.out w4 (Hl.out.keep HF4.out (fun _ _ h => h))).mono ?_
    rintro e w5 ⟨hout, hf5⟩
    obtain ⟨ca, cc, rfl, hb5⟩ := hout.both
    have HF5 := hide (HF4.out.join hf5)
    have cv1 := conv_str bc (HB4.out.keep hf5 (fun _ _ h => h))
    have cv2 := conv_str cc hb5.lies
    have hbe : ((strOf (jB l)).toList == (strOf (jB l)).toList) = true := by simp
    have hie : (jE l == jE l) = true := by simp
    clear hout hf5 hb5 HF4 HB4 Hrj
    generalize strOf (jB l) = sj at *
    generalize (jB l).length = nj at *
    generalize jE l = ej at *
    go_wp2_with fail
    refine (Hback.out w5 (Hl.out.keep HF5.out (fun _ _ h => h))).mono ?_
    rintro e w6 ⟨v, rfl, ho, hf6⟩
    obtain ⟨⟨xa2, xc2, hx, hxc, _, _⟩, _⟩ := ho.form
    subst hx
    have HF6 := hide (HF5.out.join hf6)
    have HOr := hide (order_c xa2 xc2 l w6 ho.lies hlen hxc)
    clear hf6 ho HF5 cv1 cv2
    go_wp2_with fail
    refine HOr.out.mono ?_
    rintro e w7 ⟨rfl, hf7⟩
    have HF7 := hide (HF6.out.join hf7)
    clear hf7 HF6 HOr
    go_wp2_with fail
    refine (Hro.out w7 (Hl.out.keep HF7.out (fun _ _ h => h))).mono ?_
    rintro e w8 ⟨rfl, rfl⟩
    rw [order_same]
    generalize rorderE l = er at *
    have here : (er == er) = true := by simp
    go_wp2_with fail
    go_loopw [7] (fun iv wr => ∃ (k : Nat), k ≤ l.length ∧ iv = .int .i64 k ∧ Fr (fun _ => False) w wr) (fun iv _ => l.length - (intOf iv).toNat)
    case atStart => exact ⟨0, by omega, rfl, HF7.out⟩
    case round =>
      obtain ⟨k, hkl, rfl, hf⟩ := hrel
      by_cases hlt : k < l.length
      · obtain ⟨b1, o1, d1, cap1, rfl, hck⟩ := Hl.out k hlt
        have h0 : (0 : Int) ≤ (k : Int) := by omega
        have h1 : (k : Int) < (l.length : Int) := by omega
        have hc1 := cell_fr hf hck.kind (fun h => h)
        have hks : (l.getD k default).1.size ≤ maxLen := by have := hck.size; unfold maxLen; omega
        have hcr := fun W => critical_c (l.getD k default).1 W hks
        have hrc := fun W => rcritical_c (l.getD k default).1 W hks
        have HF := hide hf
        clear hck hf
        generalize (l.getD k default).1 = kd at *
        generalize critB kd = tb at *
        have htb : (tb == tb) = true := by simp
        go_upto_region 12 with fail
        go_quiet ((first | (go_at_call 18; exact quiet_same hcr) | (go_at_call 19; exact quiet_same hrc)))
        cases tb
        all_goals
          go_wp2
          go_roundw
          case rel => exact ⟨k + 1, hlt, by go_num, HF.out.join (Fr.of_drewN _ _)⟩
          case measure => simp [intOf]; omega
      · have HF := hide hf
        clear hf
        go_wp2
        go_ret
        exact ⟨rfl, HF.out⟩
end Go.Proofs.Ytflapcaaaipoeaa
