/-
  Texts of the seat, put together: Zb Gc Gd Nl Jh Km Kc Ph Kn Kd Fa Fb.
-/
import Derived.Test.YtdpmpllbdoefdaaGreatDoorQz5
import Derived.Laws.Cover3
import Derived.DeepKeys
import Derived.Test.YtdpmpllbdoefdaaGreatDoorQz4
import Derived.Deep.AppendLies
import Derived.Deep.CutRange
import Derived.Test.YtdpmpllbdoefdaaGreatDoorQz2
namespace Go.Proofs.YtdpmpllbdoefdaaGreatDoor
open Go.RowKit
def sumErr (rest out : List Nat) : Nat := if rest.length < 4 then 2 else if 4 < rest.length then 4 else if rest = sumB (adler 1 out) then 0 else 5
theorem sumB_lt (s : Nat) : ∀ b ∈ sumB s, b < 256 := by
  intro b hb
  simp only [sumB, List.mem_cons, List.not_mem_nil, or_false] at hb
  omega
theorem wf8 (n : Nat) (h : n < 256) : (Lit.int .u8 (n : Int)).wf = true := by
  simp [Lit.wf, IntKind.min, IntKind.max, IntKind.signed, IntKind.bits]
  omega
theorem lits_four (r0 r1 r2 r3 : Nat) (h0 : r0 < 256) (h1 : r1 < 256) (h2 : r2 < 256) (h3 : r3 < 256) : Tryz.prog.keyLits 2 50 [.int .u8 (r0 : Int), .int .u8 (r1 : Int), .int .u8 (r2 : Int), .int .u8 (r3 : Int)] = some [.int .u8 (r0 : Int), .int .u8 (r1 : Int), .int .u8 (r2 : Int), .int .u8 (r3 : Int)] := by
  have u50 : Tryz.prog.underlying 50 = some (.array 4 5) := by kernel_rfl
  have u5 : Tryz.prog.underlying 5 = some (.int .u8) := by kernel_rfl
  have c50 : Tryz.prog.cellsOf 50 = 4 := by kernel_rfl
  have c5 : Tryz.prog.cellsOf 5 = 1 := by kernel_rfl
  have one : ∀ n : Nat, n < 256 → Tryz.prog.keyLits 1 5 [.int .u8 (n : Int)] = some [.int .u8 (n : Int)] := fun n hn => by
    unfold Program.keyLits
    rw [u5]
    simp [wf8 n hn]
  unfold Program.keyLits
  rw [u50]
  simp [c50, c5, List.range, List.range.loop, one r0 h0, one r1 h1, one r2 h2, one r3 h3]
set_option maxRecDepth 100000 in
theorem eq_four (r0 r1 r2 r3 s0 s1 s2 s3 : Nat) (hr : ∀ x ∈ [r0, r1, r2, r3], x < 256) (hs : ∀ x ∈ [s0, s1, s2, s3], x < 256) (w : World) : (Op.equalIn 10000 50 (.agg #[.int .u8 (r0 : Int), .int .u8 (r1 : Int), .int .u8 (r2 : Int), .int .u8 (r3 : Int)]) (.agg #[.int .u8 (s0 : Int), .int .u8 (s1 : Int), .int .u8 (s2 : Int), .int .u8 (s3 : Int)])).run Tryz.prog w = .ok (decide ([r0, r1, r2, r3] = [s0, s1, s2, s3])) w := by
  obtain ⟨r, h1, h2⟩ := run_equalIn_deep (P := Tryz.prog) 9998 2 50 (by kernel_rfl) w 2 2 (.agg #[.int .u8 (r0 : Int), .int .u8 (r1 : Int), .int .u8 (r2 : Int), .int .u8 (r3 : Int)]) (.agg #[.int .u8 (s0 : Int), .int .u8 (s1 : Int), .int .u8 (s2 : Int), .int .u8 (s3 : Int)]) [.int .u8 (r0 : Int), .int .u8 (r1 : Int), .int .u8 (r2 : Int), .int .u8 (r3 : Int)] [.int .u8 (s0 : Int), .int .u8 (s1 : Int), .int .u8 (s2 : Int), .int .u8 (s3 : Int)] (by kernel_rfl) (by kernel_rfl) (lits_four _ _ _ _ (hr _ (by simp)) (hr _ (by simp)) (hr _ (by simp)) (hr _ (by simp))) (lits_four _ _ _ _ (hs _ (by simp)) (hs _ (by simp)) (hs _ (by simp)) (hs _ (by simp)))
  refine h1.trans ?_
  congr 1
  rw [Bool.eq_iff_iff, h2]
  simp only [List.cons.injEq, Lit.int.injEq, decide_eq_true_eq, true_and, and_true]
  omega
set_option maxHeartbeats 800000 in
set_option maxRecDepth 100000 in
theorem checkSum_c (ra oa : Option Addr) (rc oc : Nat) (rest out : List Nat) (w : World) (hr : Lz w ra rest) (ho : Lz w oa out) (hrl : rest.length ≤ 2147483648) (hol : out.length ≤ 2147483648) :
    Calls Tryz.prog 15 #[.slice ra rest.length rc, .slice oa out.length oc] w fun e w' => e = .returned (.int .i64 (sumErr rest out : Int)) ∧ Fr (fun _ => False) w w' := by
  by_cases h1 : rest.length < 4
  · have : sumErr rest out = 2 := by simp [sumErr, h1]
    rw [this]
    go_enter Tryz.func15, Tryz.ntmps15
    go_wp2
    go_ret
    exact ⟨rfl, Fr.refl _ _⟩
  by_cases h2 : 4 < rest.length
  · have : sumErr rest out = 4 := by simp [sumErr, h1, h2]
    rw [this]
    go_enter Tryz.func15, Tryz.ntmps15
    go_wp2
    go_ret
    exact ⟨rfl, Fr.refl _ _⟩
  have h4 : rest.length = 4 := by omega
  obtain ⟨ad, rfl, _⟩ := hr.2 0 (by omega)
  have hcell : ∀ j v, (cellsOf rest)[j]? = some v → w.cell? (ad.add j) = some v := by
    intro j v hv
    have hj : j < rest.length := by
      have := (List.getElem?_eq_some_iff.1 hv).1
      simpa [cellsOf_length] using this
    obtain ⟨ad', e, hc⟩ := hr.2 j hj
    cases e
    rw [hc, ← hv]
    simp [cellsOf, List.getD_eq_getElem?_getD, List.getElem?_eq_getElem hj]
  obtain ⟨r0, r1, r2, r3, rfl⟩ : ∃ r0 r1 r2 r3, rest = [r0, r1, r2, r3] := by
    match rest, h4 with
    | [a, b, c, d], _ => exact ⟨a, b, c, d, rfl⟩
  have Hs : Hid (∀ w', Fr (fun _ => False) w w' → ((w'.cell? ad = some (.int .u8 (r0 : Int)) ∧ w'.cell? ⟨ad.block, ad.off + 1, none⟩ = some (.int .u8 (r1 : Int))) ∧ w'.cell? ⟨ad.block, ad.off + 2, none⟩ = some (.int .u8 (r2 : Int))) ∧ w'.cell? ⟨ad.block, ad.off + 3, none⟩ = some (.int .u8 (r3 : Int))) := fun w' F => by
    have key : ∀ j v, (cellsOf [r0, r1, r2, r3])[j]? = some v → w'.cell? (ad.add j) = some v := fun j v hv => by
      have := hcell j v hv
      rw [cell_blk (F.block _ (cell_lt this) (fun h => h))]
      exact this
    exact ⟨⟨⟨key 0 _ rfl, key 1 _ rfl⟩, key 2 _ rfl⟩, key 3 _ rfl⟩
  have HS : Hid (∀ w', Fr (fun _ => False) w w' → Calls Tryz.prog 19 #[.slice oa out.length oc] w' fun e w'' => e = .returned (.agg (cellsOf (sumB (adler 1 out))).toArray) ∧ Fr (fun _ => False) w' w'') := fun w' F => sumOf_c oa oc out w' (ho.fr F) hol
  have HE : Hid (sumErr [r0, r1, r2, r3] out = if [r0, r1, r2, r3] = sumB (adler 1 out) then 0 else 5) := by show _ = _; simp [sumErr]
  obtain ⟨s0, s1, s2, s3, es⟩ : ∃ s0 s1 s2 s3, sumB (adler 1 out) = [s0, s1, s2, s3] := ⟨_, _, _, _, rfl⟩
  have hs8 := sumB_lt (adler 1 out)
  have hr8 := hr.1
  rw [es] at HS HE hs8
  have HS : Hid (∀ w', Fr (fun _ => False) w w' → Calls Tryz.prog 19 #[.slice oa out.length oc] w' fun e w'' => e = .returned (.agg #[.int .u8 (s0 : Int), .int .u8 (s1 : Int), .int .u8 (s2 : Int), .int .u8 (s3 : Int)]) ∧ Fr (fun _ => False) w' w'') := HS
  clear es
  have hA : ∀ W : World, (Instr.arrayAt 50 (.slice (some ad) 4 rc)).run Tryz.prog W = .ok (.pointer (some ad)) W := fun W => run_arrayAt (P := Tryz.prog) (w := W) 50 5 4 (some ad) 4 rc (by kernel_rfl) (by decide)
  clear hcell hr ho
  have hE := eq_four r0 r1 r2 r3 s0 s1 s2 s3 hr8 hs8
  obtain ⟨q, eq⟩ : ∃ q, q = decide ([r0, r1, r2, r3] = [s0, s1, s2, s3]) := ⟨_, rfl⟩
  rw [← eq] at hE
  have Eq := hide eq
  clear eq
  have hq : ([r0, r1, r2, r3] : List Nat).length = 4 := rfl
  go_enter Tryz.func15, Tryz.ntmps15
  go_upto_region 5 with fail
  refine wp_region_held_drew (S := fun W' => Fr (fun _ => False) w W') (by kernel_rfl) (Fr.of_drewN w 1) (fun hHeld => ?_)
  refine wpAnyH_take (i := 0) (v := ?v0) rfl (by kernel_rfl) (by kernel_rfl) (by kernel_rfl) (fun _ _ _ h => h) (Or.inl ⟨by rfl, ?hy0⟩) hHeld ?rest0
  case hy0 => (intro W hSw; (try dsimp only at hSw); obtain ⟨⟨⟨c0, c1⟩, c2⟩, c3⟩ := Hs.out _ hSw; go_simp; all_goals (with_reducible rfl))
  change wpAnyH _ _ _ _ _ _ _ (Act.put _ (some 14) _) _
  simp only [Act.put, List.setIfInBounds_toArray, List.set_cons_zero, List.set_cons_succ]
  refine wpAnyH_take (i := 3) (v := ?v3) rfl (by kernel_rfl) (by kernel_rfl) (by kernel_rfl) (fun _ _ _ h => h) (Or.inl ⟨by rfl, ?hy3⟩) hHeld ?rest3
  case hy3 => (intro W hSw; (try dsimp only at hSw); obtain ⟨⟨⟨c0, c1⟩, c2⟩, c3⟩ := Hs.out _ hSw; go_simp; all_goals (with_reducible rfl))
  change wpAnyH _ _ _ _ _ _ _ (Act.put _ (some 17) _) _
  simp only [Act.put, List.setIfInBounds_toArray, List.set_cons_zero, List.set_cons_succ]
  refine wpAnyH_take (i := 1) (v := ?v1) rfl (by kernel_rfl) (by kernel_rfl) (by kernel_rfl) (fun _ _ _ h => h) (Or.inl ⟨by rfl, ?hy1⟩) hHeld ?rest1
  case hy1 => (intro W hSw; (try dsimp only at hSw); obtain ⟨⟨⟨c0, c1⟩, c2⟩, c3⟩ := Hs.out _ hSw; go_simp; all_goals (with_reducible rfl))
  change wpAnyH _ _ _ _ _ _ _ (Act.put _ (some 15) _) _
  simp only [Act.put, List.setIfInBounds_toArray, List.set_cons_zero, List.set_cons_succ]
  refine wpAnyH_take (i := 2) (v := ?v2) rfl (by kernel_rfl) (by kernel_rfl) (by kernel_rfl) (fun _ _ _ h => h) (Or.inl ⟨by rfl, ?hy2⟩) hHeld ?rest2
  case hy2 => (intro W hSw; (try dsimp only at hSw); obtain ⟨⟨⟨c0, c1⟩, c2⟩, c3⟩ := Hs.out _ hSw; go_simp; all_goals (with_reducible rfl))
  change wpAnyH _ _ _ _ _ _ _ (Act.put _ (some 16) _) _
  simp only [Act.put, List.setIfInBounds_toArray, List.set_cons_zero, List.set_cons_succ]
  refine wpAnyH_ready (rs := [4]) (by kernel_rfl) (by simp) ?_
  refine AllReadyH.cons rfl (fun K hK => ?_) AllReadyH.nil
  try simp only [List.getElem_toArray, List.getElem_cons_succ, List.getElem_cons_zero]
  go_simp
  refine (HS.out _ hHeld).mono ?_
  rintro e w1 ⟨rfl, hF1⟩
  have hS1 := hHeld.join hF1
  have HF1 := hide hS1
  clear hF1
  refine hK.out _ _ hS1 (fun hHeld => ?_)
  clear hK K
  refine wpAnyH_take (i := 5) (v := ?v5) rfl (by kernel_rfl) (by kernel_rfl) (by kernel_rfl) (fun _ _ _ h => h) (Or.inl ⟨by rfl, ?hy5⟩) hHeld ?rest5
  case hy5 => (intro W hSw; (try dsimp only at hSw); obtain ⟨⟨⟨c0, c1⟩, c2⟩, c3⟩ := Hs.out _ hSw; go_simp; all_goals (with_reducible rfl))
  change wpAnyH _ _ _ _ _ _ _ (Act.put _ (some 19) _) _
  simp only [Act.put, List.setIfInBounds_toArray, List.set_cons_zero, List.set_cons_succ]
  refine wpAnyH_take (i := 6) (v := ?v6) rfl (by kernel_rfl) (by kernel_rfl) (by kernel_rfl) (fun _ _ _ h => h) (Or.inl ⟨by rfl, ?hy6⟩) hHeld ?rest6
  case hy6 => (intro W hSw; (try dsimp only at hSw); obtain ⟨⟨⟨c0, c1⟩, c2⟩, c3⟩ := Hs.out _ hSw; go_simp; all_goals (with_reducible rfl))
  change wpAnyH _ _ _ _ _ _ _ (Act.put _ (some 13) _) _
  simp only [Act.put, List.setIfInBounds_toArray, List.set_cons_zero, List.set_cons_succ]
  refine wpAnyH_done (by kernel_rfl) ?_ _
  cases q
  · go_wp2
    go_ret
    refine ⟨?_, HF1.out⟩
    rw [HE.out, if_neg (of_decide_eq_false Eq.out.symm)]
    rfl
  · go_wp2
    go_ret
    refine ⟨?_, HF1.out⟩
    rw [HE.out, if_pos (of_decide_eq_true Eq.out.symm)]
    rfl
end Go.Proofs.YtdpmpllbdoefdaaGreatDoor
namespace Go.Proofs.YtdpmpllbdoefdaaGreatDoor
open Go.RowKit
def timesF (ls : List Int) (i : Nat) : Nat → Nat → Nat
  | 0, n => n
  | f + 1, n => if i + n < ls.length ∧ at0 ls (i + n) = at0 ls i then timesF ls i f (n + 1) else n
theorem timesF_ok (ls : List Int) (i : Nat) : ∀ f n, 1 ≤ n → i + n ≤ ls.length → (∀ k, k < n → at0 ls (i + k) = at0 ls i) → 1 ≤ timesF ls i f n ∧ i + timesF ls i f n ≤ ls.length ∧ ∀ k, k < timesF ls i f n → at0 ls (i + k) = at0 ls i := by
  intro f
  induction f with
  | zero => intro n h1 h2 h3; exact ⟨h1, h2, h3⟩
  | succ f ih =>
    intro n h1 h2 h3
    simp only [timesF]
    split
    · next hc =>
      refine ih (n + 1) (by omega) (by omega) (fun k hk => ?_)
      rcases Nat.lt_or_ge k n with h | h
      · exact h3 k h
      · obtain rfl : k = n := by omega
        exact hc.2
    · exact ⟨h1, h2, h3⟩
def times (ls : List Int) (i : Nat) : Nat := timesF ls i ls.length 1
theorem times_ok {ls : List Int} {i : Nat} (hi : i < ls.length) : 1 ≤ times ls i ∧ i + times ls i ≤ ls.length ∧ ∀ k, k < times ls i → at0 ls (i + k) = at0 ls i :=
  timesF_ok ls i ls.length 1 (Nat.le_refl _) (show i + 1 ≤ ls.length from hi) (fun k hk => by
    have e : k = 0 := by omega
    subst e
    rfl)
set_option maxHeartbeats 800000 in
set_option maxRecDepth 100000 in
theorem timesFrom_c (a : Option Addr) (n c i : Nat) (ls : List Int) (w : World) (hn : n = ls.length) (hl : LiesI w a ls) (hlen : n ≤ 320) (hi : i < n) :
    Calls Tryz.prog 113 #[.slice a n c, .int .i64 (i : Int)] w fun e w' => e = .returned (.int .i64 (times ls i : Int)) ∧ Fr (fun _ => False) w w' := by
  have HL := hide hl
  have Hn := hide hn
  have hni : (n : Int) ≤ 320 := by omega
  have hii : (i : Int) < (n : Int) := by omega
  clear hl hn
  go_enter Tryz.func113, Tryz.ntmps113
  go_wp2_with fail
  go_loopw [5] (fun t wr => ∃ m f : Nat, t = .int .i64 (m : Int) ∧ 1 ≤ m ∧ i + m ≤ n ∧ m + f = n + 1 ∧ times ls i = timesF ls i f m ∧ Fr (fun _ => False) w wr) (fun t _ => n - (intOf t).toNat)
  case atStart => exact ⟨1, n, rfl, Nat.le_refl _, by omega, by omega, by unfold times; rw [Hn.out], Fr.refl _ _⟩
  case round =>
    obtain ⟨m, f, rfl, hm1, hm, hmf, ht, hF⟩ := hrel
    have HF := hide hF
    have Ht := hide ht
    have hmi : (m : Int) ≤ 320 := by omega
    clear hF ht
    have hlr := HL.out.fr HF.out
    by_cases hlt : i + m < n
    · have hlti : (i : Int) + (m : Int) < (n : Int) := by omega
      have hb : decide ((i : Int) + (m : Int) < (n : Int)) = true := decide_eq_true hlti
      obtain ⟨ad, rfl, c1⟩ := hlr (i + m) (by rw [← Hn.out]; omega)
      obtain ⟨ad', e', c2⟩ := hlr i (by rw [← Hn.out]; omega)
      cases e'
      obtain ⟨x, hx⟩ : ∃ x, x = at0 ls (i + m) := ⟨_, rfl⟩
      obtain ⟨y, hy⟩ : ∃ y, y = at0 ls i := ⟨_, rfl⟩
      rw [← hx] at c1
      rw [← hy] at c2
      have Hx := hide hx
      have Hy := hide hy
      have tx : ((i : Int) + (m : Int)).toNat = i + m := by omega
      clear hlr hx hy
      obtain ⟨f', rfl⟩ : ∃ f', f = f' + 1 := ⟨f - 1, by omega⟩
      by_cases hxy : x = y
      · have hbb : (x == y) = true := beq_iff_eq.2 hxy
        have Hxy := hide hxy
        clear hxy
        go_wp2_with fail
        go_quiet (fail)
        go_wp2
        go_roundw
        case rel =>
          refine ⟨m + 1, f', by go_num, by omega, by omega, by omega, ?_, HF.out.join (Fr.of_drewN _ _)⟩
          rw [Ht.out, timesF, if_pos ⟨by rw [← Hn.out]; exact hlt, by rw [← Hx.out, ← Hy.out]; exact Hxy.out⟩]
        case measure => simp [intOf]; omega
      · have hbb : (x == y) = false := beq_false_of_ne hxy
        have hend : times ls i = m := by rw [Ht.out, timesF, if_neg (fun h => hxy (by rw [Hx.out, Hy.out]; exact h.2))]
        have Hend := hide hend
        clear hend
        go_wp2_with fail
        go_quiet (fail)
        go_wp2
        go_ret
        rw [Hend.out]
        exact ⟨rfl, HF.out.join (Fr.of_drewN _ _)⟩
    · have hlti : ¬ (i : Int) + (m : Int) < (n : Int) := by omega
      have hb : decide ((i : Int) + (m : Int) < (n : Int)) = false := decide_eq_false hlti
      have hend : times ls i = m := by
        rw [Ht.out]
        cases f with
        | zero => rfl
        | succ f => rw [timesF, if_neg (fun h => hlt (by rw [Hn.out]; exact h.1))]
      have Hend := hide hend
      clear hend
      go_wp2_with fail
      go_quiet (fail)
      go_wp2
      go_ret
      rw [Hend.out]
      exact ⟨rfl, HF.out.join (Fr.of_drewN _ _)⟩
def markF (l times : Nat) (again : Bool) : Mk × Nat :=
  if l = 0 ∧ 11 ≤ times then (⟨18, min times 138 - 11, 7⟩, min times 138)
  else if l = 0 ∧ 3 ≤ times then (⟨17, min times 10 - 3, 3⟩, min times 10)
  else if again = true ∧ 3 ≤ times then (⟨16, min times 6 - 3, 2⟩, min times 6)
  else (⟨l, 0, 0⟩, 1)
theorem markF_rep {ls : List Int} {i l t : Nat} {again : Bool} (hl : at0 ls i = (l : Int)) (hl15 : l ≤ 15) (ht1 : 1 ≤ t) (ht : ∀ k, k < t → at0 ls (i + k) = at0 ls i) (ha : again = true → 0 < i ∧ at0 ls (i - 1) = at0 ls i) :
    RepOk ls i (markF l t again).1 (markF l t again).2 ∧ (markF l t again).2 ≤ t := by
  unfold markF
  split
  · next h => exact ⟨Or.inr (Or.inr (Or.inr ⟨rfl, rfl, by simp only; omega, by simp only; omega, fun k hk => by rw [ht k (by simp only at hk; omega), hl, h.1]; rfl⟩)), by simp only; omega⟩
  · split
    · next h => exact ⟨Or.inr (Or.inr (Or.inl ⟨rfl, rfl, by simp only; omega, by simp only; omega, fun k hk => by rw [ht k (by simp only at hk; omega), hl, h.1]; rfl⟩)), by simp only; omega⟩
    · split
      · next h => exact ⟨Or.inr (Or.inl ⟨rfl, rfl, by simp only; omega, by simp only; omega, (ha h.1).1, fun k hk => by rw [ht k (by simp only at hk; omega), (ha h.1).2]⟩), by simp only; omega⟩
      · exact ⟨Or.inl ⟨hl15, rfl, rfl, rfl, hl⟩, ht1⟩
set_option maxHeartbeats 800000 in
set_option maxRecDepth 100000 in
theorem lengthsMark_c (l t : Nat) (again : Bool) (w : World) (hl : l ≤ 15) (ht : t ≤ 320) :
    Calls Tryz.prog 114 #[.int .i64 (l : Int), .int .i64 (t : Int), .bool again] w fun e w' => e = .returned (.tuple #[mkV (markF l t again).1, .int .i64 ((markF l t again).2 : Int)]) ∧ Fr (fun _ => False) w w' := by
  have hti : (t : Int) ≤ 320 := by omega
  rcases (show (l = 0 ∧ 11 ≤ t) ∨ (l = 0 ∧ t < 11 ∧ 3 ≤ t) ∨ (l = 0 ∧ t < 3) ∨ (l ≠ 0 ∧ 3 ≤ t) ∨ (l ≠ 0 ∧ t < 3) by omega) with ⟨rfl, h11⟩ | ⟨rfl, h11, h3⟩ | ⟨rfl, h3⟩ | ⟨hl0, h3⟩ | ⟨hl0, h3⟩
  · skip
    obtain ⟨m, hm⟩ : ∃ m, m = min t 138 := ⟨_, rfl⟩
    have hmi : (if (138 : Int) < (t : Int) then 138 else (t : Int)) = (m : Int) := by split <;> omega
    have hF : markF 0 t again = (⟨18, m - 11, 7⟩, m) := by unfold markF; rw [if_pos ⟨rfl, h11⟩]; rw [← hm]
    have hmc : (m : Int) ≤ 138 := by omega
    have hmo : (11 : Int) ≤ (m : Int) := by omega
    have hsub : ((m - 11 : Nat) : Int) = (m : Int) - 11 := by omega
    have g0 : (11 : Int) ≤ (t : Int) := by omega
    have HF := hide hF
    have Hsub := hide hsub
    clear hF hm hsub
    go_enter Tryz.func114, Tryz.ntmps114
    go_wp2
    refine bodyPost_ret (v := .tuple #[.agg #[.int .i64 18, .int .i64 ((m : Int) - 11), .int .i64 7], .int .i64 (m : Int)]) (by simp [results, Tryz.results114, go_sem]) rfl ⟨?_, Fr.of_alloc _ _⟩
    rw [HF.out]
    simp only [mkV, Hsub.out]
    rfl
  · skip
    have hF : markF 0 t again = (⟨17, t - 3, 3⟩, t) := by unfold markF; rw [if_neg (by omega), if_pos ⟨rfl, h3⟩, Nat.min_eq_left (by omega)]
    have hsub : ((t - 3 : Nat) : Int) = (t : Int) - 3 := by omega
    have g0 : ¬ (11 : Int) ≤ (t : Int) := by omega
    have g1 : (3 : Int) ≤ (t : Int) := by omega
    have g2 : ¬ (10 : Int) < (t : Int) := by omega
    have HF := hide hF
    have Hsub := hide hsub
    clear hF hsub
    go_enter Tryz.func114, Tryz.ntmps114
    go_wp2
    refine bodyPost_ret (v := .tuple #[.agg #[.int .i64 17, .int .i64 ((t : Int) - 3), .int .i64 3], .int .i64 (t : Int)]) (by simp [results, Tryz.results114, go_sem]) rfl ⟨?_, Fr.of_alloc _ _⟩
    rw [HF.out]
    simp only [mkV, Hsub.out]
    rfl
  · cases again
    all_goals
      have hF : ∀ ag, markF 0 t ag = (⟨0, 0, 0⟩, 1) := fun ag => by unfold markF; rw [if_neg (by omega), if_neg (by omega), if_neg (by omega)]
      have g0 : ¬ (11 : Int) ≤ (t : Int) := by omega
      have g1 : ¬ (3 : Int) ≤ (t : Int) := by omega
      have HF := hide hF
      clear hF
      go_enter Tryz.func114, Tryz.ntmps114
      go_wp2
      refine bodyPost_ret (v := .tuple #[.agg #[.int .i64 ((0 : Nat) : Int), .int .i64 0, .int .i64 0], .int .i64 1]) (by simp [results, Tryz.results114, go_sem]) rfl ⟨?_, Fr.of_alloc _ _⟩
      rw [HF.out]
      rfl
  · have k0 : ¬ (l : Int) = 0 := by omega
    have k1 : ((l : Int) == 0) = false := beq_false_of_ne k0
    cases again
    · skip
      have hF : markF l t false = (⟨l, 0, 0⟩, 1) := by unfold markF; rw [if_neg (by omega), if_neg (by omega), if_neg (fun h => Bool.noConfusion h.1)]
      have g0 : (3 : Int) ≤ (t : Int) := by omega
      have HF := hide hF
      clear hF
      go_enter Tryz.func114, Tryz.ntmps114
      go_wp2
      refine bodyPost_ret (v := .tuple #[.agg #[.int .i64 ((l : Nat) : Int), .int .i64 0, .int .i64 0], .int .i64 1]) (by simp [results, Tryz.results114, go_sem]) rfl ⟨?_, Fr.of_alloc _ _⟩
      rw [HF.out]
      rfl
    · skip
      obtain ⟨m, hm⟩ : ∃ m, m = min t 6 := ⟨_, rfl⟩
      have hmi : (if (6 : Int) < (t : Int) then 6 else (t : Int)) = (m : Int) := by split <;> omega
      have hF : markF l t true = (⟨16, m - 3, 2⟩, m) := by unfold markF; rw [if_neg (by omega), if_neg (by omega), if_pos ⟨rfl, h3⟩]; rw [← hm]
      have hmc : (m : Int) ≤ 6 := by omega
      have hmo : (3 : Int) ≤ (m : Int) := by omega
      have hsub : ((m - 3 : Nat) : Int) = (m : Int) - 3 := by omega
      have g0 : (3 : Int) ≤ (t : Int) := by omega
      have HF := hide hF
      have Hsub := hide hsub
      clear hF hm hsub
      go_enter Tryz.func114, Tryz.ntmps114
      go_wp2
      refine bodyPost_ret (v := .tuple #[.agg #[.int .i64 16, .int .i64 ((m : Int) - 3), .int .i64 2], .int .i64 (m : Int)]) (by simp [results, Tryz.results114, go_sem]) rfl ⟨?_, Fr.of_alloc _ _⟩
      rw [HF.out]
      simp only [mkV, Hsub.out]
      rfl
  · have k0 : ¬ (l : Int) = 0 := by omega
    have k1 : ((l : Int) == 0) = false := beq_false_of_ne k0
    cases again
    all_goals
      have hF : ∀ ag, markF l t ag = (⟨l, 0, 0⟩, 1) := fun ag => by unfold markF; rw [if_neg (by omega), if_neg (by omega), if_neg (by omega)]
      have g0 : ¬ (3 : Int) ≤ (t : Int) := by omega
      have HF := hide hF
      clear hF
      go_enter Tryz.func114, Tryz.ntmps114
      go_wp2
      refine bodyPost_ret (v := .tuple #[.agg #[.int .i64 ((l : Nat) : Int), .int .i64 0, .int .i64 0], .int .i64 1]) (by simp [results, Tryz.results114, go_sem]) rfl ⟨?_, Fr.of_alloc _ _⟩
      rw [HF.out]
      rfl
end Go.Proofs.YtdpmpllbdoefdaaGreatDoor
namespace Go.Proofs.YtdpmpllbdoefdaaGreatDoor
open Go.RowKit
def cellsM : List Mk → List Value
  | [] => []
  | m :: r => .int .i64 (m.sym : Int) :: .int .i64 (m.further : Int) :: .int .i64 (m.size : Int) :: cellsM r
theorem cellsM_append (a b : List Mk) : cellsM (a ++ b) = cellsM a ++ cellsM b := by
  induction a with
  | nil => rfl
  | cons x r ih => simp [cellsM, ih]
theorem cellsM_one (l : List Mk) : ∀ u ∈ cellsM l, u.oneCell' = true := by
  induction l with
  | nil => intro u hu; cases hu
  | cons x r ih =>
    intro u hu
    simp only [cellsM, List.mem_cons] at hu
    rcases hu with rfl | rfl | rfl | hu
    · rfl
    · rfl
    · rfl
    · exact ih u hu
theorem Tryz.info158 : (Tryz.prog.info? 158).map (fun i => (i.zero, i.size, i.bytes)) = some (some (.agg #[.int .i64 0, .int .i64 0, .int .i64 0]), 3, 24) := by kernel_rfl
def againF (ls : List Int) (i : Nat) : Bool := decide (0 < i ∧ at0 ls (i - 1) = at0 ls i)
def lmarks (ls : List Int) : Nat → Nat → List Mk
  | 0, _ => []
  | f + 1, i => if i < ls.length then (markF (at0 ls i).toNat (times ls i) (againF ls i)).1 :: lmarks ls f (i + (markF (at0 ls i).toNat (times ls i) (againF ls i)).2) else []
theorem mark_at {ls : List Int} (hg : ∀ i, i < ls.length → 0 ≤ at0 ls i ∧ at0 ls i ≤ 15) {i : Nat} (hi : i < ls.length) :
    RepOk ls i (markF (at0 ls i).toNat (times ls i) (againF ls i)).1 (markF (at0 ls i).toNat (times ls i) (againF ls i)).2 ∧ i + (markF (at0 ls i).toNat (times ls i) (againF ls i)).2 ≤ ls.length := by
  obtain ⟨t1, t2, t3⟩ := times_ok hi
  have hb := hg i hi
  obtain ⟨a, b⟩ := markF_rep (ls := ls) (i := i) (l := (at0 ls i).toNat) (t := times ls i) (again := againF ls i) (by omega) (by omega) t1 t3 (fun h => by unfold againF at h; exact of_decide_eq_true h)
  exact ⟨a, by omega⟩
theorem lmarks_reps {ls : List Int} (hg : ∀ i, i < ls.length → 0 ≤ at0 ls i ∧ at0 ls i ≤ 15) : ∀ f i, i ≤ ls.length → ls.length ≤ f + i → Reps ls i (lmarks ls f i) := by
  intro f
  induction f with
  | zero => intro i h1 h2; show i = ls.length; omega
  | succ f ih =>
    intro i h1 h2
    simp only [lmarks]
    split
    · next h =>
      obtain ⟨a, b⟩ := mark_at hg h
      have := a.lt.2.2
      exact ⟨_, a, b, ih _ b (by omega)⟩
    · show i = ls.length; omega
theorem fr_append2 {w w4 w5 : World} {o : Obj} {v : Value} {n : Nat} {xs : List Value} (h : Fr (fun _ => False) w w4) (hO : w4.ownsRow w.heap.size 158 3 v n xs) (hg : (w4.alloc o).grownBy w5 v.ownBlock) : Fr (fun _ => False) w w5 :=
  ((h.join (Fr.of_alloc w4 o)).trans (Fr.of_grown hg)).mono fun i hi e => e.elim id fun e => by
    have := (hO.lt i e).1
    omega
set_option maxHeartbeats 1600000 in
set_option maxRecDepth 100000 in
theorem lengthMarks_c (a : Option Addr) (n c : Nat) (ls : List Int) (w : World) (hn : n = ls.length) (hl : LiesI w a ls) (hlen : n ≤ 320) (hg : ∀ i, i < ls.length → 0 ≤ at0 ls i ∧ at0 ls i ≤ 15) :
    Calls Tryz.prog 99 #[.slice a n c] w fun e w' => ∃ va vc, e = .returned (.slice va (lmarks ls n 0).length vc) ∧ w'.ownsRow w.heap.size 158 3 (.slice va (lmarks ls n 0).length vc) (lmarks ls n 0).length (cellsM (lmarks ls n 0)) ∧ Fr (fun _ => False) w w' := by
  obtain ⟨i0, hi0, hz0, hz1, hz2⟩ := info_parts Tryz.info158
  have HL := hide hl
  have Hn := hide hn
  have Hg := hide hg
  have hni : (n : Int) ≤ 320 := by omega
  clear hl hn hg
  go_enter Tryz.func99, Tryz.ntmps99
  go_wp2_with fail
  go_loopw [3, 4, 5, 6, 7, 8] (fun tv ti _ _ _ _ wr => ∃ (M : List Mk) (i f : Nat) (va : Option Addr) (vc : Nat), tv = .slice va M.length vc ∧ ti = .int .i64 (i : Int) ∧ i ≤ n ∧ n ≤ f + i ∧ M.length ≤ i ∧ lmarks ls n 0 = M ++ lmarks ls f i ∧ wr.ownsRow w.heap.size 158 3 (.slice va M.length vc) M.length (cellsM M) ∧ Fr (fun _ => False) w wr) (fun _ ti _ _ _ _ _ => n - (intOf ti).toNat)
  case atStart => exact ⟨[], 0, n, none, 0, rfl, rfl, Nat.zero_le _, by omega, by simp, rfl, ⟨rfl, Or.inl ⟨rfl, rfl⟩⟩, Fr.refl _ _⟩
  case round =>
    obtain ⟨M, i, f, va, vc, rfl, rfl, hi, hf, hM, hm, hO, hF⟩ := hrel
    have HO := hide hO
    have HF := hide hF
    have Hm := hide hm
    clear hO hF hm
    by_cases hlt : i < n
    · have hlti : (i : Int) < (n : Int) := by omega
      have hil : i < ls.length := by rw [← Hn.out]; exact hlt
      obtain ⟨l, hlv⟩ : ∃ l, l = (at0 ls i).toNat := ⟨_, rfl⟩
      have hl15 : l ≤ 15 := by have := Hg.out i hil; omega
      have hla : at0 ls i = (l : Int) := by have := Hg.out i hil; omega
      obtain ⟨t, ht⟩ : ∃ t, t = times ls i := ⟨_, rfl⟩
      have ht320 : t ≤ 320 := by have := times_ok hil; rw [← ht, ← Hn.out] at this; omega
      obtain ⟨f', rfl⟩ : ∃ f', f = f' + 1 := ⟨f - 1, by omega⟩
      have hmk := mark_at Hg.out hil
      have hun : lmarks ls (f' + 1) i = (markF l t (againF ls i)).1 :: lmarks ls f' (i + (markF l t (againF ls i)).2) := by rw [lmarks, if_pos hil, hlv, ht]
      rw [← hlv, ← ht] at hmk
      have Hmk := hide hmk
      have Hun := hide hun
      have Htc := hide (timesFrom_c a n c i ls wr Hn.out (HL.out.fr HF.out) hlen hlt)
      rw [← ht] at Htc
      clear hlv ht hmk hun
      go_wp2_with fail
      refine (calls_args Htc.out (by rfl)).mono ?_
      rintro e w1 ⟨rfl, hF1⟩
      have HF1 := hide (HF.out.join hF1)
      have HO1 : Hid (w1.ownsRow w.heap.size 158 3 (.slice va M.length vc) M.length (cellsM M)) := ownsRow_fr HO.out fun k hk => hF1.block k (HO.out.lt k hk).2 (fun e => e)
      clear hF1
      obtain ⟨ad, rfl, c1⟩ := (HL.out.fr HF1.out) i hil
      rw [hla] at c1
      go_upto_region 5 with fail
      go_cut [6] from 9 to 46 (fun cv wx => cv = .bool (againF ls i) ∧ Fr (fun _ => False) w1 wx)
      case first =>
        by_cases hi1 : 0 < i
        · obtain ⟨j, hj⟩ : ∃ j, j = i - 1 := ⟨_, rfl⟩
          have i1 : decide ((0 : Int) < (i : Int)) = true := decide_eq_true (by omega)
          have hji : (i : Int) - 1 = (j : Int) := by omega
          have ij : (j : Int) < (n : Int) := by omega
          have ij' : (j : Int) ≤ 320 := by omega
          obtain ⟨ad', e', c2⟩ := (HL.out.fr HF1.out) j (by omega)
          cases e'
          obtain ⟨y, hy⟩ : ∃ y, y = at0 ls j := ⟨_, rfl⟩
          rw [← hy] at c2
          have Hy := hide hy
          have Hj := hide hj
          clear hy hj
          by_cases hyl : y = (l : Int)
          · have hb : (y == (l : Int)) = true := beq_iff_eq.2 hyl
            have he : againF ls i = true := by unfold againF; exact decide_eq_true ⟨by omega, by rw [← Hj.out, hla, ← Hy.out]; exact hyl⟩
            have He := hide he
            clear he hyl hla
            go_wp2_with fail
            go_quiet (fail)
            go_wp2
            go_meet
            rw [He.out]
            exact ⟨rfl, Fr.of_drewN _ _⟩
          · have hb : (y == (l : Int)) = false := beq_false_of_ne hyl
            have he : againF ls i = false := by unfold againF; exact decide_eq_false (fun h => hyl (by have := h.2; rw [← Hj.out, hla, ← Hy.out] at this; exact this))
            have He := hide he
            clear he hla
            go_wp2_with fail
            go_quiet (fail)
            go_wp2
            go_meet
            rw [He.out]
            exact ⟨rfl, Fr.of_drewN _ _⟩
        · obtain rfl : i = 0 := by omega
          have he : againF ls 0 = false := by unfold againF; exact decide_eq_false (fun h => by omega)
          have He := hide he
          clear he hla
          go_wp2_with fail
          go_quiet (fail)
          go_wp2
          go_meet
          rw [He.out]
          exact ⟨rfl, Fr.of_drewN _ _⟩
      case rest =>
        obtain ⟨rfl, hF2⟩ := hcut
        have HF2 := hide (HF1.out.join hF2)
        have HO2 : Hid (wc.ownsRow w.heap.size 158 3 (.slice va M.length vc) M.length (cellsM M)) := ownsRow_fr HO1.out fun k hk => hF2.block k (HO1.out.lt k hk).2 (fun e => e)
        have c2 := (cell_blk (hF2.block _ (cell_lt c1) (fun e => e))).trans c1
        clear hF2 c1
        have Hlc := hide (lengthsMark_c l t (againF ls i))
        generalize againF ls i = ag at *
        generalize markF l t ag = mn at *
        obtain ⟨⟨sy, fu, sz⟩, nn⟩ := mn
        have hnn : nn ≤ 320 := by have := Hmk.out.2; simp only at this; rw [← Hn.out] at this; omega
        have hnni : (nn : Int) ≤ 320 := by omega
        go_wp2_with fail
        refine (calls_args (Hlc.out wc hl15 ht320) (by rfl)).mono ?_
        rintro e w3 ⟨rfl, hF3⟩
        have HF3 := hide (HF2.out.join hF3)
        have HO3 : Hid (w3.ownsRow w.heap.size 158 3 (.slice va M.length vc) M.length (cellsM M)) := ownsRow_fr HO2.out fun k hk => hF3.block k (HO2.out.lt k hk).2 (fun e => e)
        clear hF3
        have FA : Hid (Fr (fun _ => False) w3 (w3.alloc (.cells #[.int .i64 (sy : Int), .int .i64 (fu : Int), .int .i64 (sz : Int)] 158))) := Fr.of_alloc _ _
        obtain ⟨w4, hw4⟩ : ∃ w4, w4 = w3.alloc (.cells #[.int .i64 (sy : Int), .int .i64 (fu : Int), .int .i64 (sz : Int)] 158) := ⟨_, rfl⟩
        rw [← hw4] at FA
        have HO4 : Hid (w4.ownsRow w.heap.size 158 3 (.slice va M.length vc) M.length (cellsM M)) := ownsRow_fr HO3.out fun k hk => FA.out.block k (HO3.out.lt k hk).2 (fun e => e)
        have HF4 := hide (HF3.out.join FA.out)
        have b4 : w4.heap[w3.heap.size]? = some (.cells #[.int .i64 (sy : Int), .int .i64 (fu : Int), .int .i64 (sz : Int)] 158 (0, 0)) := by rw [hw4]; exact heap_alloc_at rfl
        have d0 := cell_of (o := 0) b4 rfl
        have d1 := cell_of (o := 1) b4 rfl
        have d2 := cell_of (o := 2) b4 rfl
        have hs4 := HF4.out.size
        have hMl : M.length ≤ 320 := by omega
        have Hw4 := hide hw4
        clear hw4 b4
        go_upto_region 7 with fail
        rw [← Hw4.out]
        go_wp2_with (at_builtin; go_must (refine wpList_append_lies _ rfl _ _ 154 rfl w.heap.size 158 i0 (.agg #[.int .i64 0, .int .i64 0, .int .i64 0]) 3 24 Tryz.underlying154 hi0 hz0 hz1 hz2 rfl (by decide) (.slice va M.length vc) M.length (cellsM M) rfl (HO4.out.alloc _) ⟨w4.heap.size, 0, none⟩ 1 1 (cellsM [⟨sy, fu, sz⟩]) rfl rfl (World.news_of_block (heap_alloc_at rfl)) (cellsM_one _) (by decide) (by unfold maxLen; omega) (by omega) (by simp; omega) (w4.heap.size + 1) (by simp) ?_); intro g cap w5 hown5 hgrow hat hlt5
                     have HF5 := hide (fr_append2 HF4.out HO4.out hgrow)
                     have HO5 := hide hown5
                     clear hown5 hgrow hat hlt5)
        go_roundw
        case rel =>
          refine ⟨M ++ [⟨sy, fu, sz⟩], i + nn, f', some ⟨g, 0, none⟩, cap, by simp, by go_num, by have : i + nn ≤ ls.length := Hmk.out.2; rw [← Hn.out] at this; exact this, ?_, ?_, ?_, ?_, HF5.out⟩
          · have : 1 ≤ nn := Hmk.out.1.lt.2.2; omega
          · have : 1 ≤ nn := Hmk.out.1.lt.2.2; simp; omega
          · rw [Hm.out, Hun.out]; simp
          · rw [cellsM_append]; simpa using HO5.out
        case measure =>
          have : 1 ≤ nn := Hmk.out.1.lt.2.2
          simp [intOf]
          omega
    · obtain rfl : i = n := by omega
      have hend : lmarks ls f i = [] := by
        cases f with
        | zero => rfl
        | succ f => rw [lmarks, if_neg (by rw [← Hn.out]; omega)]
      have hM' : lmarks ls i 0 = M := by rw [Hm.out, hend, List.append_nil]
      have HM' := hide hM'
      clear hend hM'
      go_wp2
      go_ret
      rw [HM'.out]
      exact ⟨va, vc, rfl, HO.out, HF.out⟩
end Go.Proofs.YtdpmpllbdoefdaaGreatDoor
namespace Go.Proofs.YtdpmpllbdoefdaaGreatDoor
open Go.RowKit
def Gl (w : World) : Prop := ∀ i, i < 19 → w.cell? ⟨1, i, none⟩ = some (.int .i64 ((order.getD i 0 : Nat) : Int))
def Gi (w : World) : Prop := ∀ i, i < 19 → w.cell? ⟨0, i, none⟩ = some (.int .i64 ((order.getD i 0 : Nat) : Int))
theorem Gl.keep {w w' : World} (h : Gl w) {S : Nat → Prop} (hF : Fr S w w') (hS : ¬ S 1) : Gl w' := fun i hi => by
  rw [cell_blk (hF.block 1 (cell_lt (h i hi)) hS)]
  exact h i hi
theorem Gi.keep {w w' : World} (h : Gi w) {S : Nat → Prop} (hF : Fr S w w') (hS : ¬ S 0) : Gi w' := fun i hi => by
  rw [cell_blk (hF.block 0 (cell_lt (h i hi)) hS)]
  exact h i hi
structure Gw (w : World) : Prop where
  gl : Gl w
  gi : Gi w
  pos : 1 < w.heap.size
theorem Gw.fr {w w' : World} (h : Gw w) (hF : Fr (fun _ => False) w w') : Gw w' := ⟨h.gl.keep hF (fun h => h), h.gi.keep hF (fun h => h), Nat.lt_of_lt_of_le h.pos hF.size⟩
end Go.Proofs.YtdpmpllbdoefdaaGreatDoor
namespace Go.Proofs.YtdpmpllbdoefdaaGreatDoor
open Go.RowKit
def ordL (ls : List Int) : List Int := order.map fun o => at0 ls o
theorem ordL_len (ls : List Int) : (ordL ls).length = 19 := rfl
def ordP (ls : List Int) (i : Nat) : List Int := (ordL ls).take i ++ List.replicate (19 - i) 0
theorem ordP_step (ls : List Int) (i : Nat) (h : i < 19) : (ordP ls i).set i (at0 ls (order.getD i 0)) = ordP ls (i + 1) := by
  have hl : (ordL ls).length = 19 := rfl
  have hg : (ordL ls)[i]'(by rw [hl]; exact h) = at0 ls (order.getD i 0) := by
    have ho : i < order.length := h
    simp [ordL, List.getElem?_eq_getElem ho]
  unfold ordP
  have ht : ((ordL ls).take i).length = i := by simp [hl]; omega
  rw [show 19 - i = (19 - (i + 1)) + 1 by omega, List.replicate_succ, List.set_append_right _ _ (by omega), ht, Nat.sub_self, List.set_cons_zero, List.take_succ_eq_append_getElem (by rw [hl]; exact h), hg]
  simp
theorem ordP_len (ls : List Int) (i : Nat) (h : i ≤ 19) : (ordP ls i).length = 19 := by
  unfold ordP
  simp [ordL_len]
  omega
set_option maxHeartbeats 800000 in
set_option maxRecDepth 100000 in
theorem inOrder_c (a : Option Addr) (c : Nat) (ls : List Int) (w : World) (hl : LiesI w a ls) (h19 : ls.length = 19) (hg : Gl w) :
    Calls Tryz.prog 100 #[.slice a 19 c] w fun e w' => ∃ g, e = .returned (.slice (some ⟨g, 0, none⟩) (trim (ordL ls) 4).length 19) ∧ LiesI w' (some ⟨g, 0, none⟩) (trim (ordL ls) 4) ∧ w.heap.size ≤ g ∧ Fr (fun _ => False) w w' := by
  obtain ⟨R, hR⟩ : ∃ R, R = w.heap.size := ⟨_, rfl⟩
  obtain ⟨w1, hw1⟩ : ∃ w1, w1 = w.alloc (.cells (cellsZ (ordP ls 0)).toArray 156) := ⟨_, rfl⟩
  have hF1 : Fr (fun _ => False) w w1 := by rw [hw1]; exact Fr.of_alloc _ _
  have hb1 : w1.heap[R]? = some (.cells (cellsZ (ordP ls 0)).toArray 156 (0, 0)) := by rw [hw1]; exact heap_alloc_at hR
  have HF1 := hide hF1
  have Hb1 := hide hb1
  have HR := hide hR
  have HL := hide hl
  have HG := hide hg
  have H19 := hide h19
  have e1 : w.alloc (.cells #[.int .i64 0, .int .i64 0, .int .i64 0, .int .i64 0, .int .i64 0, .int .i64 0, .int .i64 0, .int .i64 0, .int .i64 0, .int .i64 0, .int .i64 0, .int .i64 0, .int .i64 0, .int .i64 0, .int .i64 0, .int .i64 0, .int .i64 0, .int .i64 0, .int .i64 0] 156) = w1 := by rw [hw1]; rfl
  have E1 := hide e1
  clear hF1 hb1 hR hl hg h19 hw1 e1
  go_enter Tryz.func100, Tryz.ntmps100
  go_wp2_with fail
  rw [E1.out, ← HR.out]
  go_loopw [4, 5] (fun _ ti wr => ∃ i : Nat, ti = .int .i64 (i : Int) ∧ i ≤ 19 ∧ wr.heap[R]? = some (.cells (cellsZ (ordP ls i)).toArray 156 (0, 0)) ∧ Fr (fun k => k = R) w1 wr) (fun _ ti _ => 19 - (intOf ti).toNat)
  case atStart => exact ⟨0, rfl, by omega, Hb1.out, Fr.refl _ _⟩
  case round =>
    obtain ⟨i, rfl, hi, hb, hF⟩ := hrel
    have hFw : Fr (fun _ => False) w wr := (HF1.out.trans hF).mono fun k hk e => e.elim id fun e => by have := HR.out; omega
    by_cases hlt : i < 19
    · have hlti : (i : Int) < 19 := by omega
      obtain ⟨q, hq⟩ : ∃ q, q = order.getD i 0 := ⟨_, rfl⟩
      have hq19 : q < 19 := by
        rw [hq]
        have all : ∀ j : Fin 19, order.getD j.1 0 < 19 := by decide
        exact all ⟨i, hlt⟩
      have hqi : (q : Int) < 19 := by omega
      have cg := (HG.out.keep hFw (fun e => e)) i hlt
      rw [← hq] at cg
      obtain ⟨ad, rfl, cx⟩ := (HL.out.fr hFw) q (by rw [H19.out]; exact hq19)
      obtain ⟨z, hz⟩ : ∃ z, z = at0 ls q := ⟨_, rfl⟩
      rw [← hz] at cx
      have hcR : ∃ v, wr.cell? ⟨R, i, none⟩ = some v := by
        have hi' : i < (cellsZ (ordP ls i)).length := by simp [cellsZ, ordP_len ls i hi]; exact hlt
        exact ⟨(cellsZ (ordP ls i))[i], cell_of hb (by simp [List.getElem?_eq_getElem hi'])⟩
      obtain ⟨v, cR⟩ := hcR
      have fR := frozen_of (o := i) hb
      have hst := heap_setCell_own (o := i) (.int .i64 z) hb
      have he : (cellsZ (ordP ls i)).toArray.setIfInBounds i (.int .i64 z) = (cellsZ (ordP ls (i + 1))).toArray := by
        rw [← ordP_step ls i hlt, ← hq, ← hz]
        simp [cellsZ, List.map_set]
      rw [he] at hst
      have Hst := hide hst
      have HF := hide hF
      have hRw := lt_of hb
      have Hb := hide hb
      clear hq hz hst he hF hFw hb
      go_wp2
      go_roundw
      case rel => exact ⟨i + 1, by go_num, by omega, Hst.out, (HF.out.trans (Fr.of_setCell wr ⟨R, i, none⟩ _)).mono fun k _ e => e.elim id id⟩
      case measure => simp [intOf]; omega
    · obtain rfl : i = 19 := by omega
      have ee : ordP ls 19 = ordL ls := by unfold ordP; rw [List.take_of_length_le (by rw [ordL_len]; exact Nat.le_refl _)]; simp
      rw [ee] at hb
      have hlz : LiesI wr (some ⟨R, 0, none⟩) (ordL ls) := fun j hj => ⟨_, rfl, by
        rw [add_none, Nat.zero_add]
        exact cell_of hb (by simp [cellsZ, List.getElem?_map, List.getElem?_eq_getElem hj, at0])⟩
      have Hlz := hide hlz
      have HFw := hide hFw
      clear hb hF hlz hFw ee
      go_wp2_with fail
      refine (calls_args (trimmed_c (some ⟨R, 0, none⟩) 19 (ordL ls) 4 wr Hlz.out (by rw [ordL_len]; omega) (by rw [ordL_len]; exact Nat.le_refl _) (by omega)) (by rw [ordL_len]; rfl)).mono ?_
      rintro e w2 ⟨rfl, rfl⟩
      go_wp2
      go_ret
      exact ⟨R, rfl, liesI_take Hlz.out 4, Nat.le_of_eq HR.out.symm, HFw.out⟩
end Go.Proofs.YtdpmpllbdoefdaaGreatDoor
namespace Go.Proofs.YtdpmpllbdoefdaaGreatDoor
open Go.RowKit
def cntM : List Mk → List Int → List Int
  | [], Z => Z
  | m :: ms, Z => cntM ms (inc Z m.sym 1)
theorem cntM_snoc (ms : List Mk) (m : Mk) (Z : List Int) : cntM (ms ++ [m]) Z = inc (cntM ms Z) m.sym 1 := by
  induction ms generalizing Z with
  | nil => rfl
  | cons q ms ih => exact ih _
theorem cntM_len (ms : List Mk) (Z : List Int) : (cntM ms Z).length = Z.length := by
  induction ms generalizing Z with
  | nil => rfl
  | cons q ms ih => exact (ih _).trans (inc_len _ _ _)
theorem cntM_bd : ∀ (ms : List Mk) (Z : List Int) (n : Nat), Z.length = 19 → (∀ m ∈ ms, m.sym < 19) → (∀ i, 0 ≤ at0 Z i ∧ at0 Z i ≤ (n : Int)) → ∀ i, 0 ≤ at0 (cntM ms Z) i ∧ at0 (cntM ms Z) i ≤ ((n + ms.length : Nat) : Int) := by
  intro ms
  induction ms with
  | nil => intro Z n _ _ h i; exact h i
  | cons m ms ih =>
    intro Z n hZ hs h i
    have h1 := ih (inc Z m.sym 1) (n + 1) ((inc_len _ _ _).trans hZ) (fun q hq => hs q (by simp [hq])) (fun j => by
      rw [inc_at _ _ _ _ (by rw [hZ]; exact hs m (by simp))]
      have a := h j
      have b := h m.sym
      split <;> omega) i
    rw [show n + (m :: ms).length = n + 1 + ms.length by simp; omega]
    exact h1
theorem cntM_mono : ∀ (ms : List Mk) (Z : List Int), Z.length = 19 → (∀ m ∈ ms, m.sym < 19) → ∀ i, at0 Z i ≤ at0 (cntM ms Z) i := by
  intro ms
  induction ms with
  | nil => intro Z _ _ i; exact Int.le_refl _
  | cons m ms ih =>
    intro Z hZ hs i
    refine Int.le_trans ?_ (ih (inc Z m.sym 1) ((inc_len _ _ _).trans hZ) (fun q hq => hs q (by simp [hq])) i)
    rw [inc_at _ _ _ _ (by rw [hZ]; exact hs m (by simp))]
    split
    · next e => rw [e]; omega
    · omega
theorem cntM_seen : ∀ (ms : List Mk) (Z : List Int), Z.length = 19 → (∀ m ∈ ms, m.sym < 19) → (∀ i, 0 ≤ at0 Z i) → ∀ m ∈ ms, 1 ≤ at0 (cntM ms Z) m.sym := by
  intro ms
  induction ms with
  | nil => intro Z _ _ _ m hm; cases hm
  | cons q ms ih =>
    intro Z hZ hs h m hm
    have hq := hs q (by simp)
    have hs' : ∀ m ∈ ms, m.sym < 19 := fun q hq => hs q (by simp [hq])
    have h' : ∀ i, 0 ≤ at0 (inc Z q.sym 1) i := fun i => by
      rw [inc_at _ _ _ _ (by omega)]
      have a := h i
      have b := h q.sym
      split <;> omega
    rcases List.mem_cons.1 hm with rfl | hm
    · refine Int.le_trans ?_ (cntM_mono ms _ ((inc_len _ _ _).trans hZ) hs' m.sym)
      rw [inc_at _ _ _ _ (by omega), if_pos rfl]
      have := h m.sym
      omega
    · exact ih _ ((inc_len _ _ _).trans hZ) hs' h' m hm
theorem at_zero19 (i : Nat) : at0 zero19 i = 0 := by
  unfold zero19 at0
  simp only [List.getD_eq_getElem?_getD, List.getElem?_replicate]
  split <;> rfl
theorem zero19_len : zero19.length = 19 := rfl
theorem reps_all {ls : List Int} : ∀ (ms : List Mk) (i : Nat), Reps ls i ms → ms.length + i ≤ ls.length ∧ ∀ m ∈ ms, m.sym < 19 ∧ m.further < 2 ^ m.size ∧ m.size ≤ 13 := by
  intro ms
  induction ms with
  | nil => intro i h; exact ⟨by have : i = ls.length := h; simp; omega, fun m hm => by cases hm⟩
  | cons q ms ih =>
    rintro i ⟨n, h1, h2, h3⟩
    obtain ⟨a, b⟩ := ih _ h3
    have c := h1.lt
    refine ⟨by simp; omega, fun m hm => ?_⟩
    rcases List.mem_cons.1 hm with rfl | hm
    · refine ⟨c.2.1, c.1, ?_⟩
      rcases h1 with h | h | h | h <;> omega
    · exact b m hm
def marksOf (ll dl : List Int) : List Mk := lmarks (ll ++ dl) (ll ++ dl).length 0
def freqOf (ll dl : List Int) : List Int := cntM (marksOf ll dl) zero19
def xsOf (cl : List Int) : List Nat := (trim (ordL cl) 4).map Int.toNat
theorem at0_app (ll dl : List Int) (i : Nat) : at0 (ll ++ dl) i = if i < ll.length then at0 ll i else at0 dl (i - ll.length) := by
  unfold at0
  simp only [List.getD_eq_getElem?_getD]
  split
  · next h => rw [List.getElem?_append_left h]
  · next h => rw [List.getElem?_append_right (by omega)]
theorem app_good {ll dl : List Int} (gl : good ll) (gd : good dl) : ∀ i, i < (ll ++ dl).length → 0 ≤ at0 (ll ++ dl) i ∧ at0 (ll ++ dl) i ≤ 15 := fun i _ => by
  rw [at0_app]
  split
  · exact at_all gl i
  · exact at_all gd _
theorem marks_reps {ll dl : List Int} (gl : good ll) (gd : good dl) : Reps (ll ++ dl) 0 (marksOf ll dl) := lmarks_reps (app_good gl gd) _ 0 (Nat.zero_le _) (by omega)
theorem freq_len (ll dl : List Int) : (freqOf ll dl).length = 19 := by
  unfold freqOf
  rw [cntM_len, zero19_len]
theorem freq_good {ll dl : List Int} (gl : good ll) (gd : good dl) (h : ll.length + dl.length ≤ 320) : goodF (freqOf ll dl) := by
  obtain ⟨a, b⟩ := reps_all _ _ (marks_reps gl gd)
  rw [List.length_append] at a
  refine ⟨by rw [freq_len]; decide, fun i _ => ?_⟩
  have := cntM_bd (marksOf ll dl) zero19 0 zero19_len (fun m hm => (b m hm).1) (fun i => by rw [at_zero19]; omega) i
  unfold freqOf
  omega
theorem trim_all {ls : List Int} {n : Nat} (h : ls.length ≤ n) : trim ls n = ls := by
  have : trimN ls n ls.length = ls.length := by
    cases e : ls.length with
    | zero => rfl
    | succ k => simp only [trimN]; rw [if_neg (by omega)]
  unfold trim
  rw [this, List.take_length]
theorem order_inj : ∀ j, j < 19 → ∀ k, k < 19 → order.getD j 0 = order.getD k 0 → j = k := by decide
theorem order_onto : ∀ i, i < 19 → ∃ j, j < 19 ∧ order.getD j 0 = i := by decide
theorem sets_len : ∀ (xs : List Nat) (i : Nat) (cl : List Int), (sets xs i cl).length = cl.length := by
  intro xs
  induction xs with
  | nil => intro i cl; rfl
  | cons x xs ih => intro i cl; rw [sets, ih, List.length_set]
theorem at0_setK (cl : List Int) (k j : Nat) (x : Int) (hk : k < cl.length) : at0 (cl.set k x) j = if j = k then x else at0 cl j := by
  unfold at0
  simp only [List.getD_eq_getElem?_getD]
  split
  · next h => subst h; simp [hk]
  · next h => rw [List.getElem?_set_ne (Ne.symm h)]
theorem sets_at : ∀ (xs : List Nat) (i : Nat) (cl : List Int), i + xs.length ≤ 19 → cl.length = 19 → ∀ j, j < 19 → at0 (sets xs i cl) (order.getD j 0) = if i ≤ j ∧ j < i + xs.length then ((xs.getD (j - i) 0 : Nat) : Int) else at0 cl (order.getD j 0) := by
  intro xs
  induction xs with
  | nil => intro i cl _ _ j _; rw [if_neg (by rw [List.length_nil]; omega)]; rfl
  | cons x xs ih =>
    intro i cl hi hc j hj
    rw [List.length_cons] at hi
    have hoi := order_lt i
    rw [sets, ih (i + 1) _ (by omega) (by rw [List.length_set]; exact hc) j hj, at0_setK _ _ _ _ (by omega)]
    by_cases hji : j = i
    · subst hji
      rw [if_neg (by omega), if_pos rfl, if_pos (by simp)]
      simp
    · have hno : ¬ order.getD j 0 = order.getD i 0 := fun e => hji (order_inj j hj i (by omega) e)
      rw [if_neg hno]
      by_cases hc2 : i + 1 ≤ j ∧ j < i + 1 + xs.length
      · rw [if_pos hc2, if_pos (by rw [List.length_cons]; omega), show j - i = (j - (i + 1)) + 1 by omega]
        simp
      · rw [if_neg hc2, if_neg (by rw [List.length_cons]; omega)]
theorem ordL_at (cl : List Int) (j : Nat) (hj : j < 19) : at0 (ordL cl) j = at0 cl (order.getD j 0) := by
  unfold ordL at0
  have h : j < order.length := hj
  simp only [List.getD_eq_getElem?_getD, List.getElem?_map, List.getElem?_eq_getElem h]
  rfl
theorem xs_len (cl : List Int) : 4 ≤ (xsOf cl).length ∧ (xsOf cl).length ≤ 19 := by
  obtain ⟨a, b, _⟩ := trimN_ok (ordL cl) 4 (ordL cl).length (at0_end (ordL cl))
  rw [ordL_len] at a b
  unfold xsOf
  rw [List.length_map, trim_len, ordL_len]
  exact ⟨b (by decide), a⟩
theorem xs_at (cl : List Int) (j : Nat) : (xsOf cl).getD j 0 = (at0 (ordL cl) j).toNat := by
  rw [← trim_at (ordL cl) 4 j]
  unfold xsOf at0
  simp only [List.getD_eq_getElem?_getD, List.getElem?_map]
  cases (trim (ordL cl) 4)[j]? <;> rfl
theorem xs_set {cl : List Int} (h19 : cl.length = 19) (h0 : ∀ i, 0 ≤ at0 cl i) : sets (xsOf cl) 0 zero19 = cl := by
  have hl := sets_len (xsOf cl) 0 zero19
  rw [zero19_len] at hl
  have hx := xs_len cl
  apply List.ext_getElem (by rw [hl, h19])
  intro i h1 h2
  obtain ⟨j, hj, rfl⟩ := order_onto i (by omega)
  have h := sets_at (xsOf cl) 0 zero19 (by omega) zero19_len j hj
  have e1 : at0 (sets (xsOf cl) 0 zero19) (order.getD j 0) = (sets (xsOf cl) 0 zero19)[order.getD j 0] := by unfold at0; rw [List.getD_eq_getElem?_getD, List.getElem?_eq_getElem h1]; rfl
  have e2 : at0 cl (order.getD j 0) = cl[order.getD j 0] := by unfold at0; rw [List.getD_eq_getElem?_getD, List.getElem?_eq_getElem h2]; rfl
  rw [← e1, ← e2, h]
  have h3 := h0 (order.getD j 0)
  split
  · rw [Nat.sub_zero, xs_at, ordL_at _ _ hj]; omega
  · next hc =>
    rw [at_zero19]
    have h4 : at0 (trim (ordL cl) 4) j = 0 := at0_end _ _ (by unfold xsOf at hc; rw [List.length_map] at hc; omega)
    rw [trim_at, ordL_at _ _ hj] at h4
    exact h4.symm
theorem own_of {ll dl cl : List Int} (kl : Cok ll) (kd : Cok dl) (l1 : 257 ≤ ll.length) (l2 : ll.length ≤ 286) (d1 : 1 ≤ dl.length) (d2 : dl.length ≤ 30) (fin : 1 ≤ at0 ll 256) (h : LenOk (freqOf ll dl) 7 cl) : Own ll dl cl (xsOf cl) (marksOf ll dl) := by
  have fl := freq_len ll dl
  have hl : cl.length = 19 := by rw [h.len, fl]
  have hk : Cok cl := lenOk_cok h (by omega) (by omega)
  obtain ⟨_, b⟩ := reps_all _ _ (marks_reps kl.good kd.good)
  have hx := xs_len cl
  have h7 : ∀ i, 0 ≤ at0 cl i ∧ at0 cl i ≤ 7 := fun i => by
    by_cases hi : i < 19
    · by_cases hp : 0 < at0 (freqOf ll dl) i
      · have := h.pos i (by omega) hp; omega
      · rw [h.zero i (by omega) hp]; omega
    · rw [at0_end cl i (by omega)]; omega
  refine ⟨l1, l2, d1, d2, hx.1, hx.2, fun x hx' => ?_, xs_set hl (fun i => (h7 i).1), hl, hk, kl, kd, fin, marks_reps kl.good kd.good, fun m hm => ?_⟩
  · obtain ⟨j, hj, rfl⟩ := List.getElem_of_mem hx'
    have e := xs_at cl j
    rw [List.getD_eq_getElem?_getD, List.getElem?_eq_getElem hj] at e
    have e' : (xsOf cl)[j] = (at0 (ordL cl) j).toNat := e
    rw [e', ordL_at _ _ (by omega)]
    have := h7 (order.getD j 0)
    omega
  · have hs := (b m hm).1
    have := cntM_seen (marksOf ll dl) zero19 zero19_len (fun m hm => (b m hm).1) (fun i => by rw [at_zero19]; omega) m hm
    exact (h.pos m.sym (by omega) (by unfold freqOf; omega)).1
end Go.Proofs.YtdpmpllbdoefdaaGreatDoor
namespace Go.Proofs.YtdpmpllbdoefdaaGreatDoor
open Go.RowKit
def two {α : Type} (a b : α) : Nat → α
  | 0 => a
  | _ => b
theorem cat_two (ll dl : List Int) : catTo (two ll dl) 2 = ll ++ dl := rfl
def LiesMk (w : World) (G : Nat) (ms : List Mk) : Prop := ∀ i, i < ms.length → ∃ m, m = ms.getD i ⟨0, 0, 0⟩ ∧ w.cell? ⟨G, i * 3, none⟩ = some (.int .i64 (m.sym : Int)) ∧ w.cell? ⟨G, i * 3 + 1, none⟩ = some (.int .i64 (m.further : Int)) ∧ w.cell? ⟨G, i * 3 + 2, none⟩ = some (.int .i64 (m.size : Int))
theorem LiesMk.fr {w w' : World} {S : Nat → Prop} {G : Nat} {ms : List Mk} (h : LiesMk w G ms) (f : Fr S w w') (hn : ¬ S G) : LiesMk w' G ms := fun i hi => by
  obtain ⟨m, e, a, b, c⟩ := h i hi
  exact ⟨m, e, (cell_blk (a := ⟨G, i * 3, none⟩) (f.block G (cell_lt a) hn)).trans a, (cell_blk (a := ⟨G, i * 3 + 1, none⟩) (f.block G (cell_lt b) hn)).trans b, (cell_blk (a := ⟨G, i * 3 + 2, none⟩) (f.block G (cell_lt c) hn)).trans c⟩
theorem cellsM_get : ∀ (ms : List Mk) (i : Nat), i < ms.length → (cellsM ms)[i * 3]? = some (.int .i64 ((ms.getD i ⟨0, 0, 0⟩).sym : Int)) ∧ (cellsM ms)[i * 3 + 1]? = some (.int .i64 ((ms.getD i ⟨0, 0, 0⟩).further : Int)) ∧ (cellsM ms)[i * 3 + 2]? = some (.int .i64 ((ms.getD i ⟨0, 0, 0⟩).size : Int)) := by
  intro ms
  induction ms with
  | nil => intro i h; cases h
  | cons m ms ih =>
    intro i h
    cases i with
    | zero => exact ⟨rfl, rfl, rfl⟩
    | succ i =>
      have := ih i (by simpa using h)
      rw [show (i + 1) * 3 = i * 3 + 1 + 1 + 1 by omega]
      simpa [cellsM] using this
theorem own_marks {w : World} {lo n c : Nat} {a : Option Addr} {ms : List Mk} (h : w.ownsRow lo 158 3 (.slice a n c) n (cellsM ms)) (hne : 0 < ms.length) (hn : n = ms.length) : ∃ G, a = some ⟨G, 0, none⟩ ∧ lo ≤ G ∧ G < w.heap.size ∧ LiesMk w G ms := by
  rcases h.2 with ⟨hv, e0⟩ | ⟨g, cap, cur, hv, hg, hh, hr⟩
  · omega
  · cases hv
    refine ⟨g, rfl, hg, lt_of hh, fun i hi => ⟨_, rfl, ?_⟩⟩
    obtain ⟨k1, k2, k3⟩ := cellsM_get ms i hi
    have e : ∀ j, (⟨g, 0, none⟩ : Addr).add j = ⟨g, j, none⟩ := fun j => by rw [add_none, Nat.zero_add]
    have q1 := h.cells (g := g) rfl _ _ k1
    have q2 := h.cells (g := g) rfl _ _ k2
    have q3 := h.cells (g := g) rfl _ _ k3
    rw [e] at q1 q2 q3
    exact ⟨q1, q2, q3⟩
theorem not_pen {w : World} {B x : Nat} {g : Option Nat} (h : (∀ k, g = some k → k < w.heap.size) ∧ B < w.heap.size) (hx : w.heap.size ≤ x) : ¬ (x = B ∨ g = some x) := by
  rintro (e | e)
  · have := h.2; omega
  · have := h.1 x e; omega
theorem Tryz.zero120 (w : World) : (zeroValue 156).run Tryz.prog w = .ok (.agg (cellsZ zero19).toArray) w := by kernel_rfl
theorem liesI_cells {w : World} {b : Nat} {zs : List Int} {T : TypeId} (h : w.heap[b]? = some (.cells (cellsZ zs).toArray T (0, 0))) : LiesI w (some ⟨b, 0, none⟩) zs := fun j hj => by
  refine ⟨_, rfl, ?_⟩
  rw [add_none, Nat.zero_add]
  exact cell_of h (by simp [cellsZ, at0, List.getElem?_eq_getElem hj])
theorem take_mk (ms : List Mk) (i : Nat) (h : i < ms.length) : ms.take (i + 1) = ms.take i ++ [ms.getD i ⟨0, 0, 0⟩] := by
  rw [List.take_succ_eq_append_getElem h]
  simp [List.getElem?_eq_getElem h]
theorem marks_ne {ll dl : List Int} (gl : good ll) (gd : good dl) (h : 1 ≤ ll.length) : 0 < (marksOf ll dl).length := by
  have := marks_reps gl gd
  cases e : marksOf ll dl with
  | nil =>
    rw [e] at this
    have h2 : 0 = (ll ++ dl).length := this
    rw [List.length_append] at h2
    omega
  | cons _ _ => simp
theorem pput_n (T : TypeId) (B o : Nat) (cs : Array Value) (g : Option Nat) (t : Bt) (n x : Nat) (w : World) (h : Pn T w B o cs g t) (hp : t.p ≤ 2147480000) (hn : n ≤ 24) (hx : x < 2 ^ n) :
    Calls Tryz.prog 101 #[.pointer (some ⟨B, o, none⟩), .int .i64 (x : Int), .int .i64 (n : Int)] w fun e w' => e = .returned (.tuple #[]) ∧ ∃ cs' g', PGo T w w' B o cs cs' g g' (t.put x n) := by
  have h1 := pput_c T B o cs g t n (x : Int) w h hp hn
  have hx2 : x < 2 ^ 24 := Nat.lt_of_lt_of_le hx (Nat.pow_le_pow_right (by decide) hn)
  rw [num_nat x 0 n (by omega), Nat.pow_zero, Nat.div_one, Nat.mod_eq_of_lt hx] at h1
  exact h1
theorem putMarks_snoc (cl : List Int) (ms : List Mk) (m : Mk) (t : Bt) : putMarks cl (ms ++ [m]) t = putM (putMarks cl ms t) cl m := by
  induction ms generalizing t with
  | nil => rfl
  | cons q ms ih => exact ih _
theorem putMarks_p {cl : List Int} (hc : good cl) : ∀ (ms : List Mk), (∀ m ∈ ms, m.size ≤ 13) → ∀ t, (putMarks cl ms t).p ≤ t.p + 28 * ms.length := by
  intro ms
  induction ms with
  | nil => intro _ t; exact Nat.le_refl _
  | cons m ms ih =>
    intro h t
    have h1 := ih (fun q hq => h q (by simp [hq])) (putM t cl m)
    have h2 := putM_p t cl m
    have h3 := wn_le hc m.sym
    have h4 := h m (by simp)
    simp only [putMarks, List.length_cons]
    omega
theorem putTold_p : ∀ (xs : List Nat) (t : Bt), (putTold xs t).p = t.p + 3 * xs.length := by
  intro xs
  induction xs with
  | nil => intro t; rfl
  | cons x xs ih =>
    intro t
    simp only [putTold, List.length_cons]
    rw [ih]
    show t.p + 3 + 3 * xs.length = _
    omega
theorem take_x (xs : List Nat) (i : Nat) (h : i < xs.length) : xs.take (i + 1) = xs.take i ++ [xs.getD i 0] := by
  rw [List.take_succ_eq_append_getElem h]
  simp [List.getElem?_eq_getElem h]
set_option maxHeartbeats 3200000 in
set_option maxRecDepth 100000 in
theorem putCodes_c (T : TypeId) (B o : Nat) (cs : Array Value) (g : Option Nat) (t : Bt) (gL cL C1 gD cD C2 : Nat) (ll dl : List Int) (w : World) (h : Pn T w B o cs g t) (hp : t.p ≤ 2000000000)
    (hL : LiesI w (some ⟨gL, 0, none⟩) ll) (hD : LiesI w (some ⟨gD, 0, none⟩) dl) (kl : Cok ll) (kd : Cok dl) (l1 : 257 ≤ ll.length) (l2 : ll.length ≤ 286) (d1 : 1 ≤ dl.length) (d2 : dl.length ≤ 30) (fin : 1 ≤ at0 ll 256) (hG : Gl w) :
    Calls Tryz.prog 76 #[.pointer (some ⟨B, o, none⟩), codesV (some ⟨gL, 0, none⟩) ll.length cL C1 (some ⟨gD, 0, none⟩) dl.length cD C2] w fun e w' => e = .returned (.tuple #[]) ∧ ∃ oC cs' g', LenOk (freqOf ll dl) 7 oC ∧ PGo T w w' B o cs cs' g g' (putCodes ll dl oC (xsOf oC) (marksOf ll dl) t) := by
  obtain ⟨K, hK⟩ : ∃ K, K = w.heap.size := ⟨_, rfl⟩
  obtain ⟨N1, hN1⟩ : ∃ N1, N1 = ll.length := ⟨_, rfl⟩
  obtain ⟨N2, hN2⟩ : ∃ N2, N2 = dl.length := ⟨_, rfl⟩
  rw [← hN1, ← hN2]
  obtain ⟨w0, hw0⟩ : ∃ w0, w0 = w.alloc (.cells #[.slice (some ⟨gL, 0, none⟩) N1 cL, .pointer (some ⟨C1, 0, none⟩), .slice (some ⟨gD, 0, none⟩) N2 cD, .pointer (some ⟨C2, 0, none⟩)] 127) := ⟨_, rfl⟩
  obtain ⟨w1, hw1⟩ : ∃ w1, w1 = w0.alloc (.cells #[.slice (some ⟨gL, 0, none⟩) N1 cL, .slice (some ⟨gD, 0, none⟩) N2 cD] 81) := ⟨_, rfl⟩
  have hF0 : Fr (fun _ => False) w w0 := by rw [hw0]; exact Fr.of_alloc _ _
  have hF01 : Fr (fun _ => False) w0 w1 := by rw [hw1]; exact Fr.of_alloc _ _
  have hK0 : w0.heap.size = K + 1 := by rw [hw0, hK]; simp
  have hb1 : w1.heap[K]? = some (.cells #[.slice (some ⟨gL, 0, none⟩) N1 cL, .pointer (some ⟨C1, 0, none⟩), .slice (some ⟨gD, 0, none⟩) N2 cD, .pointer (some ⟨C2, 0, none⟩)] 127 (0, 0)) := cells_at (by rw [hw0]; exact heap_alloc_at hK) hF01 (fun e => e)
  have hz1 : w1.heap[K + 1]? = some (.cells #[.slice (some ⟨gL, 0, none⟩) N1 cL, .slice (some ⟨gD, 0, none⟩) N2 cD] 81 (0, 0)) := by rw [hw1]; exact heap_alloc_at hK0.symm
  have hF1 := hF0.join hF01
  have hcat := concat_any (K + 1) 2 (two gL gD) (two cL cD) (two ll dl) w1 (fun i hi => by
      rcases (by omega : i = 0 ∨ i = 1) with rfl | rfl
      · exact cell_of (o := 0) hz1 (by rw [hN1]; rfl)
      · exact cell_of (o := 1) hz1 (by rw [hN2]; rfl)) (fun i hi => by
      rcases (by omega : i = 0 ∨ i = 1) with rfl | rfl
      · exact hL.fr hF1
      · exact hD.fr hF1) (fun i hi => by
      rcases (by omega : i = 0 ∨ i = 1) with rfl | rfl
      · show 0 < ll.length; omega
      · show 0 < dl.length; omega) (by omega) (fun i hi => by
      rcases (by omega : i = 0 ∨ i = 1 ∨ i = 2) with rfl | rfl | rfl
      · show 0 ≤ 1000; omega
      · show ([] ++ ll).length ≤ 1000; simp; omega
      · rw [cat_two, List.length_append]; omega)
  rw [cat_two] at hcat
  have Hcat := hide hcat
  have HK := hide hK
  have Hw0 := hide hw0
  have Hw1 := hide hw1
  have Hb1 := hide hb1
  have HF1 := hide hF1
  have HN1 := hide hN1
  have HN2 := hide hN2
  have Hkl := hide kl
  have Hkd := hide kd
  have Hfin := hide fin
  have Hd1 := hide d1
  have Hd2 := hide d2
  have Hl1 := hide l1
  have Hl2 := hide l2
  have H := hide h
  have HG := hide hG
  have Hlts := hide h.wt.lts
  clear hcat hK hw0 hw1 hb1 hz1 hF1 hF0 hF01 hN1 hN2 kl kd fin d1 d2 l1 l2 h hG hL hD hK0
  have hz := Tryz.zero120
  obtain ⟨zs, hzs⟩ : ∃ zs, zs = (cellsZ zero19).toArray := ⟨_, rfl⟩
  rw [← hzs] at hz
  have Hzs := hide hzs
  clear hzs
  go_enter Tryz.func76, Tryz.ntmps76
  go_wp2_with fail
  rw [← Hw0.out, ← Hw1.out, ← HK.out]
  refine (calls_args Hcat.out (by rfl)).mono ?_
  rintro e w2 ⟨a2, c2, rfl, hown2, hF2⟩
  obtain ⟨N3, hN3⟩ : ∃ N3, N3 = (ll ++ dl).length := ⟨_, rfl⟩
  rw [← hN3] at hown2 ⊢
  have HN3 := hide hN3
  have Hown2 := hide hown2
  have HF2 := hide (HF1.out.join hF2)
  have Hb2 := hide (cells_at Hb1.out hF2 (fun e => e))
  have hlen : N3 ≤ 320 := by rw [hN3, List.length_append]; have := Hl2.out; have := Hd2.out; omega
  have Hag := hide (app_good Hkl.out.good Hkd.out.good)
  clear hown2 hF2 hN3
  go_wp2_with fail
  refine (calls_args (lengthMarks_c a2 N3 c2 (ll ++ dl) w2 HN3.out (own_lies Hown2.out) hlen Hag.out) (by rfl)).mono ?_
  rintro e w3 ⟨a3, c3, rfl, hown3, hF3⟩
  have em : lmarks (ll ++ dl) N3 0 = marksOf ll dl := by rw [HN3.out]; rfl
  rw [em] at hown3 ⊢
  obtain ⟨G, rfl, hG1, hG2, hLM⟩ := own_marks hown3 (marks_ne Hkl.out.good Hkd.out.good (by have := Hl1.out; omega)) rfl
  obtain ⟨hms1, hms2⟩ := reps_all _ _ (marks_reps Hkl.out.good Hkd.out.good)
  obtain ⟨ms, hms⟩ : ∃ ms, ms = marksOf ll dl := ⟨_, rfl⟩
  rw [← hms] at hLM hms1 hms2 ⊢
  obtain ⟨M, hM⟩ : ∃ M, M = ms.length := ⟨_, rfl⟩
  rw [← hM] at hms1 ⊢
  have hM3 : M ≤ 320 := by have := HN3.out; omega
  have hMi : (M : Int) ≤ 320 := by omega
  obtain ⟨A, hA⟩ : ∃ A, A = w3.heap.size := ⟨_, rfl⟩
  obtain ⟨w4, hw4⟩ : ∃ w4, w4 = w3.alloc (.cells zs 156) := ⟨_, rfl⟩
  have hF4 : Fr (fun _ => False) w3 w4 := by rw [hw4]; exact Fr.of_alloc _ _
  have hbA : w4.heap[A]? = some (.cells (cellsZ zero19).toArray 156 (0, 0)) := by rw [hw4, ← Hzs.out]; exact heap_alloc_at hA
  have hwG : w.heap.size ≤ G := by have := HF2.out.size; omega
  have hGA : G < A := by omega
  have hKA : K < A := by have := lt_of Hb2.out; have := hF3.size; omega
  have hwA : w.heap.size ≤ A := by omega
  have HbA := hide hbA
  have HLM := hide (hLM.fr hF4 (fun e => e))
  have HF4 := hide ((HF2.out.join hF3).join hF4)
  have Hb4 := hide (cells_at Hb2.out (hF3.join hF4) (fun e => e))
  have Hms := hide hms
  have Hms2 := hide hms2
  have HM := hide hM
  have HA := hide hA
  have Hw4 := hide hw4
  clear hown3 em hF3 hLM hms1 hms2 hms hM hA hw4 hF4 hbA hlen Hown2 Hcat Hag
  go_wp2_with fail
  rw [← Hw4.out, ← HA.out]
  clear hz
  go_loopw [7, 25] (fun _ ti wr => ∃ i : Nat, ti = .int .i64 (i : Int) ∧ i ≤ M ∧ wr.heap[A]? = some (.cells (cellsZ (cntM (ms.take i) zero19)).toArray 156 (0, 0)) ∧ Fr (fun k => k = A) w4 wr) (fun _ ti _ => M - (intOf ti).toNat)
  case atStart => exact ⟨0, rfl, by omega, HbA.out, Fr.refl _ _⟩
  case round =>
    obtain ⟨i, rfl, hi, hT, hF⟩ := hrel
    by_cases hlt : i < M
    · have hlti : (i : Int) < (M : Int) := by omega
      have hil : i < ms.length := by have := HM.out; omega
      obtain ⟨m, hmv, m0, m1, m2⟩ := (HLM.out.fr hF (by omega)) i hil
      have hmem : m ∈ ms := by rw [hmv]; rw [List.getD_eq_getElem?_getD, List.getElem?_eq_getElem hil]; exact List.getElem_mem hil
      have hm19 := (Hms2.out m hmem).1
      have hnext : cntM (ms.take (i + 1)) zero19 = inc (cntM (ms.take i) zero19) m.sym 1 := by rw [take_mk ms i hil, cntM_snoc, ← hmv]
      obtain ⟨Z, hZ⟩ : ∃ Z, Z = cntM (ms.take i) zero19 := ⟨_, rfl⟩
      have hZl : Z.length = 19 := by rw [hZ, cntM_len, zero19_len]
      have hZb := cntM_bd (ms.take i) zero19 0 zero19_len (fun q hq => (Hms2.out q (List.mem_of_mem_take hq)).1) (fun j => by rw [at_zero19]; omega) m.sym
      have htk : (ms.take i).length ≤ i := List.length_take_le _ _
      rw [← hZ] at hT hnext hZb
      obtain ⟨sy, fu, sz⟩ := m
      simp only at m0 m1 m2 hm19 hnext hZb
      have cx : wr.cell? ⟨A, sy, none⟩ = some (.int .i64 (at0 Z sy)) := cell_of (o := sy) hT (by
        have : sy < Z.length := by omega
        simp [cellsZ, List.getElem?_map, List.getElem?_eq_getElem this, at0])
      have cf := frozen_of (o := sy) hT
      obtain ⟨x, hx⟩ : ∃ x, x = at0 Z sy := ⟨_, rfl⟩
      rw [← hx] at cx hZb
      have hx0 : 0 ≤ x := hZb.1
      have hx1 : x ≤ 320 := by have := hZb.2; omega
      have hsyi : (sy : Int) < 19 := by omega
      have hlA : A < wr.heap.size := lt_of hT
      have HT := hide hT
      have HF := hide hF
      have Hnext := hide hnext
      have Hx := hide hx
      clear hZb htk hT hF hnext hmv hmem hZ hx
      go_wp2_with fail
      go_roundw
      case rel =>
        have q := heap_setCell_own (o := sy) (.int .i64 (x + 1)) HT.out
        have e : (cellsZ Z).toArray.setIfInBounds sy (.int .i64 (x + 1)) = (cellsZ (inc Z sy 1)).toArray := by rw [Hx.out]; simp [cellsZ, inc, List.map_set]
        rw [e] at q
        refine ⟨i + 1, by go_num, by omega, ?_, ?_⟩
        · rw [Hnext.out]
          exact cells_at q (Fr.of_alloc _ _) (fun e => e)
        · exact (HF.out.join (Fr.of_setCell _ ⟨A, sy, none⟩ _)).trans (Fr.of_alloc _ _) |>.mono fun _ _ e => e.elim id (fun e => e.elim)
      case measure => simp [intOf]; omega
    · obtain rfl : i = M := by omega
      have e : ms.take i = ms := by rw [HM.out, List.take_length]
      rw [e] at hT
      have efq : cntM ms zero19 = freqOf ll dl := by unfold freqOf; rw [Hms.out]
      rw [efq] at hT
      obtain ⟨fq, hfq⟩ : ∃ fq, fq = freqOf ll dl := ⟨_, rfl⟩
      have hfl : fq.length = 19 := by rw [hfq, freq_len]
      have hfg : goodF fq := by rw [hfq]; exact freq_good Hkl.out.good Hkd.out.good (by have := Hl2.out; have := Hd2.out; omega)
      rw [← hfq] at hT
      have hS := shortestCode_c (some ⟨A, 0, none⟩) 19 19 fq 7 19 wr hfl.symm (liesI_cells hT) hfg (Nat.le_trans (posL_le fq fq.length) (by rw [hfl]; decide)) (by omega) (by omega) (by omega)
      have HS := hide hS
      have HFr := hide hF
      have Hfq := hide hfq
      clear e efq hT hF hS hfg hfq
      go_wp2_with fail
      refine (calls_args HS.out (by rfl)).mono ?_
      rintro e w6 ⟨oC, gC, C, lo, hi', hLen, rfl, hLC, hgC1, hgC2, hCd, hlo, hhi, hF6⟩
      have eT : trim oC 19 = oC := trim_all (by rw [hLen.len, hfl]; exact Nat.le_refl _)
      rw [eT] at hLC hCd ⊢
      have hol : oC.length = 19 := by rw [hLen.len, hfl]
      rw [hol]
      have hFw6 := (fr_false_new HF4.out HFr.out (fun i e => by omega)).join hF6
      obtain ⟨Q, hQ⟩ : ∃ Q, Q = w6.heap.size := ⟨_, rfl⟩
      obtain ⟨w7, hw7⟩ : ∃ w7, w7 = w6.alloc (.cells #[.slice (some ⟨gC, 0, none⟩) 19 19, .pointer (some ⟨C, 0, none⟩)] 125) := ⟨_, rfl⟩
      have hF7 : Fr (fun _ => False) w6 w7 := by rw [hw7]; exact Fr.of_alloc _ _
      have hb7 : w7.heap[Q]? = some (.cells #[.slice (some ⟨gC, 0, none⟩) 19 19, .pointer (some ⟨C, 0, none⟩)] 125 (0, 0)) := by rw [hw7]; exact heap_alloc_at hQ
      have hwr : w.heap.size ≤ wr.heap.size := Nat.le_trans HF4.out.size HFr.out.size
      have hwQ : w.heap.size ≤ Q := by rw [hQ]; exact hFw6.size
      have hwlo : w.heap.size ≤ lo := by omega
      have HFw7 := hide (hFw6.join hF7)
      have HO := hide (inOrder_c (some ⟨gC, 0, none⟩) 19 oC w7 (hLC.fr hF7) hol (HG.out.keep (hFw6.join hF7) (fun e => e)))
      have Hb7 := hide hb7
      have HCd := hide (hCd.keep hF7 (fun _ _ _ e => e))
      have Hlo := hide hwlo
      have HLen := hide hLen
      have HQ := hide hQ
      have Hw7 := hide hw7
      have HwQ := hide hwQ
      have Hkb := hide (cells_at (cells_at Hb4.out HFr.out (by omega)) (hF6.join hF7) (fun e => e))
      have HLM7 := hide ((HLM.out.fr HFr.out (by omega)).fr (hF6.join hF7) (fun e => e))
      have Hhi : Hid (hi' ≤ w7.heap.size) := by show _ ≤ _; have := hF7.size; omega
      clear hFw6 hF7 hb7 hwr hwQ hwlo hLen hQ hw7 hF6 hLC hCd hgC1 hgC2 hlo hhi eT HS HbA Hb4 HLM
      go_wp2_with fail
      rw [← Hw7.out, ← HQ.out]
      refine (calls_args HO.out (by rfl)).mono ?_
      rintro e w8 ⟨g2, rfl, hL8, hg2, hF8⟩
      obtain ⟨X, hX⟩ : ∃ X, X = (trim (ordL oC) 4).length := ⟨_, rfl⟩
      rw [← hX]
      have hxl := xs_len oC
      have hXx : X = (xsOf oC).length := by rw [hX]; unfold xsOf; rw [List.length_map]
      rw [← hXx] at hxl
      have hwg2 : w.heap.size ≤ g2 := Nat.le_trans HFw7.out.size hg2
      obtain ⟨n1, hn1⟩ : ∃ n1, n1 = N1 - 257 := ⟨_, rfl⟩
      obtain ⟨n2, hn2⟩ : ∃ n2, n2 = N2 - 1 := ⟨_, rfl⟩
      obtain ⟨n3, hn3⟩ : ∃ n3, n3 = X - 4 := ⟨_, rfl⟩
      have en1 : (N1 : Int) - 257 = (n1 : Int) := by have := Hl1.out; have := HN1.out; omega
      have en2 : (N2 : Int) - 1 = (n2 : Int) := by have := Hd1.out; have := HN2.out; omega
      have en3 : (X : Int) - 4 = (n3 : Int) := by omega
      have b1 : n1 < 32 := by have := Hl2.out; have := HN1.out; omega
      have b2 : n2 < 32 := by have := Hd2.out; have := HN2.out; omega
      have b3 : n3 < 16 := by omega
      have hX19 : X ≤ 19 := hxl.2
      have hXi : (X : Int) ≤ 19 := by omega
      have b1i : (n1 : Int) ≤ 32 := by omega
      have b2i : (n2 : Int) ≤ 32 := by omega
      have b3i : (n3 : Int) ≤ 16 := by omega
      have HL8 := hide hL8
      have HF8 := hide (HFw7.out.join hF8)
      have Hkb8 := hide (cells_at Hkb.out hF8 (fun e => e))
      have Hb8 := hide (cells_at Hb7.out hF8 (fun e => e))
      have HLM8 := hide (HLM7.out.fr hF8 (fun e => e))
      have HCd8 := hide (HCd.out.keep hF8 (fun _ _ _ e => e))
      have HP8 := hide (PGo.start H.out HF8.out)
      have HXx := hide hXx
      have Hwg2 := hide hwg2
      have Hn1 := hide hn1
      have Hn2 := hide hn2
      have Hn3 := hide hn3
      have k0 := cell_of (o := 0) Hkb8.out rfl
      clear hL8 hF8 hX hXx hxl hwg2 hn1 hn2 hn3 HO HLM7 Hkb hg2
      go_wp2_with fail
      have hK8 : w.heap.size ≤ K := Nat.le_of_eq HK.out.symm
      refine (calls_args (pput_n T B o cs g t 5 n1 w8 HP8.out.pn (by omega) (by omega) (by omega)) (by rfl)).mono ?_
      rintro e wa ⟨rfl, csa, ga, hPa⟩
      have HPa := hide hPa
      have ka := cell_of (o := 2) (cells_at Hkb8.out hPa.fr (not_pen Hlts.out hK8)) rfl
      have hpa : (t.put n1 5).p = t.p + 5 := rfl
      clear hPa k0
      go_wp2_with fail
      refine (calls_args (pput_n T B o csa ga (t.put n1 5) 5 n2 wa HPa.out.pn (by omega) (by omega) (by omega)) (by rfl)).mono ?_
      rintro e wb ⟨rfl, csb, gb, hPb⟩
      have HPb := hide (HPa.out.trans hPb)
      have hpb : ((t.put n1 5).put n2 5).p = t.p + 5 + 5 := rfl
      clear hPb ka hpa
      go_wp2_with fail
      refine (calls_args (pput_n T B o csb gb ((t.put n1 5).put n2 5) 4 n3 wb HPb.out.pn (by omega) (by omega) (by omega)) (by rfl)).mono ?_
      rintro e w9 ⟨rfl, cs9, g9, hP9⟩
      obtain ⟨t3, ht3⟩ : ∃ t3, t3 = ((t.put n1 5).put n2 5).put n3 4 := ⟨_, rfl⟩
      rw [← ht3] at hP9
      have hpt3 : t3.p = t.p + 14 := by rw [ht3]; rfl
      have HP9 := hide (HPb.out.trans hP9)
      have Ht3 := hide ht3
      have hXl : X = (xsOf oC).length := HXx.out
      have Hown := hide (own_of Hkl.out Hkd.out Hl1.out Hl2.out Hd1.out Hd2.out Hfin.out (by rw [← Hfq.out]; exact HLen.out))
      obtain ⟨xs, hxs⟩ : ∃ xs, xs = xsOf oC := ⟨_, rfl⟩
      rw [← hxs] at hXl
      have Hxs := hide hxs
      have HXl := hide hXl
      clear hP9 ht3 hpb hxs hXl
      go_wp2_with fail
      go_loopw [11, 62] (fun _ ti wr => ∃ (j : Nat) (cs' : Array Value) (g' : Option Nat), ti = .int .i64 (j : Int) ∧ j ≤ X ∧ PGo T w8 wr B o cs cs' g g' (putTold (xs.take j) t3)) (fun _ ti _ => X - (intOf ti).toNat)
      case atStart => exact ⟨0, cs9, g9, rfl, by omega, HP9.out⟩
      case round =>
        obtain ⟨j, csj, gj, rfl, hj, hP⟩ := hrel
        by_cases hlt : j < X
        · have hlti : (j : Int) < (X : Int) := by omega
          have hjl : j < xs.length := by have := HXl.out; omega
          obtain ⟨ad, ead, cz⟩ := (HL8.out.frS hP.fr (fun ad e => by cases e; exact not_pen Hlts.out Hwg2.out)) j (by have := HXx.out; unfold xsOf at this; rw [List.length_map] at this; omega)
          cases ead
          obtain ⟨x, hx⟩ : ∃ x, x = xs.getD j 0 := ⟨_, rfl⟩
          have hx8 : x < 8 := Hown.out.x8 x (by rw [hx, Hxs.out, List.getD_eq_getElem?_getD, List.getElem?_eq_getElem (by rw [← Hxs.out]; exact hjl)]; exact List.getElem_mem _)
          have ez : at0 (trim (ordL oC) 4) j = (x : Int) := by
            have e1 := xs_at oC j
            rw [← Hxs.out, ← hx] at e1
            have e2 : 0 ≤ at0 (ordL oC) j := by rw [ordL_at oC j (by omega)]; exact (at_all (Own.cok Hown.out).good _).1
            rw [trim_at]
            omega
          rw [ez, add_none, Nat.zero_add] at cz
          have hnext : putTold (xs.take (j + 1)) t3 = (putTold (xs.take j) t3).put x 3 := by rw [take_x xs j hjl, putTold_snoc, ← hx]
          have hpp : (putTold (xs.take j) t3).p ≤ t3.p + 3 * j := by rw [putTold_p]; have : (xs.take j).length ≤ j := List.length_take_le _ _; omega
          have Hnext := hide hnext
          have HP := hide hP
          clear hnext hP hx ez
          go_wp2_with fail
          refine (calls_args (pput_n T B o csj gj (putTold (xs.take j) t3) 3 x wr HP.out.pn (by omega) (by omega) (by omega)) (by rfl)).mono ?_
          rintro e wc ⟨rfl, csc, gc, hPc⟩
          have HPc := hide (HP.out.trans hPc)
          clear hPc
          go_wp2_with fail
          go_roundw
          case rel =>
            refine ⟨j + 1, csc, gc, by go_num, by omega, ?_⟩
            rw [Hnext.out]
            exact HPc.out
          case measure => simp [intOf]; omega
        · obtain rfl : j = X := by omega
          have e : xs.take j = xs := by rw [HXl.out, List.take_length]
          rw [e] at hP
          obtain ⟨t4, ht4⟩ : ∃ t4, t4 = putTold xs t3 := ⟨_, rfl⟩
          have hpt4 : t4.p ≤ t3.p + 57 := by rw [ht4, putTold_p, ← HXl.out]; omega
          rw [← ht4] at hP
          have HP4 := hide hP
          have Ht4 := hide ht4
          clear e hP ht4
          go_wp2_with fail
          go_loopw [13, 72] (fun _ ti wr => ∃ (k : Nat) (cs' : Array Value) (g' : Option Nat), ti = .int .i64 (k : Int) ∧ k ≤ i ∧ PGo T w8 wr B o cs cs' g g' (putMarks oC (ms.take k) t4)) (fun _ ti _ => i - (intOf ti).toNat)
          case atStart => exact ⟨0, _, _, rfl, by omega, HP4.out⟩
          case round =>
            obtain ⟨k, csk, gk, rfl, hk, hP⟩ := hrel
            by_cases hlt : k < i
            · have hlti : (k : Int) < (i : Int) := by omega
              have hkl : k < ms.length := by have := HM.out; omega
              have hwGw : ¬ (G = B ∨ g = some G) := not_pen Hlts.out (by omega)
              obtain ⟨m, hmv, m0, m1, m2⟩ := (HLM8.out.fr hP.fr hwGw) k hkl
              have hmem : m ∈ ms := by rw [hmv]; rw [List.getD_eq_getElem?_getD, List.getElem?_eq_getElem hkl]; exact List.getElem_mem hkl
              have hm3 := Hms2.out m hmem
              have hword : 1 ≤ at0 oC m.sym := Hown.out.word m (by rw [← Hms.out]; exact hmem)
              have hnext : putMarks oC (ms.take (k + 1)) t4 = putM (putMarks oC (ms.take k) t4) oC m := by rw [take_mk ms k hkl, putMarks_snoc, ← hmv]
              have hpp := putMarks_p (cl := oC) Hown.out.cok.good (ms.take k) (fun q hq => (Hms2.out q (List.mem_of_mem_take hq)).2.2) t4
              have htk : (ms.take k).length ≤ k := List.length_take_le _ _
              have hbQ := cells_at Hb8.out hP.fr (not_pen Hlts.out HwQ.out)
              have q0 := cell_of (o := 0) hbQ rfl
              have q1 := cell_of (o := 1) hbQ rfl
              have HCk := hide (Cd.go (o := o) HCd8.out (⟨by have := Hlts.out.2; have := Hlo.out; omega, fun z hz => by have := Hlts.out.1 z hz; have := Hlo.out; omega⟩ : Clear lo hi' B g) hP)
              obtain ⟨t5, ht5⟩ : ∃ t5, t5 = putMarks oC (ms.take k) t4 := ⟨_, rfl⟩
              rw [← ht5] at hP hnext hpp
              have hp5 : t5.p ≤ 2147460000 := by omega
              have HP := hide hP
              have Hnext := hide hnext
              have Hword := hide hword
              have Hm3 := hide hm3
              have hlQ : Q < wr.heap.size := lt_of hbQ
              clear hP hnext hword hm3 hmem hmv hpp htk hbQ ht5 hwGw
              obtain ⟨sy, fu, sz⟩ := m
              simp only at m0 m1 m2
              go_wp2_with fail
              obtain ⟨wd, hwd⟩ : ∃ wd, wd = wr.alloc (.cells #[.int .i64 (sy : Int), .int .i64 (fu : Int), .int .i64 (sz : Int)] 158) := ⟨_, rfl⟩
              have hFd : Fr (fun _ => False) wr wd := by rw [hwd]; exact Fr.of_alloc _ _
              rw [← hwd]
              have HFd := hide hFd
              clear hwd hFd
              refine (calls_args (putMark_c T lo hi' C B o csk oC gk t5 ⟨sy, fu, sz⟩ (some ⟨gC, 0, none⟩) 19 19 wd (HCk.out.keep HFd.out (fun _ _ _ e => e)) (HP.out.then HFd.out).pn hp5 (by have := Hm3.out.1; show sy < _; omega) Hword.out Hm3.out.2.2 Hm3.out.2.1) (by rfl)).mono ?_
              rintro e we ⟨rfl, cse, ge, hPe⟩
              have HPe := hide ((HP.out.then HFd.out).trans hPe)
              clear hPe
              go_wp2_with fail
              go_roundw
              case rel =>
                refine ⟨k + 1, cse, ge, by go_num, by omega, ?_⟩
                rw [Hnext.out]
                exact HPe.out
              case measure => simp [intOf]; omega
            · obtain rfl : k = i := by omega
              have e : ms.take k = ms := by rw [HM.out, List.take_length]
              rw [e] at hP
              have hfin : putMarks oC ms t4 = putCodes ll dl oC (xsOf oC) (marksOf ll dl) t := by
                unfold putCodes
                rw [Ht4.out, Ht3.out, Hn1.out, Hn2.out, Hn3.out, HN1.out, HN2.out, Hxs.out, Hms.out, HXx.out]
              rw [hfin] at hP
              have HP5 := hide (HP8.out.trans hP)
              clear hP e hfin
              go_wp2
              go_end0
              exact ⟨rfl, oC, csk, gk, by rw [← Hfq.out]; exact HLen.out, HP5.out⟩
end Go.Proofs.YtdpmpllbdoefdaaGreatDoor
namespace Go.Proofs.YtdpmpllbdoefdaaGreatDoor
open Go.Sort (SortedIn)
theorem perm_sorted_eq {R : Nat → Nat → Prop} (anti : ∀ x y, R x y → R y x → x = y) : ∀ (l1 l2 : List Nat), l1.Perm l2 → l1.Pairwise R → l2.Pairwise R → l1 = l2 := by
  intro l1
  induction l1 with
  | nil => intro l2 hp _ _; exact hp.nil_eq
  | cons a t1 ih =>
    intro l2 hp h1 h2
    cases l2 with
    | nil => exact absurd hp.symm.nil_eq (by simp)
    | cons b t2 =>
      have hab : a = b := by
        have ha : a ∈ b :: t2 := hp.mem_iff.1 (by simp)
        have hb : b ∈ a :: t1 := hp.mem_iff.2 (by simp)
        rcases List.mem_cons.1 ha with e | e
        · exact e
        · rcases List.mem_cons.1 hb with e2 | e2
          · exact e2.symm
          · exact anti a b ((List.pairwise_cons.1 h1).1 b e2) ((List.pairwise_cons.1 h2).1 a e)
      subst hab
      rw [ih t2 (List.Perm.cons_inv hp) (List.pairwise_cons.1 h1).2 (List.pairwise_cons.1 h2).2]
theorem sorted_unique {fq : List Int} {d d' : Array Nat} {l : List Nat} (h1 : d.toList.Perm l) (h2 : d'.toList.Perm l) (s1 : SortedIn (ltF fq) 0 d.size d) (s2 : SortedIn (ltF fq) 0 d'.size d') : d = d' := by
  have key : ∀ e : Array Nat, SortedIn (ltF fq) 0 e.size e → e.toList.Pairwise (fun x y => ltF fq y x = false) := fun e s => by
    rw [List.pairwise_iff_getElem]
    intro i j hi hj hij
    have hj' : j < e.size := by simpa using hj
    have := s i j (Nat.zero_le _) hij hj'
    have hi' : i < e.size := by omega
    simpa [hi', hj'] using this
  have := perm_sorted_eq (R := fun x y => ltF fq y x = false) (fun x y a b => by rw [ltF_false] at a b; omega) d.toList d'.toList (h1.trans h2.symm) (key d s1) (key d' s2)
  exact Array.toList_inj.1 this
theorem LenOk.det {fq : List Int} {L : Nat} {o o' : List Int} (h : LenOk fq L o) (h' : LenOk fq L o') : o = o' := by
  have hat : ∀ k, k < fq.length → at0 o k = at0 o' k := fun k hk => by
    by_cases hp : 0 < at0 fq k
    · have hmem := (posL_mem fq fq.length k).2 ⟨hk, hp⟩
      rcases (by omega : (posL fq fq.length).length = 0 ∨ (posL fq fq.length).length = 1 ∨ 2 ≤ (posL fq fq.length).length) with e | e | e
      · rw [List.length_eq_zero_iff.1 e] at hmem; cases hmem
      · have a := h.pos k hk hp
        have b := h'.pos k hk hp
        have c := h.one e k hk
        have d := h'.one e k hk
        omega
      · obtain ⟨d, p1, s1, v1⟩ := h.sor e
        obtain ⟨d', p2, s2, v2⟩ := h'.sor e
        obtain rfl := sorted_unique p1 p2 s1 s2
        have hm : k ∈ d.toList := p1.mem_iff.2 hmem
        obtain ⟨i, hi, e⟩ := List.mem_iff_getElem.1 hm
        have hi' : i < d.size := by simpa using hi
        have ek : d[i]! = k := by simp [hi'] at e ⊢; exact e
        rw [← ek, v1 i hi', v2 i hi']
    · rw [h.zero k hk hp, h'.zero k hk hp]
  apply List.ext_getElem (by rw [h.len, h'.len])
  intro i h1 h2
  have := hat i (by rw [← h.len]; exact h1)
  unfold at0 at this
  rw [List.getD_eq_getElem?_getD, List.getD_eq_getElem?_getD, List.getElem?_eq_getElem h1, List.getElem?_eq_getElem h2] at this
  exact this
end Go.Proofs.YtdpmpllbdoefdaaGreatDoor
namespace Go.Proofs.YtdpmpllbdoefdaaGreatDoor
open Go.RowKit
def t0 : Bt := ⟨0, 0⟩
structure Cds (ps : List Pc) (oL oD oC : List Int) : Prop where
  lL : LenOk (fL (tally ps)) 15 oL
  lD : LenOk (fD (tally ps)) 15 oD
  lC : LenOk (freqOf (trim oL 257) (trim oD 1)) 7 oC
def codesP (oL oD oC : List Int) : Nat := (putCodes (trim oL 257) (trim oD 1) oC (xsOf oC) (marksOf (trim oL 257) (trim oD 1)) t0).p
def storedB (t : Bt) (raw : List Nat) : Int := ((padTo (t.p + 3) + 32 + 8 * raw.length : Nat) : Int)
def fixedB (ps : List Pc) : Int := allB fixL fixD (tally ps)
def ownB' (ps : List Pc) (oL oD oC : List Int) : Int := (codesP oL oD oC : Int) + allB (trim oL 257) (trim oD 1) (tally ps)
def blockF (t : Bt) (last : Bool) (raw : List Nat) (ps : List Pc) (oL oD oC : List Int) : Bt :=
  if storedB t raw ≤ fixedB ps ∧ storedB t raw ≤ ownB' ps oL oD oC then putStored t last raw
  else if fixedB ps ≤ ownB' ps oL oD oC then putFixed t last ps
  else putOwn t last (trim oL 257) (trim oD 1) oC (xsOf oC) (marksOf (trim oL 257) (trim oD 1)) ps
theorem putMarks_shift (cl : List Int) : ∀ (ms : List Mk) (t u : Bt), (putMarks cl ms t).p + u.p = (putMarks cl ms u).p + t.p := by
  intro ms
  induction ms with
  | nil => intro t u; show t.p + u.p = u.p + t.p; omega
  | cons m ms ih =>
    intro t u
    have := ih (putM t cl m) (putM u cl m)
    rw [putM_p, putM_p] at this
    simp only [putMarks]
    omega
theorem putCodes_shift (ll dl cl : List Int) (xs : List Nat) (ms : List Mk) (t : Bt) : (putCodes ll dl cl xs ms t).p = t.p + (putCodes ll dl cl xs ms t0).p := by
  unfold putCodes
  have h := putMarks_shift cl ms (putTold xs (((t.put (ll.length - 257) 5).put (dl.length - 1) 5).put (xs.length - 4) 4)) (putTold xs (((t0.put (ll.length - 257) 5).put (dl.length - 1) 5).put (xs.length - 4) 4))
  rw [putTold_p, putTold_p] at h
  have e1 : (((t.put (ll.length - 257) 5).put (dl.length - 1) 5).put (xs.length - 4) 4).p = t.p + 14 := rfl
  have e2 : (((t0.put (ll.length - 257) 5).put (dl.length - 1) 5).put (xs.length - 4) 4).p = 14 := rfl
  rw [e1, e2] at h
  omega
section
variable {ps : List Pc} {oL oD oC : List Int} {out : List Nat}
theorem Cds.len (h : Cds ps oL oD oC) : oL.length = 286 ∧ oD.length = 30 := ⟨by rw [h.lL.len, fL_len (tally_len ps)], by rw [h.lD.len, fD_len (tally_len ps)]⟩
theorem Cds.ll (h : Cds ps oL oD oC) : 257 ≤ (trim oL 257).length ∧ (trim oL 257).length ≤ 286 := by
  obtain ⟨a, b, _⟩ := trimN_ok oL 257 oL.length (at0_end oL)
  rw [trim_len]
  rw [h.len.1] at *
  exact ⟨b (by decide), a⟩
theorem Cds.dl (h : Cds ps oL oD oC) : 1 ≤ (trim oD 1).length ∧ (trim oD 1).length ≤ 30 := by
  obtain ⟨a, b, _⟩ := trimN_ok oD 1 oD.length (at0_end oD)
  rw [trim_len]
  rw [h.len.2] at *
  exact ⟨b (by decide), a⟩
theorem Cds.kl (h : Cds ps oL oD oC) : Cok (trim oL 257) := trim_cok 257 (lenOk_cok h.lL (by omega) (by rw [fL_len (tally_len ps)]; omega))
theorem Cds.kd (h : Cds ps oL oD oC) : Cok (trim oD 1) := trim_cok 1 (lenOk_cok h.lD (by omega) (by rw [fD_len (tally_len ps)]; omega))
theorem Cds.fin (h : Cds ps oL oD oC) (hm : mays ps out) : 1 ≤ at0 (trim oL 257) 256 := by
  rw [trim_at]
  exact (h.lL.pos 256 (by rw [fL_len (tally_len ps)]; omega) (by rw [fL_at _ (by omega)]; have := tally_end hm; omega)).1
theorem Cds.own (h : Cds ps oL oD oC) (hm : mays ps out) : Own (trim oL 257) (trim oD 1) oC (xsOf oC) (marksOf (trim oL 257) (trim oD 1)) :=
  own_of h.kl h.kd h.ll.1 h.ll.2 h.dl.1 h.dl.2 (h.fin hm) h.lC
theorem block_leads {t : Bt} (ht : t.ok) (last : Bool) {raw : List Nat} (hr : raw.length ≤ 65535) (hb : ∀ b ∈ raw, b < 256) (hm : mays ps out) (hp : plays ps out = out ++ raw) (h : Cds ps oL oD oC) :
    (blockF t last raw ps oL oD oC).ok ∧ t.le (blockF t last raw ps oL oD oC) ∧ Leads (blockF t last raw ps oL oD oC) ⟨t.p, false, out, .ahead⟩ ⟨(blockF t last raw ps oL oD oC).p, last, out ++ raw, .ahead⟩ ∧
      (blockF t last raw ps oL oD oC).p ≤ t.p + 3 + padTo (t.p + 3) + 32 + 8 * raw.length := by
  obtain ⟨s1, s2, s3⟩ := putStored_ok ht last hr hb
  unfold blockF
  split
  · exact ⟨s1, s2, stored_leads ht last hr hb out, Nat.le_of_eq s3⟩
  · next hn =>
    split
    · next hf =>
      obtain ⟨a, b, c⟩ := fixed_leads ht last hm
      rw [hp] at c
      refine ⟨a, b, c, ?_⟩
      have e := tally_cost (ll := fixL) (dl := fixD) fixL_cok.good fixD_cok.good hm (putHead t last 1)
      have e2 := putHead_p t last 1
      have e3 : (putFixed t last ps).p = (putP fixL fixD ps (putHead t last 1)).p := rfl
      unfold storedB fixedB at *
      omega
    · next hf =>
      obtain ⟨a, b, c⟩ := own_leads ht last (h.own hm) hm (tally_told hm h.lL h.lD)
      rw [hp] at c
      refine ⟨a, b, c, ?_⟩
      have e := tally_cost (ll := trim oL 257) (dl := trim oD 1) h.kl.good h.kd.good hm (putCodes (trim oL 257) (trim oD 1) oC (xsOf oC) (marksOf (trim oL 257) (trim oD 1)) (putHead t last 2))
      have e1 := putCodes_shift (trim oL 257) (trim oD 1) oC (xsOf oC) (marksOf (trim oL 257) (trim oD 1)) (putHead t last 2)
      have e2 := putHead_p t last 2
      have e3 : (putOwn t last (trim oL 257) (trim oD 1) oC (xsOf oC) (marksOf (trim oL 257) (trim oD 1)) ps).p = (putP (trim oL 257) (trim oD 1) ps (putCodes (trim oL 257) (trim oD 1) oC (xsOf oC) (marksOf (trim oL 257) (trim oD 1)) (putHead t last 2))).p := rfl
      unfold storedB fixedB ownB' codesP at *
      omega
end
end Go.Proofs.YtdpmpllbdoefdaaGreatDoor
namespace Go.Proofs.YtdpmpllbdoefdaaGreatDoor
open Go.RowKit
theorem Tl.liesL {w : World} {A : Nat} {Z : List Int} (h : Tl w A Z) : LiesI w (some ⟨A, 0, none⟩) (fL Z) := fun j hj => by
  have hj' : j < 286 := by rw [fL_len h.len] at hj; exact hj
  refine ⟨_, rfl, ?_⟩
  rw [add_none, Nat.zero_add, fL_at _ hj']
  exact h.cell (by omega)
theorem Tl.liesD {w : World} {A : Nat} {Z : List Int} (h : Tl w A Z) : LiesI w (some ⟨A, 286, none⟩) (fD Z) := fun j hj => by
  have hj' : j < 30 := by rw [fD_len h.len] at hj; exact hj
  refine ⟨_, rfl, ?_⟩
  rw [add_none, fD_at _ hj']
  exact h.cell (by omega)
structure St9 (W : World) (P1 : Nat) (cp : Int) (gL N1 C1 gD N2 C2 : Nat) (a1 : Option Addr) (c1 X1 : Nat) (a2 : Option Addr) (c2 X2 : Nat) : Prop where
  p : W.cell? ⟨P1 + 1 + 1, 4, none⟩ = some (.int .i64 cp)
  o0 : W.cell? ⟨P1, 0, none⟩ = some (.slice (some ⟨gL, 0, none⟩) N1 286)
  o1 : W.cell? ⟨P1, 1, none⟩ = some (.pointer (some ⟨C1, 0, none⟩))
  o2 : W.cell? ⟨P1, 2, none⟩ = some (.slice (some ⟨gD, 0, none⟩) N2 30)
  o3 : W.cell? ⟨P1, 3, none⟩ = some (.pointer (some ⟨C2, 0, none⟩))
  f0 : W.cell? ⟨P1 + 1, 0, none⟩ = some (.slice a1 288 c1)
  f1 : W.cell? ⟨P1 + 1, 1, none⟩ = some (.pointer (some ⟨X1, 0, none⟩))
  f2 : W.cell? ⟨P1 + 1, 2, none⟩ = some (.slice a2 32 c2)
  f3 : W.cell? ⟨P1 + 1, 3, none⟩ = some (.pointer (some ⟨X2, 0, none⟩))
theorem St9.fr {w w' : World} {P1 : Nat} {cp : Int} {gL N1 C1 gD N2 C2 : Nat} {a1 : Option Addr} {c1 X1 : Nat} {a2 : Option Addr} {c2 X2 : Nat} (h : St9 w P1 cp gL N1 C1 gD N2 C2 a1 c1 X1 a2 c2 X2) {S : Nat → Prop} (f : Fr S w w') (h1 : ¬ S P1) (h2 : ¬ S (P1 + 1)) (h3 : ¬ S (P1 + 1 + 1)) : St9 w' P1 cp gL N1 C1 gD N2 C2 a1 c1 X1 a2 c2 X2 := by
  have k : ∀ (b i : Nat) (v : Value), ¬ S b → w.cell? ⟨b, i, none⟩ = some v → w'.cell? ⟨b, i, none⟩ = some v := fun b i v hb hc => (cell_blk (a := ⟨b, i, none⟩) (f.block b (cell_lt hc) hb)).trans hc
  exact ⟨k _ _ _ h3 h.p, k _ _ _ h1 h.o0, k _ _ _ h1 h.o1, k _ _ _ h1 h.o2, k _ _ _ h1 h.o3, k _ _ _ h2 h.f0, k _ _ _ h2 h.f1, k _ _ _ h2 h.f2, k _ _ _ h2 h.f3⟩
theorem three_new (w4 : World) (P1 : Nat) (hP1 : P1 = w4.heap.size) (x y z : Array Value) (T1 T2 T3 : TypeId) {w5 : World} (hw5 : w5 = ((w4.alloc (.cells x T1)).alloc (.cells y T2)).alloc (.cells z T3)) :
    w5.heap[P1]? = some (.cells x T1 (0, 0)) ∧ w5.heap[P1 + 1]? = some (.cells y T2 (0, 0)) ∧ w5.heap[P1 + 1 + 1]? = some (.cells z T3 (0, 0)) ∧ Fr (fun _ => False) w4 w5 := by
  have f1 := Fr.of_alloc w4 (.cells x T1)
  have f2 := Fr.of_alloc (w4.alloc (.cells x T1)) (.cells y T2)
  have f3 := Fr.of_alloc ((w4.alloc (.cells x T1)).alloc (.cells y T2)) (.cells z T3)
  rw [hw5]
  exact ⟨cells_at (heap_alloc_at hP1) (f2.join f3) (fun e => e), cells_at (heap_alloc_at (by rw [hP1]; simp)) f3 (fun e => e), heap_alloc_at (by rw [hP1]; simp), (f1.join f2).join f3⟩
theorem codes_facts {ps : List Pc} {out : List Nat} (hm : mays ps out) {oL oD : List Int} (hL : LenOk (fL (tally ps)) 15 oL) (hD : LenOk (fD (tally ps)) 15 oD) : 257 ≤ (trim oL 257).length ∧ (trim oL 257).length ≤ 286 ∧ 1 ≤ (trim oD 1).length ∧ (trim oD 1).length ≤ 30 ∧ Cok (trim oL 257) ∧ Cok (trim oD 1) ∧ 1 ≤ at0 (trim oL 257) 256 := by
  have e1 : oL.length = 286 := by rw [hL.len, fL_len (tally_len ps)]
  have e2 : oD.length = 30 := by rw [hD.len, fD_len (tally_len ps)]
  obtain ⟨a, b, _⟩ := trimN_ok oL 257 oL.length (at0_end oL)
  obtain ⟨a', b', _⟩ := trimN_ok oD 1 oD.length (at0_end oD)
  refine ⟨?_, ?_, ?_, ?_, trim_cok 257 (lenOk_cok hL (by omega) (by rw [fL_len (tally_len ps)]; omega)), trim_cok 1 (lenOk_cok hD (by omega) (by rw [fD_len (tally_len ps)]; omega)), ?_⟩
  · rw [trim_len]; exact b (by omega)
  · rw [trim_len]; omega
  · rw [trim_len]; exact b' (by omega)
  · rw [trim_len]; omega
  · rw [trim_at]
    exact (hL.pos 256 (by rw [fL_len (tally_len ps)]; omega) (by rw [fL_at _ (by omega)]; have := tally_end hm; omega)).1
theorem codesP_le {ps : List Pc} {oL oD oC : List Int} {out : List Nat} (h : Cds ps oL oD oC) (hm : mays ps out) : codesP oL oD oC ≤ 10000 := by
  have ho := h.own hm
  obtain ⟨h1, h2⟩ := reps_all _ _ (marks_reps h.kl.good h.kd.good)
  have h3 := putMarks_p ho.cok.good (marksOf (trim oL 257) (trim oD 1)) (fun m hm => (h2 m hm).2.2) (putTold (xsOf oC) (((t0.put ((trim oL 257).length - 257) 5).put ((trim oD 1).length - 1) 5).put ((xsOf oC).length - 4) 4))
  rw [putTold_p] at h3
  have e2 : (((t0.put ((trim oL 257).length - 257) 5).put ((trim oD 1).length - 1) 5).put ((xsOf oC).length - 4) 4).p = 14 := rfl
  have h4 := (xs_len oC).2
  have h5 := h.ll.2
  have h6 := h.dl.2
  rw [List.length_append] at h1
  unfold codesP putCodes
  omega
theorem lt_of9 {w : World} {b i : Nat} {v : Value} (h : w.cell? ⟨b, i, none⟩ = some v) : b < w.heap.size := cell_lt h
theorem pen_new {w : World} {B : Nat} (h : w.heap[B]? = some (.cells #[.slice none 0 0, .int .i64 0, .slice none 0 0, .int .i64 0, .int .i64 0] 99 (0, 0))) : Pn 99 w B 0 #[.slice none 0 0, .int .i64 0, .slice none 0 0, .int .i64 0, .int .i64 0] none t0 :=
  ⟨⟨[], ⟨⟨.slice none 0 0, h, rfl, rfl, World.ownsRow_nil _ _ _ _, rfl⟩, fun k hk => by cases hk⟩, ⟨rfl, fun b hb => absurd hb (by simp), by decide⟩, rfl⟩, rfl⟩
theorem stored_eq (t : Bt) (last : Bool) (raw : List Nat) : putRaw (putHead t last 0) raw = putStored t last raw := by
  unfold putRaw putStored
  rw [putHead_p]
theorem fix_256 : 1 ≤ at0 fixL 256 ∧ 256 < fixL.length := by decide +kernel
theorem liesP_fr {w w' : World} {S : Nat → Prop} {D f : Nat} {ps : List Pc} (h : LiesP w D f ps) (F : Fr S w w') (hn : 0 < ps.length → ¬ S D) : LiesP w' D f ps := fun i hi k hk => by
  have := h i hi k hk
  rw [← this]
  have hk' : k < (pcCells (ps.getD i ⟨0, 0, 0⟩)).length := hk
  have hv : w.cell? ⟨D, f + i * 3 + k, none⟩ = some ((pcCells (ps.getD i ⟨0, 0, 0⟩))[k]) := by rw [this]; exact List.getElem?_eq_getElem hk'
  exact cell_blk (F.block D (cell_lt hv) (hn (by omega)))
theorem liesP_lt {w : World} {D f : Nat} {ps : List Pc} (h : LiesP w D f ps) (hn : 0 < ps.length) : D < w.heap.size := by
  have := h 0 hn 0 (by omega)
  exact cell_lt (v := (.int .u8 ((ps.getD 0 ⟨0, 0, 0⟩).lit : Int))) this
set_option maxHeartbeats 3200000 in
set_option maxRecDepth 100000 in
theorem putBlock_c (T : TypeId) (B o : Nat) (cs : Array Value) (g : Option Nat) (t : Bt) (ra : Option Addr) (rn rc : Nat) (raw : List Nat) (a : Option Addr) (D f n c : Nat) (ps : List Pc) (last : Bool) (out : List Nat) (w : World)
    (h : Pn T w B o cs g t) (hp : t.p ≤ 1000000000) (hR : Lies w (.slice ra rn rc) raw) (hrn : rn = raw.length) (hr : rn ≤ 65535) (hb : ∀ b ∈ raw, b < 256) (hf : Far ra w B g)
    (ha : 0 < n → a = some ⟨D, f, none⟩) (hP : LiesP w D f ps) (hn : n = ps.length) (hn6 : n ≤ 65535) (hD : 0 < n → D ≠ B ∧ g ≠ some D) (hm : mays ps out) (hG : Gl w) (hnp : ¬ (1 = B ∨ g = some 1)) :
    Calls Tryz.prog 60 #[.pointer (some ⟨B, o, none⟩), .slice ra rn rc, .slice a n c, .bool last] w fun e w' => e = .returned (.tuple #[]) ∧ ∃ oL oD oC cs' g', Cds ps oL oD oC ∧ PGo T w w' B o cs cs' g g' (blockF t last raw ps oL oD oC) := by
  have hz := Tryz.zero94
  obtain ⟨zs, hzs⟩ : ∃ zs, zs = (cellsZ zero317).toArray := ⟨_, rfl⟩
  rw [← hzs] at hz
  have Hzs := hide hzs
  have Hcnt := hide (count_c a D f n c ps out w ha hP hn hn6 hm)
  have H := hide h
  have HR := hide hR
  have Hrn := hide hrn
  have Hb := hide hb
  have Hf := hide hf
  have Ha := hide ha
  have HP := hide hP
  have Hn := hide hn
  have HD := hide hD
  have Hm := hide hm
  have HG := hide hG
  have Hlts := hide h.wt.lts
  have Hnp0 := hide hnp
  have hni : (n : Int) ≤ 65535 := by omega
  have hri : (rn : Int) ≤ 65535 := by omega
  clear hzs h hR hrn hb hf ha hP hn hD hm hG hnp
  go_enter Tryz.func60, Tryz.ntmps60
  go_wp2_with fail
  refine (calls_args Hcnt.out (by rfl)).mono ?_
  rintro e w1 ⟨rfl, hF1⟩
  obtain ⟨L, hL⟩ : ∃ L, L = cellsZ (tally ps) := ⟨_, rfl⟩
  rw [← hL]
  have hsz : L.length = 317 := by rw [hL]; simp [cellsZ, tally_len]
  have hst := run_storeCells_from (P := Tryz.prog) w1.heap.size 122 L 0 zs (w1.alloc (.cells zs 122)) (heap_alloc_at rfl) (by rw [hsz, Hzs.out]; simp [cellsZ, zero317_len]) (by rw [hL]; exact cellsZ_one)
  simp only [List.take_zero, List.nil_append] at hst
  obtain ⟨w2, hw2⟩ : ∃ w2, w2 = (w1.alloc (.cells zs 122)).setRow w1.heap.size L.toArray := ⟨_, rfl⟩
  rw [← hw2] at hst
  have hb2 : w2.heap[w1.heap.size]? = some (.cells L.toArray 122 (0, 0)) := by rw [hw2]; exact setRow_heap _ _ _ _ _ _ (heap_alloc_at rfl)
  have hF2 : Fr (fun _ => False) w1 w2 := by
    rw [hw2]
    have f1 := Fr.of_alloc w1 (.cells zs 122)
    have f2 : Fr (fun k => k = w1.heap.size) (w1.alloc (.cells zs 122)) ((w1.alloc (.cells zs 122)).setRow w1.heap.size L.toArray) := ⟨rfl, rfl, rfl, by simp, fun j _ hj => setRow_other _ _ _ _ hj⟩
    exact fr_false_new f1 f2 (fun i e => Nat.le_of_eq e.symm)
  have hT2 : Tl w2 w1.heap.size (tally ps) := ⟨by rw [← hL]; exact hb2, tally_len ps⟩
  obtain ⟨A, hA⟩ : ∃ A, A = w1.heap.size := ⟨_, rfl⟩
  rw [← hA] at hT2
  have hwA : w.heap.size ≤ A := by rw [hA]; exact hF1.size
  have HA := hide hA
  have HT2 := hide hT2
  have HF2 := hide (hF1.join hF2)
  have HL := hide hL
  clear hL hF1 hw2 hb2 hF2 hT2 hA
  go_wp2_with fail
  rw [← HA.out]
  obtain ⟨g1, g2⟩ := tally_good Hm.out (by rw [← Hn.out]; exact hn6)
  refine (calls_args (ownCodes_c A (fL (tally ps)) (fD (tally ps)) w2 HT2.out.liesL HT2.out.liesD (fL_len (tally_len ps)) (fD_len (tally_len ps)) g1 g2) (by rfl)).mono ?_
  rintro e w3 ⟨oL, oD, gL, gD, C1, C2, hlL, hlD, rfl, hLL, hLD, hgL1, hgL2, hgD1, hgD2, hC1, hC2, hF3⟩
  have HlL := hide hlL
  have HlD := hide hlD
  have HLL := hide hLL
  have HLD := hide hLD
  have HC1 := hide hC1
  have HC2 := hide hC2
  have HF3 := hide (HF2.out.join hF3)
  have HT3 := hide (HT2.out.fr hF3 (fun e => e))
  have Hs2 := hide HF2.out.size
  obtain ⟨N1, hN1⟩ : ∃ N1, N1 = (trim oL 257).length := ⟨_, rfl⟩
  obtain ⟨N2, hN2⟩ : ∃ N2, N2 = (trim oD 1).length := ⟨_, rfl⟩
  rw [← hN1, ← hN2]
  have hs23 := hF3.size
  have HN1 := hide hN1
  have HN2 := hide hN2
  have Hg1 := hide g1
  have Hg2 := hide g2
  clear hlL hlD hLL hLD hC1 hC2 hF3 hN1 hN2 hst hsz g1 g2 hz
  go_wp2_with fail
  refine (calls_args (fixedCodes_c w3) (by rfl)).mono ?_
  rintro e w4 ⟨a1, c1, X1, a2, c2, X2, rfl, hX1, hX2, hF4⟩
  have HX1 := hide hX1
  have HX2 := hide hX2
  have Hs3 := hide HF3.out.size
  have HF4 := hide (HF3.out.join hF4)
  have HT4 := hide (HT3.out.fr hF4 (fun e => e))
  have HC1b := hide (HC1.out.keep hF4 (fun _ _ _ e => e))
  have HC2b := hide (HC2.out.keep hF4 (fun _ _ _ e => e))
  have HLL4 := hide (HLL.out.fr hF4)
  have HLD4 := hide (HLD.out.fr hF4)
  have hs34 := hF4.size
  clear hX1 hX2 hF4 HC1 HC2 HLL HLD
  go_wp2_with fail
  obtain ⟨P1, hP1⟩ : ∃ P1, P1 = w4.heap.size := ⟨_, rfl⟩
  obtain ⟨w5, hw5⟩ : ∃ w5, w5 = ((w4.alloc (.cells #[.slice (some ⟨gL, 0, none⟩) N1 286, .pointer (some ⟨C1, 0, none⟩), .slice (some ⟨gD, 0, none⟩) N2 30, .pointer (some ⟨C2, 0, none⟩)] 127)).alloc (.cells #[.slice a1 288 c1, .pointer (some ⟨X1, 0, none⟩), .slice a2 32 c2, .pointer (some ⟨X2, 0, none⟩)] 127)).alloc (.cells #[.slice none 0 0, .int .i64 0, .slice none 0 0, .int .i64 0, .int .i64 0] 99) := ⟨_, rfl⟩
  rw [← hw5, ← hP1]
  obtain ⟨q1, q2, q3, hF5⟩ := three_new w4 P1 hP1 _ _ _ _ _ _ hw5
  have HF5 := hide (HF4.out.join hF5)
  have HT5 := hide (HT4.out.fr hF5 (fun e => e))
  have HC1c := hide (HC1b.out.keep hF5 (fun _ _ _ e => e))
  have HC2c := hide (HC2b.out.keep hF5 (fun _ _ _ e => e))
  have HX1c := hide (HX1.out.keep hF5 (fun _ _ _ e => e))
  have HX2c := hide (HX2.out.keep hF5 (fun _ _ _ e => e))
  have hwP : w.heap.size ≤ P1 := by rw [hP1]; exact HF4.out.size
  have Hq1 := hide q1
  have Hq2 := hide q2
  have Hpn := hide (pen_new q3)
  have hcl : 257 ≤ (trim oL 257).length ∧ (trim oL 257).length ≤ 286 ∧ 1 ≤ (trim oD 1).length ∧ (trim oD 1).length ≤ 30 ∧ Cok (trim oL 257) ∧ Cok (trim oD 1) ∧ 1 ≤ at0 (trim oL 257) 256 := codes_facts Hm.out HlL.out HlD.out
  have Hcl := hide hcl
  have HPC := hide (putCodes_c 99 (P1 + 1 + 1) 0 _ none t0 gL 286 C1 gD 30 C2 (trim oL 257) (trim oD 1) w5 Hpn.out (by simp [t0]) (HLL4.out.fr hF5) (HLD4.out.fr hF5) hcl.2.2.2.2.1 hcl.2.2.2.2.2.1 hcl.1 hcl.2.1 hcl.2.2.1 hcl.2.2.2.1 hcl.2.2.2.2.2.2 (HG.out.keep HF5.out (fun e => e)))
  have HLL5 := hide (HLL4.out.fr hF5)
  have HLD5 := hide (HLD4.out.fr hF5)
  have HP1 := hide hP1
  clear hw5 q1 q2 q3 hF5 hcl hP1 HLL4 HLD4 HC1b HC2b HX1 HX2
  rw [← HN1.out, ← HN2.out] at HPC
  refine (calls_args HPC.out (by rfl)).mono ?_
  rintro e w6 ⟨rfl, oC, cs6, g6, hlC, hP6⟩
  have hCds : Cds ps oL oD oC := ⟨HlL.out, HlD.out, hlC⟩
  have HCds := hide hCds
  obtain ⟨cp, hcp⟩ : ∃ cp, cp = codesP oL oD oC := ⟨_, rfl⟩
  have hcw : w6.cell? ⟨P1 + 1 + 1, 4, none⟩ = some (.int .i64 (cp : Int)) := by rw [hcp]; exact cell_of (o := 4) hP6.pn.wt.blk.1 hP6.pn.wr
  have hcpb : cp ≤ 10000 := by rw [hcp]; exact codesP_le hCds Hm.out
  have hF6 : Fr (fun i => i = P1 + 1 + 1) w5 w6 := hP6.fr.mono fun i _ e => e.elim id (fun e => by cases e)
  have hFw6 : Fr (fun _ => False) w w6 := fr_false_new HF5.out hF6 (fun i e => by omega)
  have k1 := cells_at Hq1.out hF6 (by omega)
  have k2 := cells_at Hq2.out hF6 (by omega)
  have hS0 : St9 w6 P1 (cp : Int) gL N1 C1 gD N2 C2 a1 c1 X1 a2 c2 X2 := ⟨hcw, cell_of (o := 0) k1 rfl, cell_of (o := 1) k1 rfl, cell_of (o := 2) k1 rfl, cell_of (o := 3) k1 rfl, cell_of (o := 0) k2 rfl, cell_of (o := 1) k2 rfl, cell_of (o := 2) k2 rfl, cell_of (o := 3) k2 rfl⟩
  have hP13 : P1 + 1 + 1 ≠ A := by have := HP1.out; have := lt_of HT4.out.blk; omega
  have HT6 := hide (HT5.out.fr hF6 (by omega))
  have hloA : w.heap.size ≤ w2.heap.size := HF2.out.size
  have hP1e := HP1.out
  have HC1d := hide (HC1c.out.keep hF6 (fun i z1 z2 e => by omega))
  have HC2d := hide (HC2c.out.keep hF6 (fun i z1 z2 e => by omega))
  have HX1d := hide (HX1c.out.keep hF6 (fun i z1 z2 e => by omega))
  have HX2d := hide (HX2c.out.keep hF6 (fun i z1 z2 e => by omega))
  have HLL6 := hide (HLL5.out.frS hF6 (fun ad e => by cases e; show ¬ gL = P1 + 1 + 1; omega))
  have HLD6 := hide (HLD5.out.frS hF6 (fun ad e => by cases e; show ¬ gD = P1 + 1 + 1; omega))
  have hZn := tally_zn Hm.out
  obtain ⟨fu, hfu⟩ : ∃ fu : Nat, at0 (tally ps) 316 = (fu : Int) := ⟨(at0 (tally ps) 316).toNat, by have := hZn.low 316; omega⟩
  have hfu2 : fu ≤ 100000000 := by have := hZn.far; have := Hn.out; omega
  have hcz := HT6.out.cell (i := 316) (by omega)
  rw [hfu] at hcz
  have TB1 := hide (fun (W : World) (hF : Fr (fun _ => False) w6 W) => tallyBits_c A w2.heap.size w3.heap.size w2.heap.size w3.heap.size C1 C2 fu (trim oL 257) (trim oD 1) (fL (tally ps)) (fD (tally ps)) (some ⟨gL, 0, none⟩) N1 286 (some ⟨gD, 0, none⟩) N2 30 W (HC1d.out.keep hF (fun _ _ _ e => e)) (HC2d.out.keep hF (fun _ _ _ e => e)) (HT6.out.fr hF (fun e => e)).liesL (HT6.out.fr hF (fun e => e)).liesD ((cell_blk (a := ⟨A, 316, none⟩) (hF.block A (cell_lt hcz) (fun e => e))).trans hcz) (fL_len (tally_len ps)) (fD_len (tally_len ps)) Hg1.out Hg2.out hfu2)
  have TB2 := hide (fun (W : World) (hF : Fr (fun _ => False) w6 W) => tallyBits_c A w3.heap.size w4.heap.size w3.heap.size w4.heap.size X1 X2 fu fixL fixD (fL (tally ps)) (fD (tally ps)) a1 288 c1 a2 32 c2 W (HX1d.out.keep hF (fun _ _ _ e => e)) (HX2d.out.keep hF (fun _ _ _ e => e)) (HT6.out.fr hF (fun e => e)).liesL (HT6.out.fr hF (fun e => e)).liesD ((cell_blk (a := ⟨A, 316, none⟩) (hF.block A (cell_lt hcz) (fun e => e))).trans hcz) (fL_len (tally_len ps)) (fD_len (tally_len ps)) Hg1.out Hg2.out hfu2)
  have bO1 := bitsF_bd (at_all HC1d.out.egood) (atF_all Hg1.out) 286
  have bO2 := bitsF_bd (at_all HC2d.out.egood) (atF_all Hg2.out) 30
  have bX1 := bitsF_bd (at_all HX1d.out.egood) (atF_all Hg1.out) 286
  have bX2 := bitsF_bd (at_all HX2d.out.egood) (atF_all Hg2.out) 30
  obtain ⟨V1, hV1⟩ : ∃ V1, V1 = bitsF (trim oL 257) (fL (tally ps)) 286 + bitsF (trim oD 1) (fD (tally ps)) 30 + (fu : Int) := ⟨_, rfl⟩
  obtain ⟨V2, hV2⟩ : ∃ V2, V2 = bitsF fixL (fL (tally ps)) 286 + bitsF fixD (fD (tally ps)) 30 + (fu : Int) := ⟨_, rfl⟩
  rw [← hV1] at TB1
  rw [← hV2] at TB2
  have v1 : 0 ≤ V1 ∧ V1 ≤ 6000000000 := by omega
  have v2 : 0 ≤ V2 ∧ V2 ≤ 6000000000 := by omega
  obtain ⟨v1a, v1b⟩ := v1
  obtain ⟨v2a, v2b⟩ := v2
  have HV1 : Hid (V1 = allB (trim oL 257) (trim oD 1) (tally ps)) := by show _ = _; unfold allB; rw [hV1, hfu]
  have HV2 : Hid (V2 = allB fixL fixD (tally ps)) := by show _ = _; unfold allB; rw [hV2, hfu]
  have HFw6 := hide hFw6
  have Hcp := hide hcp
  have hcpi : (cp : Int) ≤ 10000 := by omega
  have hnA : ¬ A = P1 ∧ ¬ A = P1 + 1 := by have := lt_of HT4.out.blk; omega
  clear hP1e hcz bO1 bO2 bX1 bX2 hV1 hV2 hfu hZn hCds hcp hP6 hlC hFw6 hF6 k1 k2 hcw
  have hS0d : St9 w6.drew P1 (cp : Int) gL N1 C1 gD N2 C2 a1 c1 X1 a2 c2 X2 := hS0.fr (Fr.of_drewN w6 1) (fun e => e) (fun e => e) (fun e => e)
  go_wp2_with fail
  refine wp_region_held_drew (S := fun W' => St9 W' P1 (cp : Int) gL N1 C1 gD N2 C2 a1 c1 X1 a2 c2 X2) (by kernel_rfl) hS0d (fun hHeld => ?_)
  refine wpAnyH_take (i := 0) (v := ?v0) rfl (by kernel_rfl) (by kernel_rfl) (by kernel_rfl) (fun _ _ _ h => h) (Or.inl ⟨by rfl, ?hy0⟩) hHeld ?rest0
  case hy0 => (intro W hSw; (try dsimp only at hSw); obtain ⟨s0, s1, s2, s3, s4, s5, s6, s7, s8⟩ := hSw; go_simp; all_goals (with_reducible rfl))
  change wpAnyH _ _ _ _ _ _ _ (Act.put _ (some 21) _) _
  simp only [Act.put, List.setIfInBounds_toArray, List.set_cons_zero, List.set_cons_succ]
  refine wpAnyH_take (i := 2) (v := ?v2) rfl (by kernel_rfl) (by kernel_rfl) (by kernel_rfl) (fun _ _ _ h => h) (Or.inl ⟨by rfl, ?hy2⟩) hHeld ?rest2
  case hy2 => (intro W hSw; (try dsimp only at hSw); obtain ⟨s0, s1, s2, s3, s4, s5, s6, s7, s8⟩ := hSw; go_simp; all_goals (with_reducible rfl))
  change wpAnyH _ _ _ _ _ _ _ (Act.put _ (some 23) _) _
  simp only [Act.put, List.setIfInBounds_toArray, List.set_cons_zero, List.set_cons_succ]
  refine wpAnyH_take (i := 5) (v := ?v5) rfl (by kernel_rfl) (by kernel_rfl) (by kernel_rfl) (fun _ _ _ h => h) (Or.inl ⟨by rfl, ?hy5⟩) hHeld ?rest5
  case hy5 => (intro W hSw; (try dsimp only at hSw); obtain ⟨s0, s1, s2, s3, s4, s5, s6, s7, s8⟩ := hSw; go_simp; all_goals (with_reducible rfl))
  change wpAnyH _ _ _ _ _ _ _ (Act.put _ (some 26) _) _
  simp only [Act.put, List.setIfInBounds_toArray, List.set_cons_zero, List.set_cons_succ]
  refine wpAnyH_take (i := 1) (v := ?v1) rfl (by kernel_rfl) (by kernel_rfl) (by kernel_rfl) (fun _ _ _ h => h) (Or.inl ⟨by rfl, ?hy1⟩) hHeld ?rest1
  case hy1 => (intro W hSw; (try dsimp only at hSw); obtain ⟨s0, s1, s2, s3, s4, s5, s6, s7, s8⟩ := hSw; go_simp; all_goals (with_reducible rfl))
  change wpAnyH _ _ _ _ _ _ _ (Act.put _ (some 22) _) _
  simp only [Act.put, List.setIfInBounds_toArray, List.set_cons_zero, List.set_cons_succ]
  refine wpAnyH_ready (rs := [3]) (by kernel_rfl) (by simp) ?_
  refine AllReadyH.cons rfl (fun K hK => ?_) AllReadyH.nil
  try simp only [List.getElem_toArray, List.getElem_cons_succ, List.getElem_cons_zero]
  go_simp
  refine (calls_args (TB1.out w6.drew (Fr.of_drewN w6 1)) (by rfl)).mono ?_
  rintro e w7 ⟨rfl, hF7⟩
  have HF7 := hide ((Fr.of_drewN w6 1).join hF7)
  have hS7 := hS0d.fr hF7 (fun e => e) (fun e => e) (fun e => e)
  clear hF7
  refine hK.out _ _ hS7 (fun hHeld => ?_)
  clear hK K
  refine wpAnyH_take (i := 4) (v := ?v4) rfl (by kernel_rfl) (by kernel_rfl) (by kernel_rfl) (fun _ _ _ h => h) (Or.inl ⟨by rfl, ?hy4⟩) hHeld ?rest4
  case hy4 => (intro W hSw; (try dsimp only at hSw); obtain ⟨s0, s1, s2, s3, s4, s5, s6, s7, s8⟩ := hSw; go_simp; all_goals (with_reducible rfl))
  change wpAnyH _ _ _ _ _ _ _ (Act.put _ (some 25) _) _
  simp only [Act.put, List.setIfInBounds_toArray, List.set_cons_zero, List.set_cons_succ]
  refine wpAnyH_ready (rs := [6]) (by kernel_rfl) (by simp) ?_
  refine AllReadyH.cons rfl (fun K hK => ?_) AllReadyH.nil
  try simp only [List.getElem_toArray, List.getElem_cons_succ, List.getElem_cons_zero]
  go_simp
  refine (calls_args (TB2.out w7 HF7.out) (by rfl)).mono ?_
  rintro e w8 ⟨rfl, hF8⟩
  have HF8 := hide (HF7.out.join hF8)
  have hS8 := hS7.fr hF8 (fun e => e) (fun e => e) (fun e => e)
  clear hF8
  refine hK.out _ _ hS8 (fun hHeld => ?_)
  clear hK K
  refine wpAnyH_take (i := 7) (v := ?v7) rfl (by kernel_rfl) (by kernel_rfl) (by kernel_rfl) (fun _ _ _ h => h) (Or.inl ⟨by rfl, ?hy7⟩) hHeld ?rest7
  case hy7 => (intro W hSw; (try dsimp only at hSw); obtain ⟨s0, s1, s2, s3, s4, s5, s6, s7, s8⟩ := hSw; go_simp; all_goals (with_reducible rfl))
  change wpAnyH _ _ _ _ _ _ _ (Act.put _ (some 12) _) _
  simp only [Act.put, List.setIfInBounds_toArray, List.set_cons_zero, List.set_cons_succ]
  refine wpAnyH_take (i := 8) (v := ?v8) rfl (by kernel_rfl) (by kernel_rfl) (by kernel_rfl) (fun _ _ _ h => h) (Or.inl ⟨by rfl, ?hy8⟩) hHeld ?rest8
  case hy8 => (intro W hSw; (try dsimp only at hSw); obtain ⟨s0, s1, s2, s3, s4, s5, s6, s7, s8⟩ := hSw; go_simp; all_goals (with_reducible rfl))
  change wpAnyH _ _ _ _ _ _ _ (Act.put _ (some 13) _) _
  simp only [Act.put, List.setIfInBounds_toArray, List.set_cons_zero, List.set_cons_succ]
  refine wpAnyH_done (by kernel_rfl) ?_ _
  have e1 : IntKind.i64.wrap ((cp : Int) + V1) = (cp : Int) + V1 := wrap_i64_id _ (by omega) (by omega)
  rw [e1]
  clear e1
  have HFw8 := hide (HFw6.out.join HF8.out)
  have HP8 := hide (PGo.start H.out HFw8.out)
  have hpt : t.p ≤ 2147480000 := by omega
  have hS8 := hHeld
  have HS8 := hide hS8
  clear hHeld hS8 hS0 hS0d hS7
  go_wp2_with fail
  refine (calls_args (toByte_c T B o cs g t 3 w8 HP8.out.pn hpt (by omega)) (by rfl)).mono ?_
  rintro e w9 ⟨rfl, rfl⟩
  obtain ⟨pd, hpd⟩ : ∃ pd, pd = padTo (t.p + 3) := ⟨_, rfl⟩
  rw [← hpd]
  have hpd8 : pd < 8 := by rw [hpd]; unfold padTo; omega
  have hpdi : (pd : Int) < 8 := by omega
  obtain ⟨sB, hsB⟩ : ∃ sB, sB = (pd : Int) + 32 + 8 * (rn : Int) := ⟨_, rfl⟩
  have hsBe : (pd : Int) + 32 + 8 * (rn : Int) = sB := hsB.symm
  obtain ⟨oB, hoB⟩ : ∃ oB, oB = (cp : Int) + V1 := ⟨_, rfl⟩
  rw [← hoB]
  have HsB : Hid (sB = storedB t raw) := by show _ = _; unfold storedB; rw [hsB, ← hpd, ← Hrn.out]; omega
  have HoB : Hid (oB = ownB' ps oL oD oC) := by show _ = _; unfold ownB'; rw [hoB, ← HV1.out, ← Hcp.out]
  have Hpd := hide hpd
  clear hpd hoB hsB
  have hbF : blockF t last raw ps oL oD oC = if sB ≤ V2 ∧ sB ≤ oB then putStored t last raw else if V2 ≤ oB then putFixed t last ps else putOwn t last (trim oL 257) (trim oD 1) oC (xsOf oC) (marksOf (trim oL 257) (trim oD 1)) ps := by
    unfold blockF fixedB
    rw [← HsB.out, ← HoB.out, ← HV2.out]
  have HbF := hide hbF
  clear hbF
  have HPn8 := hide HP8.out.pn
  have Hw68 := hide HFw8.out.size
  have hB0 : 1 < w.heap.size := by have := cell_lt (HG.out 0 (by omega)); exact this
  have hw28 : w3.heap.size ≤ w8.heap.size := by have := HF8.out.size; have := HP1.out; have := lt_of9 HS8.out.o0; omega
  have hw48 : w4.heap.size ≤ w8.heap.size := by have := HP1.out; have := lt_of9 HS8.out.o0; omega
  have HLP8 := hide (liesP_fr HP.out HFw8.out (fun _ e => e))
  have HR8 := hide (lies_frS HR.out HFw8.out fun _ _ _ _ _ hS => hS)
  have HClr1 : ∀ g', (g' = g ∨ ∃ k, g' = some k ∧ w8.heap.size ≤ k) → Clear w2.heap.size w3.heap.size B g' := fun g' hg => ⟨by have := Hlts.out.2; omega, fun k hk => by
    rcases hg with rfl | ⟨j, rfl, hj⟩
    · have := Hlts.out.1 k hk; omega
    · cases hk; omega⟩
  have HClr2 : ∀ g', (g' = g ∨ ∃ k, g' = some k ∧ w8.heap.size ≤ k) → Clear w3.heap.size w4.heap.size B g' := fun g' hg => ⟨by have := Hlts.out.2; omega, fun k hk => by
    rcases hg with rfl | ⟨j, rfl, hj⟩
    · have := Hlts.out.1 k hk; omega
    · cases hk; omega⟩
  have HDg : ∀ g', (g' = g ∨ ∃ k, g' = some k ∧ w8.heap.size ≤ k) → 0 < n → D ≠ B ∧ g' ≠ some D := fun g' hg hn0 => ⟨(HD.out hn0).1, fun e => by
    have hlt := liesP_lt HP.out (by have := Hn.out; omega)
    rcases hg with rfl | ⟨j, rfl, hj⟩
    · exact (HD.out hn0).2 e
    · cases e; have := Hw68.out; omega⟩
  have HK1 := hide HClr1
  have HK2 := hide HClr2
  have HK3 := hide HDg
  clear HClr1 HClr2 HDg
  have HB0 : Hid (¬ (1 = B ∨ g = some 1)) := Hnp0.out
  rcases (show (sB ≤ V2 ∧ sB ≤ oB) ∨ (V2 < sB ∧ V2 ≤ oB) ∨ (oB < V2 ∧ oB < sB ∧ V2 < sB) ∨ (oB < V2 ∧ oB < sB ∧ sB ≤ V2) by omega) with ⟨z1, z2⟩ | ⟨z1, z2⟩ | ⟨z1, z2, z3⟩ | ⟨z1, z2, z3⟩
  · have y1 : ¬ V2 < sB := by omega
    have y2 : ¬ oB < sB := by omega
    rw [if_pos ⟨z1, z2⟩] at HbF
    clear z1 z2
    go_wp2_with fail
    refine (calls_args (putHead_c T B o cs g t last 0 w8 HPn8.out (by omega) (by omega)) (by rfl)).mono ?_
    rintro e wa ⟨rfl, csa, ga, hPa⟩
    have HPa := hide hPa
    have hpa : (putHead t last 0).p = t.p + 3 := putHead_p t last 0
    have hFar8 : Far ra w8 B g := fun ad e => by
      obtain ⟨f1, f2, f3⟩ := Hf.out ad e
      exact ⟨f1, f2, by have := Hw68.out; omega⟩
    have HZ := hide (putRaw_c T B o csa ga (putHead t last 0) ra rn rc raw wa hPa.pn (by omega) (lies_go HR8.out hFar8 hPa) Hrn.out hr Hb.out (hFar8.go hPa))
    clear hPa hFar8
    go_wp2_with fail
    refine (calls_args HZ.out (by rfl)).mono ?_
    rintro e wb ⟨rfl, csb, gb, hPb⟩
    have HPb := hide (HP8.out.trans (HPa.out.trans hPb))
    clear hPb
    go_wp2
    go_end0
    refine ⟨rfl, oL, oD, oC, csb, gb, HCds.out, ?_⟩
    rw [HbF.out, ← stored_eq]
    exact HPb.out
  · have y2 : ¬ oB < V2 := by omega
    have y3 : (V2 == sB) = false := beq_false_of_ne (by omega)
    rw [if_neg (by omega), if_pos z2] at HbF
    clear z2
    go_wp2_with fail
    refine (calls_args (putHead_c T B o cs g t last 1 w8 HPn8.out (by omega) (by omega)) (by rfl)).mono ?_
    rintro e wa ⟨rfl, csa, ga, hPa⟩
    have HPa := hide hPa
    obtain ⟨s0, s1, s2, s3, s4, s5, s6, s7, s8⟩ := HS8.out.fr hPa.fr (not_pen Hlts.out (by omega)) (not_pen Hlts.out (by omega)) (not_pen Hlts.out (by omega))
    have hpa : (putHead t last 1).p = t.p + 3 := putHead_p t last 1
    have HZ := hide (putPieces_c T w3.heap.size w4.heap.size X1 X2 B o csa fixL fixD ga (putHead t last 1) a1 288 c1 a2 32 c2 a D f n c ps out wa (Cd.go (o := o) (HX1d.out.keep HF8.out (fun _ _ _ e => e)) (HK2.out g (Or.inl rfl)) hPa) (Cd.go (o := o) (HX2d.out.keep HF8.out (fun _ _ _ e => e)) (HK2.out g (Or.inl rfl)) hPa) (HK2.out ga hPa.own) hPa.pn (by omega) Ha.out (liesP_fr HLP8.out hPa.fr (fun h0 => by rintro (e | e); exact (HD.out (by have := Hn.out; omega)).1 e; exact (HD.out (by have := Hn.out; omega)).2 e)) Hn.out hn6 (HK3.out ga hPa.own) Hm.out (fun p hp => by obtain ⟨o', ho'⟩ := mays_mem Hm.out p hp; exact fix_told ho') fix_256.1 fix_256.2)
    clear hPa
    go_wp2_with fail
    refine (calls_args HZ.out (by rfl)).mono ?_
    rintro e wb ⟨rfl, csb, gb, hPb⟩
    have HPb := hide (HP8.out.trans (HPa.out.trans hPb))
    clear hPb
    go_wp2
    go_end0
    refine ⟨rfl, oL, oD, oC, csb, gb, HCds.out, ?_⟩
    rw [HbF.out]
    exact HPb.out
  · have y3 : (oB == sB) = false := beq_false_of_ne (by omega)
    have y4 : (oB == V2) = false := beq_false_of_ne (by omega)
    rw [if_neg (by omega), if_neg (by omega)] at HbF
    go_wp2_with fail
    refine (calls_args (putHead_c T B o cs g t last 2 w8 HPn8.out (by omega) (by omega)) (by rfl)).mono ?_
    rintro e wa ⟨rfl, csa, ga, hPa⟩
    have HPa := hide hPa
    obtain ⟨s0, s1, s2, s3, s4, s5, s6, s7, s8⟩ := HS8.out.fr hPa.fr (not_pen Hlts.out (by omega)) (not_pen Hlts.out (by omega)) (not_pen Hlts.out (by omega))
    have hpa : (putHead t last 2).p = t.p + 3 := putHead_p t last 2
    have HQ := hide (putCodes_c T B o csa ga (putHead t last 2) gL 286 C1 gD 30 C2 (trim oL 257) (trim oD 1) wa HPa.out.pn (by omega) ((HLL6.out.fr HF8.out).frS hPa.fr (fun ad e => by cases e; exact not_pen Hlts.out (show w.heap.size ≤ gL by omega))) ((HLD6.out.fr HF8.out).frS hPa.fr (fun ad e => by cases e; exact not_pen Hlts.out (show w.heap.size ≤ gD by omega))) Hcl.out.2.2.2.2.1 Hcl.out.2.2.2.2.2.1 Hcl.out.1 Hcl.out.2.1 Hcl.out.2.2.1 Hcl.out.2.2.2.1 Hcl.out.2.2.2.2.2.2 ((HG.out.keep HFw8.out (fun e => e)).keep hPa.fr HB0.out))
    rw [← HN1.out, ← HN2.out] at HQ
    clear hPa
    go_wp2_with fail
    refine (calls_args HQ.out (by rfl)).mono ?_
    rintro e wb ⟨rfl, oC', csb, gb, hlC', hPb⟩
    obtain rfl := hlC'.det HCds.out.lC
    have HPb := hide (HPa.out.trans hPb)
    have hpb : (putCodes (trim oL 257) (trim oD 1) oC' (xsOf oC') (marksOf (trim oL 257) (trim oD 1)) (putHead t last 2)).p ≤ t.p + 3 + 10000 := by
      rw [putCodes_shift, hpa]
      have := Hcp.out
      unfold codesP at this
      omega
    clear s0 s1 s2 s3 s4 s5 s6 s7 s8 hPb hlC'
    obtain ⟨s0, s1, s2, s3, s4, s5, s6, s7, s8⟩ := HS8.out.fr HPb.out.fr (not_pen Hlts.out (by omega)) (not_pen Hlts.out (by omega)) (not_pen Hlts.out (by omega))
    obtain ⟨tb, htb⟩ : ∃ tb, tb = putCodes (trim oL 257) (trim oD 1) oC' (xsOf oC') (marksOf (trim oL 257) (trim oD 1)) (putHead t last 2) := ⟨_, rfl⟩
    rw [← htb] at HPb hpb
    have Htb := hide htb
    have HZ := hide (putPieces_c T w2.heap.size w3.heap.size C1 C2 B o csb (trim oL 257) (trim oD 1) gb tb (some ⟨gL, 0, none⟩) N1 286 (some ⟨gD, 0, none⟩) N2 30 a D f n c ps out wb (Cd.go (o := o) (HC1d.out.keep HF8.out (fun _ _ _ e => e)) (HK1.out g (Or.inl rfl)) HPb.out) (Cd.go (o := o) (HC2d.out.keep HF8.out (fun _ _ _ e => e)) (HK1.out g (Or.inl rfl)) HPb.out) (HK1.out gb HPb.out.own) HPb.out.pn (by omega) Ha.out (liesP_fr HLP8.out HPb.out.fr (fun h0 => by rintro (e | e); exact (HD.out (by have := Hn.out; omega)).1 e; exact (HD.out (by have := Hn.out; omega)).2 e)) Hn.out hn6 (HK3.out gb HPb.out.own) Hm.out (tally_told Hm.out HlL.out HlD.out) Hcl.out.2.2.2.2.2.2 (by have := Hcl.out.1; omega))
    clear htb
    go_wp2_with fail
    refine (calls_args HZ.out (by rfl)).mono ?_
    rintro e wc ⟨rfl, csc, gc, hPc⟩
    have HPc := hide (HP8.out.trans (HPb.out.trans hPc))
    clear hPc
    go_wp2
    go_end0
    refine ⟨rfl, oL, oD, oC', csc, gc, HCds.out, ?_⟩
    rw [HbF.out]
    unfold putOwn
    rw [← Htb.out]
    exact HPc.out
  · have y3 : (oB == sB) = false := beq_false_of_ne (by omega)
    have y4 : (oB == V2) = false := beq_false_of_ne (by omega)
    have y5 : ¬ V2 < sB := by omega
    rw [if_neg (by omega), if_neg (by omega)] at HbF
    go_wp2_with fail
    refine (calls_args (putHead_c T B o cs g t last 2 w8 HPn8.out (by omega) (by omega)) (by rfl)).mono ?_
    rintro e wa ⟨rfl, csa, ga, hPa⟩
    have HPa := hide hPa
    obtain ⟨s0, s1, s2, s3, s4, s5, s6, s7, s8⟩ := HS8.out.fr hPa.fr (not_pen Hlts.out (by omega)) (not_pen Hlts.out (by omega)) (not_pen Hlts.out (by omega))
    have hpa : (putHead t last 2).p = t.p + 3 := putHead_p t last 2
    have HQ := hide (putCodes_c T B o csa ga (putHead t last 2) gL 286 C1 gD 30 C2 (trim oL 257) (trim oD 1) wa HPa.out.pn (by omega) ((HLL6.out.fr HF8.out).frS hPa.fr (fun ad e => by cases e; exact not_pen Hlts.out (show w.heap.size ≤ gL by omega))) ((HLD6.out.fr HF8.out).frS hPa.fr (fun ad e => by cases e; exact not_pen Hlts.out (show w.heap.size ≤ gD by omega))) Hcl.out.2.2.2.2.1 Hcl.out.2.2.2.2.2.1 Hcl.out.1 Hcl.out.2.1 Hcl.out.2.2.1 Hcl.out.2.2.2.1 Hcl.out.2.2.2.2.2.2 ((HG.out.keep HFw8.out (fun e => e)).keep hPa.fr HB0.out))
    rw [← HN1.out, ← HN2.out] at HQ
    clear hPa
    go_wp2_with fail
    refine (calls_args HQ.out (by rfl)).mono ?_
    rintro e wb ⟨rfl, oC', csb, gb, hlC', hPb⟩
    obtain rfl := hlC'.det HCds.out.lC
    have HPb := hide (HPa.out.trans hPb)
    have hpb : (putCodes (trim oL 257) (trim oD 1) oC' (xsOf oC') (marksOf (trim oL 257) (trim oD 1)) (putHead t last 2)).p ≤ t.p + 3 + 10000 := by
      rw [putCodes_shift, hpa]
      have := Hcp.out
      unfold codesP at this
      omega
    clear s0 s1 s2 s3 s4 s5 s6 s7 s8 hPb hlC'
    obtain ⟨s0, s1, s2, s3, s4, s5, s6, s7, s8⟩ := HS8.out.fr HPb.out.fr (not_pen Hlts.out (by omega)) (not_pen Hlts.out (by omega)) (not_pen Hlts.out (by omega))
    obtain ⟨tb, htb⟩ : ∃ tb, tb = putCodes (trim oL 257) (trim oD 1) oC' (xsOf oC') (marksOf (trim oL 257) (trim oD 1)) (putHead t last 2) := ⟨_, rfl⟩
    rw [← htb] at HPb hpb
    have Htb := hide htb
    have HZ := hide (putPieces_c T w2.heap.size w3.heap.size C1 C2 B o csb (trim oL 257) (trim oD 1) gb tb (some ⟨gL, 0, none⟩) N1 286 (some ⟨gD, 0, none⟩) N2 30 a D f n c ps out wb (Cd.go (o := o) (HC1d.out.keep HF8.out (fun _ _ _ e => e)) (HK1.out g (Or.inl rfl)) HPb.out) (Cd.go (o := o) (HC2d.out.keep HF8.out (fun _ _ _ e => e)) (HK1.out g (Or.inl rfl)) HPb.out) (HK1.out gb HPb.out.own) HPb.out.pn (by omega) Ha.out (liesP_fr HLP8.out HPb.out.fr (fun h0 => by rintro (e | e); exact (HD.out (by have := Hn.out; omega)).1 e; exact (HD.out (by have := Hn.out; omega)).2 e)) Hn.out hn6 (HK3.out gb HPb.out.own) Hm.out (tally_told Hm.out HlL.out HlD.out) Hcl.out.2.2.2.2.2.2 (by have := Hcl.out.1; omega))
    clear htb
    go_wp2_with fail
    refine (calls_args HZ.out (by rfl)).mono ?_
    rintro e wc ⟨rfl, csc, gc, hPc⟩
    have HPc := hide (HP8.out.trans (HPb.out.trans hPc))
    clear hPc
    go_wp2
    go_end0
    refine ⟨rfl, oL, oD, oC', csc, gc, HCds.out, ?_⟩
    rw [HbF.out]
    unfold putOwn
    rw [← Htb.out]
    exact HPc.out
end Go.Proofs.YtdpmpllbdoefdaaGreatDoor
namespace Go.Proofs.YtdpmpllbdoefdaaGreatDoor
open Go.RowKit
def three (b0 b1 b2 : Nat) : Int := bits BinOp.or IntKind.u32 (bits BinOp.or IntKind.u32 (b0 : Int) ((b1 : Int) * 256)) ((b2 : Int) * 65536)
def keyf (k b0 b1 b2 : Nat) : Nat := ((three b0 b1 b2) * 2654435761 % 4294967296 / 65536 % 2 ^ k).toNat
theorem keyf_lt (k b0 b1 b2 : Nat) : keyf k b0 b1 b2 < 2 ^ k := by
  unfold keyf
  have e : (2 : Int) ^ k = ((2 ^ k : Nat) : Int) := by simp
  have h := Int.emod_lt_of_pos (three b0 b1 b2 * 2654435761 % 4294967296 / 65536) (b := (2 : Int) ^ k) (by rw [e]; have := pow_pos2 k; omega)
  have h0 := Int.emod_nonneg (three b0 b1 b2 * 2654435761 % 4294967296 / 65536) (b := (2 : Int) ^ k) (by rw [e]; have := pow_pos2 k; omega)
  rw [e] at h h0 ⊢
  omega
theorem key_and (k b0 b1 b2 sz : Nat) (hk : k ≤ 15) (hs : sz = 2 ^ k) : bits .and .i64 (three b0 b1 b2 * 2654435761 % 4294967296 / 65536) ((sz : Int) - 1) = (keyf k b0 b1 b2 : Int) := by
  have e : (2 : Int) ^ k = ((2 ^ k : Nat) : Int) := by simp
  have h := mask_i64 (three b0 b1 b2 * 2654435761 % 4294967296 / 65536) k (by omega)
  have e2 : (sz : Int) - 1 = 2 ^ k - 1 := by rw [e, hs]
  rw [e2, h]
  unfold keyf
  have h0 := Int.emod_nonneg (three b0 b1 b2 * 2654435761 % 4294967296 / 65536) (b := (2 : Int) ^ k) (by rw [e]; have := pow_pos2 k; omega)
  omega
set_option maxHeartbeats 800000 in
set_option maxRecDepth 100000 in
theorem key_c (M o k sz at0 b0 b1 b2 : Nat) (v : Option Addr) (D f n c : Nat) (w : World) (hs : w.cell? ⟨M, o, none⟩ = some (.slice v sz sz)) (hsz : sz = 2 ^ k) (hk : k ≤ 15) (hn : n ≤ 2147483648) (hat : at0 + 2 < n)
    (h0 : w.cell? ⟨D, f + at0, none⟩ = some (.int .u8 (b0 : Int))) (h1 : w.cell? ⟨D, f + (at0 + 1), none⟩ = some (.int .u8 (b1 : Int))) (h2 : w.cell? ⟨D, f + (at0 + 2), none⟩ = some (.int .u8 (b2 : Int))) (l0 : b0 < 256) (l1 : b1 < 256) (l2 : b2 < 256) :
    Calls Tryz.prog 82 #[.pointer (some ⟨M, o, none⟩), .slice (some ⟨D, f, none⟩) n c, .int .i64 (at0 : Int)] w fun e w' => e = .returned (.int .i64 (keyf k b0 b1 b2 : Int)) ∧ Fr (fun _ => False) w w' := by
  have i0 : (at0 : Int) < (n : Int) := by omega
  have i1 : (at0 : Int) + 1 < (n : Int) := by omega
  have i2 : (at0 : Int) + 2 < (n : Int) := by omega
  have ai : (at0 : Int) ≤ 2147483648 := by omega
  have t1 : ((at0 : Int) + 1).toNat = at0 + 1 := by omega
  have t2 : ((at0 : Int) + 2).toNat = at0 + 2 := by omega
  have hand := key_and k b0 b1 b2 sz hk hsz
  have hszi : (sz : Int) ≤ 32768 := by
    have : (2 : Nat) ^ k ≤ 2 ^ 15 := Nat.pow_le_pow_right (by decide) hk
    omega
  have hsz0 : (1 : Int) ≤ (sz : Int) := by have := pow_pos2 k; omega
  have Hand := hide hand
  clear hand hsz
  go_enter Tryz.func82, Tryz.ntmps82
  go_wp2
  go_region
  all_goals
    obtain ⟨X, hX⟩ : ∃ X, X = three b0 b1 b2 := ⟨_, rfl⟩
    have hX' : bits BinOp.or IntKind.u32 (bits BinOp.or IntKind.u32 (b0 : Int) ((b1 : Int) * 256)) ((b2 : Int) * 65536) = X := hX.symm
    rw [hX']
    have hs' : w.drew.cell? ⟨M, o, none⟩ = some (.slice v sz sz) := hs
    have hand := Hand.out
    rw [← hX] at hand
    have HX := hide hX
    clear hX hX'
    go_wp2
    go_ret
    exact ⟨rfl, Fr.of_drewN w 1⟩
def LiesB (w : World) (D f : Nat) (bs : List Nat) : Prop := ∀ i, i < bs.length → w.cell? ⟨D, f + i, none⟩ = some (.int .u8 ((bs.getD i 0 : Nat) : Int))
theorem LiesB.fr {w w' : World} {S : Nat → Prop} {D f : Nat} {bs : List Nat} (h : LiesB w D f bs) (F : Fr S w w') (hD : ¬ S D) : LiesB w' D f bs := fun i hi => by
  have := h i hi
  rw [cell_blk (F.block D (cell_lt this) hD)]
  exact this
structure Alike (bs : List Nat) (one other most n : Nat) : Prop where
  le : n ≤ most
  eq : ∀ k, k < n → bs.getD (one + k) 0 = bs.getD (other + k) 0
  stop : n = most ∨ bs.getD (one + n) 0 ≠ bs.getD (other + n) 0
set_option maxHeartbeats 800000 in
set_option maxRecDepth 100000 in
theorem alike_c (D f n c one other most : Nat) (bs : List Nat) (w : World) (hL : LiesB w D f bs) (hn : n ≤ bs.length) (hn2 : n ≤ 2147483648) (h1 : one + most ≤ n) (h2 : other + most ≤ n) :
    Calls Tryz.prog 83 #[.slice (some ⟨D, f, none⟩) n c, .int .i64 (one : Int), .int .i64 (other : Int), .int .i64 (most : Int)] w fun e w' => ∃ m : Nat, e = .returned (.int .i64 (m : Int)) ∧ Alike bs one other most m ∧ Fr (fun _ => False) w w' := by
  have HL := hide hL
  clear hL
  go_enter Tryz.func83, Tryz.ntmps83
  go_wp2_with fail
  go_loopw [9] (fun t wr => ∃ m : Nat, t = .int .i64 (m : Int) ∧ m ≤ most ∧ (∀ k, k < m → bs.getD (one + k) 0 = bs.getD (other + k) 0) ∧ Fr (fun _ => False) w wr) (fun t _ => most - (intOf t).toNat)
  case atStart => exact ⟨0, rfl, Nat.zero_le _, fun k hk => absurd hk (Nat.not_lt_zero k), Fr.refl _ _⟩
  case round =>
    obtain ⟨m, rfl, hm, he, hF⟩ := hrel
    have HF := hide hF
    have He := hide he
    clear hF he
    by_cases hlt : m < most
    · have hlti : (m : Int) < (most : Int) := by omega
      have hb : decide ((m : Int) < (most : Int)) = true := by simpa using hlti
      obtain ⟨x, hx⟩ : ∃ x, x = bs.getD (one + m) 0 := ⟨_, rfl⟩
      obtain ⟨y, hy⟩ : ∃ y, y = bs.getD (other + m) 0 := ⟨_, rfl⟩
      have hlr := HL.out.fr HF.out (fun e => e)
      have cx := hlr (one + m) (by omega)
      have cy := hlr (other + m) (by omega)
      rw [← hx] at cx
      rw [← hy] at cy
      have ix : (one : Int) + (m : Int) < (n : Int) := by omega
      have iy : (other : Int) + (m : Int) < (n : Int) := by omega
      have bx : (one : Int) + (m : Int) ≤ 2147483648 := by omega
      have by' : (other : Int) + (m : Int) ≤ 2147483648 := by omega
      have tx : ((one : Int) + (m : Int)).toNat = one + m := by omega
      have ty : ((other : Int) + (m : Int)).toNat = other + m := by omega
      have Hx := hide hx
      have Hy := hide hy
      clear hlr hx hy
      by_cases hxy : x = y
      · have hbb : ((x : Int) == (y : Int)) = true := beq_iff_eq.2 (by omega)
        have Hxy := hide hxy
        clear hxy
        go_wp2_with fail
        go_quiet (fail)
        go_wp2
        go_roundw
        case rel =>
          refine ⟨m + 1, by go_num, by omega, fun k hk => ?_, HF.out.join (Fr.of_drewN _ _)⟩
          rcases Nat.lt_or_ge k m with h | h
          · exact He.out k h
          · obtain rfl : k = m := by omega
            rw [← Hx.out, ← Hy.out]; exact Hxy.out
        case measure => simp [intOf]; omega
      · have hne : ¬ (x : Int) = (y : Int) := by omega
        have hbb : ((x : Int) == (y : Int)) = false := beq_false_of_ne hne
        go_wp2_with fail
        go_quiet (fail)
        go_wp2
        go_ret
        exact ⟨m, rfl, ⟨hm, He.out, Or.inr (by rw [← Hx.out, ← Hy.out]; exact hxy)⟩, HF.out.join (Fr.of_drewN _ _)⟩
    · have hlti : ¬ (m : Int) < (most : Int) := by omega
      have hb : decide ((m : Int) < (most : Int)) = false := by simpa using hlti
      go_wp2_with fail
      go_quiet (fail)
      go_wp2
      go_ret
      exact ⟨m, rfl, ⟨hm, He.out, Or.inl (by omega)⟩, HF.out.join (Fr.of_drewN _ _)⟩
end Go.Proofs.YtdpmpllbdoefdaaGreatDoor
namespace Go.Proofs.YtdpmpllbdoefdaaGreatDoor
open Go.RowKit
def alikeN (bs : List Nat) : Nat → Nat → Nat → Nat
  | _, _, 0 => 0
  | one, other, m + 1 => if bs.getD one 0 = bs.getD other 0 then alikeN bs (one + 1) (other + 1) m + 1 else 0
theorem alikeN_ok (bs : List Nat) : ∀ (m one other : Nat), Alike bs one other m (alikeN bs one other m) := by
  intro m
  induction m with
  | zero => intro one other; exact ⟨Nat.le_refl _, fun k hk => absurd hk (Nat.not_lt_zero k), Or.inl rfl⟩
  | succ m ih =>
    intro one other
    simp only [alikeN]
    split
    · next h =>
      obtain ⟨a, b, c⟩ := ih (one + 1) (other + 1)
      refine ⟨by omega, fun k hk => ?_, ?_⟩
      · cases k with
        | zero => exact h
        | succ k =>
          have := b k (by omega)
          rw [show one + (k + 1) = one + 1 + k by omega, show other + (k + 1) = other + 1 + k by omega]
          exact this
      · rcases c with c | c
        · exact Or.inl (by omega)
        · refine Or.inr ?_
          rw [show one + (alikeN bs (one + 1) (other + 1) m + 1) = one + 1 + alikeN bs (one + 1) (other + 1) m by omega, show other + (alikeN bs (one + 1) (other + 1) m + 1) = other + 1 + alikeN bs (one + 1) (other + 1) m by omega]
          exact c
    · next h => exact ⟨Nat.zero_le _, fun k hk => absurd hk (Nat.not_lt_zero k), Or.inr (by simpa using h)⟩
theorem Alike.det {bs : List Nat} {one other m n n' : Nat} (h : Alike bs one other m n) (k : Alike bs one other m n') : n = n' := by
  have key : ∀ {n n' : Nat}, Alike bs one other m n → Alike bs one other m n' → ¬ n < n' := by
    intro n n' h k hlt
    rcases h.stop with e | e
    · have := k.le; omega
    · exact e (k.eq n hlt)
  have a := key h k
  have b := key k h
  omega
def findA (bs od : List Nat) (sz at' most : Nat) : Nat → Nat → Nat → Nat → Nat × Nat
  | 0, _, len, back => (len, back)
  | tries + 1, x, len, back =>
    if 0 < x ∧ at' + 1 - x ≤ 32768 ∧ len < most then
      if 3 ≤ alikeN bs (x - 1) at' most ∧ len < alikeN bs (x - 1) at' most then findA bs od sz at' most tries (od.getD ((x - 1) % sz) 0) (alikeN bs (x - 1) at' most) (at' + 1 - x)
      else findA bs od sz at' most tries (od.getD ((x - 1) % sz) 0) len back
    else (len, back)
def findP (bs nw od : List Nat) (k at' : Nat) : Nat × Nat :=
  if min 258 (bs.length - at') < 3 then (0, 0)
  else findA bs od (2 ^ k) at' (min 258 (bs.length - at')) 64 (nw.getD (keyf k (bs.getD at' 0) (bs.getD (at' + 1) 0) (bs.getD (at' + 2) 0)) 0) 0 0
def RowOk (bs : List Nat) (at' len back : Nat) : Prop := 3 ≤ len ∧ len ≤ 258 ∧ at' + len ≤ bs.length ∧ 1 ≤ back ∧ back ≤ 32768 ∧ back ≤ at' ∧ ∀ k, k < len → bs.getD (at' - back + k) 0 = bs.getD (at' + k) 0
theorem findA_ok {bs od : List Nat} {sz at' most : Nat} (hod : ∀ i, od.getD i 0 ≤ at') (hm : most ≤ 258) (hlen : at' + most ≤ bs.length) : ∀ (tries x len back : Nat), x ≤ at' → (len = 0 ∧ back = 0 ∨ RowOk bs at' len back) →
    (findA bs od sz at' most tries x len back = (0, 0) ∨ RowOk bs at' (findA bs od sz at' most tries x len back).1 (findA bs od sz at' most tries x len back).2) := by
  intro tries
  induction tries with
  | zero =>
    intro x len back _ h
    rcases h with ⟨rfl, rfl⟩ | h
    · exact Or.inl rfl
    · exact Or.inr h
  | succ tries ih =>
    intro x len back hx h
    simp only [findA]
    split
    · next hc =>
      split
      · next ha =>
        refine ih _ _ _ (hod _) (Or.inr ?_)
        obtain ⟨a1, a2, a3⟩ := alikeN_ok bs most (x - 1) at'
        refine ⟨ha.1, by omega, by omega, by omega, hc.2.1, by omega, fun k hk => ?_⟩
        have := a2 k hk
        rw [show at' - (at' + 1 - x) = x - 1 by omega]
        exact this
      · exact ih _ _ _ (hod _) h
    · rcases h with ⟨rfl, rfl⟩ | h
      · exact Or.inl rfl
      · exact Or.inr h
def cells32 (l : List Nat) : List Value := l.map fun (x : Nat) => .int .i32 (x : Int)
structure Fd (w : World) (M o N1 N2 k : Nat) (nw od : List Nat) (top : Nat) : Prop where
  c1 : w.cell? ⟨M, o, none⟩ = some (.slice (some ⟨N1, 0, none⟩) (2 ^ k) (2 ^ k))
  c2 : w.cell? ⟨M, o + 1, none⟩ = some (.slice (some ⟨N2, 0, none⟩) (2 ^ k) (2 ^ k))
  b1 : w.heap[N1]? = some (.cells (cells32 nw).toArray 21 (0, 0))
  b2 : w.heap[N2]? = some (.cells (cells32 od).toArray 21 (0, 0))
  l1 : nw.length = 2 ^ k
  l2 : od.length = 2 ^ k
  t1 : ∀ x ∈ nw, x ≤ top
  t2 : ∀ x ∈ od, x ≤ top
  n1 : N1 ≠ M
  n2 : N2 ≠ M
  n3 : N1 ≠ N2
  k15 : k ≤ 15
theorem Fd.keep {w w' : World} {M o N1 N2 k : Nat} {nw od : List Nat} {top : Nat} (h : Fd w M o N1 N2 k nw od top) {S : Nat → Prop} (f : Fr S w w') (hM : w'.cell? ⟨M, o, none⟩ = w.cell? ⟨M, o, none⟩ ∧ w'.cell? ⟨M, o + 1, none⟩ = w.cell? ⟨M, o + 1, none⟩) (h1 : ¬ S N1) (h2 : ¬ S N2) : Fd w' M o N1 N2 k nw od top :=
  ⟨hM.1.trans h.c1, hM.2.trans h.c2, (f.block N1 (lt_of h.b1) h1).trans h.b1, (f.block N2 (lt_of h.b2) h2).trans h.b2, h.l1, h.l2, h.t1, h.t2, h.n1, h.n2, h.n3, h.k15⟩
theorem getD_top {l : List Nat} {top : Nat} (h : ∀ x ∈ l, x ≤ top) (i : Nat) : l.getD i 0 ≤ top := by
  rw [List.getD_eq_getElem?_getD]
  cases hk : l[i]? with
  | none => simp
  | some x => exact h x (List.mem_of_getElem? hk)
theorem cell32 {w : World} {N : Nat} {l : List Nat} (h : w.heap[N]? = some (.cells (cells32 l).toArray 21 (0, 0))) {i : Nat} (hi : i < l.length) : w.cell? ⟨N, i, none⟩ = some (.int .i32 ((l.getD i 0 : Nat) : Int)) :=
  cell_of (o := i) h (by simp [cells32, List.getElem?_map, List.getElem?_eq_getElem hi])
theorem set32 {w : World} {N : Nat} {l : List Nat} (h : w.heap[N]? = some (.cells (cells32 l).toArray 21 (0, 0))) (i x : Nat) : (w.setCell ⟨N, i, none⟩ (.int .i32 (x : Int))).heap[N]? = some (.cells (cells32 (l.set i x)).toArray 21 (0, 0)) := by
  rw [heap_setCell_own _ h]
  simp [cells32, List.map_set]
theorem mem_set_top {l : List Nat} {top i x : Nat} (h : ∀ y ∈ l, y ≤ top) (hx : x ≤ top) : ∀ y ∈ l.set i x, y ≤ top := fun y hy => by
  rcases List.mem_or_eq_of_mem_set hy with h1 | h1
  · exact h y h1
  · omega
theorem and_sz (x k sz : Nat) (hk : k ≤ 15) (hs : sz = 2 ^ k) : bits .and .i64 (x : Int) ((sz : Int) - 1) = ((x % 2 ^ k : Nat) : Int) := by
  have e : (2 : Int) ^ k = ((2 ^ k : Nat) : Int) := by simp
  have h := mask_i64 (x : Int) k (by omega)
  have e2 : (sz : Int) - 1 = 2 ^ k - 1 := by rw [e, hs]
  rw [e2, h]
  simp
def addN (bs nw : List Nat) (k at' : Nat) : List Nat := if bs.length < at' + 3 then nw else nw.set (keyf k (bs.getD at' 0) (bs.getD (at' + 1) 0) (bs.getD (at' + 2) 0)) (at' + 1)
def addO (bs nw od : List Nat) (k at' : Nat) : List Nat := if bs.length < at' + 3 then od else od.set (at' % 2 ^ k) (nw.getD (keyf k (bs.getD at' 0) (bs.getD (at' + 1) 0) (bs.getD (at' + 2) 0)) 0)
theorem add_end {w w1 : World} {M o N1 N2 k at' : Nat} {nw od : List Nat} (h : Fd w M o N1 N2 k nw od at') (hF : Fr (fun _ => False) w w1) (ky r old : Nat) (hold : old ≤ at') :
    Fd ((w1.setCell ⟨N2, r, none⟩ (.int .i32 (old : Int))).setCell ⟨N1, ky, none⟩ (.int .i32 ((at' : Int) + 1))).drew M o N1 N2 k (nw.set ky (at' + 1)) (od.set r old) (at' + 1) ∧
    Fr (fun i => i = N1 ∨ i = N2) w ((w1.setCell ⟨N2, r, none⟩ (.int .i32 (old : Int))).setCell ⟨N1, ky, none⟩ (.int .i32 ((at' : Int) + 1))).drew := by
  have g1 : w1.heap[N1]? = some (.cells (cells32 nw).toArray 21 (0, 0)) := (hF.block N1 (lt_of h.b1) (fun e => e)).trans h.b1
  have g2 : w1.heap[N2]? = some (.cells (cells32 od).toArray 21 (0, 0)) := (hF.block N2 (lt_of h.b2) (fun e => e)).trans h.b2
  have e1 : ((at' : Int) + 1) = ((at' + 1 : Nat) : Int) := by omega
  rw [e1]
  have f : Fr (fun i => i = N1 ∨ i = N2) w1 ((w1.setCell ⟨N2, r, none⟩ (.int .i32 (old : Int))).setCell ⟨N1, ky, none⟩ (.int .i32 ((at' + 1 : Nat) : Int))).drew :=
    (((Fr.of_setCell w1 ⟨N2, r, none⟩ _).trans (Fr.of_setCell _ ⟨N1, ky, none⟩ _)).trans (Fr.of_drewN _ 1)).mono fun i _ e => by
      rcases e with (e | e) | e
      · exact Or.inr e
      · exact Or.inl e
      · exact e.elim
  have hnM : ¬ (M = N1 ∨ M = N2) := by
    rintro (e | e)
    · exact h.n1 e.symm
    · exact h.n2 e.symm
  have m1 : w1.cell? ⟨M, o, none⟩ = w.cell? ⟨M, o, none⟩ := cell_blk (a := ⟨M, o, none⟩) (hF.block M (cell_lt h.c1) (fun e => e))
  have m2 : w1.cell? ⟨M, o + 1, none⟩ = w.cell? ⟨M, o + 1, none⟩ := cell_blk (a := ⟨M, o + 1, none⟩) (hF.block M (cell_lt h.c2) (fun e => e))
  have hMlt : M < w1.heap.size := Nat.lt_of_lt_of_le (cell_lt h.c1) hF.size
  refine ⟨⟨?_, ?_, ?_, ?_, by rw [List.length_set]; exact h.l1, by rw [List.length_set]; exact h.l2, mem_set_top (fun x hx => Nat.le_succ_of_le (h.t1 x hx)) (Nat.le_refl _), mem_set_top (fun x hx => Nat.le_succ_of_le (h.t2 x hx)) (by omega), h.n1, h.n2, h.n3, h.k15⟩, ?_⟩
  · exact (cell_blk (a := ⟨M, o, none⟩) (f.block M hMlt hnM)).trans (m1.trans h.c1)
  · exact (cell_blk (a := ⟨M, o + 1, none⟩) (f.block M hMlt hnM)).trans (m2.trans h.c2)
  · exact set32 (w := w1.setCell ⟨N2, r, none⟩ (.int .i32 (old : Int))) (by rw [Below.heap_setCell _ _ _ _ h.n3]; exact g1) ky (at' + 1)
  · show ((w1.setCell ⟨N2, r, none⟩ (.int .i32 (old : Int))).setCell ⟨N1, ky, none⟩ _).heap[N2]? = _
    rw [Below.heap_setCell _ _ _ _ (Ne.symm h.n3)]
    exact set32 g2 r old
  · exact (hF.trans f).mono fun i _ e => e.elim (fun e => e.elim) id
set_option maxHeartbeats 1600000 in
set_option maxRecDepth 100000 in
theorem add_c (M o N1 N2 k at' D f n c : Nat) (bs nw od : List Nat) (w : World) (h : Fd w M o N1 N2 k nw od at') (hL : LiesB w D f bs) (hn : n = bs.length) (hn2 : n ≤ 2147480000) (hb : ∀ b ∈ bs, b < 256) (hat : at' < n) :
    Calls Tryz.prog 62 #[.pointer (some ⟨M, o, none⟩), .slice (some ⟨D, f, none⟩) n c, .int .i64 (at' : Int)] w fun e w' => e = .returned (.tuple #[]) ∧ Fd w' M o N1 N2 k (addN bs nw k at') (addO bs nw od k at') (at' + 1) ∧ Fr (fun i => i = N1 ∨ i = N2) w w' := by
  have hai : (at' : Int) ≤ 2147480000 := by omega
  by_cases hs : bs.length < at' + 3
  · have hi : (n : Int) < (at' : Int) + 3 := by omega
    have H := hide h
    clear h hn
    go_enter Tryz.func62, Tryz.ntmps62
    go_wp2
    refine bodyPost_ret (results_none rfl _ _ _) rfl ?_
    unfold addN addO
    rw [if_pos hs, if_pos hs]
    have h := H.out
    exact ⟨rfl, ⟨h.c1, h.c2, h.b1, h.b2, h.l1, h.l2, fun x hx => Nat.le_succ_of_le (h.t1 x hx), fun x hx => Nat.le_succ_of_le (h.t2 x hx), h.n1, h.n2, h.n3, h.k15⟩, Fr.refl _ _⟩
  · have hi : ¬ (n : Int) < (at' : Int) + 3 := by omega
    obtain ⟨x0, hx0⟩ : ∃ x, x = bs.getD at' 0 := ⟨_, rfl⟩
    obtain ⟨x1, hx1⟩ : ∃ x, x = bs.getD (at' + 1) 0 := ⟨_, rfl⟩
    obtain ⟨x2, hx2⟩ : ∃ x, x = bs.getD (at' + 2) 0 := ⟨_, rfl⟩
    have c0 := hL at' (by omega)
    have c1 := hL (at' + 1) (by omega)
    have c2 := hL (at' + 2) (by omega)
    have l0 : x0 < 256 := by rw [hx0]; exact getD_lt hb _
    have l1 : x1 < 256 := by rw [hx1]; exact getD_lt hb _
    have l2 : x2 < 256 := by rw [hx2]; exact getD_lt hb _
    rw [← hx0] at c0
    rw [← hx1] at c1
    rw [← hx2] at c2
    have hN : addN bs nw k at' = nw.set (keyf k x0 x1 x2) (at' + 1) := by unfold addN; rw [if_neg hs, hx0, hx1, hx2]
    have hO : addO bs nw od k at' = od.set (at' % 2 ^ k) (nw.getD (keyf k x0 x1 x2) 0) := by unfold addO; rw [if_neg hs, hx0, hx1, hx2]
    obtain ⟨sz, hsz⟩ : ∃ sz, sz = 2 ^ k := ⟨_, rfl⟩
    have m1 := h.c1
    have m2 := h.c2
    rw [← hsz] at m1 m2
    have hkc := key_c M o k sz at' x0 x1 x2 (some ⟨N1, 0, none⟩) D f n c w m1 hsz h.k15 (by omega) (by omega) c0 c1 c2 l0 l1 l2
    obtain ⟨ky, hky⟩ : ∃ ky, ky = keyf k x0 x1 x2 := ⟨_, rfl⟩
    have hkl : ky < sz := by rw [hky, hsz]; exact keyf_lt _ _ _ _
    obtain ⟨r, hr⟩ : ∃ r, r = at' % 2 ^ k := ⟨_, rfl⟩
    have hrl : r < sz := by rw [hr, hsz]; exact Nat.mod_lt _ (pow_pos2 k)
    have hand := and_sz at' k sz h.k15 hsz
    rw [← hr] at hand
    rw [← hky] at hkc hN hO
    rw [← hr] at hO
    have e1 := cell32 h.b1 (i := ky) (by rw [h.l1, ← hsz]; exact hkl)
    obtain ⟨old, hold⟩ : ∃ old, old = nw.getD ky 0 := ⟨_, rfl⟩
    have holdt : old ≤ at' := by rw [hold]; exact getD_top h.t1 _
    rw [← hold] at e1 hO
    have e2 := cell32 h.b2 (i := r) (by rw [h.l2, ← hsz]; exact hrl)
    obtain ⟨old2, hold2⟩ : ∃ old2, old2 = od.getD r 0 := ⟨_, rfl⟩
    rw [← hold2] at e2
    have hsz15 : (sz : Int) ≤ 32768 := by
      have : (2 : Nat) ^ k ≤ 2 ^ 15 := Nat.pow_le_pow_right (by decide) h.k15
      omega
    have hsz0 : (1 : Int) ≤ (sz : Int) := by have := pow_pos2 k; omega
    have hkli : (ky : Int) < (sz : Int) := by omega
    have hrli : (r : Int) < (sz : Int) := by omega
    have H := hide h
    have HN := hide hN
    have HO := hide hO
    have Hkc := hide hkc
    clear h hN hO hkc hx0 hx1 hx2 c0 c1 c2 hky hr hold hold2 hsz l0 l1 l2 hL hb hn
    go_enter Tryz.func62, Tryz.ntmps62
    go_wp2_with fail
    refine (calls_args Hkc.out (by rfl)).mono ?_
    rintro e w1 ⟨rfl, hF1⟩
    have HF1 := hide hF1
    have m1' := (cell_blk (a := ⟨M, o, none⟩) (hF1.block M (cell_lt m1) (fun e => e))).trans m1
    have m2' := (cell_blk (a := ⟨M, o + 1, none⟩) (hF1.block M (cell_lt m2) (fun e => e))).trans m2
    have e1' := (cell_blk (a := ⟨N1, ky, none⟩) (hF1.block N1 (cell_lt e1) (fun e => e))).trans e1
    have e2' := (cell_blk (a := ⟨N2, r, none⟩) (hF1.block N2 (cell_lt e2) (fun e => e))).trans e2
    have g1 : w1.heap[N1]? = some (.cells (cells32 nw).toArray 21 (0, 0)) := (hF1.block N1 (lt_of H.out.b1) (fun e => e)).trans H.out.b1
    have g2 : w1.heap[N2]? = some (.cells (cells32 od).toArray 21 (0, 0)) := (hF1.block N2 (lt_of H.out.b2) (fun e => e)).trans H.out.b2
    have z1 := frozen_of (o := ky) g1
    have z2 := frozen_of (o := r) g2
    have n1 := H.out.n1
    have n2 := H.out.n2
    have n3 := H.out.n3
    have G1 := hide g1
    have G2 := hide g2
    clear hF1 g1 g2 m1 m2 e1 e2
    go_wp2
    go_region
    all_goals
      go_wp2
      go_end0
      rw [HN.out, HO.out]
      obtain ⟨q1, q2⟩ := add_end H.out HF1.out ky r old holdt
      exact ⟨rfl, q1, q2⟩
end Go.Proofs.YtdpmpllbdoefdaaGreatDoor
