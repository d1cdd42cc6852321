/-
  DeflateSmall: a row of one byte is made small, and read as it was.
  Conditions: none.
-/
import Derived.Test.YtmefhngmgfmhoaaDoorQz7
import Derived.Test.YtmefhngmgfmhoaaDoorCards
import Derived.SevenTiedAt
/-
  The law on rows of one byte.
-/
namespace Go.Proofs.YtmefhngmgfmhoaaDoor
open Go.RowKit

theorem lies_rep {w : World} {D n : Nat} {cs : Array Value} {b : Nat} (h : w.heap[D]? = some (.cells cs 5 (0, 0))) (hc : ∀ i, i < n → cs[i]? = some (.int .u8 (b : Int))) : Lies w (.slice (some ⟨D, 0, none⟩) n n) (List.replicate n b) :=
  Or.inr ⟨⟨D, 0, none⟩, n, by rw [List.length_replicate], fun j u hu => by
    rw [add_none, Nat.zero_add]
    have hj : j < n := by
      have := (List.getElem?_eq_some_iff.1 hu).1
      simpa [cellsOf] using this
    have : u = .int .u8 (b : Int) := by
      simp [cellsOf, hj] at hu
      exact hu.symm
    rw [this]
    exact cell_of h (hc j hj)⟩

theorem str_same (bs : List Nat) : ((strOf bs).toList == (strOf bs).toList) = true := beq_self_eq_true _

set_option maxHeartbeats 1600000 in
set_option maxRecDepth 100000 in
theorem small_c (b many : Nat) (w : World) (hb : b < 256) (hm : many < 65536) (hg : Gw w) : Calls Tryd.prog 5 #[.int .u8 (b : Int), .int .u16 (many : Int)] w fun e w' => e = .returned (.bool true) ∧ Fr (fun _ => False) w w' := by
  have HG := hide hg
  obtain ⟨n, hn⟩ : ∃ n, n = 1000 + many := ⟨_, rfl⟩
  have hni : (1000 : Int) + (many : Int) = (n : Int) := by omega
  have hmi : (many : Int) < 65536 := by omega
  have hn1 : 1000 ≤ n := by omega
  have hn2 : n ≤ 100000 := by omega
  have hnb : (n : Int) ≤ 100000 := by omega
  have hmk := makeB n (by omega)
  obtain ⟨zs, hzs⟩ : ∃ zs, zs = (cellsOf (List.replicate n 0)).toArray := ⟨_, rfl⟩
  rw [← hzs] at hmk
  have hzl : zs.size = n := by rw [hzs]; simp [cellsOf]
  have Hzl := hide hzl
  have q1 : IntKind.i64.wrap (many : Int) = (many : Int) := wrap_i64_id _ (by omega) (by omega)
  clear hg hn hzs hzl
  go_enter Tryd.func5, Tryd.ntmps5
  go_wp2_with fail
  refine (awake_c w HG.out).mono ?_
  rintro e w0 ⟨rfl, hF0⟩
  have HF0 := hide hF0
  clear hF0
  go_wp2_with fail
  obtain ⟨w1, hw1⟩ : ∃ w1, w1 = w0.alloc (.cells zs 5) := ⟨_, rfl⟩
  obtain ⟨D, hD⟩ : ∃ D, D = w0.heap.size := ⟨_, rfl⟩
  have hF1 : Fr (fun _ => False) w0 w1 := by rw [hw1]; exact Fr.of_alloc _ _
  have hb1 : w1.heap[D]? = some (.cells zs 5 (0, 0)) := by rw [hw1]; exact heap_alloc_at hD
  have hwD : w.heap.size ≤ D := by rw [hD]; exact HF0.out.size
  rw [← hw1, ← hD]
  have HF1 := hide (HF0.out.join hF1)
  have Hb1 := hide hb1
  clear hw1 hD hF1 hb1 hmk q1
  go_loopw [7] (fun ti wr => ∃ (i : Nat) (cs : Array Value), ti = .int .i64 (i : Int) ∧ i ≤ n ∧ wr.heap[D]? = some (.cells cs 5 (0, 0)) ∧ cs.size = n ∧ Hid (∀ j, j < i → cs[j]? = some (.int .u8 (b : Int))) ∧ Fr (fun k => k = D) w1 wr) (fun ti _ => n - (intOf ti).toNat)
  case atStart => exact ⟨0, zs, rfl, Nat.zero_le _, Hb1.out, Hzl.out, fun j hj => by omega, Fr.refl _ _⟩
  case round =>
    obtain ⟨i, cs, rfl, hi, hblk, hsz, Hall, hF⟩ := hrel
    by_cases hlt : i < n
    · have hlti : (i : Int) < (n : Int) := by omega
      have c0 := cell_of (o := i) hblk (Array.getElem?_eq_getElem (show i < cs.size by omega))
      have f0 := frozen_of (o := i) hblk
      have hst := heap_setCell_own (o := i) (.int .u8 (b : Int)) hblk
      have Hst := hide hst
      have HF := hide hF
      obtain ⟨x, hx⟩ : ∃ x, x = cs[i] := ⟨_, rfl⟩
      rw [← hx] at c0
      have Hsz := hide hsz
      clear hst hF hblk hx hsz
      go_wp2
      go_roundw
      case rel =>
        refine ⟨i + 1, cs.setIfInBounds i (.int .u8 (b : Int)), by go_num, by omega, Hst.out, by simpa using Hsz.out, fun j hj => ?_, HF.out.join (Fr.of_setCell _ ⟨D, i, none⟩ _)⟩
        rw [Array.getElem?_setIfInBounds]
        by_cases e : i = j
        · rw [if_pos e, if_pos (by rw [Hsz.out]; omega)]
        · rw [if_neg e]; exact Hall.out j (by omega)
      case measure => simp [intOf]; omega
    · obtain rfl : i = n := by omega
      have hl := lies_rep hblk Hall.out
      have hB : ∀ x ∈ List.replicate i b, x < 256 := fun x hx => by rw [(List.mem_replicate.1 hx).2]; exact hb
      have hFw : Fr (fun _ => False) w wr := fr_false_new HF1.out hF (fun k e => by omega)
      have Hac := hide (all_c (some ⟨D, 0, none⟩) i i (List.replicate i b) wr hl List.length_replicate.symm (by omega) hB (HG.out.fr hFw).gl)
      have HFw := hide hFw
      have Hl := hide hl
      have HB := hide hB
      clear hblk hsz hF hl hB hFw
      go_wp2_with fail
      refine (calls_args Hac.out (by rfl)).mono ?_
      rintro e w2 ⟨os, ra, rc, hS, rfl, hown, hF2⟩
      have hsm := hS.small hb hn1 hn2
      have hL2 := own_lies5 hown
      have hby := hS.bytes
      obtain ⟨L, hL⟩ : ∃ L, L = os.length := ⟨_, rfl⟩
      have Hinf := hide (inflate_at HB.out hS [] (.slice ra os.length rc) i w2 (by rw [List.append_nil]; exact hL2) (by rw [List.append_nil]; exact hby) (by rw [List.append_nil]; omega) (by rw [List.length_replicate]; exact Nat.le_refl _) (by omega))
      rw [List.length_replicate, ← hL] at Hinf
      rw [← hL] at hsm ⊢
      have HF2 := hide hF2
      have hdiv : Int.tdiv (i : Int) 10 = ((i / 10 : Nat) : Int) := by rw [Int.tdiv_eq_ediv_of_nonneg (by omega)]; omega
      obtain ⟨dv, hdv⟩ : ∃ dv, dv = i / 10 := ⟨_, rfl⟩
      rw [← hdv] at hdiv hsm
      have hdvi : (dv : Int) ≤ 100000 := by omega
      have hLi : (L : Int) ≤ (dv : Int) + 64 := by omega
      clear hS hown hF2 hL2 hby hL
      go_wp2_with fail
      refine (calls_args Hinf.out (by rfl)).mono ?_
      rintro e w3 ⟨a3, c3, rfl, hL3, hF3⟩
      have s1 := str_lies hL3 HB.out
      have s2 := str_lies (lies_frS Hl.out (HF2.out.join hF3) fun _ _ _ _ _ hS => hS) HB.out
      have ss := str_same (List.replicate i b)
      generalize strOf (List.replicate i b) = sx at s1 s2 ss
      have HF3 := hide ((HFw.out.join HF2.out).join hF3)
      clear hF3 hL3 hdv hsm
      go_wp2
      go_ret
      exact ⟨rfl, HF3.out⟩
end Go.Proofs.YtmefhngmgfmhoaaDoor

namespace Go.Proofs.YtmefhngmgfmhoaaDoor
open Go.ChangeShapes Go.WideShapes Go.ChangeAt Go.RowKit
open Go.ChangeMaps (open_string shut_string)
set_option linter.unusedVariables false

theorem small_walk (b many : Int) (hb : (Lit.int .u8 b).wf = true) (hm : (Lit.int .u16 many).wf = true) (w : World) (hg : Gw w) : Calls Tryd.prog 5 #[.int .u8 b, .int .u16 many] w fun e w' => e = .returned (.bool true) ∧ Below w.heap.size w w' := by
  have h1 := bounds_u8 hb
  have h2 := bounds_u16 hm
  obtain ⟨x, rfl⟩ : ∃ x : Nat, b = (x : Int) := ⟨b.toNat, by omega⟩
  obtain ⟨y, rfl⟩ : ∃ y : Nat, many = (y : Int) := ⟨many.toNat, by omega⟩
  exact (small_c x y w (by omega) (by omega) hg).mono fun e w' ⟨he, hf⟩ => ⟨he, hf.below (Nat.le_refl _) (fun _ h => h.elim)⟩

set_option maxRecDepth 100000 in
theorem deflateSmall_lifted (os : Os) (started : os.Started) (H : Type) (enc : TypeId × Value → H) :
    ReturnsInHanded {} Tryd.checked os 5 .any (fun w args => (Rows.deflateSmallSpec.pre enc Tryd.prog Tryd.f5 [] false w args ∧ laidMetH Tryd.prog laidL w) ∧ sizedMet enc Tryd.prog Tryd.f5 (OpenSpec.ofChange Rows.deflateSmallSpec) false w args)
      (Rows.deflateSmallSpec.post enc Tryd.prog Tryd.f5 false true false false) := by
  refine returnsInHanded_of_change_and (C := Tryd.checked) (X := fun w _ => laidMetH Tryd.prog laidL w) (fun _ _ _ hh h => h.of_heap hh) own' started (by kernel_rfl) Tryd.func5
    (ChangeSpec.witness_shaped (enc := enc) (C := Tryd.checked) (os := os) (X := fun w _ => laidMetH Tryd.prog laidL w) false (World.doorLaid Tryd.prog 400 os) #[.int .u8 0, .int .u16 0] 8 rfl (World.shaped_of_RefB (by kernel_rfl) (by kernel_rfl)) (by kernel_rfl) (by kernel_rfl) (by kernel_rfl) (door_met os _)) ?_
  intro W base args ds gs before hval0 hW _ _ hL _
  have hG := of_laid hL
  have hval : ∀ (j : Nat) t v, Tryd.f5.params[j]? = some t → args[j]? = some v → Value.okWide Tryd.prog W .any base t v := hval0
  have hW' := hW
  obtain ⟨p, q, hA0, hV, rfl, hfz, hnd⟩ := hW
  have hA : DataW.TrodAll enc Tryd.prog W 0 (fun _ => true) true Tryd.f5.params.toList args.toList ds p := hA0
  rw [Tryd.params5] at hA hval
  obtain ⟨v0, vs0, d0, ds0, p0, q0, hargs, rfl, rfl, h0, r0⟩ := trodAll_cons hA
  obtain ⟨v1, vs1, d1, ds1, p1, q1, rfl, rfl, rfl, h1, r1⟩ := trodAll_cons r0
  obtain ⟨rfl, rfl, rfl⟩ := trodAll_nil r1
  obtain rfl : args = #[v0, v1] := by cases args; simp_all
  obtain ⟨rfl, rfl⟩ := trodVars_none hV
  obtain ⟨a0, rfl, rfl, rfl, w0⟩ := open_int Tryd.underlying5 (hval 0 5 v0 rfl rfl) h0
  obtain ⟨a1, rfl, rfl, rfl, w1⟩ := open_int Tryd.underlying40 (hval 1 40 v1 rfl rfl) h1
  clear hA0 hval0 hL
  refine (small_walk _ _ w0 w1 W hG).mono fun e W' ⟨he, bel⟩ => ?_
  subst he
  exact ⟨_, rfl, _, _, _, [], _, [], hW', trodAll_mk1 (shut_bool Tryd.underlying4 _), (trodAll_cons_mk (shut_int Tryd.underlying5 w0) (trodAll_cons_mk (shut_int Tryd.underlying40 w1) trodAll_mk0)), rfl, bel.frame _, fun h => by cases h⟩

theorem deflateSmall_over : Rows.DeflateSmallSaid :=
  OpenClaim.holds_of_wide 5 Tryd.f5 rfl rfl rfl rfl rfl rfl rfl ⟨rfl, rfl, rfl, rfl, rfl⟩ rfl rfl rfl rfl rfl (by kernel_rfl) Tryd.func5 (by kernel_rfl)
    (of_decide_eq_true (by kernel_rfl)) (by unfold Func.isWrapper; first | (rw [if_pos (by decide +kernel)]; kernel_rfl) | (rw [if_neg (by decide +kernel)]; exact ⟨rfl, rfl⟩))
    (fun os started H enc _ => deflateSmall_lifted os started H enc)

/-- The statement. -/
theorem deflateSmall_holds : Rows.DeflateSmallCardSaid :=
  Claim7.holds_tied_plain_at .later [] [.data] true (true, "25da87623ba374efa5f8a0f890cec34574710987cff2b518fcf39dbb3c3c8db1") false
    deflateSmall_over (fun _ h => by cases h) (by kernel_rfl) (fun _ h => by cases h) deflateSmall_row_tie rfl ⟨rfl, rfl⟩ (by kernel_rfl) rfl
    (fun f fn hf hfn => by
      obtain rfl : f = 5 := Option.some.inj ((show Tryd.prog.funcNamed "engraver/engraverlaw5.DeflateSmall" = some 5 by kernel_rfl).symm.trans hf) |>.symm
      obtain rfl : fn = Tryd.f5 := (Option.some.inj (Tryd.func5.symm.trans hfn)).symm
      exact ⟨by kernel_rfl, fun j t ht => by
        rw [Tryd.params5] at ht
        have hm : t ∈ ([5, 40] : List TypeId) := by simpa using Array.mem_of_getElem? ht
        have hall : (([5, 40] : List TypeId).all fun u => !Tryd.prog.wantsStandIn u) = true := by kernel_rfl
        exact (show Tryd.prog.wantsStandIn t = false by simpa using List.all_eq_true.1 hall t hm)⟩)
    (by kernel_rfl)
#print axioms deflateSmall_holds
end Go.Proofs.YtmefhngmgfmhoaaDoor
