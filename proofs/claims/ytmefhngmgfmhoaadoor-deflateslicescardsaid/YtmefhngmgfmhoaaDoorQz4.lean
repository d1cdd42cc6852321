/-
  Deflate: part 4 of what its laws need: Gd Nl Jh Jb Gx Jc Jd Je Jf Tm Km Ta.
-/
import Derived.Test.YtmefhngmgfmhoaaDoorQz3
import Derived.Deep.AppendLies
import Derived.Deep.CutRange
import Derived.Test.YtmefhngmgfmhoaaDoorQz2
import Derived.Lib.AppendZerosOnto
import Derived.Deep.RegionHeldLaw
import Derived.Deep.RegionLaw
import Derived.Deep.RegionHeld3
import Derived.Laws.CopyOwn
/-
  Lengths told by marks: all of them.
-/
namespace Go.Proofs.YtmefhngmgfmhoaaDoor
open Go.RowKit

def cellsM : List Mk → List Value
  | [] => []
  | m :: r => .int .i64 (m.sym : Int) :: .int .i64 (m.further : Int) :: .int .i64 (m.size : Int) :: cellsM r

theorem cellsM_length (l : List Mk) : (cellsM l).length = l.length * 3 := by
  induction l with
  | nil => rfl
  | cons x r ih => simp [cellsM, ih]; omega
theorem cellsM_append (a b : List Mk) : cellsM (a ++ b) = cellsM a ++ cellsM b := by
  induction a with
  | nil => rfl
  | cons x r ih => simp [cellsM, ih]
theorem cellsM_one (l : List Mk) : ∀ u ∈ cellsM l, u.oneCell' = true := by
  induction l with
  | nil => intro u hu; cases hu
  | cons x r ih =>
    intro u hu
    simp only [cellsM, List.mem_cons] at hu
    rcases hu with rfl | rfl | rfl | hu
    · rfl
    · rfl
    · rfl
    · exact ih u hu

theorem Tryd.info122 : (Tryd.prog.info? 122).map (fun i => (i.zero, i.size, i.bytes)) = some (some (.agg #[.int .i64 0, .int .i64 0, .int .i64 0]), 3, 24) := by kernel_rfl

/-- Whether the length at i is that ahead of it. -/
def againF (ls : List Int) (i : Nat) : Bool := decide (0 < i ∧ at0 ls (i - 1) = at0 ls i)

/-- All marks of the lengths from i on. -/
def lmarks (ls : List Int) : Nat → Nat → List Mk
  | 0, _ => []
  | f + 1, i => if i < ls.length then (markF (at0 ls i).toNat (times ls i) (againF ls i)).1 :: lmarks ls f (i + (markF (at0 ls i).toNat (times ls i) (againF ls i)).2) else []

theorem mark_at {ls : List Int} (hg : ∀ i, i < ls.length → 0 ≤ at0 ls i ∧ at0 ls i ≤ 15) {i : Nat} (hi : i < ls.length) :
    RepOk ls i (markF (at0 ls i).toNat (times ls i) (againF ls i)).1 (markF (at0 ls i).toNat (times ls i) (againF ls i)).2 ∧ i + (markF (at0 ls i).toNat (times ls i) (againF ls i)).2 ≤ ls.length := by
  obtain ⟨t1, t2, t3⟩ := times_ok hi
  have hb := hg i hi
  obtain ⟨a, b⟩ := markF_rep (ls := ls) (i := i) (l := (at0 ls i).toNat) (t := times ls i) (again := againF ls i) (by omega) (by omega) t1 t3 (fun h => by unfold againF at h; exact of_decide_eq_true h)
  exact ⟨a, by omega⟩

theorem lmarks_reps {ls : List Int} (hg : ∀ i, i < ls.length → 0 ≤ at0 ls i ∧ at0 ls i ≤ 15) : ∀ f i, i ≤ ls.length → ls.length ≤ f + i → Reps ls i (lmarks ls f i) := by
  intro f
  induction f with
  | zero => intro i h1 h2; show i = ls.length; omega
  | succ f ih =>
    intro i h1 h2
    simp only [lmarks]
    split
    · next h =>
      obtain ⟨a, b⟩ := mark_at hg h
      have := a.lt.2.2
      exact ⟨_, a, b, ih _ b (by omega)⟩
    · show i = ls.length; omega

theorem fr_append2 {w w4 w5 : World} {o : Obj} {v : Value} {n : Nat} {xs : List Value} (h : Fr (fun _ => False) w w4) (hO : w4.ownsRow w.heap.size 122 3 v n xs) (hg : (w4.alloc o).grownBy w5 v.ownBlock) : Fr (fun _ => False) w w5 :=
  ((h.join (Fr.of_alloc w4 o)).trans (Fr.of_grown hg)).mono fun i hi e => e.elim id fun e => by
    have := (hO.lt i e).1
    omega

set_option maxHeartbeats 1600000 in
set_option maxRecDepth 100000 in
theorem lengthMarks_c (a : Option Addr) (n c : Nat) (ls : List Int) (w : World) (hn : n = ls.length) (hl : LiesI w a ls) (hlen : n ≤ 320) (hg : ∀ i, i < ls.length → 0 ≤ at0 ls i ∧ at0 ls i ≤ 15) :
    Calls Tryd.prog 56 #[.slice a n c] w fun e w' => ∃ va vc, e = .returned (.slice va (lmarks ls n 0).length vc) ∧ w'.ownsRow w.heap.size 122 3 (.slice va (lmarks ls n 0).length vc) (lmarks ls n 0).length (cellsM (lmarks ls n 0)) ∧ Fr (fun _ => False) w w' := by
  obtain ⟨i0, hi0, hz0, hz1, hz2⟩ := info_parts Tryd.info122
  have HL := hide hl
  have Hn := hide hn
  have Hg := hide hg
  have hni : (n : Int) ≤ 320 := by omega
  clear hl hn hg
  go_enter Tryd.func56, Tryd.ntmps56
  go_wp2_with fail
  go_loopw [3, 4, 5, 6, 7, 8] (fun tv ti _ _ _ _ wr => ∃ (M : List Mk) (i f : Nat) (va : Option Addr) (vc : Nat), tv = .slice va M.length vc ∧ ti = .int .i64 (i : Int) ∧ i ≤ n ∧ n ≤ f + i ∧ M.length ≤ i ∧ lmarks ls n 0 = M ++ lmarks ls f i ∧ wr.ownsRow w.heap.size 122 3 (.slice va M.length vc) M.length (cellsM M) ∧ Fr (fun _ => False) w wr) (fun _ ti _ _ _ _ _ => n - (intOf ti).toNat)
  case atStart => exact ⟨[], 0, n, none, 0, rfl, rfl, Nat.zero_le _, by omega, by simp, rfl, ⟨rfl, Or.inl ⟨rfl, rfl⟩⟩, Fr.refl _ _⟩
  case round =>
    obtain ⟨M, i, f, va, vc, rfl, rfl, hi, hf, hM, hm, hO, hF⟩ := hrel
    have HO := hide hO
    have HF := hide hF
    have Hm := hide hm
    clear hO hF hm
    by_cases hlt : i < n
    · have hlti : (i : Int) < (n : Int) := by omega
      have hil : i < ls.length := by rw [← Hn.out]; exact hlt
      obtain ⟨l, hlv⟩ : ∃ l, l = (at0 ls i).toNat := ⟨_, rfl⟩
      have hl15 : l ≤ 15 := by have := Hg.out i hil; omega
      have hla : at0 ls i = (l : Int) := by have := Hg.out i hil; omega
      obtain ⟨t, ht⟩ : ∃ t, t = times ls i := ⟨_, rfl⟩
      have ht320 : t ≤ 320 := by have := times_ok hil; rw [← ht, ← Hn.out] at this; omega
      obtain ⟨f', rfl⟩ : ∃ f', f = f' + 1 := ⟨f - 1, by omega⟩
      have hmk := mark_at Hg.out hil
      have hun : lmarks ls (f' + 1) i = (markF l t (againF ls i)).1 :: lmarks ls f' (i + (markF l t (againF ls i)).2) := by rw [lmarks, if_pos hil, hlv, ht]
      rw [← hlv, ← ht] at hmk
      have Hmk := hide hmk
      have Hun := hide hun
      have Htc := hide (timesFrom_c a n c i ls wr Hn.out (HL.out.fr HF.out) hlen hlt)
      rw [← ht] at Htc
      clear hlv ht hmk hun
      go_wp2_with fail
      refine (calls_args Htc.out (by rfl)).mono ?_
      rintro e w1 ⟨rfl, hF1⟩
      have HF1 := hide (HF.out.join hF1)
      have HO1 : Hid (w1.ownsRow w.heap.size 122 3 (.slice va M.length vc) M.length (cellsM M)) := ownsRow_fr HO.out fun k hk => hF1.block k (HO.out.lt k hk).2 (fun e => e)
      clear hF1
      obtain ⟨ad, rfl, c1⟩ := (HL.out.fr HF1.out) i hil
      rw [hla] at c1
      go_upto_region 5 with fail
      go_cut [6] from 9 to 46 (fun cv wx => cv = .bool (againF ls i) ∧ Fr (fun _ => False) w1 wx)
      case first =>
        by_cases hi1 : 0 < i
        · obtain ⟨j, hj⟩ : ∃ j, j = i - 1 := ⟨_, rfl⟩
          have i1 : decide ((0 : Int) < (i : Int)) = true := decide_eq_true (by omega)
          have hji : (i : Int) - 1 = (j : Int) := by omega
          have ij : (j : Int) < (n : Int) := by omega
          have ij' : (j : Int) ≤ 320 := by omega
          obtain ⟨ad', e', c2⟩ := (HL.out.fr HF1.out) j (by omega)
          cases e'
          obtain ⟨y, hy⟩ : ∃ y, y = at0 ls j := ⟨_, rfl⟩
          rw [← hy] at c2
          have Hy := hide hy
          have Hj := hide hj
          clear hy hj
          by_cases hyl : y = (l : Int)
          · have hb : (y == (l : Int)) = true := beq_iff_eq.2 hyl
            have he : againF ls i = true := by unfold againF; exact decide_eq_true ⟨by omega, by rw [← Hj.out, hla, ← Hy.out]; exact hyl⟩
            have He := hide he
            clear he hyl hla
            go_wp2_with fail
            go_quiet (fail)
            go_wp2
            go_meet
            rw [He.out]
            exact ⟨rfl, Fr.of_drewN _ _⟩
          · have hb : (y == (l : Int)) = false := beq_false_of_ne hyl
            have he : againF ls i = false := by unfold againF; exact decide_eq_false (fun h => hyl (by have := h.2; rw [← Hj.out, hla, ← Hy.out] at this; exact this))
            have He := hide he
            clear he hla
            go_wp2_with fail
            go_quiet (fail)
            go_wp2
            go_meet
            rw [He.out]
            exact ⟨rfl, Fr.of_drewN _ _⟩
        · obtain rfl : i = 0 := by omega
          have he : againF ls 0 = false := by unfold againF; exact decide_eq_false (fun h => by omega)
          have He := hide he
          clear he hla
          go_wp2_with fail
          go_quiet (fail)
          go_wp2
          go_meet
          rw [He.out]
          exact ⟨rfl, Fr.of_drewN _ _⟩
      case rest =>
        obtain ⟨rfl, hF2⟩ := hcut
        have HF2 := hide (HF1.out.join hF2)
        have HO2 : Hid (wc.ownsRow w.heap.size 122 3 (.slice va M.length vc) M.length (cellsM M)) := ownsRow_fr HO1.out fun k hk => hF2.block k (HO1.out.lt k hk).2 (fun e => e)
        have c2 := (cell_blk (hF2.block _ (cell_lt c1) (fun e => e))).trans c1
        clear hF2 c1
        have Hlc := hide (lengthsMark_c l t (againF ls i))
        generalize againF ls i = ag at *
        generalize markF l t ag = mn at *
        obtain ⟨⟨sy, fu, sz⟩, nn⟩ := mn
        have hnn : nn ≤ 320 := by have := Hmk.out.2; simp only at this; rw [← Hn.out] at this; omega
        have hnni : (nn : Int) ≤ 320 := by omega
        go_wp2_with fail
        refine (calls_args (Hlc.out wc hl15 ht320) (by rfl)).mono ?_
        rintro e w3 ⟨rfl, hF3⟩
        have HF3 := hide (HF2.out.join hF3)
        have HO3 : Hid (w3.ownsRow w.heap.size 122 3 (.slice va M.length vc) M.length (cellsM M)) := ownsRow_fr HO2.out fun k hk => hF3.block k (HO2.out.lt k hk).2 (fun e => e)
        clear hF3
        have FA : Hid (Fr (fun _ => False) w3 (w3.alloc (.cells #[.int .i64 (sy : Int), .int .i64 (fu : Int), .int .i64 (sz : Int)] 122))) := Fr.of_alloc _ _
        obtain ⟨w4, hw4⟩ : ∃ w4, w4 = w3.alloc (.cells #[.int .i64 (sy : Int), .int .i64 (fu : Int), .int .i64 (sz : Int)] 122) := ⟨_, rfl⟩
        rw [← hw4] at FA
        have HO4 : Hid (w4.ownsRow w.heap.size 122 3 (.slice va M.length vc) M.length (cellsM M)) := ownsRow_fr HO3.out fun k hk => FA.out.block k (HO3.out.lt k hk).2 (fun e => e)
        have HF4 := hide (HF3.out.join FA.out)
        have b4 : w4.heap[w3.heap.size]? = some (.cells #[.int .i64 (sy : Int), .int .i64 (fu : Int), .int .i64 (sz : Int)] 122 (0, 0)) := by rw [hw4]; exact heap_alloc_at rfl
        have d0 := cell_of (o := 0) b4 rfl
        have d1 := cell_of (o := 1) b4 rfl
        have d2 := cell_of (o := 2) b4 rfl
        have hs4 := HF4.out.size
        have hMl : M.length ≤ 320 := by omega
        have Hw4 := hide hw4
        clear hw4 b4
        go_upto_region 7 with fail
        rw [← Hw4.out]
        go_wp2_with (at_builtin; go_must (refine wpList_append_lies _ rfl _ _ 118 rfl w.heap.size 122 i0 (.agg #[.int .i64 0, .int .i64 0, .int .i64 0]) 3 24 Tryd.underlying118 hi0 hz0 hz1 hz2 rfl (by decide) (.slice va M.length vc) M.length (cellsM M) rfl (HO4.out.alloc _) ⟨w4.heap.size, 0, none⟩ 1 1 (cellsM [⟨sy, fu, sz⟩]) rfl rfl (World.news_of_block (heap_alloc_at rfl)) (cellsM_one _) (by decide) (by unfold maxLen; omega) (by omega) (by simp; omega) (w4.heap.size + 1) (by simp) ?_); intro g cap w5 hown5 hgrow hat hlt5
                     have HF5 := hide (fr_append2 HF4.out HO4.out hgrow)
                     have HO5 := hide hown5
                     clear hown5 hgrow hat hlt5)
        go_roundw
        case rel =>
          refine ⟨M ++ [⟨sy, fu, sz⟩], i + nn, f', some ⟨g, 0, none⟩, cap, by simp, by go_num, by have : i + nn ≤ ls.length := Hmk.out.2; rw [← Hn.out] at this; exact this, ?_, ?_, ?_, ?_, HF5.out⟩
          · have : 1 ≤ nn := Hmk.out.1.lt.2.2; omega
          · have : 1 ≤ nn := Hmk.out.1.lt.2.2; simp; omega
          · rw [Hm.out, Hun.out]; simp
          · rw [cellsM_append]; simpa using HO5.out
        case measure =>
          have : 1 ≤ nn := Hmk.out.1.lt.2.2
          simp [intOf]
          omega
    · obtain rfl : i = n := by omega
      have hend : lmarks ls f i = [] := by
        cases f with
        | zero => rfl
        | succ f => rw [lmarks, if_neg (by rw [← Hn.out]; omega)]
      have hM' : lmarks ls i 0 = M := by rw [Hm.out, hend, List.append_nil]
      have HM' := hide hM'
      clear hend hM'
      go_wp2
      go_ret
      rw [HM'.out]
      exact ⟨va, vc, rfl, HO.out, HF.out⟩
end Go.Proofs.YtmefhngmgfmhoaaDoor

/-
  Whether the program's variable is as it is laid.
-/
namespace Go.Proofs.YtmefhngmgfmhoaaDoor
open Go.RowKit

/-- The order in which lengths are told, as the program's variable holds it. -/
def Gl (w : World) : Prop := ∀ i, i < 19 → w.cell? ⟨0, i, none⟩ = some (.int .i64 ((order.getD i 0 : Nat) : Int))

theorem Gl.keep {w w' : World} (h : Gl w) {S : Nat → Prop} (hF : Fr S w w') (hS : ¬ S 0) : Gl w' := fun i hi => by
  rw [cell_blk (hF.block 0 (cell_lt (h i hi)) hS)]
  exact h i hi

/-- Whether the program's variables are as they are laid. -/
structure Gw (w : World) : Prop where
  gl : Gl w
  pos : 0 < w.heap.size

theorem Gw.fr {w w' : World} (h : Gw w) (hF : Fr (fun _ => False) w w') : Gw w' := ⟨h.gl.keep hF (fun h => h), Nat.lt_of_lt_of_le h.pos hF.size⟩
end Go.Proofs.YtmefhngmgfmhoaaDoor

/-
  The lengths of the code of code lengths, in the order in which they are told.
-/
namespace Go.Proofs.YtmefhngmgfmhoaaDoor
open Go.RowKit

def ordL (ls : List Int) : List Int := order.map fun o => at0 ls o

theorem ordL_len (ls : List Int) : (ordL ls).length = 19 := rfl

/-- What is laid behind i of them. -/
def ordP (ls : List Int) (i : Nat) : List Int := (ordL ls).take i ++ List.replicate (19 - i) 0

theorem ordP_step (ls : List Int) (i : Nat) (h : i < 19) : (ordP ls i).set i (at0 ls (order.getD i 0)) = ordP ls (i + 1) := by
  have hl : (ordL ls).length = 19 := rfl
  have hg : (ordL ls)[i]'(by rw [hl]; exact h) = at0 ls (order.getD i 0) := by
    have ho : i < order.length := h
    simp [ordL, List.getElem?_eq_getElem ho]
  unfold ordP
  have ht : ((ordL ls).take i).length = i := by simp [hl]; omega
  rw [show 19 - i = (19 - (i + 1)) + 1 by omega, List.replicate_succ, List.set_append_right _ _ (by omega), ht, Nat.sub_self, List.set_cons_zero, List.take_succ_eq_append_getElem (by rw [hl]; exact h), hg]
  simp

theorem ordP_len (ls : List Int) (i : Nat) (h : i ≤ 19) : (ordP ls i).length = 19 := by
  unfold ordP
  simp [ordL_len]
  omega

set_option maxHeartbeats 800000 in
set_option maxRecDepth 100000 in
theorem inOrder_c (a : Option Addr) (c : Nat) (ls : List Int) (w : World) (hl : LiesI w a ls) (h19 : ls.length = 19) (hg : Gl w) :
    Calls Tryd.prog 57 #[.slice a 19 c] w fun e w' => ∃ g, e = .returned (.slice (some ⟨g, 0, none⟩) (trim (ordL ls) 4).length 19) ∧ LiesI w' (some ⟨g, 0, none⟩) (trim (ordL ls) 4) ∧ w.heap.size ≤ g ∧ Fr (fun _ => False) w w' := by
  obtain ⟨R, hR⟩ : ∃ R, R = w.heap.size := ⟨_, rfl⟩
  obtain ⟨w1, hw1⟩ : ∃ w1, w1 = w.alloc (.cells (cellsZ (ordP ls 0)).toArray 120) := ⟨_, rfl⟩
  have hF1 : Fr (fun _ => False) w w1 := by rw [hw1]; exact Fr.of_alloc _ _
  have hb1 : w1.heap[R]? = some (.cells (cellsZ (ordP ls 0)).toArray 120 (0, 0)) := by rw [hw1]; exact heap_alloc_at hR
  have HF1 := hide hF1
  have Hb1 := hide hb1
  have HR := hide hR
  have HL := hide hl
  have HG := hide hg
  have H19 := hide h19
  have e1 : w.alloc (.cells #[.int .i64 0, .int .i64 0, .int .i64 0, .int .i64 0, .int .i64 0, .int .i64 0, .int .i64 0, .int .i64 0, .int .i64 0, .int .i64 0, .int .i64 0, .int .i64 0, .int .i64 0, .int .i64 0, .int .i64 0, .int .i64 0, .int .i64 0, .int .i64 0, .int .i64 0] 120) = w1 := by rw [hw1]; rfl
  have E1 := hide e1
  clear hF1 hb1 hR hl hg h19 hw1 e1
  go_enter Tryd.func57, Tryd.ntmps57
  go_wp2_with fail
  rw [E1.out, ← HR.out]
  go_loopw [4, 5] (fun _ ti wr => ∃ i : Nat, ti = .int .i64 (i : Int) ∧ i ≤ 19 ∧ wr.heap[R]? = some (.cells (cellsZ (ordP ls i)).toArray 120 (0, 0)) ∧ Fr (fun k => k = R) w1 wr) (fun _ ti _ => 19 - (intOf ti).toNat)
  case atStart => exact ⟨0, rfl, by omega, Hb1.out, Fr.refl _ _⟩
  case round =>
    obtain ⟨i, rfl, hi, hb, hF⟩ := hrel
    have hFw : Fr (fun _ => False) w wr := (HF1.out.trans hF).mono fun k hk e => e.elim id fun e => by have := HR.out; omega
    by_cases hlt : i < 19
    · have hlti : (i : Int) < 19 := by omega
      obtain ⟨q, hq⟩ : ∃ q, q = order.getD i 0 := ⟨_, rfl⟩
      have hq19 : q < 19 := by
        rw [hq]
        have all : ∀ j : Fin 19, order.getD j.1 0 < 19 := by decide
        exact all ⟨i, hlt⟩
      have hqi : (q : Int) < 19 := by omega
      have cg := (HG.out.keep hFw (fun e => e)) i hlt
      rw [← hq] at cg
      obtain ⟨ad, rfl, cx⟩ := (HL.out.fr hFw) q (by rw [H19.out]; exact hq19)
      obtain ⟨z, hz⟩ : ∃ z, z = at0 ls q := ⟨_, rfl⟩
      rw [← hz] at cx
      have hcR : ∃ v, wr.cell? ⟨R, i, none⟩ = some v := by
        have hi' : i < (cellsZ (ordP ls i)).length := by simp [cellsZ, ordP_len ls i hi]; exact hlt
        exact ⟨(cellsZ (ordP ls i))[i], cell_of hb (by simp [List.getElem?_eq_getElem hi'])⟩
      obtain ⟨v, cR⟩ := hcR
      have fR := frozen_of (o := i) hb
      have hst := heap_setCell_own (o := i) (.int .i64 z) hb
      have he : (cellsZ (ordP ls i)).toArray.setIfInBounds i (.int .i64 z) = (cellsZ (ordP ls (i + 1))).toArray := by
        rw [← ordP_step ls i hlt, ← hq, ← hz]
        simp [cellsZ, List.map_set]
      rw [he] at hst
      have Hst := hide hst
      have HF := hide hF
      have hRw := lt_of hb
      have Hb := hide hb
      clear hq hz hst he hF hFw hb
      go_wp2
      go_roundw
      case rel => exact ⟨i + 1, by go_num, by omega, Hst.out, (HF.out.trans (Fr.of_setCell wr ⟨R, i, none⟩ _)).mono fun k _ e => e.elim id id⟩
      case measure => simp [intOf]; omega
    · obtain rfl : i = 19 := by omega
      have ee : ordP ls 19 = ordL ls := by unfold ordP; rw [List.take_of_length_le (by rw [ordL_len]; exact Nat.le_refl _)]; simp
      rw [ee] at hb
      have hlz : LiesI wr (some ⟨R, 0, none⟩) (ordL ls) := fun j hj => ⟨_, rfl, by
        rw [add_none, Nat.zero_add]
        exact cell_of hb (by simp [cellsZ, List.getElem?_map, List.getElem?_eq_getElem hj, at0])⟩
      have Hlz := hide hlz
      have HFw := hide hFw
      clear hb hF hlz hFw ee
      go_wp2_with fail
      refine (calls_args (trimmed_c (some ⟨R, 0, none⟩) 19 (ordL ls) 4 wr Hlz.out (by rw [ordL_len]; omega) (by rw [ordL_len]; exact Nat.le_refl _) (by omega)) (by rw [ordL_len]; rfl)).mono ?_
      rintro e w2 ⟨rfl, rfl⟩
      go_wp2
      go_ret
      exact ⟨R, rfl, liesI_take Hlz.out 4, Nat.le_of_eq HR.out.symm, HFw.out⟩
end Go.Proofs.YtmefhngmgfmhoaaDoor

/-
  How many bits so many words have.
-/
namespace Go.Proofs.YtmefhngmgfmhoaaDoor
open Go.RowKit

/-- The bits of the words of the first k symbols. -/
def bitsF (ls fq : List Int) : Nat → Int
  | 0 => 0
  | k + 1 => bitsF ls fq k + at0 fq k * at0 ls k

theorem bitsF_bd {ls fq : List Int} (hl : ∀ i, 0 ≤ at0 ls i ∧ at0 ls i ≤ 15) (hf : ∀ i, 0 ≤ at0 fq i ∧ at0 fq i ≤ 1048576) : ∀ k, 0 ≤ bitsF ls fq k ∧ bitsF ls fq k ≤ 15728640 * (k : Int) := by
  intro k
  induction k with
  | zero => simp [bitsF]
  | succ k ih =>
    have h1 := hl k
    have h2 := hf k
    have h3 : 0 ≤ at0 fq k * at0 ls k := Int.mul_nonneg h2.1 h1.1
    have h4 : at0 fq k * at0 ls k ≤ 1048576 * 15 := Int.mul_le_mul h2.2 h1.2 h1.1 (by omega)
    simp only [bitsF]
    omega

theorem at_all {ls : List Int} (h : good ls) (i : Nat) : 0 ≤ at0 ls i ∧ at0 ls i ≤ 15 := by
  by_cases hi : i < ls.length
  · exact h.2 i hi
  · rw [at0_end ls i (by omega)]; omega

theorem atF_all {fq : List Int} (h : goodF fq) (i : Nat) : 0 ≤ at0 fq i ∧ at0 fq i ≤ 1048576 := by
  by_cases hi : i < fq.length
  · exact h.2 i hi
  · rw [at0_end fq i (by omega)]; omega

set_option maxHeartbeats 800000 in
set_option maxRecDepth 100000 in
theorem codeBits_c (lo hi' C : Nat) (ls fq : List Int) (a1 : Option Addr) (n1 c1 : Nat) (a : Option Addr) (n c : Nat) (w : World) (hC : Cd w lo hi' C ls) (hn : n = fq.length) (hl : LiesI w a fq) (hg : goodF fq) :
    Calls Tryd.prog 60 #[codeV a1 n1 c1 C, .slice a n c] w fun e w' => e = .returned (.int .i64 (bitsF ls fq n)) ∧ Fr (fun _ => False) w w' := by
  obtain ⟨w1, hw1⟩ : ∃ w1, w1 = w.alloc (.cells #[.slice a1 n1 c1, .pointer (some ⟨C, 0, none⟩)] 98) := ⟨_, rfl⟩
  have hF1 : Fr (fun _ => False) w w1 := by rw [hw1]; exact Fr.of_alloc _ _
  have hb1 : w1.heap[w.heap.size]? = some (.cells #[.slice a1 n1 c1, .pointer (some ⟨C, 0, none⟩)] 98 (0, 0)) := by rw [hw1]; exact heap_alloc_at rfl
  have HF1 := hide hF1
  have Hb1 := hide hb1
  have Hw1 := hide hw1
  have HC1 := hide (hC.keep hF1 (fun _ _ _ e => e))
  have HL1 := hide (hl.fr hF1)
  have Hn := hide hn
  have h320 : n ≤ 320 := by rw [hn]; exact hg.1
  have hni : (n : Int) ≤ 320 := by omega
  have Hbd := hide (bitsF_bd (at_all hC.egood) (atF_all hg))
  have Ha := hide (at_all hC.egood)
  have Hf := hide (atF_all hg)
  clear hC hl hn hg hF1 hb1 hw1
  go_enter Tryd.func60, Tryd.ntmps60
  go_wp2_with fail
  rw [← Hw1.out]
  go_loopw [5, 6, 7, 8, 9, 10, 13] (fun ts _ _ _ _ _ ti wr => ∃ i : Nat, ti = .int .i64 (i : Int) ∧ ts = .int .i64 (bitsF ls fq i) ∧ i ≤ n ∧ Fr (fun _ => False) w1 wr) (fun _ _ _ _ _ _ ti _ => n - (intOf ti).toNat)
  case atStart => exact ⟨0, rfl, rfl, Nat.zero_le _, Fr.refl _ _⟩
  case round =>
    obtain ⟨i, rfl, rfl, hi, hF⟩ := hrel
    have HF := hide hF
    have hk := cells_at Hb1.out hF (fun e => e)
    have k1 := cell_of (o := 1) hk rfl
    clear hF hk
    by_cases hlt : i < n
    · have hlti : (i : Int) < (n : Int) := by omega
      obtain ⟨ad, rfl, cx⟩ := (HL1.out.fr HF.out) i (by rw [← Hn.out]; exact hlt)
      obtain ⟨S, hS⟩ : ∃ S, S = bitsF ls fq i := ⟨_, rfl⟩
      have hSb := Hbd.out i
      have hSb2 := Hbd.out (i + 1)
      have hnx : bitsF ls fq (i + 1) = S + at0 fq i * at0 ls i := by rw [bitsF, hS]
      rw [hnx] at hSb2
      rw [← hS] at hSb ⊢
      obtain ⟨x, hx⟩ : ∃ x, x = at0 fq i := ⟨_, rfl⟩
      obtain ⟨y, hy⟩ : ∃ y, y = at0 ls i := ⟨_, rfl⟩
      have hxb := Hf.out i
      have hyb := Ha.out i
      rw [← hx] at cx hnx hSb2 hxb
      rw [← hy] at hnx hSb2 hyb
      have hm0 : 0 ≤ x * y := Int.mul_nonneg hxb.1 hyb.1
      have hm1 : x * y ≤ 1048576 * 15 := Int.mul_le_mul hxb.2 hyb.2 hyb.1 (by omega)
      have hs1 : S ≤ 15728640 * 320 := by omega
      obtain ⟨hs0, _⟩ := hSb
      have hwd : ∀ W, Cd W lo hi' C ls → Calls Tryd.prog 71 #[.pointer (some ⟨C, 0, none⟩), .int .i64 (i : Int)] W fun e w' => ∃ u v, e = .returned (.tuple #[.int .i64 u, .int .i64 y, .bool v]) ∧ Fr (fun _ => False) W w' := by
        intro W hW
        by_cases hil : i < ls.length
        · refine (word_in lo hi' C i ls W hW hil).mono ?_
          rintro e w' ⟨rfl, hf⟩
          rw [← hy]
          exact ⟨_, _, rfl, hf⟩
        · have y0 : y = 0 := by rw [hy, at0_end ls i (by omega)]
          refine (word_out lo hi' C (i : Int) ls W hW (Or.inr (by omega))).mono ?_
          rintro e w' ⟨rfl, hf⟩
          rw [y0]
          exact ⟨_, _, rfl, hf⟩
      have Hwd := hide hwd
      have Hnx := hide hnx
      clear hwd hnx hS hx hy hSb2
      go_wp2_with fail
      refine (calls_args (Hwd.out wr (HC1.out.keep HF.out (fun _ _ _ e => e))) (by rfl)).mono ?_
      rintro e w2 ⟨u, v, rfl, hF2⟩
      have HF2 := hide (HF.out.join hF2)
      clear hF2
      go_wp2
      go_roundw
      case rel => exact ⟨i + 1, by go_num, by rw [Hnx.out], by omega, HF2.out⟩
      case measure => simp [intOf]; omega
    · obtain rfl : i = n := by omega
      go_wp2
      go_ret
      exact ⟨rfl, HF1.out.join HF.out⟩
end Go.Proofs.YtmefhngmgfmhoaaDoor

/-
  slices.Repeat, slices.Concat.
-/
namespace Go.Proofs.YtmefhngmgfmhoaaDoor
open Go.RowKit

theorem and_u64 (n : Nat) (hn : n < 4294967296) : bits .and .u64 (n : Int) 4294967295 = (n : Int) := by
  have e1 : (BitVec.ofInt 64 (n : Int)).toNat = n := by rw [BitVec.toNat_ofInt]; omega
  have e2 : (BitVec.ofInt 64 (4294967295 : Int)).toNat = 4294967295 := by decide
  have e3 : (BitVec.ofInt 64 (n : Int) &&& BitVec.ofInt 64 (4294967295 : Int)).toNat = n := by
    rw [BitVec.toNat_and, e1, e2]
    have : n &&& (2 ^ 32 - 1) = n % 2 ^ 32 := Nat.and_two_pow_sub_one_eq_mod n 32
    rw [show (4294967295 : Nat) = 2 ^ 32 - 1 from rfl, this]
    omega
  have e4 : bits .and .u64 (n : Int) 4294967295 = IntKind.u64.wrap ((n : Nat) : Int) := congrArg (fun k : Nat => IntKind.u64.wrap (k : Int)) e3
  rw [e4]
  show (n : Int) % 18446744073709551616 = n
  omega

set_option maxHeartbeats 800000 in
theorem mul64_c (n : Nat) (hn : n ≤ 1000000) (w : World) : Calls Tryd.prog 80 #[.int .u64 1, .int .u64 (n : Int)] w fun e w' => e = .returned (.tuple #[.int .u64 0, .int .u64 (n : Int)]) ∧ w = w' := by
  have h0 : bits .and .u64 0 4294967295 = 0 := by decide
  have h1 : bits .and .u64 1 4294967295 = 1 := by decide
  have h2 := and_u64 n (by omega)
  have h3 : (n : Int) / 4294967296 = 0 := by omega
  have h4 : ((n : Int) / 2 ^ 32) = 0 := by omega
  go_enter Tryd.func80, Tryd.ntmps80
  go_wp2
  go_ret2
  exact ⟨rfl, rfl⟩

set_option maxHeartbeats 800000 in
theorem mul_c (n : Nat) (hn : n ≤ 1000000) (w : World) : Calls Tryd.prog 66 #[.int .u64 1, .int .u64 (n : Int)] w fun e w' => e = .returned (.tuple #[.int .u64 0, .int .u64 (n : Int)]) ∧ w = w' := by
  go_enter Tryd.func66, Tryd.ntmps66
  go_wp2_with fail
  refine (mul64_c n hn w).mono ?_
  rintro e w1 ⟨rfl, rfl⟩
  go_wp2
  go_ret2
  exact ⟨rfl, rfl⟩

theorem makeI_c (n : Nat) (hn : n ≤ 1000000) : ∃ zs : List Value, (∀ W : World, (Instr.makeSlice 34 (.int .i64 (n : Int)) (.int .i64 (n : Int))).run Tryd.prog W = .ok (.slice (some ⟨W.heap.size, 0, none⟩) n n) (W.alloc (.cells zs.toArray 3))) ∧ zs.length = n := by
  obtain ⟨i0, hi, hz0, hz1, hz2⟩ := info_parts Tryd.info3
  refine ⟨(madeCells (Value.int .i64 0).cells n).toList, fun W => ?_, by simp [size_madeCells]⟩
  have := run_make (P := Tryd.prog) W 34 3 i0 (.int .i64 0) Tryd.underlying34 hi hz0 .i64 .i64 n n (by omega) (Int.le_refl _) (by rw [hz2]; omega) (by omega)
  rw [hz1] at this
  simpa using this

theorem take_repV {v : Value} {zs : List Value} {k m : Nat} (h : zs.take k = List.replicate k v) (hm : m ≤ k) : zs.take m = List.replicate m v := by
  have : (zs.take k).take m = (List.replicate k v).take m := by rw [h]
  rwa [List.take_take, List.take_replicate, Nat.min_eq_left hm] at this

theorem splice_rep {v : Value} {zs : List Value} {k m : Nat} (h : zs.take k = List.replicate k v) (hm : m ≤ k) : (splice zs k (zs.take m)).take (k + m) = List.replicate (k + m) v := by
  have e := take_repV h hm
  unfold splice
  rw [h, e, ← List.append_assoc, List.replicate_append_replicate]
  rw [List.take_append_of_le_length (by simp), List.take_of_length_le (by simp)]

theorem wp_copy_splice {P : Program} {o : Oper} {a : Act} {w : World} {K : Act → World → Prop} {Q : Exit → Act → World → Prop} (hgd : o.guard = none) (d s : Operand) (dT sT : TypeId)
    (ho : o.op = .call { callee := .builtin .copy, args := #[d, s], argTypes := #[dT, sT] }) (elem : TypeId) (hu : P.underlying dT = some (.slice elem)) (hsz : (P.info? elem).map (·.size) = some 1)
    (dp sp : Option Addr) (dLen dCap sLen sCap : Nat) (hd : a.eval d = .slice dp dLen dCap) (hs : a.eval s = .slice sp sLen sCap)
    (g off : Nat) (cur : List Value) (t : TypeId) (hg : w.heap[g]? = some (.cells cur.toArray t (0, 0))) (cs : List Value) (hn : cs.length = Nat.min sLen dLen)
    (hpos : 0 < cs.length → dp = some ⟨g, off, none⟩ ∧ ∃ ad, sp = some ad ∧ ∀ j v, cs[j]? = some v → w.cell? (ad.add j) = some v)
    (hfit : off + cs.length ≤ cur.length) (h1 : ∀ v ∈ cs, v.oneCell' = true) (B : Nat) (w0 : World) (hb : Below B w0 w) (hBg : B ≤ g)
    (h : ∀ w', Hid (w'.heap[g]? = some (.cells (splice cur off cs).toArray t (0, 0))) → Below B w0 w' → K (a.put o.dst (goInt cs.length)) w') : o.wp P a w K Q := by
  have hh := step_copy_splice (ops := #[]) (E := False) (Q := Q) hgd d s dT sT ho elem hu hsz dp sp dLen dCap sLen sCap hd hs g off cur t hg cs hn hpos hfit h1 B w0 hb hBg h
  rw [if_pos (by simp [Region.wanted, hgd])] at hh
  exact hh

theorem below_drew {D : Nat} {w w1 : World} (h : Below D w w1) : Below D w w1.drew := ⟨h.os, h.tape, h.output, h.size, h.block⟩

theorem src_take {w : World} {D m : Nat} {zs : List Value} {t : TypeId} (h : w.heap[D]? = some (.cells zs.toArray t (0, 0))) : ∀ j u, (zs.take m)[j]? = some u → w.cell? ((⟨D, 0, none⟩ : Addr).add j) = some u := by
  intro j u hu
  rw [add_none, Nat.zero_add]
  rw [List.getElem?_take] at hu
  split at hu
  · exact cell_of h (by simpa using hu)
  · cases hu

theorem one_take {zs : List Value} {k m : Nat} {v : Int} (h : zs.take k = List.replicate k (.int .i64 v)) (hm : m ≤ k) : ∀ u ∈ zs.take m, u.oneCell' = true := by
  rw [take_repV h hm]
  intro u hu
  rw [List.eq_of_mem_replicate hu]
  rfl

set_option maxHeartbeats 1600000 in
set_option maxRecDepth 100000 in
theorem repeat_c (v : Int) (ad : Addr) (c N : Nat) (w : World) (hx : w.cell? ad = some (.int .i64 v)) (hN : 1 ≤ N ∧ N ≤ 1000) :
    Calls Tryd.prog 54 #[.slice (some ad) 1 c, .int .i64 (N : Int)] w fun e w' => ∃ D, e = .returned (.slice (some ⟨D, 0, none⟩) N N) ∧ w'.heap[D]? = some (.cells (cellsZ (List.replicate N v)).toArray 3 (0, 0)) ∧ w.heap.size ≤ D ∧ Fr (fun _ => False) w w' := by
  obtain ⟨zs, hmk, hzl⟩ := makeI_c N (by omega)
  obtain ⟨i0, hi, hz0, hz1, hz2⟩ := info_parts Tryd.info3
  have hw1 : IntKind.u64.wrap (N : Int) = (N : Int) := by show (N : Int) % 18446744073709551616 = N; omega
  have hw2 : IntKind.i64.wrap (N : Int) = (N : Int) := wrap_i64_id _ (by omega) (by omega)
  have Hzl := hide hzl
  have Hx := hide hx
  clear hzl hx
  go_enter Tryd.func54, Tryd.ntmps54
  go_wp2_with fail
  refine calls_args (mul_c N (by omega) w) rfl |>.mono ?_
  rintro e w1 ⟨rfl, rfl⟩
  obtain ⟨D, hD⟩ : ∃ D, D = w.heap.size := ⟨_, rfl⟩
  have h1c : ∀ j u, [(Value.int .i64 v)][j]? = some u → (w.alloc (.cells zs.toArray 3)).cell? (ad.add j) = some u := by
    intro j u hu
    rcases j with _ | j
    · simp at hu
      subst hu
      have hb := cell_lt Hx.out
      have e0 : ad.add 0 = ad := by unfold Addr.add; simp
      rw [e0, World.cell?_alloc_lt _ _ _ hb]
      exact Hx.out
    · simp at hu
  have hbel : Below w.heap.size w (w.alloc (.cells zs.toArray 3)) := (Below.refl _ _).alloc (Nat.le_refl _) _
  have H1c := hide h1c
  have Hbel := hide hbel
  clear h1c hbel
  have t1 : (Tryd.prog.info? 3).map (·.size) = some 1 := by rw [hi]; simp [hz1]
  have t2 : [(Value.int .i64 v)].length = Nat.min 1 N := by simp [Nat.min_def]; omega
  have t3 : 0 + [(Value.int .i64 v)].length ≤ zs.length := by have := Hzl.out; simp; omega
  have t4 : ∀ x ∈ [(Value.int .i64 v)], x.oneCell' = true := fun x hx => by simp at hx; subst hx; rfl
  have T2 := hide t2
  have T3 := hide t3
  have T4 := hide t4
  clear t2 t3 t4
  go_wp2_with (refine wpList_copy_splice rfl (.tmp 31) (.tmp 32) 34 34 rfl 3 Tryd.underlying34 t1 (some ⟨w.heap.size, 0, none⟩) (some ad) N N 1 c rfl rfl w.heap.size 0 zs 3 (heap_alloc_new _ _) [.int .i64 v] T2.out (fun _ => ⟨rfl, ad, rfl, H1c.out⟩) T3.out T4.out w.heap.size w Hbel.out (Nat.le_refl _) ?_; intro w2 hg2 hb2)
  rw [← hD] at hg2 hb2 ⊢
  have Hs2 : Hid (∃ zs' : List Value, w2.heap[D]? = some (.cells zs'.toArray 3 (0, 0)) ∧ zs'.length = N ∧ zs'.take 1 = List.replicate 1 (.int .i64 v)) := by
    refine ⟨_, hg2.out, ?_, ?_⟩
    · rw [length_splice _ _ _ (by have := Hzl.out; simp; omega)]; exact Hzl.out
    · simp [splice]
  have HB2 := hide hb2
  have HD := hide hD
  clear hg2 hb2 hD
  go_wp2
  go_loopw [8] (fun kv wr => ∃ (k : Nat) (zs' : List Value), 1 ≤ k ∧ k ≤ N ∧ kv = .int .i64 ((k : Nat) : Int) ∧ Hid (wr.heap[D]? = some (.cells zs'.toArray 3 (0, 0))) ∧ Hid (zs'.length = N) ∧ Hid (zs'.take k = List.replicate k (.int .i64 v)) ∧ Hid (Below D w wr)) (fun kv _ => N - (intOf kv).toNat)
  case atStart =>
    obtain ⟨zs', g1, g2, g3⟩ := Hs2.out
    exact ⟨1, zs', by omega, by omega, rfl, g1, g2, g3, HB2.out⟩
  case round =>
    obtain ⟨k, zs', hk1, hk2, rfl, G1, G2, G3, G4⟩ := hrel
    by_cases hlt : k < N
    · have hlti : (k : Int) < (N : Int) := by omega
      have k1 : (k : Int) ≤ (N : Int) := by omega
      have k2 : ¬ N = k := by omega
      obtain ⟨m, hm⟩ : ∃ m, m = Nat.min k (N - k) := ⟨_, rfl⟩
      have hmb : m ≤ k ∧ m ≤ N - k ∧ 1 ≤ m := by rw [hm]; simp only [Nat.min_def]; split <;> omega
      obtain ⟨cs, hcs⟩ : ∃ cs, cs = zs'.take m := ⟨_, rfl⟩
      have hcl : cs.length = m := by rw [hcs]; have := G2.out; simp; omega
      have Hm := hide hm
      have hm1 := hmb.1
      have hm2 := hmb.2.1
      have hm3 := hmb.2.2
      have hfit : k + cs.length ≤ zs'.length := by have := G2.out; omega
      have Hfit := hide hfit
      have S1 : Hid (∀ j u, cs[j]? = some u → wr.drew.cell? ((⟨D, 0, none⟩ : Addr).add j) = some u) := by rw [hcs]; exact src_take G1.out
      have S2 : Hid (∀ u ∈ cs, u.oneCell' = true) := by rw [hcs]; exact one_take G3.out hm1
      have S3 : Hid ((splice zs' k cs).take (k + m) = List.replicate (k + m) (.int .i64 v)) := by rw [hcs]; exact splice_rep G3.out hm1
      have S4 : Hid (cs.length = Nat.min k (N - k)) := by show _ = _; rw [hcl]; exact hm
      clear hm hmb hcs hfit
      go_wp2_with fail
      refine wp_region_held_drew (S := fun _ => True) (by kernel_rfl) trivial (fun hHeld => ?_)
      refine wpAnyH_take (i := 0) (v := ?v0) rfl (by kernel_rfl) (by kernel_rfl) (by kernel_rfl) (fun _ _ _ h => h) (Or.inl ⟨by rfl, ?hy0⟩) hHeld ?rest0
      case hy0 => (intro W hSw; (try dsimp only at hSw); go_simp; all_goals (with_reducible rfl))
      change wpAnyH _ _ _ _ _ _ _ (Act.put _ (some 38) _) _
      simp only [Act.put, List.setIfInBounds_toArray, List.set_cons_zero, List.set_cons_succ]
      refine wpAnyH_take (i := 1) (v := ?v1) rfl (by kernel_rfl) (by kernel_rfl) (by kernel_rfl) (fun _ _ _ h => h) (Or.inl ⟨by rfl, ?hy1⟩) hHeld ?rest1
      case hy1 => (intro W hSw; (try dsimp only at hSw); go_simp; all_goals (with_reducible rfl))
      change wpAnyH _ _ _ _ _ _ _ (Act.put _ (some 39) _) _
      simp only [Act.put, List.setIfInBounds_toArray, List.set_cons_zero, List.set_cons_succ]
      refine wpAnyH_take (i := 2) (v := ?v2) rfl (by kernel_rfl) (by kernel_rfl) (by kernel_rfl) (fun _ _ _ h => h) (Or.inl ⟨by rfl, ?hy2⟩) hHeld ?rest2
      case hy2 => (intro W hSw; (try dsimp only at hSw); go_simp; all_goals (with_reducible rfl))
      change wpAnyH _ _ _ _ _ _ _ (Act.put _ (some 40) _) _
      simp only [Act.put, List.setIfInBounds_toArray, List.set_cons_zero, List.set_cons_succ]
      refine wpAnyH_take (i := 4) (v := ?v4) rfl (by kernel_rfl) (by kernel_rfl) (by kernel_rfl) (fun _ _ _ h => h) (Or.inl ⟨by rfl, ?hy4⟩) hHeld ?rest4
      case hy4 => (intro W hSw; (try dsimp only at hSw); go_simp; all_goals (with_reducible rfl))
      change wpAnyH _ _ _ _ _ _ _ (Act.put _ (some 42) _) _
      simp only [Act.put, List.setIfInBounds_toArray, List.set_cons_zero, List.set_cons_succ]
      refine wpAnyH_take (i := 5) (v := ?v5) rfl (by kernel_rfl) (by kernel_rfl) (by kernel_rfl) (fun _ _ _ h => h) (Or.inl ⟨by rfl, ?hy5⟩) hHeld ?rest5
      case hy5 => (intro W hSw; (try dsimp only at hSw); go_simp; all_goals (with_reducible rfl))
      change wpAnyH _ _ _ _ _ _ _ (Act.put _ (some 43) _) _
      simp only [Act.put, List.setIfInBounds_toArray, List.set_cons_zero, List.set_cons_succ]
      refine wpAnyH_take (i := 3) (v := ?v3) rfl (by kernel_rfl) (by kernel_rfl) (by kernel_rfl) (fun _ _ _ h => h) (Or.inl ⟨by rfl, ?hy3⟩) hHeld ?rest3
      case hy3 => (intro W hSw; (try dsimp only at hSw); go_simp; all_goals (with_reducible rfl))
      change wpAnyH _ _ _ _ _ _ _ (Act.put _ (some 41) _) _
      simp only [Act.put, List.setIfInBounds_toArray, List.set_cons_zero, List.set_cons_succ]
      refine wpAnyH_take (i := 6) (v := ?v6) rfl (by kernel_rfl) (by kernel_rfl) (by kernel_rfl) (fun _ _ _ h => h) (Or.inl ⟨by rfl, ?hy6⟩) hHeld ?rest6
      case hy6 => (intro W hSw; (try dsimp only at hSw); go_simp; all_goals (with_reducible rfl))
      change wpAnyH _ _ _ _ _ _ _ (Act.put _ (some 44) _) _
      simp only [Act.put, List.setIfInBounds_toArray, List.set_cons_zero, List.set_cons_succ]
      refine wpAnyH_ready (rs := [7]) (by kernel_rfl) (by simp) ?_
      refine AllReadyH.cons rfl (fun K hK => ?_) AllReadyH.nil
      try simp only [List.getElem_toArray, List.getElem_cons_succ, List.getElem_cons_zero]
      rw [if_pos (by rfl)]
      refine wp_copy_splice (w := wr.drew) (by rfl) (.tmp 41) (.tmp 44) 34 34 (by rfl) 3 Tryd.underlying34 (by rw [hi]; simp [hz1]) (some ⟨D, k, none⟩) (some ⟨D, 0, none⟩) (N - k) (N - k) k N (by rfl) (by rfl) D k zs' 3 G1.out cs S4.out (fun _ => ⟨rfl, ⟨D, 0, none⟩, rfl, S1.out⟩) Hfit.out S2.out D w (below_drew G4.out) (Nat.le_refl _) ?_
      intro w3 hg3 hb3
      have E3 := hide hg3
      have E4 := hide hb3
      refine hK.out _ _ trivial (fun hHeld => ?_)
      clear hK K
      refine wpAnyH_take (i := 8) (v := ?v8) rfl (by kernel_rfl) (by kernel_rfl) (by kernel_rfl) (fun _ _ _ h => h) (Or.inl ⟨by rfl, ?hy8⟩) hHeld ?rest8
      case hy8 => (intro W hSw; (try dsimp only at hSw); go_simp; all_goals (with_reducible rfl))
      change wpAnyH _ _ _ _ _ _ _ (Act.put _ (some 46) _) _
      simp only [Act.put, List.setIfInBounds_toArray, List.set_cons_zero, List.set_cons_succ]
      refine wpAnyH_take (i := 9) (v := ?v9) rfl (by kernel_rfl) (by kernel_rfl) (by kernel_rfl) (fun _ _ _ h => h) (Or.inl ⟨by rfl, ?hy9⟩) hHeld ?rest9
      case hy9 => (intro W hSw; (try dsimp only at hSw); go_simp; all_goals (with_reducible rfl))
      change wpAnyH _ _ _ _ _ _ _ (Act.put _ (some 8) _) _
      simp only [Act.put, List.setIfInBounds_toArray, List.set_cons_zero, List.set_cons_succ]
      refine wpAnyH_done (by kernel_rfl) ?_ _
      go_wp2
      go_roundw
      case rel => exact ⟨k + m, splice zs' k cs, by omega, by omega, by rw [wrap_i64_id _ (by omega) (by omega)]; simp, E3.out, by show _ = _; rw [length_splice _ _ _ Hfit.out]; exact G2.out, S3.out, E4.out⟩
      case measure => rw [wrap_i64_id _ (by omega) (by omega)]; simp [intOf]; omega
    · have hlti : ¬ (k : Int) < (N : Int) := by omega
      have hke : k = N := by omega
      subst hke
      go_wp2
      go_ret
      have hz : zs' = cellsZ (List.replicate k v) := by
        have h1 := G3.out
        rw [List.take_of_length_le (by have := G2.out; omega)] at h1
        rw [h1]
        simp [cellsZ]
      refine ⟨D, rfl, by rw [← hz]; exact G1.out, by have := HD.out; omega, ?_⟩
      have := HD.out
      exact ⟨G4.out.os, G4.out.tape, G4.out.output, G4.out.size, fun j hj _ => G4.out.block j (by omega)⟩

set_option maxHeartbeats 1600000 in
set_option maxRecDepth 100000 in
theorem grow_c (n : Nat) (hn : 1 ≤ n ∧ n ≤ 100000) (w : World) : Calls Tryd.prog 65 #[.slice none 0 0, .int .i64 (n : Int)] w fun e w' => ∃ a c, e = .returned (.slice a 0 c) ∧ w'.ownsRow w.heap.size 3 1 (.slice a 0 c) 0 (cellsZ []) ∧ Fr (fun _ => False) w w' := by
  obtain ⟨i0, hi, hz0, hz1, hz2⟩ := info_parts Tryd.info3
  have hold : (Builtin.firstCells i0.size 0 (.slice none 0 0)).run Tryd.prog w.drew = .ok ([] : List Value).toArray w.drew := run_firstCells_none w.drew i0.size 0 0 0
  have hrz : ∀ ty, (Builtin.append_ #[34, 3] ty #[.slice none 0 0, .int .i64 (n : Int)]).run Tryd.prog w =
      .ok (.slice (some ⟨w.heap.size, 0, none⟩) n (grownCap w n 0 3)) (w.drew.alloc (.cells (([] : List Value).toArray ++ Builtin.zeroCells (Value.int .i64 0).cells n ++ Builtin.zeroCells (Value.int .i64 0).cells (grownCap w n 0 3 - n)) 3)) := fun ty => by
    have h := Lib.run_append_grow_zeros w 34 3 ty 3 i0 (.int .i64 0) .i64 .i64 Tryd.underlying34 Tryd.underlying3 hi hz0 none 0 0 [] hold n (by omega) (by omega) (by omega) (by omega) (by rw [hz2]; omega) (by rw [Nat.zero_add]; exact growslice_fits (by omega) (by rw [hz2]; omega))
    rw [Nat.zero_add] at h
    exact h
  have hGn : n ≤ grownCap w n 0 3 := grownCap_ge w _ _ _
  have hG63 := grownCap_le_maxLen w n 0 3 (by unfold maxLen; omega)
  obtain ⟨G, hG⟩ : ∃ G, G = grownCap w n 0 3 := ⟨_, rfl⟩
  rw [← hG] at hrz hGn hG63
  have Hrz := hide hrz
  have HG63 := hide hG63
  have hGb : G ≤ 9223372036854775807 := by unfold maxLen at hG63; omega
  clear hold hG hrz hG63
  go_enter Tryd.func65, Tryd.ntmps65
  go_wp2_with (at_builtin; refine Lib.wpList_append_run _ rfl _ _ _ _ rfl _ _ rfl rfl _ _ (Hrz.out _) ?_)
  all_goals
    go_ret
    refine ⟨_, _, rfl, ⟨rfl, Or.inr ⟨w.heap.size, G, _, rfl, Nat.le_refl _, heap_alloc_at rfl, Nat.zero_le _, HG63.out, ?_, rfl⟩⟩, ⟨rfl, rfl, rfl, by simp, fun k hk _ => Below.heap_alloc _ _ _ hk⟩⟩
    simp [Builtin.zeroCells]
    omega

theorem cellsZ_one {zs : List Int} : ∀ u ∈ cellsZ zs, u.oneCell' = true := by
  intro u hu
  simp only [cellsZ, List.mem_map] at hu
  obtain ⟨b, _, rfl⟩ := hu
  rfl

/-- The first i of rows, joined. -/
def catTo (Ls : Nat → List Int) : Nat → List Int
  | 0 => []
  | i + 1 => catTo Ls i ++ Ls i

set_option maxHeartbeats 1600000 in
set_option maxRecDepth 100000 in
theorem concat_any (Z m : Nat) (Ds Cs : Nat → Nat) (Ls : Nat → List Int) (w : World) (hc : ∀ i, i < m → w.cell? ⟨Z, i, none⟩ = some (.slice (some ⟨Ds i, 0, none⟩) (Ls i).length (Cs i)))
    (hD : ∀ i, i < m → LiesI w (some ⟨Ds i, 0, none⟩) (Ls i)) (hne : ∀ i, i < m → 0 < (Ls i).length) (hm : 1 ≤ m ∧ m ≤ 10) (htot : ∀ i, i ≤ m → (catTo Ls i).length ≤ 1000) :
    Calls Tryd.prog 53 #[.slice (some ⟨Z, 0, none⟩) m m] w fun e w' => ∃ a c, e = .returned (.slice a (catTo Ls m).length c) ∧ w'.ownsRow w.heap.size 3 1 (.slice a (catTo Ls m).length c) (catTo Ls m).length (cellsZ (catTo Ls m)) ∧ Fr (fun _ => False) w w' := by
  obtain ⟨i0, hi, hz0, hz1, hz2⟩ := info_parts Tryd.info3
  have Hc := hide hc
  have HD := hide hD
  have Hne := hide hne
  have Htot := hide htot
  clear hc hD hne htot
  go_enter Tryd.func53, Tryd.ntmps53
  go_wp2
  go_loopw [3, 5, 11] (fun sv _ iv wr => ∃ i : Nat, i ≤ m ∧ iv = .int .i64 (i : Int) ∧ sv = .int .i64 ((catTo Ls i).length : Int) ∧ Hid (w = wr)) (fun _ _ iv _ => m - (intOf iv).toNat)
  case atStart => exact ⟨0, Nat.zero_le _, rfl, rfl, rfl⟩
  case round =>
    obtain ⟨i, hi1, rfl, rfl, Hw⟩ := hrel
    obtain rfl := Hw.out
    by_cases hlt : i < m
    · have hlti : (i : Int) < (m : Int) := by omega
      have qi := Hc.out i hlt
      have h1 := Htot.out i (by omega)
      have h2 := Htot.out (i + 1) (by omega)
      have e2 : (catTo Ls (i + 1)).length = (catTo Ls i).length + (Ls i).length := by simp [catTo]
      rw [e2] at h2
      have E2 := hide e2
      clear e2
      go_wp2
      go_roundw
      case rel => exact ⟨i + 1, by omega, by go_num, by rw [E2.out]; go_num, (by first | exact trivial | rfl)⟩
      case measure => simp [intOf]; omega
    · have hlti : ¬ (i : Int) < (m : Int) := by omega
      have hie : i = m := by omega
      subst hie
      have hS := Htot.out i (Nat.le_refl _)
      have hS1 : 1 ≤ (catTo Ls i).length := by
        obtain ⟨j, rfl⟩ : ∃ j, i = j + 1 := ⟨i - 1, by omega⟩
        have := Hne.out j (by omega)
        simp [catTo]
        omega
      obtain ⟨S, hSe⟩ : ∃ S, S = (catTo Ls i).length := ⟨_, rfl⟩
      rw [← hSe] at hS hS1 ⊢
      have HSe := hide hSe
      clear hSe Hw
      go_wp2_with fail
      refine (grow_c S (by omega) w).mono ?_
      rintro e w1 ⟨a1, c1, rfl, hown1, hF1⟩
      have Hown1 := hide hown1
      have HF1 := hide hF1
      clear hown1 hF1
      go_wp2
      go_loopw [6, 8, 27] (fun v _ jv wr => ∃ j : Nat, j ≤ i ∧ jv = .int .i64 (j : Int) ∧ ∃ a c, v = .slice a (catTo Ls j).length c ∧ wr.ownsRow w.heap.size 3 1 (.slice a (catTo Ls j).length c) (catTo Ls j).length (cellsZ (catTo Ls j)) ∧ Fr (fun _ => False) w wr) (fun _ _ jv _ => i - (intOf jv).toNat)
      case atStart => exact ⟨0, Nat.zero_le _, rfl, a1, c1, rfl, Hown1.out, HF1.out⟩
      case round =>
        obtain ⟨j, hj1, rfl, a, c, rfl, hown, hF⟩ := hrel
        have Hown := hide hown
        have HF := hide hF
        clear hown hF
        by_cases hlt : j < i
        · have hlti : (j : Int) < (i : Int) := by omega
          have qj : wr.cell? ⟨Z, j, none⟩ = some (.slice (some ⟨Ds j, 0, none⟩) (Ls j).length (Cs j)) := by
            have := Hc.out j hlt
            rw [cell_blk (HF.out.block Z (cell_lt this) (fun h => h))]
            exact this
          have h2 := Htot.out (j + 1) (by omega)
          have e2 : (catTo Ls (j + 1)).length = (catTo Ls j).length + (Ls j).length := by simp [catTo]
          rw [e2] at h2
          have E2 := hide e2
          obtain ⟨N, hN⟩ : ∃ N, N = (catTo Ls j).length := ⟨_, rfl⟩
          obtain ⟨K, hK⟩ : ∃ K, K = (Ls j).length := ⟨_, rfl⟩
          have hK0 : 0 < K := by rw [hK]; exact Hne.out j hlt
          have hsz := HF.out.size
          rw [← hN] at h2 Hown E2 ⊢
          rw [← hK] at h2 qj E2
          have hcl : (cellsZ (Ls j)).length = K * 1 := by simp [cellsZ, hK]
          have hsrc : ∀ q u, (cellsZ (Ls j))[q]? = some u → wr.cell? ((⟨Ds j, 0, none⟩ : Addr).add q) = some u := by
            intro q u hq
            have hql : q < (Ls j).length := by
              have := (List.getElem?_eq_some_iff.1 hq).1
              simpa [cellsZ] using this
            obtain ⟨ad, e, hcell⟩ := (HD.out j hlt).fr HF.out q hql
            cases e
            rw [hcell]
            rw [← hq]
            simp [cellsZ, at0, List.getElem?_eq_getElem hql]
          have Hcl := hide hcl
          have Hsrc := hide hsrc
          have HN := hide hN
          have HK := hide hK
          clear e2 hcl hsrc hN hK
          go_wp2_with (at_builtin; go_must (refine wpList_append_lies _ rfl _ _ 34 rfl w.heap.size 3 i0 (.int .i64 0) 1 8 Tryd.underlying34 hi hz0 hz1 hz2 rfl (by decide) (.slice a N c) N (cellsZ (catTo Ls j)) rfl Hown.out ⟨Ds j, 0, none⟩ K (Cs j) (cellsZ (Ls j)) rfl Hcl.out Hsrc.out cellsZ_one hK0 (by unfold maxLen; omega) (by omega) hsz wr.heap.size rfl ?_); intro g cap w3 hown3 hgrow hat hlt3)
          have f2 : Fr (fun _ => False) w w3 := (HF.out.trans ⟨hgrow.os, hgrow.tape, hgrow.output, hgrow.size, fun k hk hn => hgrow.block k hk (fun e => hn e.symm)⟩ : Fr (fun k => False ∨ (Value.slice a N c).ownBlock = some k) w w3).mono fun k hk h => by
            rcases h with h | h
            · exact h
            · have := (Hown.out.lt k h).1; omega
          have G1 := hide f2
          have G2 : Hid (w3.ownsRow w.heap.size 3 1 (.slice (some ⟨g, 0, none⟩) (N + K) cap) (N + K) (cellsZ (catTo Ls (j + 1)))) := by
            have e : cellsZ (catTo Ls (j + 1)) = cellsZ (catTo Ls j) ++ cellsZ (Ls j) := by simp [cellsZ, catTo]
            rw [e]; exact hown3
          clear f2 hown3 hgrow hat hlt3
          go_roundw
          case rel => exact ⟨j + 1, by omega, by go_num, _, _, by rw [E2.out], by rw [E2.out]; exact G2.out, G1.out⟩
          case measure => simp [intOf]; omega
        · have hlti : ¬ (j : Int) < (i : Int) := by omega
          have hie : j = i := by omega
          subst hie
          go_wp2
          go_ret
          exact ⟨a, c, rfl, Hown.out, HF.out⟩

theorem RowAt.fr {w w' : World} {D : Nat} {zs : List Int} (h : RowAt w D zs) (hF : Fr (fun _ => False) w w') : RowAt w' D zs := (hF.block D (lt_of h) (fun h => h)).trans h

theorem concat_c (Z m : Nat) (Ds : Nat → Nat) (Ls : Nat → List Int) (w : World) (hc : ∀ i, i < m → w.cell? ⟨Z, i, none⟩ = some (.slice (some ⟨Ds i, 0, none⟩) (Ls i).length (Ls i).length))
    (hD : ∀ i, i < m → LiesI w (some ⟨Ds i, 0, none⟩) (Ls i)) (hne : ∀ i, i < m → 0 < (Ls i).length) (hm : 1 ≤ m ∧ m ≤ 10) (htot : ∀ i, i ≤ m → (catTo Ls i).length ≤ 1000) :
    Calls Tryd.prog 53 #[.slice (some ⟨Z, 0, none⟩) m m] w fun e w' => ∃ a c, e = .returned (.slice a (catTo Ls m).length c) ∧ w'.ownsRow w.heap.size 3 1 (.slice a (catTo Ls m).length c) (catTo Ls m).length (cellsZ (catTo Ls m)) ∧ Fr (fun _ => False) w w' :=
  concat_any Z m Ds (fun i => (Ls i).length) Ls w hc hD hne hm htot

theorem cell_new1 (w : World) (v : Value) (t : TypeId) : (w.alloc (.cells #[v] t)).cell? ⟨w.heap.size, 0, none⟩ = some v := cell_of (heap_alloc_new _ _) rfl

def fixRows : Nat → List Int
  | 0 => List.replicate 144 8
  | 1 => List.replicate 112 9
  | 2 => List.replicate 24 7
  | 3 => List.replicate 8 8
  | _ => []

theorem fixRows_cat : catTo fixRows 4 = fixL := by
  show ((([] ++ List.replicate 144 (8 : Int)) ++ List.replicate 112 9) ++ List.replicate 24 7) ++ List.replicate 8 8 = fixL
  unfold fixL
  simp only [List.nil_append, List.append_assoc]

theorem fixRows_len : ∀ i, i < 4 → 0 < (fixRows i).length := by
  intro i hi
  rcases (by omega : i = 0 ∨ i = 1 ∨ i = 2 ∨ i = 3) with rfl | rfl | rfl | rfl <;> simp only [fixRows, List.length_replicate] <;> omega

theorem fixRows_le : ∀ i, i ≤ 4 → (catTo fixRows i).length ≤ 1000 := by
  intro i hi
  have e0 : (fixRows 0).length = 144 := List.length_replicate
  have e1 : (fixRows 1).length = 112 := List.length_replicate
  have e2 : (fixRows 2).length = 24 := List.length_replicate
  have e3 : (fixRows 3).length = 8 := List.length_replicate
  rcases (by omega : i = 0 ∨ i = 1 ∨ i = 2 ∨ i = 3 ∨ i = 4) with rfl | rfl | rfl | rfl | rfl <;> simp only [catTo, List.length_append, List.length_nil, e0, e1, e2, e3] <;> omega

/-- The rows of the fixed code of literals are made and joined. -/
theorem repeat_at (v : Int) (N : Nat) (w : World) (D : Nat) (hD : D = w.heap.size) (hN : 1 ≤ N ∧ N ≤ 1000) :
    Calls Tryd.prog 54 #[.slice (some ⟨D, 0, none⟩) 1 1, .int .i64 (N : Int)] (w.alloc (.cells #[.int .i64 v] 3)) fun e w' => ∃ D, e = .returned (.slice (some ⟨D, 0, none⟩) N N) ∧ RowAt w' D (List.replicate N v) ∧ w.heap.size ≤ D ∧ Fr (fun _ => False) w w' := by
  subst hD
  refine (repeat_c v ⟨w.heap.size, 0, none⟩ 1 N (w.alloc (.cells #[.int .i64 v] 3)) (cell_new1 _ _ _) hN).mono ?_
  rintro e w' ⟨D, rfl, h1, h2, h3⟩
  exact ⟨D, rfl, h1, by simp at h2; omega, (Fr.of_alloc w _).join h3⟩

def four (a b c d : Nat) : Nat → Nat
  | 0 => a
  | 1 => b
  | 2 => c
  | _ => d

theorem concat_fix (w : World) (D0 D1 D2 D3 : Nat) (h0 : RowAt w D0 (List.replicate 144 8)) (h1 : RowAt w D1 (List.replicate 112 9)) (h2 : RowAt w D2 (List.replicate 24 7)) (h3 : RowAt w D3 (List.replicate 8 8)) :
    Calls Tryd.prog 53 #[.slice (some ⟨w.heap.size, 0, none⟩) 4 4] (w.alloc (.cells #[.slice (some ⟨D0, 0, none⟩) 144 144, .slice (some ⟨D1, 0, none⟩) 112 112, .slice (some ⟨D2, 0, none⟩) 24 24, .slice (some ⟨D3, 0, none⟩) 8 8] 34)) fun e w' =>
      ∃ a c, e = .returned (.slice a fixL.length c) ∧ LiesI w' a fixL ∧ Fr (fun _ => False) w w' := by
  have fr := Fr.of_alloc w (.cells #[.slice (some ⟨D0, 0, none⟩) 144 144, .slice (some ⟨D1, 0, none⟩) 112 112, .slice (some ⟨D2, 0, none⟩) 24 24, .slice (some ⟨D3, 0, none⟩) 8 8] 34)
  have hn := heap_alloc_new w (.cells #[.slice (some ⟨D0, 0, none⟩) 144 144, .slice (some ⟨D1, 0, none⟩) 112 112, .slice (some ⟨D2, 0, none⟩) 24 24, .slice (some ⟨D3, 0, none⟩) 8 8] 34)
  refine (concat_c w.heap.size 4 (four D0 D1 D2 D3) fixRows _ ?_ ?_ fixRows_len (by omega) fixRows_le).mono ?_
  · intro i hi
    rcases (by omega : i = 0 ∨ i = 1 ∨ i = 2 ∨ i = 3) with rfl | rfl | rfl | rfl
    · exact cell_of hn (by simp only [fixRows, List.length_replicate]; rfl)
    · exact cell_of hn (by simp only [fixRows, List.length_replicate]; rfl)
    · exact cell_of hn (by simp only [fixRows, List.length_replicate]; rfl)
    · exact cell_of hn (by simp only [fixRows, List.length_replicate]; rfl)
  · intro i hi
    rcases (by omega : i = 0 ∨ i = 1 ∨ i = 2 ∨ i = 3) with rfl | rfl | rfl | rfl
    · exact (h0.fr fr).lies
    · exact (h1.fr fr).lies
    · exact (h2.fr fr).lies
    · exact (h3.fr fr).lies
  · rintro e w' ⟨a, c, rfl, hown, hF⟩
    rw [fixRows_cat] at hown ⊢
    exact ⟨a, c, rfl, own_lies hown, fr.join hF⟩
end Go.Proofs.YtmefhngmgfmhoaaDoor

/-
  The fixed codes.
-/
namespace Go.Proofs.YtmefhngmgfmhoaaDoor
open Go.RowKit

theorem own_wide {w : World} {lo lo' : Nat} {e : TypeId} {size : Nat} {v : Value} {n : Nat} {xs : List Value} (h : w.ownsRow lo e size v n xs) (hl : lo' ≤ lo) : w.ownsRow lo' e size v n xs := by
  obtain ⟨h1, h2⟩ := h
  refine ⟨h1, ?_⟩
  rcases h2 with h2 | ⟨g, cap, cur, hv, hg, r⟩
  · exact Or.inl h2
  · exact Or.inr ⟨g, cap, cur, hv, Nat.le_trans hl hg, r⟩

/-- A code lies in a wider range, too. -/
theorem Cd.wide {w : World} {lo hi lo' hi' C : Nat} {ls : List Int} (h : Cd w lo hi C ls) (hl : lo' ≤ lo) (hh : hi ≤ hi') (hs : hi' ≤ w.heap.size) : Cd w lo' hi' C ls := by
  obtain ⟨D, rv, h1, h2, h3, h4, h5, h6⟩ := h.eobj
  exact ⟨Nat.le_trans hl h.elo, Nat.lt_of_lt_of_le h.ehi hh, hs, h.egood, h.eok, ⟨D, rv, h1, own_wide h2 hl, fun g hg => Nat.lt_of_lt_of_le (h3 g hg) hh, Nat.le_trans hl h4, Nat.lt_of_lt_of_le h5 hh, h6⟩⟩

set_option maxHeartbeats 1600000 in
set_option maxRecDepth 100000 in
theorem fixedCodes_c (w : World) :
    Calls Tryd.prog 42 #[] w fun e w' => ∃ a1 c1 C1 a2 c2 C2, e = .returned (codesV a1 288 c1 C1 a2 32 c2 C2) ∧ Cd w' w.heap.size w'.heap.size C1 fixL ∧ Cd w' w.heap.size w'.heap.size C2 fixD ∧ Fr (fun _ => False) w w' := by
  obtain ⟨w0, hw0⟩ : ∃ w0, w0 = w.alloc (.cells #[.slice none 0 0, .pointer none, .slice none 0 0, .pointer none] 100) := ⟨_, rfl⟩
  have hF0 : Fr (fun _ => False) w w0 := by rw [hw0]; exact Fr.of_alloc _ _
  have hb0 : w0.heap[w.heap.size]? = some (.cells #[.slice none 0 0, .pointer none, .slice none 0 0, .pointer none] 100 (0, 0)) := by rw [hw0]; exact heap_alloc_at rfl
  have HF0 := hide hF0
  have Hb0 := hide hb0
  have Hw0 := hide hw0
  clear hF0 hb0 hw0
  go_enter Tryd.func42, Tryd.ntmps42
  go_wp2_with fail
  rw [← Hw0.out]
  refine (calls_args (repeat_at 8 144 w0 w0.heap.size rfl (by omega)) (by rw [Hw0.out]; simp)).mono ?_
  rintro e w1 ⟨D0, rfl, hR0, _, hF1⟩
  have HR0 := hide hR0
  have HF1 := hide hF1
  clear hR0 hF1
  go_wp2_with fail
  refine (calls_args (repeat_at 9 112 w1 w1.heap.size rfl (by omega)) (by rfl)).mono ?_
  rintro e w2 ⟨D1, rfl, hR1, _, hF2⟩
  have HR0b := hide (HR0.out.fr hF2)
  have HR1 := hide hR1
  have HF2 := hide (HF1.out.join hF2)
  clear hR1 hF2
  go_wp2_with fail
  refine (calls_args (repeat_at 7 24 w2 w2.heap.size rfl (by omega)) (by rfl)).mono ?_
  rintro e w3 ⟨D2, rfl, hR2, _, hF3⟩
  have HR0c := hide (HR0b.out.fr hF3)
  have HR1c := hide (HR1.out.fr hF3)
  have HR2 := hide hR2
  have HF3 := hide (HF2.out.join hF3)
  clear hR2 hF3
  go_wp2_with fail
  refine (calls_args (repeat_at 8 8 w3 w3.heap.size rfl (by omega)) (by rfl)).mono ?_
  rintro e w4 ⟨D3, rfl, hR3, _, hF4⟩
  have HR0d := hide (HR0c.out.fr hF4)
  have HR1d := hide (HR1c.out.fr hF4)
  have HR2d := hide (HR2.out.fr hF4)
  have HR3 := hide hR3
  have HF4 := hide (HF3.out.join hF4)
  clear hR3 hF4
  go_wp2_with fail
  refine (calls_args (concat_fix w4 D0 D1 D2 D3 HR0d.out HR1d.out HR2d.out HR3.out) (by rfl)).mono ?_
  rintro e w5 ⟨a1, c1, rfl, hL5, hF5⟩
  have HL5 := hide hL5
  have HF5 := hide (HF0.out.join (HF4.out.join hF5))
  have hb5 := cells_at (cells_at Hb0.out HF4.out (fun e => e)) hF5 (fun e => e)
  have Hb5 := hide hb5
  rw [fixL_len]
  clear hL5 hF5 hb5
  go_wp2_with fail
  refine (calls_args (newCode_c a1 288 c1 fixL w5 fixL_len.symm HL5.out fixL_cok) (by rfl)).mono ?_
  rintro e w6 ⟨C1, lo1, hi1, rfl, hC1, hlo1, hhi1, hF6⟩
  have HC1 := hide hC1
  have HF6 := hide (HF5.out.join hF6)
  have hs56 := hF6.size
  have Hb6 := hide (cells_at Hb5.out hF6 (fun e => e))
  clear hC1 hF6
  go_wp2_with fail
  refine (calls_args (repeat_at 5 32 w6 w6.heap.size rfl (by omega)) (by rfl)).mono ?_
  rintro e w7 ⟨D5, rfl, hR5, _, hF7⟩
  have HC1b := hide (HC1.out.keep hF7 (fun _ _ _ e => e))
  have HF7 := hide (HF6.out.join hF7)
  have hs67 := hF7.size
  have Hb7 := hide (cells_at Hb6.out hF7 (fun e => e))
  have HR5 := hide hR5
  clear hF7 hR5
  go_wp2_with fail
  refine (calls_args (newCode_c (some ⟨D5, 0, none⟩) 32 32 fixD w7 fixD_len.symm HR5.out.lies fixD_cok) (by rfl)).mono ?_
  rintro e w8 ⟨C2, lo2, hi2, rfl, hC2, hlo2, hhi2, hF8⟩
  have HC1c := hide (HC1b.out.keep hF8 (fun _ _ _ e => e))
  have HF8 := hide (HF7.out.join hF8)
  have hs78 := hF8.size
  have hb8 := cells_at Hb7.out hF8 (fun e => e)
  have HC2 := hide hC2
  have f0 := frozen_of (o := 0) hb8
  have f1 := frozen_of (o := 1) hb8
  have f2 := frozen_of (o := 2) hb8
  have f3 := frozen_of (o := 3) hb8
  have k0 := cell_of (o := 0) hb8 rfl
  have k1 := cell_of (o := 1) hb8 rfl
  have k2 := cell_of (o := 2) hb8 rfl
  have k3 := cell_of (o := 3) hb8 rfl
  have hs05 := HF5.out.size
  clear hF8 hC2
  go_wp2
  refine bodyPost_ret (v := .agg #[.slice a1 288 c1, .pointer (some ⟨C1, 0, none⟩), .slice (some ⟨D5, 0, none⟩) 32 32, .pointer (some ⟨C2, 0, none⟩)]) (by simp [results, Tryd.results42, go_sem, k0, k1, k2, k3]) rfl ?_
  have fS : Fr (fun i => i = w.heap.size) w8 ((((w8.setCell ⟨w.heap.size, 0, none⟩ (.slice a1 288 c1)).setCell ⟨w.heap.size, 1, none⟩ (.pointer (some ⟨C1, 0, none⟩))).setCell ⟨w.heap.size, 2, none⟩ (.slice (some ⟨D5, 0, none⟩) 32 32)).setCell ⟨w.heap.size, 3, none⟩ (.pointer (some ⟨C2, 0, none⟩))) :=
    ((((Fr.of_setCell w8 ⟨w.heap.size, 0, none⟩ _).trans (Fr.of_setCell _ ⟨w.heap.size, 1, none⟩ _)).trans (Fr.of_setCell _ ⟨w.heap.size, 2, none⟩ _)).trans (Fr.of_setCell _ ⟨w.heap.size, 3, none⟩ _)).mono fun i _ e => by
      rcases e with ((e | e) | e) | e <;> exact e
  have hW : w.heap.size < w5.heap.size := lt_of Hb5.out
  have hsz := fS.size
  refine ⟨a1, c1, C1, some ⟨D5, 0, none⟩, 32, C2, rfl, (HC1c.out.keep fS (fun i h1 _ e => by omega)).wide (by omega) (by omega) (Nat.le_refl _), (HC2.out.keep fS (fun i h1 _ e => by omega)).wide (by omega) (by omega) (Nat.le_refl _), ?_⟩
  exact fr_set_new (fr_set_new (fr_set_new (fr_set_new HF8.out (Nat.le_refl _)) (Nat.le_refl _)) (Nat.le_refl _)) (Nat.le_refl _)
end Go.Proofs.YtmefhngmgfmhoaaDoor

/-
  A block's own codes.
-/
namespace Go.Proofs.YtmefhngmgfmhoaaDoor
open Go.RowKit

theorem posL_le (fq : List Int) : ∀ k, (posL fq k).length ≤ k := by
  intro k
  induction k with
  | zero => exact Nat.le_refl _
  | succ k ih =>
    simp only [posL]
    split
    · simp; omega
    · omega

set_option maxHeartbeats 1600000 in
set_option maxRecDepth 100000 in
theorem ownCodes_c (A : Nat) (fL fD : List Int) (w : World) (h1 : LiesI w (some ⟨A, 0, none⟩) fL) (h2 : LiesI w (some ⟨A, 286, none⟩) fD) (l1 : fL.length = 286) (l2 : fD.length = 30) (g1 : goodF fL) (g2 : goodF fD) :
    Calls Tryd.prog 41 #[.pointer (some ⟨A, 0, none⟩)] w fun e w' => ∃ oL oD gL gD C1 C2, LenOk fL 15 oL ∧ LenOk fD 15 oD ∧ e = .returned (codesV (some ⟨gL, 0, none⟩) (trim oL 257).length 286 C1 (some ⟨gD, 0, none⟩) (trim oD 1).length 30 C2) ∧
      LiesI w' (some ⟨gL, 0, none⟩) (trim oL 257) ∧ LiesI w' (some ⟨gD, 0, none⟩) (trim oD 1) ∧ w.heap.size ≤ gL ∧ gL < w'.heap.size ∧ w.heap.size ≤ gD ∧ gD < w'.heap.size ∧ Cd w' w.heap.size w'.heap.size C1 (trim oL 257) ∧ Cd w' w.heap.size w'.heap.size C2 (trim oD 1) ∧ Fr (fun _ => False) w w' := by
  obtain ⟨w0, hw0⟩ : ∃ w0, w0 = w.alloc (.cells #[.slice none 0 0, .pointer none, .slice none 0 0, .pointer none] 100) := ⟨_, rfl⟩
  have hF0 : Fr (fun _ => False) w w0 := by rw [hw0]; exact Fr.of_alloc _ _
  have hb0 : w0.heap[w.heap.size]? = some (.cells #[.slice none 0 0, .pointer none, .slice none 0 0, .pointer none] 100 (0, 0)) := by rw [hw0]; exact heap_alloc_at rfl
  have hFd : Fr (fun _ => False) w0 w0.drew := Fr.of_drewN w0 1
  have HS1 := hide (shortestCode_c (some ⟨A, 0, none⟩) 286 286 fL 15 257 w0.drew l1.symm (h1.fr (hF0.join hFd)) g1 (Nat.le_trans (posL_le fL fL.length) (by rw [l1]; decide)) (by omega) (by omega) (by omega))
  have HS2 := hide (fun W (hF : Fr (fun _ => False) w W) => shortestCode_c (some ⟨A, 286, none⟩) 30 30 fD 15 1 W l2.symm (h2.fr hF) g2 (Nat.le_trans (posL_le fD fD.length) (by rw [l2]; decide)) (by omega) (by omega) (by omega))
  have HF0 := hide (hF0.join hFd)
  have Hb0 := hide (cells_at hb0 hFd (fun e => e))
  have Hw0 := hide hw0
  have hs0 : w.heap.size < w0.drew.heap.size := lt_of (cells_at hb0 hFd (fun e => e))
  clear hF0 hb0 hw0 hFd h1 h2 g1 g2
  go_enter Tryd.func41, Tryd.ntmps41
  go_wp2_with fail
  rw [← Hw0.out]
  refine wp_region_held_drew (S := fun _ => True) (by kernel_rfl) trivial (fun hHeld => ?_)
  refine wpAnyH_take (i := 0) (v := ?v0) rfl (by kernel_rfl) (by kernel_rfl) (by kernel_rfl) (fun _ _ _ h => h) (Or.inl ⟨by rfl, ?hy0⟩) hHeld ?rest0
  case hy0 => (intro W hSw; (try dsimp only at hSw); go_simp; all_goals (with_reducible rfl))
  change wpAnyH _ _ _ _ _ _ _ (Act.put _ (some 3) _) _
  simp only [Act.put, List.setIfInBounds_toArray, List.set_cons_zero, List.set_cons_succ]
  refine wpAnyH_take (i := 5) (v := ?v5) rfl (by kernel_rfl) (by kernel_rfl) (by kernel_rfl) (fun _ _ _ h => h) (Or.inl ⟨by rfl, ?hy5⟩) hHeld ?rest5
  case hy5 => (intro W hSw; (try dsimp only at hSw); go_simp; all_goals (with_reducible rfl))
  change wpAnyH _ _ _ _ _ _ _ (Act.put _ (some 8) _) _
  simp only [Act.put, List.setIfInBounds_toArray, List.set_cons_zero, List.set_cons_succ]
  refine wpAnyH_take (i := 1) (v := ?v1) rfl (by kernel_rfl) (by kernel_rfl) (by kernel_rfl) (fun _ _ _ h => h) (Or.inl ⟨by rfl, ?hy1⟩) hHeld ?rest1
  case hy1 => (intro W hSw; (try dsimp only at hSw); go_simp; all_goals (with_reducible rfl))
  change wpAnyH _ _ _ _ _ _ _ (Act.put _ (some 4) _) _
  simp only [Act.put, List.setIfInBounds_toArray, List.set_cons_zero, List.set_cons_succ]
  refine wpAnyH_take (i := 6) (v := ?v6) rfl (by kernel_rfl) (by kernel_rfl) (by kernel_rfl) (fun _ _ _ h => h) (Or.inl ⟨by rfl, ?hy6⟩) hHeld ?rest6
  case hy6 => (intro W hSw; (try dsimp only at hSw); go_simp; all_goals (with_reducible rfl))
  change wpAnyH _ _ _ _ _ _ _ (Act.put _ (some 9) _) _
  simp only [Act.put, List.setIfInBounds_toArray, List.set_cons_zero, List.set_cons_succ]
  refine wpAnyH_take (i := 2) (v := ?v2) rfl (by kernel_rfl) (by kernel_rfl) (by kernel_rfl) (fun _ _ _ h => h) (Or.inl ⟨by rfl, ?hy2⟩) hHeld ?rest2
  case hy2 => (intro W hSw; (try dsimp only at hSw); go_simp; all_goals (with_reducible rfl))
  change wpAnyH _ _ _ _ _ _ _ (Act.put _ (some 5) _) _
  simp only [Act.put, List.setIfInBounds_toArray, List.set_cons_zero, List.set_cons_succ]
  refine wpAnyH_take (i := 7) (v := ?v7) rfl (by kernel_rfl) (by kernel_rfl) (by kernel_rfl) (fun _ _ _ h => h) (Or.inl ⟨by rfl, ?hy7⟩) hHeld ?rest7
  case hy7 => (intro W hSw; (try dsimp only at hSw); go_simp; all_goals (with_reducible rfl))
  change wpAnyH _ _ _ _ _ _ _ (Act.put _ (some 10) _) _
  simp only [Act.put, List.setIfInBounds_toArray, List.set_cons_zero, List.set_cons_succ]
  refine wpAnyH_take (i := 3) (v := ?v3) rfl (by kernel_rfl) (by kernel_rfl) (by kernel_rfl) (fun _ _ _ h => h) (Or.inl ⟨by rfl, ?hy3⟩) hHeld ?rest3
  case hy3 => (intro W hSw; (try dsimp only at hSw); go_simp; all_goals (with_reducible rfl))
  change wpAnyH _ _ _ _ _ _ _ (Act.put _ (some 6) _) _
  simp only [Act.put, List.setIfInBounds_toArray, List.set_cons_zero, List.set_cons_succ]
  refine wpAnyH_take (i := 8) (v := ?v8) rfl (by kernel_rfl) (by kernel_rfl) (by kernel_rfl) (fun _ _ _ h => h) (Or.inl ⟨by rfl, ?hy8⟩) hHeld ?rest8
  case hy8 => (intro W hSw; (try dsimp only at hSw); go_simp; all_goals (with_reducible rfl))
  change wpAnyH _ _ _ _ _ _ _ (Act.put _ (some 11) _) _
  simp only [Act.put, List.setIfInBounds_toArray, List.set_cons_zero, List.set_cons_succ]
  refine wpAnyH_ready (rs := [4]) (by kernel_rfl) (by simp) ?_
  refine AllReadyH.cons rfl (fun K hK => ?_) AllReadyH.nil
  try simp only [List.getElem_toArray, List.getElem_cons_succ, List.getElem_cons_zero]
  go_simp
  refine (calls_args HS1.out (by rfl)).mono ?_
  rintro e w1 ⟨oL, gL, C1, lo1, hi1, hLen1, rfl, hL1, hg1, hg1b, hC1, hlo1, hhi1, hF1⟩
  have HF1 := hide (HF0.out.join hF1)
  have Hb1 := hide (cells_at Hb0.out hF1 (fun e => e))
  have hs01 := hF1.size
  have HLen1 := hide hLen1
  have HL1 := hide hL1
  have HC1 := hide hC1
  clear hF1 hLen1 hL1 hC1
  refine hK.out _ _ trivial (fun hHeld => ?_)
  clear hK K
  refine wpAnyH_ready (rs := [9]) (by kernel_rfl) (by simp) ?_
  refine AllReadyH.cons rfl (fun K hK => ?_) AllReadyH.nil
  try simp only [List.getElem_toArray, List.getElem_cons_succ, List.getElem_cons_zero]
  go_simp
  refine (calls_args (HS2.out w1 HF1.out) (by rfl)).mono ?_
  rintro e w2 ⟨oD, gD, C2, lo2, hi2, hLen2, rfl, hL2, hg2, hg2b, hC2, hlo2, hhi2, hF2⟩
  have HF2 := hide (HF1.out.join hF2)
  have hb2 := cells_at Hb1.out hF2 (fun e => e)
  have hs12 := hF2.size
  have HLen2 := hide hLen2
  have HL2 := hide hL2
  have HC2 := hide hC2
  have HL1b := hide (HL1.out.fr hF2)
  have HC1b := hide (HC1.out.keep hF2 (fun _ _ _ e => e))
  have k0 := cell_of (o := 0) hb2 rfl
  have k1 := cell_of (o := 1) hb2 rfl
  have k2 := cell_of (o := 2) hb2 rfl
  have k3 := cell_of (o := 3) hb2 rfl
  have f0 := frozen_of (o := 0) hb2
  have f1 := frozen_of (o := 1) hb2
  have f2 := frozen_of (o := 2) hb2
  have f3 := frozen_of (o := 3) hb2
  clear hF2 hLen2 hL2 hC2 hb2
  refine hK.out _ _ trivial (fun hHeld => ?_)
  clear hK K
  refine wpAnyH_take (i := 10) (v := ?v10) rfl (by kernel_rfl) (by kernel_rfl) (by kernel_rfl) (fun _ _ _ h => h) (Or.inl ⟨by rfl, ?hy10⟩) hHeld ?rest10
  case hy10 => (intro W hSw; (try dsimp only at hSw); go_simp; all_goals (with_reducible rfl))
  change wpAnyH _ _ _ _ _ _ _ (Act.put _ (some 13) _) _
  simp only [Act.put, List.setIfInBounds_toArray, List.set_cons_zero, List.set_cons_succ]
  refine wpAnyH_ready (rs := [11]) (by kernel_rfl) (by simp) ?_
  refine AllReadyH.cons rfl (fun K hK => ?_) AllReadyH.nil
  try simp only [List.getElem_toArray, List.getElem_cons_succ, List.getElem_cons_zero]
  go_simp
  refine hK.out _ _ trivial (fun hHeld => ?_)
  clear hK K
  refine wpAnyH_done (by kernel_rfl) ?_ _
  go_wp2
  refine bodyPost_ret (v := .agg #[.slice (some ⟨gL, 0, none⟩) (trim oL 257).length 286, .pointer (some ⟨C1, 0, none⟩), .slice (some ⟨gD, 0, none⟩) (trim oD 1).length 30, .pointer (some ⟨C2, 0, none⟩)]) (by simp [results, Tryd.results41, go_sem, k0, k1, k2, k3]) rfl ?_
  have fS : Fr (fun i => i = w.heap.size) w2 ((((w2.setCell ⟨w.heap.size, 0, none⟩ (.slice (some ⟨gL, 0, none⟩) (trim oL 257).length 286)).setCell ⟨w.heap.size, 1, none⟩ (.pointer (some ⟨C1, 0, none⟩))).setCell ⟨w.heap.size, 2, none⟩ (.slice (some ⟨gD, 0, none⟩) (trim oD 1).length 30)).setCell ⟨w.heap.size, 3, none⟩ (.pointer (some ⟨C2, 0, none⟩))) :=
    ((((Fr.of_setCell w2 ⟨w.heap.size, 0, none⟩ _).trans (Fr.of_setCell _ ⟨w.heap.size, 1, none⟩ _)).trans (Fr.of_setCell _ ⟨w.heap.size, 2, none⟩ _)).trans (Fr.of_setCell _ ⟨w.heap.size, 3, none⟩ _)).mono fun i _ e => by
      rcases e with ((e | e) | e) | e <;> exact e
  have hsz := fS.size
  refine ⟨oL, oD, gL, gD, C1, C2, HLen1.out, HLen2.out, rfl, HL1b.out.frS fS (fun ad e => by cases e; show ¬ gL = w.heap.size; omega), HL2.out.frS fS (fun ad e => by cases e; show ¬ gD = w.heap.size; omega), by omega, by omega, by omega, by omega,
    (HC1b.out.keep fS (fun i h1 _ e => by omega)).wide (by omega) (by omega) (Nat.le_refl _), (HC2.out.keep fS (fun i h1 _ e => by omega)).wide (by omega) (by omega) (Nat.le_refl _), ?_⟩
  exact fr_set_new (fr_set_new (fr_set_new (fr_set_new HF2.out (Nat.le_refl _)) (Nat.le_refl _)) (Nat.le_refl _)) (Nat.le_refl _)
end Go.Proofs.YtmefhngmgfmhoaaDoor

/-
  How many bits a block's pieces have in given codes.
-/
namespace Go.Proofs.YtmefhngmgfmhoaaDoor
open Go.RowKit

theorem five_keep {w w' : World} {K A : Nat} {u0 u1 u2 u3 x : Value} (f : Fr (fun _ => False) w w') (c0 : w.cell? ⟨K, 0, none⟩ = some u0) (c1 : w.cell? ⟨K, 1, none⟩ = some u1) (c2 : w.cell? ⟨K, 2, none⟩ = some u2) (c3 : w.cell? ⟨K, 3, none⟩ = some u3) (c4 : w.cell? ⟨A, 316, none⟩ = some x) :
    ((w'.cell? ⟨K, 0, none⟩ = some u0 ∧ w'.cell? ⟨K, 1, none⟩ = some u1) ∧ (w'.cell? ⟨K, 2, none⟩ = some u2 ∧ w'.cell? ⟨K, 3, none⟩ = some u3)) ∧ w'.cell? ⟨A, 316, none⟩ = some x :=
  ⟨⟨⟨(cell_blk (a := ⟨K, 0, none⟩) (f.block K (cell_lt c0) (fun e => e))).trans c0, (cell_blk (a := ⟨K, 1, none⟩) (f.block K (cell_lt c1) (fun e => e))).trans c1⟩, ⟨(cell_blk (a := ⟨K, 2, none⟩) (f.block K (cell_lt c2) (fun e => e))).trans c2, (cell_blk (a := ⟨K, 3, none⟩) (f.block K (cell_lt c3) (fun e => e))).trans c3⟩⟩, (cell_blk (a := ⟨A, 316, none⟩) (f.block A (cell_lt c4) (fun e => e))).trans c4⟩

set_option maxHeartbeats 1600000 in
set_option maxRecDepth 100000 in
theorem tallyBits_c (A lo1 hi1 lo2 hi2 C1 C2 fu : Nat) (ll dl fL fD : List Int) (a1 : Option Addr) (n1 c1 : Nat) (a2 : Option Addr) (n2 c2 : Nat) (w : World) (hC1 : Cd w lo1 hi1 C1 ll) (hC2 : Cd w lo2 hi2 C2 dl)
    (h1 : LiesI w (some ⟨A, 0, none⟩) fL) (h2 : LiesI w (some ⟨A, 286, none⟩) fD) (h3 : w.cell? ⟨A, 316, none⟩ = some (.int .i64 (fu : Int))) (l1 : fL.length = 286) (l2 : fD.length = 30) (g1 : goodF fL) (g2 : goodF fD) (hfu : fu ≤ 100000000) :
    Calls Tryd.prog 44 #[.pointer (some ⟨A, 0, none⟩), codesV a1 n1 c1 C1 a2 n2 c2 C2] w fun e w' => e = .returned (.int .i64 (bitsF ll fL 286 + bitsF dl fD 30 + (fu : Int))) ∧ Fr (fun _ => False) w w' := by
  obtain ⟨K, hK⟩ : ∃ K, K = w.heap.size := ⟨_, rfl⟩
  obtain ⟨w0, hw0⟩ : ∃ w0, w0 = w.alloc (.cells #[.slice a1 n1 c1, .pointer (some ⟨C1, 0, none⟩), .slice a2 n2 c2, .pointer (some ⟨C2, 0, none⟩)] 100) := ⟨_, rfl⟩
  have hF0 : Fr (fun _ => False) w w0.drew := by rw [hw0]; exact (Fr.of_alloc _ _).join (Fr.of_drewN _ 1)
  have hb0 : w0.drew.heap[K]? = some (.cells #[.slice a1 n1 c1, .pointer (some ⟨C1, 0, none⟩), .slice a2 n2 c2, .pointer (some ⟨C2, 0, none⟩)] 100 (0, 0)) := by rw [hw0]; exact cells_at (heap_alloc_at hK) (Fr.of_drewN _ 1) (fun e => e)
  have k0 := cell_of (o := 0) hb0 rfl
  have k1 := cell_of (o := 1) hb0 rfl
  have k2 := cell_of (o := 2) hb0 rfl
  have k3 := cell_of (o := 3) hb0 rfl
  have k4 : w0.drew.cell? ⟨A, 316, none⟩ = some (.int .i64 (fu : Int)) := (cell_blk (a := ⟨A, 316, none⟩) (hF0.block A (cell_lt h3) (fun e => e))).trans h3
  have B1 := bitsF_bd (at_all hC1.egood) (atF_all g1) 286
  have B2 := bitsF_bd (at_all hC2.egood) (atF_all g2) 30
  have H1 := hide (codeBits_c lo1 hi1 C1 ll fL a1 n1 c1 (some ⟨A, 0, none⟩) 286 286 w0.drew (hC1.keep hF0 (fun _ _ _ e => e)) l1.symm (h1.fr hF0) g1)
  have H2 := hide (fun W (hF : Fr (fun _ => False) w W) => codeBits_c lo2 hi2 C2 dl fD a2 n2 c2 (some ⟨A, 286, none⟩) 30 30 W (hC2.keep hF (fun _ _ _ e => e)) l2.symm (h2.fr hF) g2)
  generalize bitsF ll fL 286 = X at *
  generalize bitsF dl fD 30 = Y at *
  have x0 : 0 ≤ X := B1.1
  have x1 : X ≤ 4498391040 := by have := B1.2; omega
  have y0 : 0 ≤ Y := B2.1
  have y1 : Y ≤ 471859200 := by have := B2.2; omega
  have hfi : (fu : Int) ≤ 100000000 := by omega
  have HF0 := hide hF0
  have Hw0 := hide hw0
  have HK := hide hK
  clear B1 B2 hF0 hw0 hK hb0 hC1 hC2 h1 h2 h3 g1 g2
  go_enter Tryd.func44, Tryd.ntmps44
  go_wp2_with fail
  rw [← Hw0.out, ← HK.out]
  refine wp_region_held_drew (S := fun W' => ((W'.cell? ⟨K, 0, none⟩ = some (.slice a1 n1 c1) ∧ W'.cell? ⟨K, 1, none⟩ = some (.pointer (some ⟨C1, 0, none⟩))) ∧ (W'.cell? ⟨K, 2, none⟩ = some (.slice a2 n2 c2) ∧ W'.cell? ⟨K, 3, none⟩ = some (.pointer (some ⟨C2, 0, none⟩)))) ∧ W'.cell? ⟨A, 316, none⟩ = some (.int .i64 (fu : Int))) (by kernel_rfl) ⟨⟨⟨k0, k1⟩, ⟨k2, k3⟩⟩, k4⟩ (fun hHeld => ?_)
  refine wpAnyH_take (i := 0) (v := ?v0) rfl (by kernel_rfl) (by kernel_rfl) (by kernel_rfl) (fun _ _ _ h => h) (Or.inl ⟨by rfl, ?hy0⟩) hHeld ?rest0
  case hy0 => (intro W hSw; (try dsimp only at hSw); obtain ⟨⟨⟨hSa, hSb⟩, ⟨hSc, hSd⟩⟩, hSe⟩ := hSw; go_simp; all_goals (with_reducible rfl))
  change wpAnyH _ _ _ _ _ _ _ (Act.put _ (some 5) _) _
  simp only [Act.put, List.setIfInBounds_toArray, List.set_cons_zero, List.set_cons_succ]
  refine wpAnyH_take (i := 2) (v := ?v2) rfl (by kernel_rfl) (by kernel_rfl) (by kernel_rfl) (fun _ _ _ h => h) (Or.inl ⟨by rfl, ?hy2⟩) hHeld ?rest2
  case hy2 => (intro W hSw; (try dsimp only at hSw); obtain ⟨⟨⟨hSa, hSb⟩, ⟨hSc, hSd⟩⟩, hSe⟩ := hSw; go_simp; all_goals (with_reducible rfl))
  change wpAnyH _ _ _ _ _ _ _ (Act.put _ (some 7) _) _
  simp only [Act.put, List.setIfInBounds_toArray, List.set_cons_zero, List.set_cons_succ]
  refine wpAnyH_take (i := 7) (v := ?v7) rfl (by kernel_rfl) (by kernel_rfl) (by kernel_rfl) (fun _ _ _ h => h) (Or.inl ⟨by rfl, ?hy7⟩) hHeld ?rest7
  case hy7 => (intro W hSw; (try dsimp only at hSw); obtain ⟨⟨⟨hSa, hSb⟩, ⟨hSc, hSd⟩⟩, hSe⟩ := hSw; go_simp; all_goals (with_reducible rfl))
  change wpAnyH _ _ _ _ _ _ _ (Act.put _ (some 12) _) _
  simp only [Act.put, List.setIfInBounds_toArray, List.set_cons_zero, List.set_cons_succ]
  refine wpAnyH_take (i := 9) (v := ?v9) rfl (by kernel_rfl) (by kernel_rfl) (by kernel_rfl) (fun _ _ _ h => h) (Or.inl ⟨by rfl, ?hy9⟩) hHeld ?rest9
  case hy9 => (intro W hSw; (try dsimp only at hSw); obtain ⟨⟨⟨hSa, hSb⟩, ⟨hSc, hSd⟩⟩, hSe⟩ := hSw; go_simp; all_goals (with_reducible rfl))
  change wpAnyH _ _ _ _ _ _ _ (Act.put _ (some 14) _) _
  simp only [Act.put, List.setIfInBounds_toArray, List.set_cons_zero, List.set_cons_succ]
  refine wpAnyH_take (i := 15) (v := ?v15) rfl (by kernel_rfl) (by kernel_rfl) (by kernel_rfl) (fun _ _ _ h => h) (Or.inl ⟨by rfl, ?hy15⟩) hHeld ?rest15
  case hy15 => (intro W hSw; (try dsimp only at hSw); obtain ⟨⟨⟨hSa, hSb⟩, ⟨hSc, hSd⟩⟩, hSe⟩ := hSw; go_simp; all_goals (with_reducible rfl))
  change wpAnyH _ _ _ _ _ _ _ (Act.put _ (some 20) _) _
  simp only [Act.put, List.setIfInBounds_toArray, List.set_cons_zero, List.set_cons_succ]
  refine wpAnyH_take (i := 1) (v := ?v1) rfl (by kernel_rfl) (by kernel_rfl) (by kernel_rfl) (fun _ _ _ h => h) (Or.inl ⟨by rfl, ?hy1⟩) hHeld ?rest1
  case hy1 => (intro W hSw; (try dsimp only at hSw); obtain ⟨⟨⟨hSa, hSb⟩, ⟨hSc, hSd⟩⟩, hSe⟩ := hSw; go_simp; all_goals (with_reducible rfl))
  change wpAnyH _ _ _ _ _ _ _ (Act.put _ (some 6) _) _
  simp only [Act.put, List.setIfInBounds_toArray, List.set_cons_zero, List.set_cons_succ]
  refine wpAnyH_take (i := 3) (v := ?v3) rfl (by kernel_rfl) (by kernel_rfl) (by kernel_rfl) (fun _ _ _ h => h) (Or.inl ⟨by rfl, ?hy3⟩) hHeld ?rest3
  case hy3 => (intro W hSw; (try dsimp only at hSw); obtain ⟨⟨⟨hSa, hSb⟩, ⟨hSc, hSd⟩⟩, hSe⟩ := hSw; go_simp; all_goals (with_reducible rfl))
  change wpAnyH _ _ _ _ _ _ _ (Act.put _ (some 8) _) _
  simp only [Act.put, List.setIfInBounds_toArray, List.set_cons_zero, List.set_cons_succ]
  refine wpAnyH_take (i := 8) (v := ?v8) rfl (by kernel_rfl) (by kernel_rfl) (by kernel_rfl) (fun _ _ _ h => h) (Or.inl ⟨by rfl, ?hy8⟩) hHeld ?rest8
  case hy8 => (intro W hSw; (try dsimp only at hSw); obtain ⟨⟨⟨hSa, hSb⟩, ⟨hSc, hSd⟩⟩, hSe⟩ := hSw; go_simp; all_goals (with_reducible rfl))
  change wpAnyH _ _ _ _ _ _ _ (Act.put _ (some 13) _) _
  simp only [Act.put, List.setIfInBounds_toArray, List.set_cons_zero, List.set_cons_succ]
  refine wpAnyH_take (i := 10) (v := ?v10) rfl (by kernel_rfl) (by kernel_rfl) (by kernel_rfl) (fun _ _ _ h => h) (Or.inl ⟨by rfl, ?hy10⟩) hHeld ?rest10
  case hy10 => (intro W hSw; (try dsimp only at hSw); obtain ⟨⟨⟨hSa, hSb⟩, ⟨hSc, hSd⟩⟩, hSe⟩ := hSw; go_simp; all_goals (with_reducible rfl))
  change wpAnyH _ _ _ _ _ _ _ (Act.put _ (some 15) _) _
  simp only [Act.put, List.setIfInBounds_toArray, List.set_cons_zero, List.set_cons_succ]
  refine wpAnyH_take (i := 16) (v := ?v16) rfl (by kernel_rfl) (by kernel_rfl) (by kernel_rfl) (fun _ _ _ h => h) (Or.inl ⟨by rfl, ?hy16⟩) hHeld ?rest16
  case hy16 => (intro W hSw; (try dsimp only at hSw); obtain ⟨⟨⟨hSa, hSb⟩, ⟨hSc, hSd⟩⟩, hSe⟩ := hSw; go_simp; all_goals (with_reducible rfl))
  change wpAnyH _ _ _ _ _ _ _ (Act.put _ (some 21) _) _
  simp only [Act.put, List.setIfInBounds_toArray, List.set_cons_zero, List.set_cons_succ]
  refine wpAnyH_take (i := 4) (v := ?v4) rfl (by kernel_rfl) (by kernel_rfl) (by kernel_rfl) (fun _ _ _ h => h) (Or.inl ⟨by rfl, ?hy4⟩) hHeld ?rest4
  case hy4 => (intro W hSw; (try dsimp only at hSw); obtain ⟨⟨⟨hSa, hSb⟩, ⟨hSc, hSd⟩⟩, hSe⟩ := hSw; go_simp; all_goals (with_reducible rfl))
  change wpAnyH _ _ _ _ _ _ _ (Act.put _ (some 9) _) _
  simp only [Act.put, List.setIfInBounds_toArray, List.set_cons_zero, List.set_cons_succ]
  refine wpAnyH_take (i := 11) (v := ?v11) rfl (by kernel_rfl) (by kernel_rfl) (by kernel_rfl) (fun _ _ _ h => h) (Or.inl ⟨by rfl, ?hy11⟩) hHeld ?rest11
  case hy11 => (intro W hSw; (try dsimp only at hSw); obtain ⟨⟨⟨hSa, hSb⟩, ⟨hSc, hSd⟩⟩, hSe⟩ := hSw; go_simp; all_goals (with_reducible rfl))
  change wpAnyH _ _ _ _ _ _ _ (Act.put _ (some 16) _) _
  simp only [Act.put, List.setIfInBounds_toArray, List.set_cons_zero, List.set_cons_succ]
  refine wpAnyH_take (i := 17) (v := ?v17) rfl (by kernel_rfl) (by kernel_rfl) (by kernel_rfl) (fun _ _ _ h => h) (Or.inl ⟨by rfl, ?hy17⟩) hHeld ?rest17
  case hy17 => (intro W hSw; (try dsimp only at hSw); obtain ⟨⟨⟨hSa, hSb⟩, ⟨hSc, hSd⟩⟩, hSe⟩ := hSw; go_simp; all_goals (with_reducible rfl))
  change wpAnyH _ _ _ _ _ _ _ (Act.put _ (some 22) _) _
  simp only [Act.put, List.setIfInBounds_toArray, List.set_cons_zero, List.set_cons_succ]
  refine wpAnyH_take (i := 5) (v := ?v5) rfl (by kernel_rfl) (by kernel_rfl) (by kernel_rfl) (fun _ _ _ h => h) (Or.inl ⟨by rfl, ?hy5⟩) hHeld ?rest5
  case hy5 => (intro W hSw; (try dsimp only at hSw); obtain ⟨⟨⟨hSa, hSb⟩, ⟨hSc, hSd⟩⟩, hSe⟩ := hSw; go_simp; all_goals (with_reducible rfl))
  change wpAnyH _ _ _ _ _ _ _ (Act.put _ (some 10) _) _
  simp only [Act.put, List.setIfInBounds_toArray, List.set_cons_zero, List.set_cons_succ]
  refine wpAnyH_take (i := 12) (v := ?v12) rfl (by kernel_rfl) (by kernel_rfl) (by kernel_rfl) (fun _ _ _ h => h) (Or.inl ⟨by rfl, ?hy12⟩) hHeld ?rest12
  case hy12 => (intro W hSw; (try dsimp only at hSw); obtain ⟨⟨⟨hSa, hSb⟩, ⟨hSc, hSd⟩⟩, hSe⟩ := hSw; go_simp; all_goals (with_reducible rfl))
  change wpAnyH _ _ _ _ _ _ _ (Act.put _ (some 17) _) _
  simp only [Act.put, List.setIfInBounds_toArray, List.set_cons_zero, List.set_cons_succ]
  refine wpAnyH_take (i := 18) (v := ?v18) rfl (by kernel_rfl) (by kernel_rfl) (by kernel_rfl) (fun _ _ _ h => h) (Or.inl ⟨by rfl, ?hy18⟩) hHeld ?rest18
  case hy18 => (intro W hSw; (try dsimp only at hSw); obtain ⟨⟨⟨hSa, hSb⟩, ⟨hSc, hSd⟩⟩, hSe⟩ := hSw; go_simp; all_goals (with_reducible rfl))
  change wpAnyH _ _ _ _ _ _ _ (Act.put _ (some 23) _) _
  simp only [Act.put, List.setIfInBounds_toArray, List.set_cons_zero, List.set_cons_succ]
  refine wpAnyH_ready (rs := [6]) (by kernel_rfl) (by simp) ?_
  refine AllReadyH.cons rfl (fun K hK => ?_) AllReadyH.nil
  try simp only [List.getElem_toArray, List.getElem_cons_succ, List.getElem_cons_zero]
  go_simp
  refine (calls_args H1.out (by rfl)).mono ?_
  rintro e w1 ⟨rfl, hF1⟩
  have HF1 := hide (HF0.out.join hF1)
  have hS1 := five_keep hF1 k0 k1 k2 k3 k4
  clear hF1
  refine hK.out _ _ hS1 (fun hHeld => ?_)
  clear hK K
  refine wpAnyH_ready (rs := [13]) (by kernel_rfl) (by simp) ?_
  refine AllReadyH.cons rfl (fun K hK => ?_) AllReadyH.nil
  try simp only [List.getElem_toArray, List.getElem_cons_succ, List.getElem_cons_zero]
  go_simp
  refine (calls_args (H2.out w1 HF1.out) (by rfl)).mono ?_
  rintro e w2 ⟨rfl, hF2⟩
  have HF2 := hide (HF1.out.join hF2)
  have hS2 := five_keep hF2 hS1.1.1.1 hS1.1.1.2 hS1.1.2.1 hS1.1.2.2 hS1.2
  clear hF2
  refine hK.out _ _ hS2 (fun hHeld => ?_)
  clear hK K
  refine wpAnyH_take (i := 14) (v := ?v14) rfl (by kernel_rfl) (by kernel_rfl) (by kernel_rfl) (fun _ _ _ h => h) (Or.inl ⟨by rfl, ?hy14⟩) hHeld ?rest14
  case hy14 => (intro W hSw; (try dsimp only at hSw); obtain ⟨⟨⟨hSa, hSb⟩, ⟨hSc, hSd⟩⟩, hSe⟩ := hSw; go_simp; all_goals (with_reducible rfl))
  change wpAnyH _ _ _ _ _ _ _ (Act.put _ (some 19) _) _
  simp only [Act.put, List.setIfInBounds_toArray, List.set_cons_zero, List.set_cons_succ]
  refine wpAnyH_take (i := 19) (v := ?v19) rfl (by kernel_rfl) (by kernel_rfl) (by kernel_rfl) (fun _ _ _ h => h) (Or.inl ⟨by rfl, ?hy19⟩) hHeld ?rest19
  case hy19 => (intro W hSw; (try dsimp only at hSw); obtain ⟨⟨⟨hSa, hSb⟩, ⟨hSc, hSd⟩⟩, hSe⟩ := hSw; go_simp; all_goals (with_reducible rfl))
  change wpAnyH _ _ _ _ _ _ _ (Act.put _ (some 24) _) _
  simp only [Act.put, List.setIfInBounds_toArray, List.set_cons_zero, List.set_cons_succ]
  refine wpAnyH_take (i := 20) (v := ?v20) rfl (by kernel_rfl) (by kernel_rfl) (by kernel_rfl) (fun _ _ _ h => h) (Or.inl ⟨by rfl, ?hy20⟩) hHeld ?rest20
  case hy20 => (intro W hSw; (try dsimp only at hSw); obtain ⟨⟨⟨hSa, hSb⟩, ⟨hSc, hSd⟩⟩, hSe⟩ := hSw; go_simp; all_goals (with_reducible rfl))
  change wpAnyH _ _ _ _ _ _ _ (Act.put _ (some 4) _) _
  simp only [Act.put, List.setIfInBounds_toArray, List.set_cons_zero, List.set_cons_succ]
  refine wpAnyH_done (by kernel_rfl) ?_ _
  have e1 : IntKind.i64.wrap (X + Y) = X + Y := wrap_i64_id _ (by omega) (by omega)
  have e2 : IntKind.i64.wrap (X + Y + (fu : Int)) = X + Y + (fu : Int) := wrap_i64_id _ (by omega) (by omega)
  rw [e1, e2]
  clear e1 e2
  go_wp2
  go_ret
  exact ⟨rfl, HF2.out⟩
end Go.Proofs.YtmefhngmgfmhoaaDoor

/-
  What a block's pieces count.
-/
namespace Go.Proofs.YtmefhngmgfmhoaaDoor
open Go.RowKit

/-- A tally in block A: its 317 numbers. -/
structure Tl (w : World) (A : Nat) (Z : List Int) : Prop where
  blk : w.heap[A]? = some (.cells (cellsZ Z).toArray 94 (0, 0))
  len : Z.length = 317

def inc (Z : List Int) (i : Nat) (d : Int) : List Int := Z.set i (at0 Z i + d)

theorem inc_len (Z : List Int) (i : Nat) (d : Int) : (inc Z i d).length = Z.length := by simp [inc]

theorem inc_at (Z : List Int) (i j : Nat) (d : Int) (hi : i < Z.length) : at0 (inc Z i d) j = if j = i then at0 Z i + d else at0 Z j := by
  unfold inc at0
  simp only [List.getD_eq_getElem?_getD]
  split
  · next h => subst h; simp [hi]
  · next h => rw [List.getElem?_set_ne (Ne.symm h)]

theorem Tl.cell {w : World} {A : Nat} {Z : List Int} (h : Tl w A Z) {i : Nat} (hi : i < 317) : w.cell? ⟨A, i, none⟩ = some (.int .i64 (at0 Z i)) :=
  cell_of (o := i) h.blk (by
    have : i < Z.length := by rw [h.len]; exact hi
    simp [cellsZ, List.getElem?_map, List.getElem?_eq_getElem this, at0])

theorem Tl.set {w : World} {A : Nat} {Z : List Int} (h : Tl w A Z) (i : Nat) (d : Int) : Tl (w.setCell ⟨A, i, none⟩ (.int .i64 (at0 Z i + d))) A (inc Z i d) :=
  ⟨by rw [heap_setCell_own _ h.blk]; simp [cellsZ, inc, List.map_set], by rw [inc_len]; exact h.len⟩

theorem Tl.fr {w w' : World} {S : Nat → Prop} {A : Nat} {Z : List Int} (h : Tl w A Z) (f : Fr S w w') (hn : ¬ S A) : Tl w' A Z := ⟨cells_at h.blk f hn, h.len⟩

/-- What a piece counts. -/
def addZ (Z : List Int) (p : Pc) : List Int :=
  if p.len = 0 then inc Z p.lit 1 else inc (inc (inc Z (lenMark p.len).sym 1) (286 + (dstMark p.back).sym) 1) 316 ((lenMark p.len).size + (dstMark p.back).size : Nat)

set_option maxHeartbeats 1600000 in
set_option maxRecDepth 100000 in
theorem tallyAdd_lit (A lt bk : Nat) (Z : List Int) (w : World) (h : Tl w A Z) (hl : lt < 256) (hz : 0 ≤ at0 Z lt ∧ at0 Z lt ≤ 10000000) :
    Calls Tryd.prog 51 #[.pointer (some ⟨A, 0, none⟩), .agg #[.int .u8 (lt : Int), .int .u16 0, .int .u16 (bk : Int)]] w fun e w' => e = .returned (.tuple #[]) ∧ Tl w' A (inc Z lt 1) ∧ Fr (fun i => i = A) w w' := by
  obtain ⟨K, hK⟩ : ∃ K, K = w.heap.size := ⟨_, rfl⟩
  obtain ⟨w0, hw0⟩ : ∃ w0, w0 = w.alloc (.cells #[.int .u8 (lt : Int), .int .u16 0, .int .u16 (bk : Int)] 88) := ⟨_, rfl⟩
  have hF0 : Fr (fun _ => False) w w0 := by rw [hw0]; exact Fr.of_alloc _ _
  have hb0 : w0.heap[K]? = some (.cells #[.int .u8 (lt : Int), .int .u16 0, .int .u16 (bk : Int)] 88 (0, 0)) := by rw [hw0]; exact heap_alloc_at hK
  have hT0 := h.fr hF0 (fun e => e)
  have c0 := cell_of (o := 0) hb0 rfl
  have c1 := cell_of (o := 1) hb0 rfl
  have cz := hT0.cell (i := lt) (by omega)
  have fz := frozen_of (o := lt) hT0.blk
  obtain ⟨x, hx⟩ : ∃ x, x = at0 Z lt := ⟨_, rfl⟩
  rw [← hx] at cz hz
  obtain ⟨hz0, hz1⟩ := hz
  have hli : (lt : Int) < 286 := by omega
  have hKA : K ≠ A := by have := lt_of h.blk; omega
  have HT0 := hide hT0
  have HF0 := hide hF0
  have Hw0 := hide hw0
  have HK := hide hK
  have Hx := hide hx
  clear h hT0 hF0 hw0 hK hx hb0
  go_enter Tryd.func51, Tryd.ntmps51
  go_wp2_with fail
  rw [← Hw0.out, ← HK.out]
  go_region
  all_goals
    go_wp2
    refine bodyPost_ret (results_none rfl _ _ _) rfl ?_
    have hs := HT0.out.set lt 1
    rw [← Hx.out] at hs
    refine ⟨rfl, hs.fr (Fr.of_drewN _ 1) (fun e => e), ?_⟩
    exact ((HF0.out.trans (Fr.of_setCell w0 ⟨A, lt, none⟩ _)).trans (Fr.of_drewN _ 1)).mono fun i _ e => by
      rcases e with (e | e) | e
      · exact e.elim
      · exact e
      · exact e.elim
end Go.Proofs.YtmefhngmgfmhoaaDoor

/-
  What a block's pieces count, as mathematics: the counts of a block's symbols give the bits of its pieces.
-/
namespace Go.Proofs.YtmefhngmgfmhoaaDoor
open Go.RowKit

def fL (Z : List Int) : List Int := Z.take 286
def fD (Z : List Int) : List Int := (Z.drop 286).take 30

theorem fL_len {Z : List Int} (h : Z.length = 317) : (fL Z).length = 286 := by simp [fL, h]
theorem fD_len {Z : List Int} (h : Z.length = 317) : (fD Z).length = 30 := by simp [fD, h]
theorem fL_at (Z : List Int) {i : Nat} (h : i < 286) : at0 (fL Z) i = at0 Z i := by
  unfold fL at0
  simp only [List.getD_eq_getElem?_getD]
  rw [List.getElem?_take_of_lt h]
theorem fD_at (Z : List Int) {i : Nat} (h : i < 30) : at0 (fD Z) i = at0 Z (286 + i) := by
  unfold fD at0
  simp only [List.getD_eq_getElem?_getD]
  rw [List.getElem?_take_of_lt h, List.getElem?_drop]

theorem bitsF_step {ls f g : List Int} {j : Nat} : ∀ k, (∀ i, i < k → at0 g i = at0 f i + if i = j then 1 else 0) → bitsF ls g k = bitsF ls f k + if j < k then at0 ls j else 0 := by
  intro k
  induction k with
  | zero => intro _; simp [bitsF]
  | succ k ih =>
    intro h
    simp only [bitsF]
    rw [ih (fun i hi => h i (by omega)), h k (by omega)]
    by_cases hk : k = j
    · subst hk
      rw [if_pos rfl, if_neg (by omega), if_pos (by omega), Int.add_mul, Int.one_mul]
      omega
    · rw [if_neg hk, Int.add_zero]
      by_cases hj : j < k
      · rw [if_pos hj, if_pos (by omega)]; omega
      · rw [if_neg hj, if_neg (by omega)]; omega

/-- All bits of what is counted. -/
def allB (ll dl Z : List Int) : Int := bitsF ll (fL Z) 286 + bitsF dl (fD Z) 30 + at0 Z 316

theorem allB_L {ll dl Z : List Int} {j : Nat} (hj : j < 286) (hZ : Z.length = 317) : allB ll dl (inc Z j 1) = allB ll dl Z + at0 ll j := by
  have h1 := bitsF_step (ls := ll) (f := fL Z) (g := fL (inc Z j 1)) (j := j) 286 (fun i hi => by
    rw [fL_at _ hi, fL_at _ hi, inc_at _ _ _ _ (by omega)]
    split
    · next e => rw [e]
    · omega)
  have h2 := bitsF_step (ls := dl) (f := fD Z) (g := fD (inc Z j 1)) (j := 30) 30 (fun i hi => by
    rw [fD_at _ hi, fD_at _ hi, inc_at _ _ _ _ (by omega), if_neg (by omega), if_neg (by omega)]
    omega)
  rw [if_pos hj] at h1
  rw [if_neg (by omega)] at h2
  unfold allB
  rw [h1, h2, inc_at _ _ _ _ (by omega), if_neg (by omega)]
  omega

theorem allB_D {ll dl Z : List Int} {j : Nat} (hj : j < 30) (hZ : Z.length = 317) : allB ll dl (inc Z (286 + j) 1) = allB ll dl Z + at0 dl j := by
  have h1 := bitsF_step (ls := ll) (f := fL Z) (g := fL (inc Z (286 + j) 1)) (j := 286) 286 (fun i hi => by
    rw [fL_at _ hi, fL_at _ hi, inc_at _ _ _ _ (by omega), if_neg (by omega), if_neg (by omega)]
    omega)
  have h2 := bitsF_step (ls := dl) (f := fD Z) (g := fD (inc Z (286 + j) 1)) (j := j) 30 (fun i hi => by
    rw [fD_at _ hi, fD_at _ hi, inc_at _ _ _ _ (by omega)]
    by_cases e : i = j
    · rw [if_pos (by omega), if_pos e, e]
    · rw [if_neg (by omega), if_neg e]; omega)
  rw [if_neg (by omega)] at h1
  rw [if_pos hj] at h2
  unfold allB
  rw [h1, h2, inc_at _ _ _ _ (by omega), if_neg (by omega)]
  omega

theorem allB_F {ll dl Z : List Int} {d : Int} (hZ : Z.length = 317) : allB ll dl (inc Z 316 d) = allB ll dl Z + d := by
  have h1 := bitsF_step (ls := ll) (f := fL Z) (g := fL (inc Z 316 d)) (j := 286) 286 (fun i hi => by
    rw [fL_at _ hi, fL_at _ hi, inc_at _ _ _ _ (by omega), if_neg (by omega), if_neg (by omega)]
    omega)
  have h2 := bitsF_step (ls := dl) (f := fD Z) (g := fD (inc Z 316 d)) (j := 30) 30 (fun i hi => by
    rw [fD_at _ hi, fD_at _ hi, inc_at _ _ _ _ (by omega), if_neg (by omega), if_neg (by omega)]
    omega)
  rw [if_neg (by omega)] at h1
  rw [if_neg (by omega)] at h2
  unfold allB
  rw [h1, h2, inc_at _ _ _ _ (by omega), if_pos rfl]
  omega

theorem addZ_len (Z : List Int) (p : Pc) : (addZ Z p).length = Z.length := by
  unfold addZ
  split <;> simp [inc_len]

/-- The bits of one piece. -/
def Pc.cost (p : Pc) (ll dl : List Int) : Nat := if p.len = 0 then wn ll p.lit else wn ll (lenMark p.len).sym + (lenMark p.len).size + (wn dl (dstMark p.back).sym + (dstMark p.back).size)

theorem put_cost (p : Pc) (ll dl : List Int) (t : Bt) : (p.put ll dl t).p = t.p + p.cost ll dl := by
  unfold Pc.put Pc.cost
  split
  · rw [putM_p]; rfl
  · rw [putM_p, putM_p]; omega

theorem wn_at {ls : List Int} (h : good ls) (i : Nat) : ((wn ls i : Nat) : Int) = at0 ls i := by
  have := (at_all h i).1
  unfold wn
  omega

theorem allB_add {ll dl Z : List Int} (gl : good ll) (gd : good dl) {p : Pc} {out : List Nat} (hm : p.may out) (hZ : Z.length = 317) : allB ll dl (addZ Z p) = allB ll dl Z + (p.cost ll dl : Nat) := by
  unfold addZ Pc.cost
  rcases hm with ⟨h0, h1⟩ | ⟨h3, h4, h5, h6, _⟩
  · rw [if_pos h0, if_pos h0, allB_L (by omega) hZ, wn_at gl]
  · rw [if_neg (by omega), if_neg (by omega)]
    have a := lenMark_ok p.len h3 h4
    have b := dstMark_ok p.back h5 h6
    rw [allB_F (by simp [inc_len, hZ]), allB_D b.1 (by simp [inc_len, hZ]), allB_L (by omega) hZ]
    have e1 := wn_at gl (lenMark p.len).sym
    have e2 := wn_at gd (dstMark p.back).sym
    omega

def cntZ : List Pc → List Int → List Int
  | [], Z => Z
  | p :: ps, Z => cntZ ps (addZ Z p)

theorem cntZ_snoc (ps : List Pc) (p : Pc) (Z : List Int) : cntZ (ps ++ [p]) Z = addZ (cntZ ps Z) p := by
  induction ps generalizing Z with
  | nil => rfl
  | cons q ps ih => exact ih _

theorem cntZ_len (ps : List Pc) (Z : List Int) : (cntZ ps Z).length = Z.length := by
  induction ps generalizing Z with
  | nil => rfl
  | cons q ps ih => exact (ih _).trans (addZ_len Z q)

theorem puts_cost {ll dl : List Int} (gl : good ll) (gd : good dl) : ∀ (ps : List Pc) (out : List Nat) (Z : List Int) (t : Bt), mays ps out → Z.length = 317 → allB ll dl (cntZ ps Z) + (t.p : Int) = allB ll dl Z + ((puts ll dl ps t).p : Int) := by
  intro ps
  induction ps with
  | nil => intro out Z t _ _; rfl
  | cons p ps ih =>
    intro out Z t hm hZ
    have h1 := ih (p.play out) (addZ Z p) (p.put ll dl t) hm.2 ((addZ_len Z p).trans hZ)
    have h2 := allB_add (ll := ll) (dl := dl) gl gd hm.1 hZ
    have h3 := put_cost p ll dl t
    show allB ll dl (cntZ ps (addZ Z p)) + (t.p : Int) = allB ll dl Z + ((puts ll dl ps (p.put ll dl t)).p : Int)
    omega

def zero317 : List Int := List.replicate 317 0
theorem zero317_len : zero317.length = 317 := List.length_replicate
/-- What a block's pieces count, its end too. -/
def tally (ps : List Pc) : List Int := inc (cntZ ps zero317) 256 1

theorem tally_len (ps : List Pc) : (tally ps).length = 317 := by
  unfold tally
  rw [inc_len, cntZ_len, zero317_len]

theorem at_zero (i : Nat) : at0 zero317 i = 0 := by
  unfold zero317 at0
  simp only [List.getD_eq_getElem?_getD, List.getElem?_replicate]
  split <;> rfl

theorem bitsF_zero (ls : List Int) (f : List Int) : ∀ k, (∀ i, i < k → at0 f i = 0) → bitsF ls f k = 0 := by
  intro k
  induction k with
  | zero => intro _; rfl
  | succ k ih => intro h; simp only [bitsF]; rw [ih (fun i hi => h i (by omega)), h k (by omega)]; omega

/-- What is counted are the bits that are put. -/
theorem tally_cost {ll dl : List Int} (gl : good ll) (gd : good dl) {ps : List Pc} {out : List Nat} (hm : mays ps out) (t : Bt) : allB ll dl (tally ps) + (t.p : Int) = ((putP ll dl ps t).p : Int) := by
  have h1 := puts_cost (ll := ll) (dl := dl) gl gd ps out zero317 t hm zero317_len
  have h2 := allB_L (ll := ll) (dl := dl) (Z := cntZ ps zero317) (j := 256) (by omega) (by rw [cntZ_len, zero317_len])
  have h3 : allB ll dl zero317 = 0 := by
    unfold allB
    rw [bitsF_zero _ _ _ (fun i hi => by rw [fL_at _ hi]; exact at_zero i), bitsF_zero _ _ _ (fun i hi => by rw [fD_at _ hi]; exact at_zero _), at_zero]
    rfl
  have h4 : (putP ll dl ps t).p = (puts ll dl ps t).p + wn ll 256 := rfl
  have h5 := wn_at gl 256
  unfold tally
  omega

/-- The counts of n pieces. -/
structure Zn (Z : List Int) (n : Nat) : Prop where
  len : Z.length = 317
  low : ∀ i, 0 ≤ at0 Z i
  high : ∀ i, i < 316 → at0 Z i ≤ (n : Int)
  far : at0 Z 316 ≤ 18 * (n : Int)

theorem Zn.zero : Zn zero317 0 := ⟨zero317_len, fun i => by rw [at_zero]; omega, fun i _ => by rw [at_zero]; omega, by rw [at_zero]; omega⟩

theorem Zn.all {Z : List Int} {n : Nat} (h : Zn Z n) (i : Nat) : 0 ≤ at0 Z i ∧ at0 Z i ≤ 18 * (n : Int) := by
  refine ⟨h.low i, ?_⟩
  rcases Nat.lt_trichotomy i 316 with e | e | e
  · have := h.high i e; omega
  · rw [e]; exact h.far
  · have : at0 Z i = 0 := at0_end Z i (by have := h.len; omega)
    omega

theorem add_at {Z : List Int} {p : Pc} {out : List Nat} (hm : p.may out) (hZ : Z.length = 317) (i : Nat) :
    at0 Z i ≤ at0 (addZ Z p) i ∧ (i < 316 → at0 (addZ Z p) i ≤ at0 Z i + 1) ∧ at0 (addZ Z p) 316 ≤ at0 Z 316 + 18 := by
  unfold addZ
  rcases hm with ⟨h0, h1⟩ | ⟨h3, h4, h5, h6, _⟩
  · rw [if_pos h0, inc_at _ _ _ _ (by omega), inc_at _ _ _ _ (by omega), if_neg (show ¬ 316 = p.lit by omega)]
    split
    · next e => subst e; omega
    · omega
  · have a := lenMark_ok p.len h3 h4
    have b := dstMark_ok p.back h5 h6
    rw [if_neg (by omega)]
    generalize (lenMark p.len).size = s1 at *
    generalize (dstMark p.back).size = s2 at *
    generalize (lenMark p.len).sym = y1 at *
    generalize (dstMark p.back).sym = y2 at *
    have l1 : (inc Z y1 1).length = 317 := by rw [inc_len]; exact hZ
    have l2 : (inc (inc Z y1 1) (286 + y2) 1).length = 317 := by rw [inc_len]; exact l1
    have e316 : at0 (inc (inc (inc Z y1 1) (286 + y2) 1) 316 ((s1 + s2 : Nat) : Int)) 316 = at0 Z 316 + ((s1 + s2 : Nat) : Int) := by
      rw [inc_at _ _ _ _ (by omega), if_pos rfl, inc_at _ _ _ _ (by omega), if_neg (by omega), inc_at _ _ _ _ (by omega), if_neg (by omega)]
    rw [e316, inc_at _ _ _ _ (by omega), inc_at _ _ 316 _ (by omega), if_neg (show ¬ 316 = 286 + y2 by omega), inc_at _ _ 316 _ (by omega), if_neg (show ¬ 316 = y1 by omega)]
    rw [inc_at _ _ i _ (by omega), inc_at _ _ i _ (by omega), inc_at _ _ (286 + y2) _ (by omega), if_neg (show ¬ 286 + y2 = y1 by omega)]
    have hsz : ((s1 + s2 : Nat) : Int) ≤ 18 := by omega
    by_cases e1 : i = 316
    · subst e1; rw [if_pos rfl]; omega
    · rw [if_neg e1]
      by_cases e2 : i = 286 + y2
      · rw [if_pos e2, e2]; omega
      · rw [if_neg e2]
        by_cases e3 : i = y1
        · rw [if_pos e3, e3]; omega
        · rw [if_neg e3]; omega

theorem Zn.add {Z : List Int} {n : Nat} (h : Zn Z n) {p : Pc} {out : List Nat} (hm : p.may out) : Zn (addZ Z p) (n + 1) :=
  ⟨(addZ_len Z p).trans h.len, fun i => Int.le_trans (h.low i) (add_at hm h.len i).1, fun i hi => by have := (add_at hm h.len i).2.1 hi; have := h.high i hi; omega, by have := (add_at hm h.len 0).2.2; have := h.far; omega⟩

theorem Zn.cnt : ∀ (ps : List Pc) (out : List Nat) (Z : List Int) (n : Nat), Zn Z n → mays ps out → Zn (cntZ ps Z) (n + ps.length) := by
  intro ps
  induction ps with
  | nil => intro out Z n h _; exact h
  | cons p ps ih =>
    intro out Z n h hm
    have := ih (p.play out) (addZ Z p) (n + 1) (h.add hm.1) hm.2
    rw [show n + (p :: ps).length = n + 1 + ps.length by simp; omega]
    exact this

theorem cnt_mono : ∀ (ps : List Pc) (out : List Nat) (Z : List Int), mays ps out → Z.length = 317 → ∀ i, at0 Z i ≤ at0 (cntZ ps Z) i := by
  intro ps
  induction ps with
  | nil => intro out Z _ _ i; exact Int.le_refl _
  | cons p ps ih =>
    intro out Z hm hZ i
    exact Int.le_trans (add_at hm.1 hZ i).1 (ih (p.play out) (addZ Z p) hm.2 ((addZ_len Z p).trans hZ) i)

/-- A piece's symbols have been counted. -/
def Pc.seen (p : Pc) (Z : List Int) : Prop := if p.len = 0 then p.lit < 256 ∧ 1 ≤ at0 Z p.lit else ((lenMark p.len).sym < 286 ∧ 1 ≤ at0 Z (lenMark p.len).sym) ∧ (dstMark p.back).sym < 30 ∧ 1 ≤ at0 Z (286 + (dstMark p.back).sym)

theorem Pc.seen.more {p : Pc} {Z Y : List Int} (h : p.seen Z) (hY : ∀ i, at0 Z i ≤ at0 Y i) : p.seen Y := by
  unfold Pc.seen at *
  split
  · next h0 => rw [if_pos h0] at h; exact ⟨h.1, Int.le_trans h.2 (hY _)⟩
  · next h0 => rw [if_neg h0] at h; exact ⟨⟨h.1.1, Int.le_trans h.1.2 (hY _)⟩, h.2.1, Int.le_trans h.2.2 (hY _)⟩

theorem seen_add {Z : List Int} {p : Pc} {out : List Nat} (hm : p.may out) (hZ : Z.length = 317) (hl : ∀ i, 0 ≤ at0 Z i) : p.seen (addZ Z p) := by
  unfold Pc.seen addZ
  rcases hm with ⟨h0, h1⟩ | ⟨h3, h4, h5, h6, _⟩
  · rw [if_pos h0, if_pos h0, inc_at _ _ _ _ (by omega), if_pos rfl]
    have := hl p.lit
    omega
  · have a := lenMark_ok p.len h3 h4
    have b := dstMark_ok p.back h5 h6
    rw [if_neg (by omega), if_neg (by omega)]
    generalize (lenMark p.len).size = s1 at *
    generalize (dstMark p.back).size = s2 at *
    generalize (lenMark p.len).sym = y1 at *
    generalize (dstMark p.back).sym = y2 at *
    have l1 : (inc Z y1 1).length = 317 := by rw [inc_len]; exact hZ
    have l2 : (inc (inc Z y1 1) (286 + y2) 1).length = 317 := by rw [inc_len]; exact l1
    rw [inc_at _ _ _ _ (by omega), if_neg (by omega), inc_at _ _ _ _ (by omega), if_neg (by omega), inc_at _ _ _ _ (by omega), if_pos rfl]
    rw [inc_at _ _ _ _ (by omega), if_neg (by omega), inc_at _ _ _ _ (by omega), if_pos rfl, inc_at _ _ _ _ (by omega), if_neg (by omega)]
    have h1 := hl y1
    have h2 := hl (286 + y2)
    omega

theorem cnt_seen : ∀ (ps : List Pc) (out : List Nat) (Z : List Int), mays ps out → Z.length = 317 → (∀ i, 0 ≤ at0 Z i) → ∀ p ∈ ps, p.seen (cntZ ps Z) := by
  intro ps
  induction ps with
  | nil => intro out Z _ _ _ p hp; cases hp
  | cons q ps ih =>
    intro out Z hm hZ hl p hp
    have hl' : ∀ i, 0 ≤ at0 (addZ Z q) i := fun i => Int.le_trans (hl i) (add_at hm.1 hZ i).1
    rcases List.mem_cons.1 hp with rfl | hp
    · exact (seen_add hm.1 hZ hl).more (cnt_mono ps _ _ hm.2 ((addZ_len Z p).trans hZ))
    · exact ih (q.play out) (addZ Z q) hm.2 ((addZ_len Z q).trans hZ) hl' p hp

theorem tally_at (ps : List Pc) (i : Nat) : at0 (tally ps) i = at0 (cntZ ps zero317) i + if i = 256 then 1 else 0 := by
  unfold tally
  rw [inc_at _ _ _ _ (by rw [cntZ_len, zero317_len]; decide)]
  split
  · next e => rw [e]
  · omega

theorem tally_zn {ps : List Pc} {out : List Nat} (hm : mays ps out) : Zn (tally ps) (ps.length + 1) := by
  have h := Zn.cnt ps out zero317 0 Zn.zero hm
  refine ⟨tally_len ps, fun i => ?_, fun i hi => ?_, ?_⟩
  · rw [tally_at]; have := h.low i; split <;> omega
  · rw [tally_at]; have := h.high i hi; split <;> omega
  · rw [tally_at, if_neg (by omega)]; have := h.far; omega

theorem tally_seen {ps : List Pc} {out : List Nat} (hm : mays ps out) : ∀ p ∈ ps, p.seen (tally ps) := fun p hp =>
  (cnt_seen ps out zero317 hm zero317_len (fun i => by rw [at_zero]; omega) p hp).more (fun i => by rw [tally_at]; split <;> omega)

theorem tally_end {ps : List Pc} {out : List Nat} (hm : mays ps out) : 1 ≤ at0 (tally ps) 256 := by
  have h := Zn.cnt ps out zero317 0 Zn.zero hm
  rw [tally_at, if_pos rfl]
  have := h.low 256
  omega

theorem tally_good {ps : List Pc} {out : List Nat} (hm : mays ps out) (hp : ps.length ≤ 65535) : goodF (fL (tally ps)) ∧ goodF (fD (tally ps)) := by
  have h := tally_zn hm
  refine ⟨⟨by rw [fL_len h.len]; decide, fun i hi => ?_⟩, ⟨by rw [fD_len h.len]; decide, fun i hi => ?_⟩⟩
  · rw [fL_len h.len] at hi
    rw [fL_at _ hi]
    have := h.low i
    have := h.high i (by omega)
    omega
  · rw [fD_len h.len] at hi
    rw [fD_at _ hi]
    have := h.low (286 + i)
    have := h.high (286 + i) (by omega)
    omega

/-- Codes made of the counts have a word for each piece. -/
theorem tally_told {ps : List Pc} {out : List Nat} (hm : mays ps out) {oL oD : List Int} (h1 : LenOk (fL (tally ps)) 15 oL) (h2 : LenOk (fD (tally ps)) 15 oD) : ∀ p ∈ ps, p.told (trim oL 257) (trim oD 1) := by
  have tl := tally_len ps
  have kL : ∀ i, i < 286 → 1 ≤ at0 (tally ps) i → 1 ≤ at0 (trim oL 257) i ∧ i < (trim oL 257).length := fun i hi hp => by
    have := (h1.pos i (by rw [fL_len tl]; exact hi) (by rw [fL_at _ hi]; omega)).1
    refine ⟨by rw [trim_at]; omega, Nat.lt_of_not_le fun hc => ?_⟩
    have e := at0_end (trim oL 257) i hc
    rw [trim_at] at e
    omega
  have kD : ∀ i, i < 30 → 1 ≤ at0 (tally ps) (286 + i) → 1 ≤ at0 (trim oD 1) i ∧ i < (trim oD 1).length := fun i hi hp => by
    have := (h2.pos i (by rw [fD_len tl]; exact hi) (by rw [fD_at _ hi]; omega)).1
    refine ⟨by rw [trim_at]; omega, Nat.lt_of_not_le fun hc => ?_⟩
    have e := at0_end (trim oD 1) i hc
    rw [trim_at] at e
    omega
  intro p hp
  have hs := tally_seen hm p hp
  unfold Pc.seen at hs
  unfold Pc.told
  split
  · next h0 => rw [if_pos h0] at hs; exact kL _ (by omega) hs.2
  · next h0 => rw [if_neg h0] at hs; exact ⟨kL _ hs.1.1 hs.1.2, kD _ hs.2.1 hs.2.2⟩
end Go.Proofs.YtmefhngmgfmhoaaDoor

/-
  How a block's own codes are told, as mathematics: what is put is a block's own codes.
-/
namespace Go.Proofs.YtmefhngmgfmhoaaDoor
open Go.RowKit

def cntM : List Mk → List Int → List Int
  | [], Z => Z
  | m :: ms, Z => cntM ms (inc Z m.sym 1)

theorem cntM_snoc (ms : List Mk) (m : Mk) (Z : List Int) : cntM (ms ++ [m]) Z = inc (cntM ms Z) m.sym 1 := by
  induction ms generalizing Z with
  | nil => rfl
  | cons q ms ih => exact ih _

theorem cntM_len (ms : List Mk) (Z : List Int) : (cntM ms Z).length = Z.length := by
  induction ms generalizing Z with
  | nil => rfl
  | cons q ms ih => exact (ih _).trans (inc_len _ _ _)

theorem cntM_bd : ∀ (ms : List Mk) (Z : List Int) (n : Nat), Z.length = 19 → (∀ m ∈ ms, m.sym < 19) → (∀ i, 0 ≤ at0 Z i ∧ at0 Z i ≤ (n : Int)) → ∀ i, 0 ≤ at0 (cntM ms Z) i ∧ at0 (cntM ms Z) i ≤ ((n + ms.length : Nat) : Int) := by
  intro ms
  induction ms with
  | nil => intro Z n _ _ h i; exact h i
  | cons m ms ih =>
    intro Z n hZ hs h i
    have h1 := ih (inc Z m.sym 1) (n + 1) ((inc_len _ _ _).trans hZ) (fun q hq => hs q (by simp [hq])) (fun j => by
      rw [inc_at _ _ _ _ (by rw [hZ]; exact hs m (by simp))]
      have a := h j
      have b := h m.sym
      split <;> omega) i
    rw [show n + (m :: ms).length = n + 1 + ms.length by simp; omega]
    exact h1

theorem cntM_mono : ∀ (ms : List Mk) (Z : List Int), Z.length = 19 → (∀ m ∈ ms, m.sym < 19) → ∀ i, at0 Z i ≤ at0 (cntM ms Z) i := by
  intro ms
  induction ms with
  | nil => intro Z _ _ i; exact Int.le_refl _
  | cons m ms ih =>
    intro Z hZ hs i
    refine Int.le_trans ?_ (ih (inc Z m.sym 1) ((inc_len _ _ _).trans hZ) (fun q hq => hs q (by simp [hq])) i)
    rw [inc_at _ _ _ _ (by rw [hZ]; exact hs m (by simp))]
    split
    · next e => rw [e]; omega
    · omega

theorem cntM_seen : ∀ (ms : List Mk) (Z : List Int), Z.length = 19 → (∀ m ∈ ms, m.sym < 19) → (∀ i, 0 ≤ at0 Z i) → ∀ m ∈ ms, 1 ≤ at0 (cntM ms Z) m.sym := by
  intro ms
  induction ms with
  | nil => intro Z _ _ _ m hm; cases hm
  | cons q ms ih =>
    intro Z hZ hs h m hm
    have hq := hs q (by simp)
    have hs' : ∀ m ∈ ms, m.sym < 19 := fun q hq => hs q (by simp [hq])
    have h' : ∀ i, 0 ≤ at0 (inc Z q.sym 1) i := fun i => by
      rw [inc_at _ _ _ _ (by omega)]
      have a := h i
      have b := h q.sym
      split <;> omega
    rcases List.mem_cons.1 hm with rfl | hm
    · refine Int.le_trans ?_ (cntM_mono ms _ ((inc_len _ _ _).trans hZ) hs' m.sym)
      rw [inc_at _ _ _ _ (by omega), if_pos rfl]
      have := h m.sym
      omega
    · exact ih _ ((inc_len _ _ _).trans hZ) hs' h' m hm

theorem at_zero19 (i : Nat) : at0 zero19 i = 0 := by
  unfold zero19 at0
  simp only [List.getD_eq_getElem?_getD, List.getElem?_replicate]
  split <;> rfl

theorem zero19_len : zero19.length = 19 := rfl

theorem reps_all {ls : List Int} : ∀ (ms : List Mk) (i : Nat), Reps ls i ms → ms.length + i ≤ ls.length ∧ ∀ m ∈ ms, m.sym < 19 ∧ m.further < 2 ^ m.size ∧ m.size ≤ 13 := by
  intro ms
  induction ms with
  | nil => intro i h; exact ⟨by have : i = ls.length := h; simp; omega, fun m hm => by cases hm⟩
  | cons q ms ih =>
    rintro i ⟨n, h1, h2, h3⟩
    obtain ⟨a, b⟩ := ih _ h3
    have c := h1.lt
    refine ⟨by simp; omega, fun m hm => ?_⟩
    rcases List.mem_cons.1 hm with rfl | hm
    · refine ⟨c.2.1, c.1, ?_⟩
      rcases h1 with h | h | h | h <;> omega
    · exact b m hm

/-- The marks that tell the lengths of two codes. -/
def marksOf (ll dl : List Int) : List Mk := lmarks (ll ++ dl) (ll ++ dl).length 0
/-- How often each of them stands there. -/
def freqOf (ll dl : List Int) : List Int := cntM (marksOf ll dl) zero19
/-- The lengths of the code of code lengths as they are told. -/
def xsOf (cl : List Int) : List Nat := (trim (ordL cl) 4).map Int.toNat

theorem at0_app (ll dl : List Int) (i : Nat) : at0 (ll ++ dl) i = if i < ll.length then at0 ll i else at0 dl (i - ll.length) := by
  unfold at0
  simp only [List.getD_eq_getElem?_getD]
  split
  · next h => rw [List.getElem?_append_left h]
  · next h => rw [List.getElem?_append_right (by omega)]

theorem app_good {ll dl : List Int} (gl : good ll) (gd : good dl) : ∀ i, i < (ll ++ dl).length → 0 ≤ at0 (ll ++ dl) i ∧ at0 (ll ++ dl) i ≤ 15 := fun i _ => by
  rw [at0_app]
  split
  · exact at_all gl i
  · exact at_all gd _

theorem marks_reps {ll dl : List Int} (gl : good ll) (gd : good dl) : Reps (ll ++ dl) 0 (marksOf ll dl) := lmarks_reps (app_good gl gd) _ 0 (Nat.zero_le _) (by omega)

theorem freq_len (ll dl : List Int) : (freqOf ll dl).length = 19 := by
  unfold freqOf
  rw [cntM_len, zero19_len]

theorem freq_good {ll dl : List Int} (gl : good ll) (gd : good dl) (h : ll.length + dl.length ≤ 320) : goodF (freqOf ll dl) := by
  obtain ⟨a, b⟩ := reps_all _ _ (marks_reps gl gd)
  rw [List.length_append] at a
  refine ⟨by rw [freq_len]; decide, fun i _ => ?_⟩
  have := cntM_bd (marksOf ll dl) zero19 0 zero19_len (fun m hm => (b m hm).1) (fun i => by rw [at_zero19]; omega) i
  unfold freqOf
  omega

theorem trim_all {ls : List Int} {n : Nat} (h : ls.length ≤ n) : trim ls n = ls := by
  have : trimN ls n ls.length = ls.length := by
    cases e : ls.length with
    | zero => rfl
    | succ k => simp only [trimN]; rw [if_neg (by omega)]
  unfold trim
  rw [this, List.take_length]

theorem order_inj : ∀ j, j < 19 → ∀ k, k < 19 → order.getD j 0 = order.getD k 0 → j = k := by decide
theorem order_onto : ∀ i, i < 19 → ∃ j, j < 19 ∧ order.getD j 0 = i := by decide

theorem sets_len : ∀ (xs : List Nat) (i : Nat) (cl : List Int), (sets xs i cl).length = cl.length := by
  intro xs
  induction xs with
  | nil => intro i cl; rfl
  | cons x xs ih => intro i cl; rw [sets, ih, List.length_set]

theorem at0_setK (cl : List Int) (k j : Nat) (x : Int) (hk : k < cl.length) : at0 (cl.set k x) j = if j = k then x else at0 cl j := by
  unfold at0
  simp only [List.getD_eq_getElem?_getD]
  split
  · next h => subst h; simp [hk]
  · next h => rw [List.getElem?_set_ne (Ne.symm h)]

theorem sets_at : ∀ (xs : List Nat) (i : Nat) (cl : List Int), i + xs.length ≤ 19 → cl.length = 19 → ∀ j, j < 19 → at0 (sets xs i cl) (order.getD j 0) = if i ≤ j ∧ j < i + xs.length then ((xs.getD (j - i) 0 : Nat) : Int) else at0 cl (order.getD j 0) := by
  intro xs
  induction xs with
  | nil => intro i cl _ _ j _; rw [if_neg (by rw [List.length_nil]; omega)]; rfl
  | cons x xs ih =>
    intro i cl hi hc j hj
    rw [List.length_cons] at hi
    have hoi := order_lt i
    rw [sets, ih (i + 1) _ (by omega) (by rw [List.length_set]; exact hc) j hj, at0_setK _ _ _ _ (by omega)]
    by_cases hji : j = i
    · subst hji
      rw [if_neg (by omega), if_pos rfl, if_pos (by simp)]
      simp
    · have hno : ¬ order.getD j 0 = order.getD i 0 := fun e => hji (order_inj j hj i (by omega) e)
      rw [if_neg hno]
      by_cases hc2 : i + 1 ≤ j ∧ j < i + 1 + xs.length
      · rw [if_pos hc2, if_pos (by rw [List.length_cons]; omega), show j - i = (j - (i + 1)) + 1 by omega]
        simp
      · rw [if_neg hc2, if_neg (by rw [List.length_cons]; omega)]

theorem ordL_at (cl : List Int) (j : Nat) (hj : j < 19) : at0 (ordL cl) j = at0 cl (order.getD j 0) := by
  unfold ordL at0
  have h : j < order.length := hj
  simp only [List.getD_eq_getElem?_getD, List.getElem?_map, List.getElem?_eq_getElem h]
  rfl

theorem xs_len (cl : List Int) : 4 ≤ (xsOf cl).length ∧ (xsOf cl).length ≤ 19 := by
  obtain ⟨a, b, _⟩ := trimN_ok (ordL cl) 4 (ordL cl).length (at0_end (ordL cl))
  rw [ordL_len] at a b
  unfold xsOf
  rw [List.length_map, trim_len, ordL_len]
  exact ⟨b (by decide), a⟩

theorem xs_at (cl : List Int) (j : Nat) : (xsOf cl).getD j 0 = (at0 (ordL cl) j).toNat := by
  rw [← trim_at (ordL cl) 4 j]
  unfold xsOf at0
  simp only [List.getD_eq_getElem?_getD, List.getElem?_map]
  cases (trim (ordL cl) 4)[j]? <;> rfl

theorem xs_set {cl : List Int} (h19 : cl.length = 19) (h0 : ∀ i, 0 ≤ at0 cl i) : sets (xsOf cl) 0 zero19 = cl := by
  have hl := sets_len (xsOf cl) 0 zero19
  rw [zero19_len] at hl
  have hx := xs_len cl
  apply List.ext_getElem (by rw [hl, h19])
  intro i h1 h2
  obtain ⟨j, hj, rfl⟩ := order_onto i (by omega)
  have h := sets_at (xsOf cl) 0 zero19 (by omega) zero19_len j hj
  have e1 : at0 (sets (xsOf cl) 0 zero19) (order.getD j 0) = (sets (xsOf cl) 0 zero19)[order.getD j 0] := by unfold at0; rw [List.getD_eq_getElem?_getD, List.getElem?_eq_getElem h1]; rfl
  have e2 : at0 cl (order.getD j 0) = cl[order.getD j 0] := by unfold at0; rw [List.getD_eq_getElem?_getD, List.getElem?_eq_getElem h2]; rfl
  rw [← e1, ← e2, h]
  have h3 := h0 (order.getD j 0)
  split
  · rw [Nat.sub_zero, xs_at, ordL_at _ _ hj]; omega
  · next hc =>
    rw [at_zero19]
    have h4 : at0 (trim (ordL cl) 4) j = 0 := at0_end _ _ (by unfold xsOf at hc; rw [List.length_map] at hc; omega)
    rw [trim_at, ordL_at _ _ hj] at h4
    exact h4.symm

/-- What is told are a block's own codes. -/
theorem own_of {ll dl cl : List Int} (kl : Cok ll) (kd : Cok dl) (l1 : 257 ≤ ll.length) (l2 : ll.length ≤ 286) (d1 : 1 ≤ dl.length) (d2 : dl.length ≤ 30) (fin : 1 ≤ at0 ll 256) (h : LenOk (freqOf ll dl) 7 cl) : Own ll dl cl (xsOf cl) (marksOf ll dl) := by
  have fl := freq_len ll dl
  have hl : cl.length = 19 := by rw [h.len, fl]
  have hk : Cok cl := lenOk_cok h (by omega) (by omega)
  obtain ⟨_, b⟩ := reps_all _ _ (marks_reps kl.good kd.good)
  have hx := xs_len cl
  have h7 : ∀ i, 0 ≤ at0 cl i ∧ at0 cl i ≤ 7 := fun i => by
    by_cases hi : i < 19
    · by_cases hp : 0 < at0 (freqOf ll dl) i
      · have := h.pos i (by omega) hp; omega
      · rw [h.zero i (by omega) hp]; omega
    · rw [at0_end cl i (by omega)]; omega
  refine ⟨l1, l2, d1, d2, hx.1, hx.2, fun x hx' => ?_, xs_set hl (fun i => (h7 i).1), hl, hk, kl, kd, fin, marks_reps kl.good kd.good, fun m hm => ?_⟩
  · obtain ⟨j, hj, rfl⟩ := List.getElem_of_mem hx'
    have e := xs_at cl j
    rw [List.getD_eq_getElem?_getD, List.getElem?_eq_getElem hj] at e
    have e' : (xsOf cl)[j] = (at0 (ordL cl) j).toNat := e
    rw [e', ordL_at _ _ (by omega)]
    have := h7 (order.getD j 0)
    omega
  · have hs := (b m hm).1
    have := cntM_seen (marksOf ll dl) zero19 zero19_len (fun m hm => (b m hm).1) (fun i => by rw [at_zero19]; omega) m hm
    exact (h.pos m.sym (by omega) (by unfold freqOf; omega)).1
end Go.Proofs.YtmefhngmgfmhoaaDoor

/-
  What a piece that is a row counts.
-/
namespace Go.Proofs.YtmefhngmgfmhoaaDoor
open Go.RowKit

theorem set3 {w : World} {B : Nat} {a b c : Value} {T : TypeId} (x y z : Value) (h : w.heap[B]? = some (.cells #[a, b, c] T (0, 0))) :
    (((w.setCell ⟨B, 0, none⟩ x).setCell ⟨B, 1, none⟩ y).setCell ⟨B, 2, none⟩ z).heap[B]? = some (.cells #[x, y, z] T (0, 0)) ∧ Fr (fun i => i = B) w (((w.setCell ⟨B, 0, none⟩ x).setCell ⟨B, 1, none⟩ y).setCell ⟨B, 2, none⟩ z) := by
  have h1 := heap_setCell_own (o := 0) x h
  have h2 := heap_setCell_own (o := 1) y h1
  have h3 := heap_setCell_own (o := 2) z h2
  exact ⟨h3, ((Fr.of_setCell w ⟨B, 0, none⟩ x).join (Fr.of_setCell _ ⟨B, 1, none⟩ y)).join (Fr.of_setCell _ ⟨B, 2, none⟩ z)⟩

theorem fr_false_new {w w1 w2 : World} {S : Nat → Prop} (h : Fr (fun _ => False) w w1) (k : Fr S w1 w2) (hS : ∀ i, S i → w.heap.size ≤ i) : Fr (fun _ => False) w w2 :=
  (h.trans k).mono fun i hi e => e.elim id fun e => by have := hS i e; omega

set_option maxHeartbeats 3200000 in
set_option maxRecDepth 100000 in
theorem tallyAdd_row (A lt l b : Nat) (Z : List Int) (w : World) (h : Tl w A Z) (h3 : 3 ≤ l) (h258 : l ≤ 258) (hb1 : 1 ≤ b) (hb2 : b ≤ 32768) (hz : ∀ i, 0 ≤ at0 Z i ∧ at0 Z i ≤ 10000000) :
    Calls Tryd.prog 51 #[.pointer (some ⟨A, 0, none⟩), .agg #[.int .u8 (lt : Int), .int .u16 (l : Int), .int .u16 (b : Int)]] w fun e w' => e = .returned (.tuple #[]) ∧ Tl w' A (addZ Z ⟨lt, l, b⟩) ∧ Fr (fun i => i = A) w w' := by
  obtain ⟨K0, hK⟩ : ∃ K0, K0 = w.heap.size := ⟨_, rfl⟩
  obtain ⟨w0, hw0⟩ : ∃ w0, w0 = w.alloc (.cells #[.int .u8 (lt : Int), .int .u16 (l : Int), .int .u16 (b : Int)] 88) := ⟨_, rfl⟩
  have hF0 : Fr (fun _ => False) w w0 := by rw [hw0]; exact Fr.of_alloc _ _
  have hb0 : w0.heap[K0]? = some (.cells #[.int .u8 (lt : Int), .int .u16 (l : Int), .int .u16 (b : Int)] 88 (0, 0)) := by rw [hw0]; exact heap_alloc_at hK
  have hT0 := h.fr hF0 (fun e => e)
  have c1 := cell_of (o := 1) hb0 rfl
  have c2 := cell_of (o := 2) hb0 rfl
  have hAK : A < K0 := by have := lt_of h.blk; omega
  have HT0 := hide hT0
  have HF0 := hide hF0
  have Hw0 := hide hw0
  have HK := hide hK
  have hl0 : ((l : Int) == 0) = false := beq_false_of_ne (by omega)
  have Hb1 := hide hb1
  have Hb2 := hide hb2
  have H3 := hide h3
  have H258 := hide h258
  have Hz := hide hz
  have Hl1 := hide (lengthMark_c l)
  have Hd1 := hide (distanceMark_c b)
  have q1 : IntKind.i64.wrap (l : Int) = (l : Int) := wrap_i64_id _ (by omega) (by omega)
  have q2 : IntKind.i64.wrap (b : Int) = (b : Int) := wrap_i64_id _ (by omega) (by omega)
  clear h hT0 hF0 hw0 hK hb1 hb2 h3 h258 hz
  go_enter Tryd.func51, Tryd.ntmps51
  go_wp2_with fail
  rw [← Hw0.out, ← HK.out]
  go_cut [4, 5] from 9 to 62 (fun v4 v5 wx => ∃ B4 B5, v4 = .pointer (some ⟨B4, 0, none⟩) ∧ v5 = .pointer (some ⟨B5, 0, none⟩) ∧ wx.heap[B4]? = some (.cells #[.int .i64 ((lenMark l).sym : Int), .int .i64 ((lenMark l).further : Int), .int .i64 ((lenMark l).size : Int)] 122 (0, 0)) ∧ wx.heap[B5]? = some (.cells #[.int .i64 ((dstMark b).sym : Int), .int .i64 ((dstMark b).further : Int), .int .i64 ((dstMark b).size : Int)] 122 (0, 0)) ∧ B4 ≠ A ∧ B5 ≠ A ∧ Fr (fun _ => False) w0 wx)
  case first =>
    refine wp_region_held_drew (S := fun W' => W'.cell? ⟨K0, 1, none⟩ = some (.int .u16 (l : Int)) ∧ W'.cell? ⟨K0, 2, none⟩ = some (.int .u16 (b : Int))) (by kernel_rfl) ⟨c1, c2⟩ (fun hHeld => ?_)
    obtain ⟨wz, hwz⟩ : ∃ W, W = w0.drew := ⟨_, rfl⟩
    rw [← hwz] at hHeld ⊢
    have HFz := hide (show Fr (fun _ => False) w0 wz by rw [hwz]; exact Fr.of_drewN _ 1)
    clear hwz
    have hKz := cell_lt hHeld.1
    dsimp only at hKz
    have HF0 := hide (Fr.refl (fun _ => False) wz)
    refine wpAnyH_take (i := 0) (v := ?v0_1) rfl (by kernel_rfl) (by kernel_rfl) (by kernel_rfl) (fun _ _ _ h => h) (Or.inl ⟨by rfl, ?hy0_1⟩) hHeld ?rest0_1
    case hy0_1 => (intro W hSw; (try dsimp only at hSw); obtain ⟨hSa, hSb⟩ := hSw; go_simp; all_goals (with_reducible rfl))
    change wpAnyH _ _ _ _ _ _ _ (Act.put _ (some 20) _) _
    simp only [Act.put, List.setIfInBounds_toArray, List.set_cons_zero, List.set_cons_succ]
    refine wpAnyH_take (i := 4) (v := ?v4_1) rfl (by kernel_rfl) (by kernel_rfl) (by kernel_rfl) (fun _ _ _ h => h) (Or.inl ⟨by rfl, ?hy4_1⟩) hHeld ?rest4_1
    case hy4_1 => (intro W hSw; (try dsimp only at hSw); obtain ⟨hSa, hSb⟩ := hSw; go_simp; all_goals (with_reducible rfl))
    change wpAnyH _ _ _ _ _ _ _ (Act.put _ (some 24) _) _
    simp only [Act.put, List.setIfInBounds_toArray, List.set_cons_zero, List.set_cons_succ]
    refine wpAnyH_take (i := 1) (v := ?v1_2) rfl (by kernel_rfl) (by kernel_rfl) (by kernel_rfl) (fun _ _ _ h => h) (Or.inl ⟨by rfl, ?hy1_2⟩) hHeld ?rest1_2
    case hy1_2 => (intro W hSw; (try dsimp only at hSw); obtain ⟨hSa, hSb⟩ := hSw; go_simp; all_goals (with_reducible rfl))
    change wpAnyH _ _ _ _ _ _ _ (Act.put _ (some 21) _) _
    simp only [Act.put, List.setIfInBounds_toArray, List.set_cons_zero, List.set_cons_succ]
    refine wpAnyH_take (i := 5) (v := ?v5_2) rfl (by kernel_rfl) (by kernel_rfl) (by kernel_rfl) (fun _ _ _ h => h) (Or.inl ⟨by rfl, ?hy5_2⟩) hHeld ?rest5_2
    case hy5_2 => (intro W hSw; (try dsimp only at hSw); obtain ⟨hSa, hSb⟩ := hSw; go_simp; all_goals (with_reducible rfl))
    change wpAnyH _ _ _ _ _ _ _ (Act.put _ (some 25) _) _
    simp only [Act.put, List.setIfInBounds_toArray, List.set_cons_zero, List.set_cons_succ]
    refine wpAnyH_take (i := 2) (v := ?v2_3) rfl (by kernel_rfl) (by kernel_rfl) (by kernel_rfl) (fun _ _ _ h => h) (Or.inl ⟨by rfl, ?hy2_3⟩) hHeld ?rest2_3
    case hy2_3 => (intro W hSw; (try dsimp only at hSw); obtain ⟨hSa, hSb⟩ := hSw; go_simp; all_goals (with_reducible rfl))
    change wpAnyH _ _ _ _ _ _ _ (Act.put _ (some 22) _) _
    simp only [Act.put, List.setIfInBounds_toArray, List.set_cons_zero, List.set_cons_succ]
    refine wpAnyH_take (i := 6) (v := ?v6_3) rfl (by kernel_rfl) (by kernel_rfl) (by kernel_rfl) (fun _ _ _ h => h) (Or.inl ⟨by rfl, ?hy6_3⟩) hHeld ?rest6_3
    case hy6_3 => (intro W hSw; (try dsimp only at hSw); obtain ⟨hSa, hSb⟩ := hSw; go_simp; all_goals (with_reducible rfl))
    change wpAnyH _ _ _ _ _ _ _ (Act.put _ (some 26) _) _
    simp only [Act.put, List.setIfInBounds_toArray, List.set_cons_zero, List.set_cons_succ]
    refine wpAnyH_ready (rs := [3, 8, 9]) (by kernel_rfl) (by simp) ?_
    refine (AllReadyH.cons rfl (fun K hK => ?_) (AllReadyH.cons rfl (fun K hK => ?_) (AllReadyH.cons rfl (fun K hK => ?_) AllReadyH.nil)))
    · skip
      try simp only [List.getElem_toArray, List.getElem_cons_succ, List.getElem_cons_zero]
      go_simp
      refine (calls_args (Hl1.out _ H3.out H258.out) (by rfl)).mono ?_
      rintro e w1 ⟨rfl, hF1⟩
      have HF1 := hide (HF0.out.join hF1)
      refine hK.out _ _ ⟨(cell_blk (a := ⟨K0, 1, none⟩) (hF1.block K0 (cell_lt hHeld.1) (fun e => e))).trans hHeld.1, (cell_blk (a := ⟨K0, 2, none⟩) (hF1.block K0 (cell_lt hHeld.2) (fun e => e))).trans hHeld.2⟩ (fun hHeld => ?_)
      clear hK K
      refine wpAnyH_ready (rs := [7, 8, 9]) (by kernel_rfl) (by simp) ?_
      refine (AllReadyH.cons rfl (fun K hK => ?_) (AllReadyH.cons rfl (fun K hK => ?_) (AllReadyH.cons rfl (fun K hK => ?_) AllReadyH.nil)))
      · skip
        try simp only [List.getElem_toArray, List.getElem_cons_succ, List.getElem_cons_zero]
        go_simp
        refine (calls_args (Hd1.out _ Hb1.out Hb2.out) (by rfl)).mono ?_
        rintro e w2 ⟨rfl, hF2⟩
        have HF2 := hide (HF1.out.join hF2)
        refine hK.out _ _ ⟨(cell_blk (a := ⟨K0, 1, none⟩) (hF2.block K0 (cell_lt hHeld.1) (fun e => e))).trans hHeld.1, (cell_blk (a := ⟨K0, 2, none⟩) (hF2.block K0 (cell_lt hHeld.2) (fun e => e))).trans hHeld.2⟩ (fun hHeld => ?_)
        clear hK K
        refine wpAnyH_ready (rs := [8, 9]) (by kernel_rfl) (by simp) ?_
        refine (AllReadyH.cons rfl (fun K hK => ?_) (AllReadyH.cons rfl (fun K hK => ?_) AllReadyH.nil))
        · skip
          try simp only [List.getElem_toArray, List.getElem_cons_succ, List.getElem_cons_zero]
          go_simp
          obtain ⟨w3, hw3⟩ : ∃ W, W = w2.alloc (.cells #[.int .i64 0, .int .i64 0, .int .i64 0] 122) := ⟨_, rfl⟩
          obtain ⟨B8, hB8⟩ : ∃ B, B = w2.heap.size := ⟨_, rfl⟩
          rw [← hw3, ← hB8]
          have hF3 : Fr (fun _ => False) w2 w3 := by rw [hw3]; exact Fr.of_alloc _ _
          have hb8_3 : w3.heap[B8]? = some (.cells #[.int .i64 0, .int .i64 0, .int .i64 0] 122 (0, 0)) := by rw [hw3]; exact heap_alloc_at hB8
          have hle8 : wz.heap.size ≤ B8 := by rw [hB8]; exact HF2.out.size
          clear hw3 hB8
          have HF3 := hide (HF2.out.join hF3)
          refine hK.out _ _ ⟨(cell_blk (a := ⟨K0, 1, none⟩) (hF3.block K0 (cell_lt hHeld.1) (fun e => e))).trans hHeld.1, (cell_blk (a := ⟨K0, 2, none⟩) (hF3.block K0 (cell_lt hHeld.2) (fun e => e))).trans hHeld.2⟩ (fun hHeld => ?_)
          clear hK K
          refine wpAnyH_ready (rs := [9]) (by kernel_rfl) (by simp) ?_
          refine (AllReadyH.cons rfl (fun K hK => ?_) AllReadyH.nil)
          try simp only [List.getElem_toArray, List.getElem_cons_succ, List.getElem_cons_zero]
          go_simp
          obtain ⟨w4, hw4⟩ : ∃ W, W = w3.alloc (.cells #[.int .i64 0, .int .i64 0, .int .i64 0] 122) := ⟨_, rfl⟩
          obtain ⟨B9, hB9⟩ : ∃ B, B = w3.heap.size := ⟨_, rfl⟩
          rw [← hw4, ← hB9]
          have hF4 : Fr (fun _ => False) w3 w4 := by rw [hw4]; exact Fr.of_alloc _ _
          have hb9_4 : w4.heap[B9]? = some (.cells #[.int .i64 0, .int .i64 0, .int .i64 0] 122 (0, 0)) := by rw [hw4]; exact heap_alloc_at hB9
          have hle9 : wz.heap.size ≤ B9 := by rw [hB9]; exact HF3.out.size
          have hne : B8 ≠ B9 := by have := lt_of hb8_3; omega
          clear hw4 hB9
          have HF4 := hide (HF3.out.join hF4)
          have hb8_4 := cells_at hb8_3 hF4 (fun e => e)
          refine hK.out _ _ ⟨(cell_blk (a := ⟨K0, 1, none⟩) (hF4.block K0 (cell_lt hHeld.1) (fun e => e))).trans hHeld.1, (cell_blk (a := ⟨K0, 2, none⟩) (hF4.block K0 (cell_lt hHeld.2) (fun e => e))).trans hHeld.2⟩ (fun hHeld => ?_)
          clear hK K
          refine wpAnyH_ready (rs := [10]) (by kernel_rfl) (by simp) ?_
          refine (AllReadyH.cons rfl (fun K hK => ?_) AllReadyH.nil)
          try simp only [List.getElem_toArray, List.getElem_cons_succ, List.getElem_cons_zero]
          have c0 := cell_of (o := 0) hb8_4 rfl
          have c1 := cell_of (o := 1) hb8_4 rfl
          have c2 := cell_of (o := 2) hb8_4 rfl
          have f0 := frozen_of (o := 0) hb8_4
          have f1 := frozen_of (o := 1) hb8_4
          have f2 := frozen_of (o := 2) hb8_4
          go_simp
          obtain ⟨w5, hw5⟩ : ∃ W, W = ((w4.setCell ⟨B8, 0, none⟩ (.int .i64 ((lenMark l).sym : Int))).setCell ⟨B8, 1, none⟩ (.int .i64 ((lenMark l).further : Int))).setCell ⟨B8, 2, none⟩ (.int .i64 ((lenMark l).size : Int)) := ⟨_, rfl⟩
          rw [← hw5]
          obtain ⟨hb8_5, hG5⟩ := set3 (.int .i64 ((lenMark l).sym : Int)) (.int .i64 ((lenMark l).further : Int)) (.int .i64 ((lenMark l).size : Int)) hb8_4
          rw [← hw5] at hb8_5 hG5
          have HF5 := hide (fr_false_new HF4.out hG5 (fun i e => by omega))
          have hb9_5 := cells_at hb9_4 hG5 (by omega)
          clear hw5 c0 c1 c2 f0 f1 f2
          refine hK.out _ _ ⟨(cell_blk (a := ⟨K0, 1, none⟩) (hG5.block K0 (cell_lt hHeld.1) (by omega))).trans hHeld.1, (cell_blk (a := ⟨K0, 2, none⟩) (hG5.block K0 (cell_lt hHeld.2) (by omega))).trans hHeld.2⟩ (fun hHeld => ?_)
          clear hK K
          refine wpAnyH_ready (rs := [11]) (by kernel_rfl) (by simp) ?_
          refine (AllReadyH.cons rfl (fun K hK => ?_) AllReadyH.nil)
          try simp only [List.getElem_toArray, List.getElem_cons_succ, List.getElem_cons_zero]
          have c0 := cell_of (o := 0) hb9_5 rfl
          have c1 := cell_of (o := 1) hb9_5 rfl
          have c2 := cell_of (o := 2) hb9_5 rfl
          have f0 := frozen_of (o := 0) hb9_5
          have f1 := frozen_of (o := 1) hb9_5
          have f2 := frozen_of (o := 2) hb9_5
          go_simp
          obtain ⟨w6, hw6⟩ : ∃ W, W = ((w5.setCell ⟨B9, 0, none⟩ (.int .i64 ((dstMark b).sym : Int))).setCell ⟨B9, 1, none⟩ (.int .i64 ((dstMark b).further : Int))).setCell ⟨B9, 2, none⟩ (.int .i64 ((dstMark b).size : Int)) := ⟨_, rfl⟩
          rw [← hw6]
          obtain ⟨hb9_6, hG6⟩ := set3 (.int .i64 ((dstMark b).sym : Int)) (.int .i64 ((dstMark b).further : Int)) (.int .i64 ((dstMark b).size : Int)) hb9_5
          rw [← hw6] at hb9_6 hG6
          have HF6 := hide (fr_false_new HF5.out hG6 (fun i e => by omega))
          have hb8_6 := cells_at hb8_5 hG6 (by omega)
          clear hw6 c0 c1 c2 f0 f1 f2
          refine hK.out _ _ ⟨(cell_blk (a := ⟨K0, 1, none⟩) (hG6.block K0 (cell_lt hHeld.1) (by omega))).trans hHeld.1, (cell_blk (a := ⟨K0, 2, none⟩) (hG6.block K0 (cell_lt hHeld.2) (by omega))).trans hHeld.2⟩ (fun hHeld => ?_)
          clear hK K
          refine wpAnyH_done (by kernel_rfl) ?_ _
          go_wp2
          go_meet
          exact ⟨B8, B9, rfl, rfl, hb8_6, hb9_6, by omega, by omega, HFz.out.join HF6.out⟩
        · skip
          try simp only [List.getElem_toArray, List.getElem_cons_succ, List.getElem_cons_zero]
          go_simp
          obtain ⟨w3, hw3⟩ : ∃ W, W = w2.alloc (.cells #[.int .i64 0, .int .i64 0, .int .i64 0] 122) := ⟨_, rfl⟩
          obtain ⟨B9, hB9⟩ : ∃ B, B = w2.heap.size := ⟨_, rfl⟩
          rw [← hw3, ← hB9]
          have hF3 : Fr (fun _ => False) w2 w3 := by rw [hw3]; exact Fr.of_alloc _ _
          have hb9_3 : w3.heap[B9]? = some (.cells #[.int .i64 0, .int .i64 0, .int .i64 0] 122 (0, 0)) := by rw [hw3]; exact heap_alloc_at hB9
          have hle9 : wz.heap.size ≤ B9 := by rw [hB9]; exact HF2.out.size
          clear hw3 hB9
          have HF3 := hide (HF2.out.join hF3)
          refine hK.out _ _ ⟨(cell_blk (a := ⟨K0, 1, none⟩) (hF3.block K0 (cell_lt hHeld.1) (fun e => e))).trans hHeld.1, (cell_blk (a := ⟨K0, 2, none⟩) (hF3.block K0 (cell_lt hHeld.2) (fun e => e))).trans hHeld.2⟩ (fun hHeld => ?_)
          clear hK K
          refine wpAnyH_ready (rs := [8]) (by kernel_rfl) (by simp) ?_
          refine (AllReadyH.cons rfl (fun K hK => ?_) AllReadyH.nil)
          try simp only [List.getElem_toArray, List.getElem_cons_succ, List.getElem_cons_zero]
          go_simp
          obtain ⟨w4, hw4⟩ : ∃ W, W = w3.alloc (.cells #[.int .i64 0, .int .i64 0, .int .i64 0] 122) := ⟨_, rfl⟩
          obtain ⟨B8, hB8⟩ : ∃ B, B = w3.heap.size := ⟨_, rfl⟩
          rw [← hw4, ← hB8]
          have hF4 : Fr (fun _ => False) w3 w4 := by rw [hw4]; exact Fr.of_alloc _ _
          have hb8_4 : w4.heap[B8]? = some (.cells #[.int .i64 0, .int .i64 0, .int .i64 0] 122 (0, 0)) := by rw [hw4]; exact heap_alloc_at hB8
          have hle8 : wz.heap.size ≤ B8 := by rw [hB8]; exact HF3.out.size
          have hne : B9 ≠ B8 := by have := lt_of hb9_3; omega
          clear hw4 hB8
          have HF4 := hide (HF3.out.join hF4)
          have hb9_4 := cells_at hb9_3 hF4 (fun e => e)
          refine hK.out _ _ ⟨(cell_blk (a := ⟨K0, 1, none⟩) (hF4.block K0 (cell_lt hHeld.1) (fun e => e))).trans hHeld.1, (cell_blk (a := ⟨K0, 2, none⟩) (hF4.block K0 (cell_lt hHeld.2) (fun e => e))).trans hHeld.2⟩ (fun hHeld => ?_)
          clear hK K
          refine wpAnyH_ready (rs := [10]) (by kernel_rfl) (by simp) ?_
          refine (AllReadyH.cons rfl (fun K hK => ?_) AllReadyH.nil)
          try simp only [List.getElem_toArray, List.getElem_cons_succ, List.getElem_cons_zero]
          have c0 := cell_of (o := 0) hb8_4 rfl
          have c1 := cell_of (o := 1) hb8_4 rfl
          have c2 := cell_of (o := 2) hb8_4 rfl
          have f0 := frozen_of (o := 0) hb8_4
          have f1 := frozen_of (o := 1) hb8_4
          have f2 := frozen_of (o := 2) hb8_4
          go_simp
          obtain ⟨w5, hw5⟩ : ∃ W, W = ((w4.setCell ⟨B8, 0, none⟩ (.int .i64 ((lenMark l).sym : Int))).setCell ⟨B8, 1, none⟩ (.int .i64 ((lenMark l).further : Int))).setCell ⟨B8, 2, none⟩ (.int .i64 ((lenMark l).size : Int)) := ⟨_, rfl⟩
          rw [← hw5]
          obtain ⟨hb8_5, hG5⟩ := set3 (.int .i64 ((lenMark l).sym : Int)) (.int .i64 ((lenMark l).further : Int)) (.int .i64 ((lenMark l).size : Int)) hb8_4
          rw [← hw5] at hb8_5 hG5
          have HF5 := hide (fr_false_new HF4.out hG5 (fun i e => by omega))
          have hb9_5 := cells_at hb9_4 hG5 (by omega)
          clear hw5 c0 c1 c2 f0 f1 f2
          refine hK.out _ _ ⟨(cell_blk (a := ⟨K0, 1, none⟩) (hG5.block K0 (cell_lt hHeld.1) (by omega))).trans hHeld.1, (cell_blk (a := ⟨K0, 2, none⟩) (hG5.block K0 (cell_lt hHeld.2) (by omega))).trans hHeld.2⟩ (fun hHeld => ?_)
          clear hK K
          refine wpAnyH_ready (rs := [11]) (by kernel_rfl) (by simp) ?_
          refine (AllReadyH.cons rfl (fun K hK => ?_) AllReadyH.nil)
          try simp only [List.getElem_toArray, List.getElem_cons_succ, List.getElem_cons_zero]
          have c0 := cell_of (o := 0) hb9_5 rfl
          have c1 := cell_of (o := 1) hb9_5 rfl
          have c2 := cell_of (o := 2) hb9_5 rfl
          have f0 := frozen_of (o := 0) hb9_5
          have f1 := frozen_of (o := 1) hb9_5
          have f2 := frozen_of (o := 2) hb9_5
          go_simp
          obtain ⟨w6, hw6⟩ : ∃ W, W = ((w5.setCell ⟨B9, 0, none⟩ (.int .i64 ((dstMark b).sym : Int))).setCell ⟨B9, 1, none⟩ (.int .i64 ((dstMark b).further : Int))).setCell ⟨B9, 2, none⟩ (.int .i64 ((dstMark b).size : Int)) := ⟨_, rfl⟩
          rw [← hw6]
          obtain ⟨hb9_6, hG6⟩ := set3 (.int .i64 ((dstMark b).sym : Int)) (.int .i64 ((dstMark b).further : Int)) (.int .i64 ((dstMark b).size : Int)) hb9_5
          rw [← hw6] at hb9_6 hG6
          have HF6 := hide (fr_false_new HF5.out hG6 (fun i e => by omega))
          have hb8_6 := cells_at hb8_5 hG6 (by omega)
          clear hw6 c0 c1 c2 f0 f1 f2
          refine hK.out _ _ ⟨(cell_blk (a := ⟨K0, 1, none⟩) (hG6.block K0 (cell_lt hHeld.1) (by omega))).trans hHeld.1, (cell_blk (a := ⟨K0, 2, none⟩) (hG6.block K0 (cell_lt hHeld.2) (by omega))).trans hHeld.2⟩ (fun hHeld => ?_)
          clear hK K
          refine wpAnyH_done (by kernel_rfl) ?_ _
          go_wp2
          go_meet
          exact ⟨B8, B9, rfl, rfl, hb8_6, hb9_6, by omega, by omega, HFz.out.join HF6.out⟩
      · skip
        try simp only [List.getElem_toArray, List.getElem_cons_succ, List.getElem_cons_zero]
        go_simp
        obtain ⟨w2, hw2⟩ : ∃ W, W = w1.alloc (.cells #[.int .i64 0, .int .i64 0, .int .i64 0] 122) := ⟨_, rfl⟩
        obtain ⟨B8, hB8⟩ : ∃ B, B = w1.heap.size := ⟨_, rfl⟩
        rw [← hw2, ← hB8]
        have hF2 : Fr (fun _ => False) w1 w2 := by rw [hw2]; exact Fr.of_alloc _ _
        have hb8_2 : w2.heap[B8]? = some (.cells #[.int .i64 0, .int .i64 0, .int .i64 0] 122 (0, 0)) := by rw [hw2]; exact heap_alloc_at hB8
        have hle8 : wz.heap.size ≤ B8 := by rw [hB8]; exact HF1.out.size
        clear hw2 hB8
        have HF2 := hide (HF1.out.join hF2)
        refine hK.out _ _ ⟨(cell_blk (a := ⟨K0, 1, none⟩) (hF2.block K0 (cell_lt hHeld.1) (fun e => e))).trans hHeld.1, (cell_blk (a := ⟨K0, 2, none⟩) (hF2.block K0 (cell_lt hHeld.2) (fun e => e))).trans hHeld.2⟩ (fun hHeld => ?_)
        clear hK K
        refine wpAnyH_ready (rs := [7, 9]) (by kernel_rfl) (by simp) ?_
        refine (AllReadyH.cons rfl (fun K hK => ?_) (AllReadyH.cons rfl (fun K hK => ?_) AllReadyH.nil))
        · skip
          try simp only [List.getElem_toArray, List.getElem_cons_succ, List.getElem_cons_zero]
          go_simp
          refine (calls_args (Hd1.out _ Hb1.out Hb2.out) (by rfl)).mono ?_
          rintro e w3 ⟨rfl, hF3⟩
          have HF3 := hide (HF2.out.join hF3)
          have hb8_3 := cells_at hb8_2 hF3 (fun e => e)
          refine hK.out _ _ ⟨(cell_blk (a := ⟨K0, 1, none⟩) (hF3.block K0 (cell_lt hHeld.1) (fun e => e))).trans hHeld.1, (cell_blk (a := ⟨K0, 2, none⟩) (hF3.block K0 (cell_lt hHeld.2) (fun e => e))).trans hHeld.2⟩ (fun hHeld => ?_)
          clear hK K
          refine wpAnyH_ready (rs := [9]) (by kernel_rfl) (by simp) ?_
          refine (AllReadyH.cons rfl (fun K hK => ?_) AllReadyH.nil)
          try simp only [List.getElem_toArray, List.getElem_cons_succ, List.getElem_cons_zero]
          go_simp
          obtain ⟨w4, hw4⟩ : ∃ W, W = w3.alloc (.cells #[.int .i64 0, .int .i64 0, .int .i64 0] 122) := ⟨_, rfl⟩
          obtain ⟨B9, hB9⟩ : ∃ B, B = w3.heap.size := ⟨_, rfl⟩
          rw [← hw4, ← hB9]
          have hF4 : Fr (fun _ => False) w3 w4 := by rw [hw4]; exact Fr.of_alloc _ _
          have hb9_4 : w4.heap[B9]? = some (.cells #[.int .i64 0, .int .i64 0, .int .i64 0] 122 (0, 0)) := by rw [hw4]; exact heap_alloc_at hB9
          have hle9 : wz.heap.size ≤ B9 := by rw [hB9]; exact HF3.out.size
          have hne : B8 ≠ B9 := by have := lt_of hb8_3; omega
          clear hw4 hB9
          have HF4 := hide (HF3.out.join hF4)
          have hb8_4 := cells_at hb8_3 hF4 (fun e => e)
          refine hK.out _ _ ⟨(cell_blk (a := ⟨K0, 1, none⟩) (hF4.block K0 (cell_lt hHeld.1) (fun e => e))).trans hHeld.1, (cell_blk (a := ⟨K0, 2, none⟩) (hF4.block K0 (cell_lt hHeld.2) (fun e => e))).trans hHeld.2⟩ (fun hHeld => ?_)
          clear hK K
          refine wpAnyH_ready (rs := [10]) (by kernel_rfl) (by simp) ?_
          refine (AllReadyH.cons rfl (fun K hK => ?_) AllReadyH.nil)
          try simp only [List.getElem_toArray, List.getElem_cons_succ, List.getElem_cons_zero]
          have c0 := cell_of (o := 0) hb8_4 rfl
          have c1 := cell_of (o := 1) hb8_4 rfl
          have c2 := cell_of (o := 2) hb8_4 rfl
          have f0 := frozen_of (o := 0) hb8_4
          have f1 := frozen_of (o := 1) hb8_4
          have f2 := frozen_of (o := 2) hb8_4
          go_simp
          obtain ⟨w5, hw5⟩ : ∃ W, W = ((w4.setCell ⟨B8, 0, none⟩ (.int .i64 ((lenMark l).sym : Int))).setCell ⟨B8, 1, none⟩ (.int .i64 ((lenMark l).further : Int))).setCell ⟨B8, 2, none⟩ (.int .i64 ((lenMark l).size : Int)) := ⟨_, rfl⟩
          rw [← hw5]
          obtain ⟨hb8_5, hG5⟩ := set3 (.int .i64 ((lenMark l).sym : Int)) (.int .i64 ((lenMark l).further : Int)) (.int .i64 ((lenMark l).size : Int)) hb8_4
          rw [← hw5] at hb8_5 hG5
          have HF5 := hide (fr_false_new HF4.out hG5 (fun i e => by omega))
          have hb9_5 := cells_at hb9_4 hG5 (by omega)
          clear hw5 c0 c1 c2 f0 f1 f2
          refine hK.out _ _ ⟨(cell_blk (a := ⟨K0, 1, none⟩) (hG5.block K0 (cell_lt hHeld.1) (by omega))).trans hHeld.1, (cell_blk (a := ⟨K0, 2, none⟩) (hG5.block K0 (cell_lt hHeld.2) (by omega))).trans hHeld.2⟩ (fun hHeld => ?_)
          clear hK K
          refine wpAnyH_ready (rs := [11]) (by kernel_rfl) (by simp) ?_
          refine (AllReadyH.cons rfl (fun K hK => ?_) AllReadyH.nil)
          try simp only [List.getElem_toArray, List.getElem_cons_succ, List.getElem_cons_zero]
          have c0 := cell_of (o := 0) hb9_5 rfl
          have c1 := cell_of (o := 1) hb9_5 rfl
          have c2 := cell_of (o := 2) hb9_5 rfl
          have f0 := frozen_of (o := 0) hb9_5
          have f1 := frozen_of (o := 1) hb9_5
          have f2 := frozen_of (o := 2) hb9_5
          go_simp
          obtain ⟨w6, hw6⟩ : ∃ W, W = ((w5.setCell ⟨B9, 0, none⟩ (.int .i64 ((dstMark b).sym : Int))).setCell ⟨B9, 1, none⟩ (.int .i64 ((dstMark b).further : Int))).setCell ⟨B9, 2, none⟩ (.int .i64 ((dstMark b).size : Int)) := ⟨_, rfl⟩
          rw [← hw6]
          obtain ⟨hb9_6, hG6⟩ := set3 (.int .i64 ((dstMark b).sym : Int)) (.int .i64 ((dstMark b).further : Int)) (.int .i64 ((dstMark b).size : Int)) hb9_5
          rw [← hw6] at hb9_6 hG6
          have HF6 := hide (fr_false_new HF5.out hG6 (fun i e => by omega))
          have hb8_6 := cells_at hb8_5 hG6 (by omega)
          clear hw6 c0 c1 c2 f0 f1 f2
          refine hK.out _ _ ⟨(cell_blk (a := ⟨K0, 1, none⟩) (hG6.block K0 (cell_lt hHeld.1) (by omega))).trans hHeld.1, (cell_blk (a := ⟨K0, 2, none⟩) (hG6.block K0 (cell_lt hHeld.2) (by omega))).trans hHeld.2⟩ (fun hHeld => ?_)
          clear hK K
          refine wpAnyH_done (by kernel_rfl) ?_ _
          go_wp2
          go_meet
          exact ⟨B8, B9, rfl, rfl, hb8_6, hb9_6, by omega, by omega, HFz.out.join HF6.out⟩
        · skip
          try simp only [List.getElem_toArray, List.getElem_cons_succ, List.getElem_cons_zero]
          go_simp
          obtain ⟨w3, hw3⟩ : ∃ W, W = w2.alloc (.cells #[.int .i64 0, .int .i64 0, .int .i64 0] 122) := ⟨_, rfl⟩
          obtain ⟨B9, hB9⟩ : ∃ B, B = w2.heap.size := ⟨_, rfl⟩
          rw [← hw3, ← hB9]
          have hF3 : Fr (fun _ => False) w2 w3 := by rw [hw3]; exact Fr.of_alloc _ _
          have hb9_3 : w3.heap[B9]? = some (.cells #[.int .i64 0, .int .i64 0, .int .i64 0] 122 (0, 0)) := by rw [hw3]; exact heap_alloc_at hB9
          have hle9 : wz.heap.size ≤ B9 := by rw [hB9]; exact HF2.out.size
          have hne : B8 ≠ B9 := by have := lt_of hb8_2; omega
          clear hw3 hB9
          have HF3 := hide (HF2.out.join hF3)
          have hb8_3 := cells_at hb8_2 hF3 (fun e => e)
          refine hK.out _ _ ⟨(cell_blk (a := ⟨K0, 1, none⟩) (hF3.block K0 (cell_lt hHeld.1) (fun e => e))).trans hHeld.1, (cell_blk (a := ⟨K0, 2, none⟩) (hF3.block K0 (cell_lt hHeld.2) (fun e => e))).trans hHeld.2⟩ (fun hHeld => ?_)
          clear hK K
          refine wpAnyH_ready (rs := [7]) (by kernel_rfl) (by simp) ?_
          refine (AllReadyH.cons rfl (fun K hK => ?_) AllReadyH.nil)
          try simp only [List.getElem_toArray, List.getElem_cons_succ, List.getElem_cons_zero]
          go_simp
          refine (calls_args (Hd1.out _ Hb1.out Hb2.out) (by rfl)).mono ?_
          rintro e w4 ⟨rfl, hF4⟩
          have HF4 := hide (HF3.out.join hF4)
          have hb8_4 := cells_at hb8_3 hF4 (fun e => e)
          have hb9_4 := cells_at hb9_3 hF4 (fun e => e)
          refine hK.out _ _ ⟨(cell_blk (a := ⟨K0, 1, none⟩) (hF4.block K0 (cell_lt hHeld.1) (fun e => e))).trans hHeld.1, (cell_blk (a := ⟨K0, 2, none⟩) (hF4.block K0 (cell_lt hHeld.2) (fun e => e))).trans hHeld.2⟩ (fun hHeld => ?_)
          clear hK K
          refine wpAnyH_ready (rs := [10]) (by kernel_rfl) (by simp) ?_
          refine (AllReadyH.cons rfl (fun K hK => ?_) AllReadyH.nil)
          try simp only [List.getElem_toArray, List.getElem_cons_succ, List.getElem_cons_zero]
          have c0 := cell_of (o := 0) hb8_4 rfl
          have c1 := cell_of (o := 1) hb8_4 rfl
          have c2 := cell_of (o := 2) hb8_4 rfl
          have f0 := frozen_of (o := 0) hb8_4
          have f1 := frozen_of (o := 1) hb8_4
          have f2 := frozen_of (o := 2) hb8_4
          go_simp
          obtain ⟨w5, hw5⟩ : ∃ W, W = ((w4.setCell ⟨B8, 0, none⟩ (.int .i64 ((lenMark l).sym : Int))).setCell ⟨B8, 1, none⟩ (.int .i64 ((lenMark l).further : Int))).setCell ⟨B8, 2, none⟩ (.int .i64 ((lenMark l).size : Int)) := ⟨_, rfl⟩
          rw [← hw5]
          obtain ⟨hb8_5, hG5⟩ := set3 (.int .i64 ((lenMark l).sym : Int)) (.int .i64 ((lenMark l).further : Int)) (.int .i64 ((lenMark l).size : Int)) hb8_4
          rw [← hw5] at hb8_5 hG5
          have HF5 := hide (fr_false_new HF4.out hG5 (fun i e => by omega))
          have hb9_5 := cells_at hb9_4 hG5 (by omega)
          clear hw5 c0 c1 c2 f0 f1 f2
          refine hK.out _ _ ⟨(cell_blk (a := ⟨K0, 1, none⟩) (hG5.block K0 (cell_lt hHeld.1) (by omega))).trans hHeld.1, (cell_blk (a := ⟨K0, 2, none⟩) (hG5.block K0 (cell_lt hHeld.2) (by omega))).trans hHeld.2⟩ (fun hHeld => ?_)
          clear hK K
          refine wpAnyH_ready (rs := [11]) (by kernel_rfl) (by simp) ?_
          refine (AllReadyH.cons rfl (fun K hK => ?_) AllReadyH.nil)
          try simp only [List.getElem_toArray, List.getElem_cons_succ, List.getElem_cons_zero]
          have c0 := cell_of (o := 0) hb9_5 rfl
          have c1 := cell_of (o := 1) hb9_5 rfl
          have c2 := cell_of (o := 2) hb9_5 rfl
          have f0 := frozen_of (o := 0) hb9_5
          have f1 := frozen_of (o := 1) hb9_5
          have f2 := frozen_of (o := 2) hb9_5
          go_simp
          obtain ⟨w6, hw6⟩ : ∃ W, W = ((w5.setCell ⟨B9, 0, none⟩ (.int .i64 ((dstMark b).sym : Int))).setCell ⟨B9, 1, none⟩ (.int .i64 ((dstMark b).further : Int))).setCell ⟨B9, 2, none⟩ (.int .i64 ((dstMark b).size : Int)) := ⟨_, rfl⟩
          rw [← hw6]
          obtain ⟨hb9_6, hG6⟩ := set3 (.int .i64 ((dstMark b).sym : Int)) (.int .i64 ((dstMark b).further : Int)) (.int .i64 ((dstMark b).size : Int)) hb9_5
          rw [← hw6] at hb9_6 hG6
          have HF6 := hide (fr_false_new HF5.out hG6 (fun i e => by omega))
          have hb8_6 := cells_at hb8_5 hG6 (by omega)
          clear hw6 c0 c1 c2 f0 f1 f2
          refine hK.out _ _ ⟨(cell_blk (a := ⟨K0, 1, none⟩) (hG6.block K0 (cell_lt hHeld.1) (by omega))).trans hHeld.1, (cell_blk (a := ⟨K0, 2, none⟩) (hG6.block K0 (cell_lt hHeld.2) (by omega))).trans hHeld.2⟩ (fun hHeld => ?_)
          clear hK K
          refine wpAnyH_done (by kernel_rfl) ?_ _
          go_wp2
          go_meet
          exact ⟨B8, B9, rfl, rfl, hb8_6, hb9_6, by omega, by omega, HFz.out.join HF6.out⟩
      · skip
        try simp only [List.getElem_toArray, List.getElem_cons_succ, List.getElem_cons_zero]
        go_simp
        obtain ⟨w2, hw2⟩ : ∃ W, W = w1.alloc (.cells #[.int .i64 0, .int .i64 0, .int .i64 0] 122) := ⟨_, rfl⟩
        obtain ⟨B9, hB9⟩ : ∃ B, B = w1.heap.size := ⟨_, rfl⟩
        rw [← hw2, ← hB9]
        have hF2 : Fr (fun _ => False) w1 w2 := by rw [hw2]; exact Fr.of_alloc _ _
        have hb9_2 : w2.heap[B9]? = some (.cells #[.int .i64 0, .int .i64 0, .int .i64 0] 122 (0, 0)) := by rw [hw2]; exact heap_alloc_at hB9
        have hle9 : wz.heap.size ≤ B9 := by rw [hB9]; exact HF1.out.size
        clear hw2 hB9
        have HF2 := hide (HF1.out.join hF2)
        refine hK.out _ _ ⟨(cell_blk (a := ⟨K0, 1, none⟩) (hF2.block K0 (cell_lt hHeld.1) (fun e => e))).trans hHeld.1, (cell_blk (a := ⟨K0, 2, none⟩) (hF2.block K0 (cell_lt hHeld.2) (fun e => e))).trans hHeld.2⟩ (fun hHeld => ?_)
        clear hK K
        refine wpAnyH_ready (rs := [7, 8]) (by kernel_rfl) (by simp) ?_
        refine (AllReadyH.cons rfl (fun K hK => ?_) (AllReadyH.cons rfl (fun K hK => ?_) AllReadyH.nil))
        · skip
          try simp only [List.getElem_toArray, List.getElem_cons_succ, List.getElem_cons_zero]
          go_simp
          refine (calls_args (Hd1.out _ Hb1.out Hb2.out) (by rfl)).mono ?_
          rintro e w3 ⟨rfl, hF3⟩
          have HF3 := hide (HF2.out.join hF3)
          have hb9_3 := cells_at hb9_2 hF3 (fun e => e)
          refine hK.out _ _ ⟨(cell_blk (a := ⟨K0, 1, none⟩) (hF3.block K0 (cell_lt hHeld.1) (fun e => e))).trans hHeld.1, (cell_blk (a := ⟨K0, 2, none⟩) (hF3.block K0 (cell_lt hHeld.2) (fun e => e))).trans hHeld.2⟩ (fun hHeld => ?_)
          clear hK K
          refine wpAnyH_ready (rs := [8]) (by kernel_rfl) (by simp) ?_
          refine (AllReadyH.cons rfl (fun K hK => ?_) AllReadyH.nil)
          try simp only [List.getElem_toArray, List.getElem_cons_succ, List.getElem_cons_zero]
          go_simp
          obtain ⟨w4, hw4⟩ : ∃ W, W = w3.alloc (.cells #[.int .i64 0, .int .i64 0, .int .i64 0] 122) := ⟨_, rfl⟩
          obtain ⟨B8, hB8⟩ : ∃ B, B = w3.heap.size := ⟨_, rfl⟩
          rw [← hw4, ← hB8]
          have hF4 : Fr (fun _ => False) w3 w4 := by rw [hw4]; exact Fr.of_alloc _ _
          have hb8_4 : w4.heap[B8]? = some (.cells #[.int .i64 0, .int .i64 0, .int .i64 0] 122 (0, 0)) := by rw [hw4]; exact heap_alloc_at hB8
          have hle8 : wz.heap.size ≤ B8 := by rw [hB8]; exact HF3.out.size
          have hne : B9 ≠ B8 := by have := lt_of hb9_3; omega
          clear hw4 hB8
          have HF4 := hide (HF3.out.join hF4)
          have hb9_4 := cells_at hb9_3 hF4 (fun e => e)
          refine hK.out _ _ ⟨(cell_blk (a := ⟨K0, 1, none⟩) (hF4.block K0 (cell_lt hHeld.1) (fun e => e))).trans hHeld.1, (cell_blk (a := ⟨K0, 2, none⟩) (hF4.block K0 (cell_lt hHeld.2) (fun e => e))).trans hHeld.2⟩ (fun hHeld => ?_)
          clear hK K
          refine wpAnyH_ready (rs := [10]) (by kernel_rfl) (by simp) ?_
          refine (AllReadyH.cons rfl (fun K hK => ?_) AllReadyH.nil)
          try simp only [List.getElem_toArray, List.getElem_cons_succ, List.getElem_cons_zero]
          have c0 := cell_of (o := 0) hb8_4 rfl
          have c1 := cell_of (o := 1) hb8_4 rfl
          have c2 := cell_of (o := 2) hb8_4 rfl
          have f0 := frozen_of (o := 0) hb8_4
          have f1 := frozen_of (o := 1) hb8_4
          have f2 := frozen_of (o := 2) hb8_4
          go_simp
          obtain ⟨w5, hw5⟩ : ∃ W, W = ((w4.setCell ⟨B8, 0, none⟩ (.int .i64 ((lenMark l).sym : Int))).setCell ⟨B8, 1, none⟩ (.int .i64 ((lenMark l).further : Int))).setCell ⟨B8, 2, none⟩ (.int .i64 ((lenMark l).size : Int)) := ⟨_, rfl⟩
          rw [← hw5]
          obtain ⟨hb8_5, hG5⟩ := set3 (.int .i64 ((lenMark l).sym : Int)) (.int .i64 ((lenMark l).further : Int)) (.int .i64 ((lenMark l).size : Int)) hb8_4
          rw [← hw5] at hb8_5 hG5
          have HF5 := hide (fr_false_new HF4.out hG5 (fun i e => by omega))
          have hb9_5 := cells_at hb9_4 hG5 (by omega)
          clear hw5 c0 c1 c2 f0 f1 f2
          refine hK.out _ _ ⟨(cell_blk (a := ⟨K0, 1, none⟩) (hG5.block K0 (cell_lt hHeld.1) (by omega))).trans hHeld.1, (cell_blk (a := ⟨K0, 2, none⟩) (hG5.block K0 (cell_lt hHeld.2) (by omega))).trans hHeld.2⟩ (fun hHeld => ?_)
          clear hK K
          refine wpAnyH_ready (rs := [11]) (by kernel_rfl) (by simp) ?_
          refine (AllReadyH.cons rfl (fun K hK => ?_) AllReadyH.nil)
          try simp only [List.getElem_toArray, List.getElem_cons_succ, List.getElem_cons_zero]
          have c0 := cell_of (o := 0) hb9_5 rfl
          have c1 := cell_of (o := 1) hb9_5 rfl
          have c2 := cell_of (o := 2) hb9_5 rfl
          have f0 := frozen_of (o := 0) hb9_5
          have f1 := frozen_of (o := 1) hb9_5
          have f2 := frozen_of (o := 2) hb9_5
          go_simp
          obtain ⟨w6, hw6⟩ : ∃ W, W = ((w5.setCell ⟨B9, 0, none⟩ (.int .i64 ((dstMark b).sym : Int))).setCell ⟨B9, 1, none⟩ (.int .i64 ((dstMark b).further : Int))).setCell ⟨B9, 2, none⟩ (.int .i64 ((dstMark b).size : Int)) := ⟨_, rfl⟩
          rw [← hw6]
          obtain ⟨hb9_6, hG6⟩ := set3 (.int .i64 ((dstMark b).sym : Int)) (.int .i64 ((dstMark b).further : Int)) (.int .i64 ((dstMark b).size : Int)) hb9_5
          rw [← hw6] at hb9_6 hG6
          have HF6 := hide (fr_false_new HF5.out hG6 (fun i e => by omega))
          have hb8_6 := cells_at hb8_5 hG6 (by omega)
          clear hw6 c0 c1 c2 f0 f1 f2
          refine hK.out _ _ ⟨(cell_blk (a := ⟨K0, 1, none⟩) (hG6.block K0 (cell_lt hHeld.1) (by omega))).trans hHeld.1, (cell_blk (a := ⟨K0, 2, none⟩) (hG6.block K0 (cell_lt hHeld.2) (by omega))).trans hHeld.2⟩ (fun hHeld => ?_)
          clear hK K
          refine wpAnyH_done (by kernel_rfl) ?_ _
          go_wp2
          go_meet
          exact ⟨B8, B9, rfl, rfl, hb8_6, hb9_6, by omega, by omega, HFz.out.join HF6.out⟩
        · skip
          try simp only [List.getElem_toArray, List.getElem_cons_succ, List.getElem_cons_zero]
          go_simp
          obtain ⟨w3, hw3⟩ : ∃ W, W = w2.alloc (.cells #[.int .i64 0, .int .i64 0, .int .i64 0] 122) := ⟨_, rfl⟩
          obtain ⟨B8, hB8⟩ : ∃ B, B = w2.heap.size := ⟨_, rfl⟩
          rw [← hw3, ← hB8]
          have hF3 : Fr (fun _ => False) w2 w3 := by rw [hw3]; exact Fr.of_alloc _ _
          have hb8_3 : w3.heap[B8]? = some (.cells #[.int .i64 0, .int .i64 0, .int .i64 0] 122 (0, 0)) := by rw [hw3]; exact heap_alloc_at hB8
          have hle8 : wz.heap.size ≤ B8 := by rw [hB8]; exact HF2.out.size
          have hne : B9 ≠ B8 := by have := lt_of hb9_2; omega
          clear hw3 hB8
          have HF3 := hide (HF2.out.join hF3)
          have hb9_3 := cells_at hb9_2 hF3 (fun e => e)
          refine hK.out _ _ ⟨(cell_blk (a := ⟨K0, 1, none⟩) (hF3.block K0 (cell_lt hHeld.1) (fun e => e))).trans hHeld.1, (cell_blk (a := ⟨K0, 2, none⟩) (hF3.block K0 (cell_lt hHeld.2) (fun e => e))).trans hHeld.2⟩ (fun hHeld => ?_)
          clear hK K
          refine wpAnyH_ready (rs := [7]) (by kernel_rfl) (by simp) ?_
          refine (AllReadyH.cons rfl (fun K hK => ?_) AllReadyH.nil)
          try simp only [List.getElem_toArray, List.getElem_cons_succ, List.getElem_cons_zero]
          go_simp
          refine (calls_args (Hd1.out _ Hb1.out Hb2.out) (by rfl)).mono ?_
          rintro e w4 ⟨rfl, hF4⟩
          have HF4 := hide (HF3.out.join hF4)
          have hb9_4 := cells_at hb9_3 hF4 (fun e => e)
          have hb8_4 := cells_at hb8_3 hF4 (fun e => e)
          refine hK.out _ _ ⟨(cell_blk (a := ⟨K0, 1, none⟩) (hF4.block K0 (cell_lt hHeld.1) (fun e => e))).trans hHeld.1, (cell_blk (a := ⟨K0, 2, none⟩) (hF4.block K0 (cell_lt hHeld.2) (fun e => e))).trans hHeld.2⟩ (fun hHeld => ?_)
          clear hK K
          refine wpAnyH_ready (rs := [10]) (by kernel_rfl) (by simp) ?_
          refine (AllReadyH.cons rfl (fun K hK => ?_) AllReadyH.nil)
          try simp only [List.getElem_toArray, List.getElem_cons_succ, List.getElem_cons_zero]
          have c0 := cell_of (o := 0) hb8_4 rfl
          have c1 := cell_of (o := 1) hb8_4 rfl
          have c2 := cell_of (o := 2) hb8_4 rfl
          have f0 := frozen_of (o := 0) hb8_4
          have f1 := frozen_of (o := 1) hb8_4
          have f2 := frozen_of (o := 2) hb8_4
          go_simp
          obtain ⟨w5, hw5⟩ : ∃ W, W = ((w4.setCell ⟨B8, 0, none⟩ (.int .i64 ((lenMark l).sym : Int))).setCell ⟨B8, 1, none⟩ (.int .i64 ((lenMark l).further : Int))).setCell ⟨B8, 2, none⟩ (.int .i64 ((lenMark l).size : Int)) := ⟨_, rfl⟩
          rw [← hw5]
          obtain ⟨hb8_5, hG5⟩ := set3 (.int .i64 ((lenMark l).sym : Int)) (.int .i64 ((lenMark l).further : Int)) (.int .i64 ((lenMark l).size : Int)) hb8_4
          rw [← hw5] at hb8_5 hG5
          have HF5 := hide (fr_false_new HF4.out hG5 (fun i e => by omega))
          have hb9_5 := cells_at hb9_4 hG5 (by omega)
          clear hw5 c0 c1 c2 f0 f1 f2
          refine hK.out _ _ ⟨(cell_blk (a := ⟨K0, 1, none⟩) (hG5.block K0 (cell_lt hHeld.1) (by omega))).trans hHeld.1, (cell_blk (a := ⟨K0, 2, none⟩) (hG5.block K0 (cell_lt hHeld.2) (by omega))).trans hHeld.2⟩ (fun hHeld => ?_)
          clear hK K
          refine wpAnyH_ready (rs := [11]) (by kernel_rfl) (by simp) ?_
          refine (AllReadyH.cons rfl (fun K hK => ?_) AllReadyH.nil)
          try simp only [List.getElem_toArray, List.getElem_cons_succ, List.getElem_cons_zero]
          have c0 := cell_of (o := 0) hb9_5 rfl
          have c1 := cell_of (o := 1) hb9_5 rfl
          have c2 := cell_of (o := 2) hb9_5 rfl
          have f0 := frozen_of (o := 0) hb9_5
          have f1 := frozen_of (o := 1) hb9_5
          have f2 := frozen_of (o := 2) hb9_5
          go_simp
          obtain ⟨w6, hw6⟩ : ∃ W, W = ((w5.setCell ⟨B9, 0, none⟩ (.int .i64 ((dstMark b).sym : Int))).setCell ⟨B9, 1, none⟩ (.int .i64 ((dstMark b).further : Int))).setCell ⟨B9, 2, none⟩ (.int .i64 ((dstMark b).size : Int)) := ⟨_, rfl⟩
          rw [← hw6]
          obtain ⟨hb9_6, hG6⟩ := set3 (.int .i64 ((dstMark b).sym : Int)) (.int .i64 ((dstMark b).further : Int)) (.int .i64 ((dstMark b).size : Int)) hb9_5
          rw [← hw6] at hb9_6 hG6
          have HF6 := hide (fr_false_new HF5.out hG6 (fun i e => by omega))
          have hb8_6 := cells_at hb8_5 hG6 (by omega)
          clear hw6 c0 c1 c2 f0 f1 f2
          refine hK.out _ _ ⟨(cell_blk (a := ⟨K0, 1, none⟩) (hG6.block K0 (cell_lt hHeld.1) (by omega))).trans hHeld.1, (cell_blk (a := ⟨K0, 2, none⟩) (hG6.block K0 (cell_lt hHeld.2) (by omega))).trans hHeld.2⟩ (fun hHeld => ?_)
          clear hK K
          refine wpAnyH_done (by kernel_rfl) ?_ _
          go_wp2
          go_meet
          exact ⟨B8, B9, rfl, rfl, hb8_6, hb9_6, by omega, by omega, HFz.out.join HF6.out⟩
    · skip
      try simp only [List.getElem_toArray, List.getElem_cons_succ, List.getElem_cons_zero]
      go_simp
      obtain ⟨w1, hw1⟩ : ∃ W, W = wz.alloc (.cells #[.int .i64 0, .int .i64 0, .int .i64 0] 122) := ⟨_, rfl⟩
      obtain ⟨B8, hB8⟩ : ∃ B, B = wz.heap.size := ⟨_, rfl⟩
      rw [← hw1, ← hB8]
      have hF1 : Fr (fun _ => False) wz w1 := by rw [hw1]; exact Fr.of_alloc _ _
      have hb8_1 : w1.heap[B8]? = some (.cells #[.int .i64 0, .int .i64 0, .int .i64 0] 122 (0, 0)) := by rw [hw1]; exact heap_alloc_at hB8
      have hle8 : wz.heap.size ≤ B8 := by rw [hB8]; exact HF0.out.size
      clear hw1 hB8
      have HF1 := hide (HF0.out.join hF1)
      refine hK.out _ _ ⟨(cell_blk (a := ⟨K0, 1, none⟩) (hF1.block K0 (cell_lt hHeld.1) (fun e => e))).trans hHeld.1, (cell_blk (a := ⟨K0, 2, none⟩) (hF1.block K0 (cell_lt hHeld.2) (fun e => e))).trans hHeld.2⟩ (fun hHeld => ?_)
      clear hK K
      refine wpAnyH_ready (rs := [3, 9]) (by kernel_rfl) (by simp) ?_
      refine (AllReadyH.cons rfl (fun K hK => ?_) (AllReadyH.cons rfl (fun K hK => ?_) AllReadyH.nil))
      · skip
        try simp only [List.getElem_toArray, List.getElem_cons_succ, List.getElem_cons_zero]
        go_simp
        refine (calls_args (Hl1.out _ H3.out H258.out) (by rfl)).mono ?_
        rintro e w2 ⟨rfl, hF2⟩
        have HF2 := hide (HF1.out.join hF2)
        have hb8_2 := cells_at hb8_1 hF2 (fun e => e)
        refine hK.out _ _ ⟨(cell_blk (a := ⟨K0, 1, none⟩) (hF2.block K0 (cell_lt hHeld.1) (fun e => e))).trans hHeld.1, (cell_blk (a := ⟨K0, 2, none⟩) (hF2.block K0 (cell_lt hHeld.2) (fun e => e))).trans hHeld.2⟩ (fun hHeld => ?_)
        clear hK K
        refine wpAnyH_ready (rs := [7, 9]) (by kernel_rfl) (by simp) ?_
        refine (AllReadyH.cons rfl (fun K hK => ?_) (AllReadyH.cons rfl (fun K hK => ?_) AllReadyH.nil))
        · skip
          try simp only [List.getElem_toArray, List.getElem_cons_succ, List.getElem_cons_zero]
          go_simp
          refine (calls_args (Hd1.out _ Hb1.out Hb2.out) (by rfl)).mono ?_
          rintro e w3 ⟨rfl, hF3⟩
          have HF3 := hide (HF2.out.join hF3)
          have hb8_3 := cells_at hb8_2 hF3 (fun e => e)
          refine hK.out _ _ ⟨(cell_blk (a := ⟨K0, 1, none⟩) (hF3.block K0 (cell_lt hHeld.1) (fun e => e))).trans hHeld.1, (cell_blk (a := ⟨K0, 2, none⟩) (hF3.block K0 (cell_lt hHeld.2) (fun e => e))).trans hHeld.2⟩ (fun hHeld => ?_)
          clear hK K
          refine wpAnyH_ready (rs := [9]) (by kernel_rfl) (by simp) ?_
          refine (AllReadyH.cons rfl (fun K hK => ?_) AllReadyH.nil)
          try simp only [List.getElem_toArray, List.getElem_cons_succ, List.getElem_cons_zero]
          go_simp
          obtain ⟨w4, hw4⟩ : ∃ W, W = w3.alloc (.cells #[.int .i64 0, .int .i64 0, .int .i64 0] 122) := ⟨_, rfl⟩
          obtain ⟨B9, hB9⟩ : ∃ B, B = w3.heap.size := ⟨_, rfl⟩
          rw [← hw4, ← hB9]
          have hF4 : Fr (fun _ => False) w3 w4 := by rw [hw4]; exact Fr.of_alloc _ _
          have hb9_4 : w4.heap[B9]? = some (.cells #[.int .i64 0, .int .i64 0, .int .i64 0] 122 (0, 0)) := by rw [hw4]; exact heap_alloc_at hB9
          have hle9 : wz.heap.size ≤ B9 := by rw [hB9]; exact HF3.out.size
          have hne : B8 ≠ B9 := by have := lt_of hb8_3; omega
          clear hw4 hB9
          have HF4 := hide (HF3.out.join hF4)
          have hb8_4 := cells_at hb8_3 hF4 (fun e => e)
          refine hK.out _ _ ⟨(cell_blk (a := ⟨K0, 1, none⟩) (hF4.block K0 (cell_lt hHeld.1) (fun e => e))).trans hHeld.1, (cell_blk (a := ⟨K0, 2, none⟩) (hF4.block K0 (cell_lt hHeld.2) (fun e => e))).trans hHeld.2⟩ (fun hHeld => ?_)
          clear hK K
          refine wpAnyH_ready (rs := [10]) (by kernel_rfl) (by simp) ?_
          refine (AllReadyH.cons rfl (fun K hK => ?_) AllReadyH.nil)
          try simp only [List.getElem_toArray, List.getElem_cons_succ, List.getElem_cons_zero]
          have c0 := cell_of (o := 0) hb8_4 rfl
          have c1 := cell_of (o := 1) hb8_4 rfl
          have c2 := cell_of (o := 2) hb8_4 rfl
          have f0 := frozen_of (o := 0) hb8_4
          have f1 := frozen_of (o := 1) hb8_4
          have f2 := frozen_of (o := 2) hb8_4
          go_simp
          obtain ⟨w5, hw5⟩ : ∃ W, W = ((w4.setCell ⟨B8, 0, none⟩ (.int .i64 ((lenMark l).sym : Int))).setCell ⟨B8, 1, none⟩ (.int .i64 ((lenMark l).further : Int))).setCell ⟨B8, 2, none⟩ (.int .i64 ((lenMark l).size : Int)) := ⟨_, rfl⟩
          rw [← hw5]
          obtain ⟨hb8_5, hG5⟩ := set3 (.int .i64 ((lenMark l).sym : Int)) (.int .i64 ((lenMark l).further : Int)) (.int .i64 ((lenMark l).size : Int)) hb8_4
          rw [← hw5] at hb8_5 hG5
          have HF5 := hide (fr_false_new HF4.out hG5 (fun i e => by omega))
          have hb9_5 := cells_at hb9_4 hG5 (by omega)
          clear hw5 c0 c1 c2 f0 f1 f2
          refine hK.out _ _ ⟨(cell_blk (a := ⟨K0, 1, none⟩) (hG5.block K0 (cell_lt hHeld.1) (by omega))).trans hHeld.1, (cell_blk (a := ⟨K0, 2, none⟩) (hG5.block K0 (cell_lt hHeld.2) (by omega))).trans hHeld.2⟩ (fun hHeld => ?_)
          clear hK K
          refine wpAnyH_ready (rs := [11]) (by kernel_rfl) (by simp) ?_
          refine (AllReadyH.cons rfl (fun K hK => ?_) AllReadyH.nil)
          try simp only [List.getElem_toArray, List.getElem_cons_succ, List.getElem_cons_zero]
          have c0 := cell_of (o := 0) hb9_5 rfl
          have c1 := cell_of (o := 1) hb9_5 rfl
          have c2 := cell_of (o := 2) hb9_5 rfl
          have f0 := frozen_of (o := 0) hb9_5
          have f1 := frozen_of (o := 1) hb9_5
          have f2 := frozen_of (o := 2) hb9_5
          go_simp
          obtain ⟨w6, hw6⟩ : ∃ W, W = ((w5.setCell ⟨B9, 0, none⟩ (.int .i64 ((dstMark b).sym : Int))).setCell ⟨B9, 1, none⟩ (.int .i64 ((dstMark b).further : Int))).setCell ⟨B9, 2, none⟩ (.int .i64 ((dstMark b).size : Int)) := ⟨_, rfl⟩
          rw [← hw6]
          obtain ⟨hb9_6, hG6⟩ := set3 (.int .i64 ((dstMark b).sym : Int)) (.int .i64 ((dstMark b).further : Int)) (.int .i64 ((dstMark b).size : Int)) hb9_5
          rw [← hw6] at hb9_6 hG6
          have HF6 := hide (fr_false_new HF5.out hG6 (fun i e => by omega))
          have hb8_6 := cells_at hb8_5 hG6 (by omega)
          clear hw6 c0 c1 c2 f0 f1 f2
          refine hK.out _ _ ⟨(cell_blk (a := ⟨K0, 1, none⟩) (hG6.block K0 (cell_lt hHeld.1) (by omega))).trans hHeld.1, (cell_blk (a := ⟨K0, 2, none⟩) (hG6.block K0 (cell_lt hHeld.2) (by omega))).trans hHeld.2⟩ (fun hHeld => ?_)
          clear hK K
          refine wpAnyH_done (by kernel_rfl) ?_ _
          go_wp2
          go_meet
          exact ⟨B8, B9, rfl, rfl, hb8_6, hb9_6, by omega, by omega, HFz.out.join HF6.out⟩
        · skip
          try simp only [List.getElem_toArray, List.getElem_cons_succ, List.getElem_cons_zero]
          go_simp
          obtain ⟨w3, hw3⟩ : ∃ W, W = w2.alloc (.cells #[.int .i64 0, .int .i64 0, .int .i64 0] 122) := ⟨_, rfl⟩
          obtain ⟨B9, hB9⟩ : ∃ B, B = w2.heap.size := ⟨_, rfl⟩
          rw [← hw3, ← hB9]
          have hF3 : Fr (fun _ => False) w2 w3 := by rw [hw3]; exact Fr.of_alloc _ _
          have hb9_3 : w3.heap[B9]? = some (.cells #[.int .i64 0, .int .i64 0, .int .i64 0] 122 (0, 0)) := by rw [hw3]; exact heap_alloc_at hB9
          have hle9 : wz.heap.size ≤ B9 := by rw [hB9]; exact HF2.out.size
          have hne : B8 ≠ B9 := by have := lt_of hb8_2; omega
          clear hw3 hB9
          have HF3 := hide (HF2.out.join hF3)
          have hb8_3 := cells_at hb8_2 hF3 (fun e => e)
          refine hK.out _ _ ⟨(cell_blk (a := ⟨K0, 1, none⟩) (hF3.block K0 (cell_lt hHeld.1) (fun e => e))).trans hHeld.1, (cell_blk (a := ⟨K0, 2, none⟩) (hF3.block K0 (cell_lt hHeld.2) (fun e => e))).trans hHeld.2⟩ (fun hHeld => ?_)
          clear hK K
          refine wpAnyH_ready (rs := [7]) (by kernel_rfl) (by simp) ?_
          refine (AllReadyH.cons rfl (fun K hK => ?_) AllReadyH.nil)
          try simp only [List.getElem_toArray, List.getElem_cons_succ, List.getElem_cons_zero]
          go_simp
          refine (calls_args (Hd1.out _ Hb1.out Hb2.out) (by rfl)).mono ?_
          rintro e w4 ⟨rfl, hF4⟩
          have HF4 := hide (HF3.out.join hF4)
          have hb8_4 := cells_at hb8_3 hF4 (fun e => e)
          have hb9_4 := cells_at hb9_3 hF4 (fun e => e)
          refine hK.out _ _ ⟨(cell_blk (a := ⟨K0, 1, none⟩) (hF4.block K0 (cell_lt hHeld.1) (fun e => e))).trans hHeld.1, (cell_blk (a := ⟨K0, 2, none⟩) (hF4.block K0 (cell_lt hHeld.2) (fun e => e))).trans hHeld.2⟩ (fun hHeld => ?_)
          clear hK K
          refine wpAnyH_ready (rs := [10]) (by kernel_rfl) (by simp) ?_
          refine (AllReadyH.cons rfl (fun K hK => ?_) AllReadyH.nil)
          try simp only [List.getElem_toArray, List.getElem_cons_succ, List.getElem_cons_zero]
          have c0 := cell_of (o := 0) hb8_4 rfl
          have c1 := cell_of (o := 1) hb8_4 rfl
          have c2 := cell_of (o := 2) hb8_4 rfl
          have f0 := frozen_of (o := 0) hb8_4
          have f1 := frozen_of (o := 1) hb8_4
          have f2 := frozen_of (o := 2) hb8_4
          go_simp
          obtain ⟨w5, hw5⟩ : ∃ W, W = ((w4.setCell ⟨B8, 0, none⟩ (.int .i64 ((lenMark l).sym : Int))).setCell ⟨B8, 1, none⟩ (.int .i64 ((lenMark l).further : Int))).setCell ⟨B8, 2, none⟩ (.int .i64 ((lenMark l).size : Int)) := ⟨_, rfl⟩
          rw [← hw5]
          obtain ⟨hb8_5, hG5⟩ := set3 (.int .i64 ((lenMark l).sym : Int)) (.int .i64 ((lenMark l).further : Int)) (.int .i64 ((lenMark l).size : Int)) hb8_4
          rw [← hw5] at hb8_5 hG5
          have HF5 := hide (fr_false_new HF4.out hG5 (fun i e => by omega))
          have hb9_5 := cells_at hb9_4 hG5 (by omega)
          clear hw5 c0 c1 c2 f0 f1 f2
          refine hK.out _ _ ⟨(cell_blk (a := ⟨K0, 1, none⟩) (hG5.block K0 (cell_lt hHeld.1) (by omega))).trans hHeld.1, (cell_blk (a := ⟨K0, 2, none⟩) (hG5.block K0 (cell_lt hHeld.2) (by omega))).trans hHeld.2⟩ (fun hHeld => ?_)
          clear hK K
          refine wpAnyH_ready (rs := [11]) (by kernel_rfl) (by simp) ?_
          refine (AllReadyH.cons rfl (fun K hK => ?_) AllReadyH.nil)
          try simp only [List.getElem_toArray, List.getElem_cons_succ, List.getElem_cons_zero]
          have c0 := cell_of (o := 0) hb9_5 rfl
          have c1 := cell_of (o := 1) hb9_5 rfl
          have c2 := cell_of (o := 2) hb9_5 rfl
          have f0 := frozen_of (o := 0) hb9_5
          have f1 := frozen_of (o := 1) hb9_5
          have f2 := frozen_of (o := 2) hb9_5
          go_simp
          obtain ⟨w6, hw6⟩ : ∃ W, W = ((w5.setCell ⟨B9, 0, none⟩ (.int .i64 ((dstMark b).sym : Int))).setCell ⟨B9, 1, none⟩ (.int .i64 ((dstMark b).further : Int))).setCell ⟨B9, 2, none⟩ (.int .i64 ((dstMark b).size : Int)) := ⟨_, rfl⟩
          rw [← hw6]
          obtain ⟨hb9_6, hG6⟩ := set3 (.int .i64 ((dstMark b).sym : Int)) (.int .i64 ((dstMark b).further : Int)) (.int .i64 ((dstMark b).size : Int)) hb9_5
          rw [← hw6] at hb9_6 hG6
          have HF6 := hide (fr_false_new HF5.out hG6 (fun i e => by omega))
          have hb8_6 := cells_at hb8_5 hG6 (by omega)
          clear hw6 c0 c1 c2 f0 f1 f2
          refine hK.out _ _ ⟨(cell_blk (a := ⟨K0, 1, none⟩) (hG6.block K0 (cell_lt hHeld.1) (by omega))).trans hHeld.1, (cell_blk (a := ⟨K0, 2, none⟩) (hG6.block K0 (cell_lt hHeld.2) (by omega))).trans hHeld.2⟩ (fun hHeld => ?_)
          clear hK K
          refine wpAnyH_done (by kernel_rfl) ?_ _
          go_wp2
          go_meet
          exact ⟨B8, B9, rfl, rfl, hb8_6, hb9_6, by omega, by omega, HFz.out.join HF6.out⟩
      · skip
        try simp only [List.getElem_toArray, List.getElem_cons_succ, List.getElem_cons_zero]
        go_simp
        obtain ⟨w2, hw2⟩ : ∃ W, W = w1.alloc (.cells #[.int .i64 0, .int .i64 0, .int .i64 0] 122) := ⟨_, rfl⟩
        obtain ⟨B9, hB9⟩ : ∃ B, B = w1.heap.size := ⟨_, rfl⟩
        rw [← hw2, ← hB9]
        have hF2 : Fr (fun _ => False) w1 w2 := by rw [hw2]; exact Fr.of_alloc _ _
        have hb9_2 : w2.heap[B9]? = some (.cells #[.int .i64 0, .int .i64 0, .int .i64 0] 122 (0, 0)) := by rw [hw2]; exact heap_alloc_at hB9
        have hle9 : wz.heap.size ≤ B9 := by rw [hB9]; exact HF1.out.size
        have hne : B8 ≠ B9 := by have := lt_of hb8_1; omega
        clear hw2 hB9
        have HF2 := hide (HF1.out.join hF2)
        have hb8_2 := cells_at hb8_1 hF2 (fun e => e)
        refine hK.out _ _ ⟨(cell_blk (a := ⟨K0, 1, none⟩) (hF2.block K0 (cell_lt hHeld.1) (fun e => e))).trans hHeld.1, (cell_blk (a := ⟨K0, 2, none⟩) (hF2.block K0 (cell_lt hHeld.2) (fun e => e))).trans hHeld.2⟩ (fun hHeld => ?_)
        clear hK K
        refine wpAnyH_ready (rs := [3]) (by kernel_rfl) (by simp) ?_
        refine (AllReadyH.cons rfl (fun K hK => ?_) AllReadyH.nil)
        try simp only [List.getElem_toArray, List.getElem_cons_succ, List.getElem_cons_zero]
        go_simp
        refine (calls_args (Hl1.out _ H3.out H258.out) (by rfl)).mono ?_
        rintro e w3 ⟨rfl, hF3⟩
        have HF3 := hide (HF2.out.join hF3)
        have hb8_3 := cells_at hb8_2 hF3 (fun e => e)
        have hb9_3 := cells_at hb9_2 hF3 (fun e => e)
        refine hK.out _ _ ⟨(cell_blk (a := ⟨K0, 1, none⟩) (hF3.block K0 (cell_lt hHeld.1) (fun e => e))).trans hHeld.1, (cell_blk (a := ⟨K0, 2, none⟩) (hF3.block K0 (cell_lt hHeld.2) (fun e => e))).trans hHeld.2⟩ (fun hHeld => ?_)
        clear hK K
        refine wpAnyH_ready (rs := [7]) (by kernel_rfl) (by simp) ?_
        refine (AllReadyH.cons rfl (fun K hK => ?_) AllReadyH.nil)
        try simp only [List.getElem_toArray, List.getElem_cons_succ, List.getElem_cons_zero]
        go_simp
        refine (calls_args (Hd1.out _ Hb1.out Hb2.out) (by rfl)).mono ?_
        rintro e w4 ⟨rfl, hF4⟩
        have HF4 := hide (HF3.out.join hF4)
        have hb8_4 := cells_at hb8_3 hF4 (fun e => e)
        have hb9_4 := cells_at hb9_3 hF4 (fun e => e)
        refine hK.out _ _ ⟨(cell_blk (a := ⟨K0, 1, none⟩) (hF4.block K0 (cell_lt hHeld.1) (fun e => e))).trans hHeld.1, (cell_blk (a := ⟨K0, 2, none⟩) (hF4.block K0 (cell_lt hHeld.2) (fun e => e))).trans hHeld.2⟩ (fun hHeld => ?_)
        clear hK K
        refine wpAnyH_ready (rs := [10]) (by kernel_rfl) (by simp) ?_
        refine (AllReadyH.cons rfl (fun K hK => ?_) AllReadyH.nil)
        try simp only [List.getElem_toArray, List.getElem_cons_succ, List.getElem_cons_zero]
        have c0 := cell_of (o := 0) hb8_4 rfl
        have c1 := cell_of (o := 1) hb8_4 rfl
        have c2 := cell_of (o := 2) hb8_4 rfl
        have f0 := frozen_of (o := 0) hb8_4
        have f1 := frozen_of (o := 1) hb8_4
        have f2 := frozen_of (o := 2) hb8_4
        go_simp
        obtain ⟨w5, hw5⟩ : ∃ W, W = ((w4.setCell ⟨B8, 0, none⟩ (.int .i64 ((lenMark l).sym : Int))).setCell ⟨B8, 1, none⟩ (.int .i64 ((lenMark l).further : Int))).setCell ⟨B8, 2, none⟩ (.int .i64 ((lenMark l).size : Int)) := ⟨_, rfl⟩
        rw [← hw5]
        obtain ⟨hb8_5, hG5⟩ := set3 (.int .i64 ((lenMark l).sym : Int)) (.int .i64 ((lenMark l).further : Int)) (.int .i64 ((lenMark l).size : Int)) hb8_4
        rw [← hw5] at hb8_5 hG5
        have HF5 := hide (fr_false_new HF4.out hG5 (fun i e => by omega))
        have hb9_5 := cells_at hb9_4 hG5 (by omega)
        clear hw5 c0 c1 c2 f0 f1 f2
        refine hK.out _ _ ⟨(cell_blk (a := ⟨K0, 1, none⟩) (hG5.block K0 (cell_lt hHeld.1) (by omega))).trans hHeld.1, (cell_blk (a := ⟨K0, 2, none⟩) (hG5.block K0 (cell_lt hHeld.2) (by omega))).trans hHeld.2⟩ (fun hHeld => ?_)
        clear hK K
        refine wpAnyH_ready (rs := [11]) (by kernel_rfl) (by simp) ?_
        refine (AllReadyH.cons rfl (fun K hK => ?_) AllReadyH.nil)
        try simp only [List.getElem_toArray, List.getElem_cons_succ, List.getElem_cons_zero]
        have c0 := cell_of (o := 0) hb9_5 rfl
        have c1 := cell_of (o := 1) hb9_5 rfl
        have c2 := cell_of (o := 2) hb9_5 rfl
        have f0 := frozen_of (o := 0) hb9_5
        have f1 := frozen_of (o := 1) hb9_5
        have f2 := frozen_of (o := 2) hb9_5
        go_simp
        obtain ⟨w6, hw6⟩ : ∃ W, W = ((w5.setCell ⟨B9, 0, none⟩ (.int .i64 ((dstMark b).sym : Int))).setCell ⟨B9, 1, none⟩ (.int .i64 ((dstMark b).further : Int))).setCell ⟨B9, 2, none⟩ (.int .i64 ((dstMark b).size : Int)) := ⟨_, rfl⟩
        rw [← hw6]
        obtain ⟨hb9_6, hG6⟩ := set3 (.int .i64 ((dstMark b).sym : Int)) (.int .i64 ((dstMark b).further : Int)) (.int .i64 ((dstMark b).size : Int)) hb9_5
        rw [← hw6] at hb9_6 hG6
        have HF6 := hide (fr_false_new HF5.out hG6 (fun i e => by omega))
        have hb8_6 := cells_at hb8_5 hG6 (by omega)
        clear hw6 c0 c1 c2 f0 f1 f2
        refine hK.out _ _ ⟨(cell_blk (a := ⟨K0, 1, none⟩) (hG6.block K0 (cell_lt hHeld.1) (by omega))).trans hHeld.1, (cell_blk (a := ⟨K0, 2, none⟩) (hG6.block K0 (cell_lt hHeld.2) (by omega))).trans hHeld.2⟩ (fun hHeld => ?_)
        clear hK K
        refine wpAnyH_done (by kernel_rfl) ?_ _
        go_wp2
        go_meet
        exact ⟨B8, B9, rfl, rfl, hb8_6, hb9_6, by omega, by omega, HFz.out.join HF6.out⟩
    · skip
      try simp only [List.getElem_toArray, List.getElem_cons_succ, List.getElem_cons_zero]
      go_simp
      obtain ⟨w1, hw1⟩ : ∃ W, W = wz.alloc (.cells #[.int .i64 0, .int .i64 0, .int .i64 0] 122) := ⟨_, rfl⟩
      obtain ⟨B9, hB9⟩ : ∃ B, B = wz.heap.size := ⟨_, rfl⟩
      rw [← hw1, ← hB9]
      have hF1 : Fr (fun _ => False) wz w1 := by rw [hw1]; exact Fr.of_alloc _ _
      have hb9_1 : w1.heap[B9]? = some (.cells #[.int .i64 0, .int .i64 0, .int .i64 0] 122 (0, 0)) := by rw [hw1]; exact heap_alloc_at hB9
      have hle9 : wz.heap.size ≤ B9 := by rw [hB9]; exact HF0.out.size
      clear hw1 hB9
      have HF1 := hide (HF0.out.join hF1)
      refine hK.out _ _ ⟨(cell_blk (a := ⟨K0, 1, none⟩) (hF1.block K0 (cell_lt hHeld.1) (fun e => e))).trans hHeld.1, (cell_blk (a := ⟨K0, 2, none⟩) (hF1.block K0 (cell_lt hHeld.2) (fun e => e))).trans hHeld.2⟩ (fun hHeld => ?_)
      clear hK K
      refine wpAnyH_ready (rs := [3, 8]) (by kernel_rfl) (by simp) ?_
      refine (AllReadyH.cons rfl (fun K hK => ?_) (AllReadyH.cons rfl (fun K hK => ?_) AllReadyH.nil))
      · skip
        try simp only [List.getElem_toArray, List.getElem_cons_succ, List.getElem_cons_zero]
        go_simp
        refine (calls_args (Hl1.out _ H3.out H258.out) (by rfl)).mono ?_
        rintro e w2 ⟨rfl, hF2⟩
        have HF2 := hide (HF1.out.join hF2)
        have hb9_2 := cells_at hb9_1 hF2 (fun e => e)
        refine hK.out _ _ ⟨(cell_blk (a := ⟨K0, 1, none⟩) (hF2.block K0 (cell_lt hHeld.1) (fun e => e))).trans hHeld.1, (cell_blk (a := ⟨K0, 2, none⟩) (hF2.block K0 (cell_lt hHeld.2) (fun e => e))).trans hHeld.2⟩ (fun hHeld => ?_)
        clear hK K
        refine wpAnyH_ready (rs := [7, 8]) (by kernel_rfl) (by simp) ?_
        refine (AllReadyH.cons rfl (fun K hK => ?_) (AllReadyH.cons rfl (fun K hK => ?_) AllReadyH.nil))
        · skip
          try simp only [List.getElem_toArray, List.getElem_cons_succ, List.getElem_cons_zero]
          go_simp
          refine (calls_args (Hd1.out _ Hb1.out Hb2.out) (by rfl)).mono ?_
          rintro e w3 ⟨rfl, hF3⟩
          have HF3 := hide (HF2.out.join hF3)
          have hb9_3 := cells_at hb9_2 hF3 (fun e => e)
          refine hK.out _ _ ⟨(cell_blk (a := ⟨K0, 1, none⟩) (hF3.block K0 (cell_lt hHeld.1) (fun e => e))).trans hHeld.1, (cell_blk (a := ⟨K0, 2, none⟩) (hF3.block K0 (cell_lt hHeld.2) (fun e => e))).trans hHeld.2⟩ (fun hHeld => ?_)
          clear hK K
          refine wpAnyH_ready (rs := [8]) (by kernel_rfl) (by simp) ?_
          refine (AllReadyH.cons rfl (fun K hK => ?_) AllReadyH.nil)
          try simp only [List.getElem_toArray, List.getElem_cons_succ, List.getElem_cons_zero]
          go_simp
          obtain ⟨w4, hw4⟩ : ∃ W, W = w3.alloc (.cells #[.int .i64 0, .int .i64 0, .int .i64 0] 122) := ⟨_, rfl⟩
          obtain ⟨B8, hB8⟩ : ∃ B, B = w3.heap.size := ⟨_, rfl⟩
          rw [← hw4, ← hB8]
          have hF4 : Fr (fun _ => False) w3 w4 := by rw [hw4]; exact Fr.of_alloc _ _
          have hb8_4 : w4.heap[B8]? = some (.cells #[.int .i64 0, .int .i64 0, .int .i64 0] 122 (0, 0)) := by rw [hw4]; exact heap_alloc_at hB8
          have hle8 : wz.heap.size ≤ B8 := by rw [hB8]; exact HF3.out.size
          have hne : B9 ≠ B8 := by have := lt_of hb9_3; omega
          clear hw4 hB8
          have HF4 := hide (HF3.out.join hF4)
          have hb9_4 := cells_at hb9_3 hF4 (fun e => e)
          refine hK.out _ _ ⟨(cell_blk (a := ⟨K0, 1, none⟩) (hF4.block K0 (cell_lt hHeld.1) (fun e => e))).trans hHeld.1, (cell_blk (a := ⟨K0, 2, none⟩) (hF4.block K0 (cell_lt hHeld.2) (fun e => e))).trans hHeld.2⟩ (fun hHeld => ?_)
          clear hK K
          refine wpAnyH_ready (rs := [10]) (by kernel_rfl) (by simp) ?_
          refine (AllReadyH.cons rfl (fun K hK => ?_) AllReadyH.nil)
          try simp only [List.getElem_toArray, List.getElem_cons_succ, List.getElem_cons_zero]
          have c0 := cell_of (o := 0) hb8_4 rfl
          have c1 := cell_of (o := 1) hb8_4 rfl
          have c2 := cell_of (o := 2) hb8_4 rfl
          have f0 := frozen_of (o := 0) hb8_4
          have f1 := frozen_of (o := 1) hb8_4
          have f2 := frozen_of (o := 2) hb8_4
          go_simp
          obtain ⟨w5, hw5⟩ : ∃ W, W = ((w4.setCell ⟨B8, 0, none⟩ (.int .i64 ((lenMark l).sym : Int))).setCell ⟨B8, 1, none⟩ (.int .i64 ((lenMark l).further : Int))).setCell ⟨B8, 2, none⟩ (.int .i64 ((lenMark l).size : Int)) := ⟨_, rfl⟩
          rw [← hw5]
          obtain ⟨hb8_5, hG5⟩ := set3 (.int .i64 ((lenMark l).sym : Int)) (.int .i64 ((lenMark l).further : Int)) (.int .i64 ((lenMark l).size : Int)) hb8_4
          rw [← hw5] at hb8_5 hG5
          have HF5 := hide (fr_false_new HF4.out hG5 (fun i e => by omega))
          have hb9_5 := cells_at hb9_4 hG5 (by omega)
          clear hw5 c0 c1 c2 f0 f1 f2
          refine hK.out _ _ ⟨(cell_blk (a := ⟨K0, 1, none⟩) (hG5.block K0 (cell_lt hHeld.1) (by omega))).trans hHeld.1, (cell_blk (a := ⟨K0, 2, none⟩) (hG5.block K0 (cell_lt hHeld.2) (by omega))).trans hHeld.2⟩ (fun hHeld => ?_)
          clear hK K
          refine wpAnyH_ready (rs := [11]) (by kernel_rfl) (by simp) ?_
          refine (AllReadyH.cons rfl (fun K hK => ?_) AllReadyH.nil)
          try simp only [List.getElem_toArray, List.getElem_cons_succ, List.getElem_cons_zero]
          have c0 := cell_of (o := 0) hb9_5 rfl
          have c1 := cell_of (o := 1) hb9_5 rfl
          have c2 := cell_of (o := 2) hb9_5 rfl
          have f0 := frozen_of (o := 0) hb9_5
          have f1 := frozen_of (o := 1) hb9_5
          have f2 := frozen_of (o := 2) hb9_5
          go_simp
          obtain ⟨w6, hw6⟩ : ∃ W, W = ((w5.setCell ⟨B9, 0, none⟩ (.int .i64 ((dstMark b).sym : Int))).setCell ⟨B9, 1, none⟩ (.int .i64 ((dstMark b).further : Int))).setCell ⟨B9, 2, none⟩ (.int .i64 ((dstMark b).size : Int)) := ⟨_, rfl⟩
          rw [← hw6]
          obtain ⟨hb9_6, hG6⟩ := set3 (.int .i64 ((dstMark b).sym : Int)) (.int .i64 ((dstMark b).further : Int)) (.int .i64 ((dstMark b).size : Int)) hb9_5
          rw [← hw6] at hb9_6 hG6
          have HF6 := hide (fr_false_new HF5.out hG6 (fun i e => by omega))
          have hb8_6 := cells_at hb8_5 hG6 (by omega)
          clear hw6 c0 c1 c2 f0 f1 f2
          refine hK.out _ _ ⟨(cell_blk (a := ⟨K0, 1, none⟩) (hG6.block K0 (cell_lt hHeld.1) (by omega))).trans hHeld.1, (cell_blk (a := ⟨K0, 2, none⟩) (hG6.block K0 (cell_lt hHeld.2) (by omega))).trans hHeld.2⟩ (fun hHeld => ?_)
          clear hK K
          refine wpAnyH_done (by kernel_rfl) ?_ _
          go_wp2
          go_meet
          exact ⟨B8, B9, rfl, rfl, hb8_6, hb9_6, by omega, by omega, HFz.out.join HF6.out⟩
        · skip
          try simp only [List.getElem_toArray, List.getElem_cons_succ, List.getElem_cons_zero]
          go_simp
          obtain ⟨w3, hw3⟩ : ∃ W, W = w2.alloc (.cells #[.int .i64 0, .int .i64 0, .int .i64 0] 122) := ⟨_, rfl⟩
          obtain ⟨B8, hB8⟩ : ∃ B, B = w2.heap.size := ⟨_, rfl⟩
          rw [← hw3, ← hB8]
          have hF3 : Fr (fun _ => False) w2 w3 := by rw [hw3]; exact Fr.of_alloc _ _
          have hb8_3 : w3.heap[B8]? = some (.cells #[.int .i64 0, .int .i64 0, .int .i64 0] 122 (0, 0)) := by rw [hw3]; exact heap_alloc_at hB8
          have hle8 : wz.heap.size ≤ B8 := by rw [hB8]; exact HF2.out.size
          have hne : B9 ≠ B8 := by have := lt_of hb9_2; omega
          clear hw3 hB8
          have HF3 := hide (HF2.out.join hF3)
          have hb9_3 := cells_at hb9_2 hF3 (fun e => e)
          refine hK.out _ _ ⟨(cell_blk (a := ⟨K0, 1, none⟩) (hF3.block K0 (cell_lt hHeld.1) (fun e => e))).trans hHeld.1, (cell_blk (a := ⟨K0, 2, none⟩) (hF3.block K0 (cell_lt hHeld.2) (fun e => e))).trans hHeld.2⟩ (fun hHeld => ?_)
          clear hK K
          refine wpAnyH_ready (rs := [7]) (by kernel_rfl) (by simp) ?_
          refine (AllReadyH.cons rfl (fun K hK => ?_) AllReadyH.nil)
          try simp only [List.getElem_toArray, List.getElem_cons_succ, List.getElem_cons_zero]
          go_simp
          refine (calls_args (Hd1.out _ Hb1.out Hb2.out) (by rfl)).mono ?_
          rintro e w4 ⟨rfl, hF4⟩
          have HF4 := hide (HF3.out.join hF4)
          have hb9_4 := cells_at hb9_3 hF4 (fun e => e)
          have hb8_4 := cells_at hb8_3 hF4 (fun e => e)
          refine hK.out _ _ ⟨(cell_blk (a := ⟨K0, 1, none⟩) (hF4.block K0 (cell_lt hHeld.1) (fun e => e))).trans hHeld.1, (cell_blk (a := ⟨K0, 2, none⟩) (hF4.block K0 (cell_lt hHeld.2) (fun e => e))).trans hHeld.2⟩ (fun hHeld => ?_)
          clear hK K
          refine wpAnyH_ready (rs := [10]) (by kernel_rfl) (by simp) ?_
          refine (AllReadyH.cons rfl (fun K hK => ?_) AllReadyH.nil)
          try simp only [List.getElem_toArray, List.getElem_cons_succ, List.getElem_cons_zero]
          have c0 := cell_of (o := 0) hb8_4 rfl
          have c1 := cell_of (o := 1) hb8_4 rfl
          have c2 := cell_of (o := 2) hb8_4 rfl
          have f0 := frozen_of (o := 0) hb8_4
          have f1 := frozen_of (o := 1) hb8_4
          have f2 := frozen_of (o := 2) hb8_4
          go_simp
          obtain ⟨w5, hw5⟩ : ∃ W, W = ((w4.setCell ⟨B8, 0, none⟩ (.int .i64 ((lenMark l).sym : Int))).setCell ⟨B8, 1, none⟩ (.int .i64 ((lenMark l).further : Int))).setCell ⟨B8, 2, none⟩ (.int .i64 ((lenMark l).size : Int)) := ⟨_, rfl⟩
          rw [← hw5]
          obtain ⟨hb8_5, hG5⟩ := set3 (.int .i64 ((lenMark l).sym : Int)) (.int .i64 ((lenMark l).further : Int)) (.int .i64 ((lenMark l).size : Int)) hb8_4
          rw [← hw5] at hb8_5 hG5
          have HF5 := hide (fr_false_new HF4.out hG5 (fun i e => by omega))
          have hb9_5 := cells_at hb9_4 hG5 (by omega)
          clear hw5 c0 c1 c2 f0 f1 f2
          refine hK.out _ _ ⟨(cell_blk (a := ⟨K0, 1, none⟩) (hG5.block K0 (cell_lt hHeld.1) (by omega))).trans hHeld.1, (cell_blk (a := ⟨K0, 2, none⟩) (hG5.block K0 (cell_lt hHeld.2) (by omega))).trans hHeld.2⟩ (fun hHeld => ?_)
          clear hK K
          refine wpAnyH_ready (rs := [11]) (by kernel_rfl) (by simp) ?_
          refine (AllReadyH.cons rfl (fun K hK => ?_) AllReadyH.nil)
          try simp only [List.getElem_toArray, List.getElem_cons_succ, List.getElem_cons_zero]
          have c0 := cell_of (o := 0) hb9_5 rfl
          have c1 := cell_of (o := 1) hb9_5 rfl
          have c2 := cell_of (o := 2) hb9_5 rfl
          have f0 := frozen_of (o := 0) hb9_5
          have f1 := frozen_of (o := 1) hb9_5
          have f2 := frozen_of (o := 2) hb9_5
          go_simp
          obtain ⟨w6, hw6⟩ : ∃ W, W = ((w5.setCell ⟨B9, 0, none⟩ (.int .i64 ((dstMark b).sym : Int))).setCell ⟨B9, 1, none⟩ (.int .i64 ((dstMark b).further : Int))).setCell ⟨B9, 2, none⟩ (.int .i64 ((dstMark b).size : Int)) := ⟨_, rfl⟩
          rw [← hw6]
          obtain ⟨hb9_6, hG6⟩ := set3 (.int .i64 ((dstMark b).sym : Int)) (.int .i64 ((dstMark b).further : Int)) (.int .i64 ((dstMark b).size : Int)) hb9_5
          rw [← hw6] at hb9_6 hG6
          have HF6 := hide (fr_false_new HF5.out hG6 (fun i e => by omega))
          have hb8_6 := cells_at hb8_5 hG6 (by omega)
          clear hw6 c0 c1 c2 f0 f1 f2
          refine hK.out _ _ ⟨(cell_blk (a := ⟨K0, 1, none⟩) (hG6.block K0 (cell_lt hHeld.1) (by omega))).trans hHeld.1, (cell_blk (a := ⟨K0, 2, none⟩) (hG6.block K0 (cell_lt hHeld.2) (by omega))).trans hHeld.2⟩ (fun hHeld => ?_)
          clear hK K
          refine wpAnyH_done (by kernel_rfl) ?_ _
          go_wp2
          go_meet
          exact ⟨B8, B9, rfl, rfl, hb8_6, hb9_6, by omega, by omega, HFz.out.join HF6.out⟩
      · skip
        try simp only [List.getElem_toArray, List.getElem_cons_succ, List.getElem_cons_zero]
        go_simp
        obtain ⟨w2, hw2⟩ : ∃ W, W = w1.alloc (.cells #[.int .i64 0, .int .i64 0, .int .i64 0] 122) := ⟨_, rfl⟩
        obtain ⟨B8, hB8⟩ : ∃ B, B = w1.heap.size := ⟨_, rfl⟩
        rw [← hw2, ← hB8]
        have hF2 : Fr (fun _ => False) w1 w2 := by rw [hw2]; exact Fr.of_alloc _ _
        have hb8_2 : w2.heap[B8]? = some (.cells #[.int .i64 0, .int .i64 0, .int .i64 0] 122 (0, 0)) := by rw [hw2]; exact heap_alloc_at hB8
        have hle8 : wz.heap.size ≤ B8 := by rw [hB8]; exact HF1.out.size
        have hne : B9 ≠ B8 := by have := lt_of hb9_1; omega
        clear hw2 hB8
        have HF2 := hide (HF1.out.join hF2)
        have hb9_2 := cells_at hb9_1 hF2 (fun e => e)
        refine hK.out _ _ ⟨(cell_blk (a := ⟨K0, 1, none⟩) (hF2.block K0 (cell_lt hHeld.1) (fun e => e))).trans hHeld.1, (cell_blk (a := ⟨K0, 2, none⟩) (hF2.block K0 (cell_lt hHeld.2) (fun e => e))).trans hHeld.2⟩ (fun hHeld => ?_)
        clear hK K
        refine wpAnyH_ready (rs := [3]) (by kernel_rfl) (by simp) ?_
        refine (AllReadyH.cons rfl (fun K hK => ?_) AllReadyH.nil)
        try simp only [List.getElem_toArray, List.getElem_cons_succ, List.getElem_cons_zero]
        go_simp
        refine (calls_args (Hl1.out _ H3.out H258.out) (by rfl)).mono ?_
        rintro e w3 ⟨rfl, hF3⟩
        have HF3 := hide (HF2.out.join hF3)
        have hb9_3 := cells_at hb9_2 hF3 (fun e => e)
        have hb8_3 := cells_at hb8_2 hF3 (fun e => e)
        refine hK.out _ _ ⟨(cell_blk (a := ⟨K0, 1, none⟩) (hF3.block K0 (cell_lt hHeld.1) (fun e => e))).trans hHeld.1, (cell_blk (a := ⟨K0, 2, none⟩) (hF3.block K0 (cell_lt hHeld.2) (fun e => e))).trans hHeld.2⟩ (fun hHeld => ?_)
        clear hK K
        refine wpAnyH_ready (rs := [7]) (by kernel_rfl) (by simp) ?_
        refine (AllReadyH.cons rfl (fun K hK => ?_) AllReadyH.nil)
        try simp only [List.getElem_toArray, List.getElem_cons_succ, List.getElem_cons_zero]
        go_simp
        refine (calls_args (Hd1.out _ Hb1.out Hb2.out) (by rfl)).mono ?_
        rintro e w4 ⟨rfl, hF4⟩
        have HF4 := hide (HF3.out.join hF4)
        have hb9_4 := cells_at hb9_3 hF4 (fun e => e)
        have hb8_4 := cells_at hb8_3 hF4 (fun e => e)
        refine hK.out _ _ ⟨(cell_blk (a := ⟨K0, 1, none⟩) (hF4.block K0 (cell_lt hHeld.1) (fun e => e))).trans hHeld.1, (cell_blk (a := ⟨K0, 2, none⟩) (hF4.block K0 (cell_lt hHeld.2) (fun e => e))).trans hHeld.2⟩ (fun hHeld => ?_)
        clear hK K
        refine wpAnyH_ready (rs := [10]) (by kernel_rfl) (by simp) ?_
        refine (AllReadyH.cons rfl (fun K hK => ?_) AllReadyH.nil)
        try simp only [List.getElem_toArray, List.getElem_cons_succ, List.getElem_cons_zero]
        have c0 := cell_of (o := 0) hb8_4 rfl
        have c1 := cell_of (o := 1) hb8_4 rfl
        have c2 := cell_of (o := 2) hb8_4 rfl
        have f0 := frozen_of (o := 0) hb8_4
        have f1 := frozen_of (o := 1) hb8_4
        have f2 := frozen_of (o := 2) hb8_4
        go_simp
        obtain ⟨w5, hw5⟩ : ∃ W, W = ((w4.setCell ⟨B8, 0, none⟩ (.int .i64 ((lenMark l).sym : Int))).setCell ⟨B8, 1, none⟩ (.int .i64 ((lenMark l).further : Int))).setCell ⟨B8, 2, none⟩ (.int .i64 ((lenMark l).size : Int)) := ⟨_, rfl⟩
        rw [← hw5]
        obtain ⟨hb8_5, hG5⟩ := set3 (.int .i64 ((lenMark l).sym : Int)) (.int .i64 ((lenMark l).further : Int)) (.int .i64 ((lenMark l).size : Int)) hb8_4
        rw [← hw5] at hb8_5 hG5
        have HF5 := hide (fr_false_new HF4.out hG5 (fun i e => by omega))
        have hb9_5 := cells_at hb9_4 hG5 (by omega)
        clear hw5 c0 c1 c2 f0 f1 f2
        refine hK.out _ _ ⟨(cell_blk (a := ⟨K0, 1, none⟩) (hG5.block K0 (cell_lt hHeld.1) (by omega))).trans hHeld.1, (cell_blk (a := ⟨K0, 2, none⟩) (hG5.block K0 (cell_lt hHeld.2) (by omega))).trans hHeld.2⟩ (fun hHeld => ?_)
        clear hK K
        refine wpAnyH_ready (rs := [11]) (by kernel_rfl) (by simp) ?_
        refine (AllReadyH.cons rfl (fun K hK => ?_) AllReadyH.nil)
        try simp only [List.getElem_toArray, List.getElem_cons_succ, List.getElem_cons_zero]
        have c0 := cell_of (o := 0) hb9_5 rfl
        have c1 := cell_of (o := 1) hb9_5 rfl
        have c2 := cell_of (o := 2) hb9_5 rfl
        have f0 := frozen_of (o := 0) hb9_5
        have f1 := frozen_of (o := 1) hb9_5
        have f2 := frozen_of (o := 2) hb9_5
        go_simp
        obtain ⟨w6, hw6⟩ : ∃ W, W = ((w5.setCell ⟨B9, 0, none⟩ (.int .i64 ((dstMark b).sym : Int))).setCell ⟨B9, 1, none⟩ (.int .i64 ((dstMark b).further : Int))).setCell ⟨B9, 2, none⟩ (.int .i64 ((dstMark b).size : Int)) := ⟨_, rfl⟩
        rw [← hw6]
        obtain ⟨hb9_6, hG6⟩ := set3 (.int .i64 ((dstMark b).sym : Int)) (.int .i64 ((dstMark b).further : Int)) (.int .i64 ((dstMark b).size : Int)) hb9_5
        rw [← hw6] at hb9_6 hG6
        have HF6 := hide (fr_false_new HF5.out hG6 (fun i e => by omega))
        have hb8_6 := cells_at hb8_5 hG6 (by omega)
        clear hw6 c0 c1 c2 f0 f1 f2
        refine hK.out _ _ ⟨(cell_blk (a := ⟨K0, 1, none⟩) (hG6.block K0 (cell_lt hHeld.1) (by omega))).trans hHeld.1, (cell_blk (a := ⟨K0, 2, none⟩) (hG6.block K0 (cell_lt hHeld.2) (by omega))).trans hHeld.2⟩ (fun hHeld => ?_)
        clear hK K
        refine wpAnyH_done (by kernel_rfl) ?_ _
        go_wp2
        go_meet
        exact ⟨B8, B9, rfl, rfl, hb8_6, hb9_6, by omega, by omega, HFz.out.join HF6.out⟩
  case rest =>
    obtain ⟨B4, B5, rfl, rfl, hb4, hb5, hn4, hn5, hFx⟩ := hcut
    obtain ⟨a1, a2, a3, _⟩ := lenMark_ok l H3.out H258.out
    obtain ⟨b1, b2, _⟩ := dstMark_ok b Hb1.out Hb2.out
    have hadd : addZ Z ⟨lt, l, b⟩ = inc (inc (inc Z (lenMark l).sym 1) (286 + (dstMark b).sym) 1) 316 (((lenMark l).size + (dstMark b).size : Nat) : Int) := by
      unfold addZ
      rw [if_neg (by have := H3.out; show ¬ l = 0; omega)]
    have Hadd := hide hadd
    clear hadd
    generalize lenMark l = m1 at *
    generalize dstMark b = m2 at *
    obtain ⟨y1, u1, s1⟩ := m1
    obtain ⟨y2, u2, s2⟩ := m2
    simp only at a1 a2 a3 b1 b2 hb4 hb5 Hadd
    have hT1 := HT0.out.fr hFx (fun e => e)
    have z1 := Hz.out y1
    have z2 := Hz.out (286 + y2)
    have z3 := Hz.out 316
    have d0 := cell_of (o := 0) hb4 rfl
    have d2 := cell_of (o := 2) hb4 rfl
    have e0 := cell_of (o := 0) hb5 rfl
    have e2 := cell_of (o := 2) hb5 rfl
    have t1 := hT1.cell (i := y1) (by omega)
    have t2 := hT1.cell (i := 286 + y2) (by omega)
    have t3 := hT1.cell (i := 316) (by omega)
    have g1 := frozen_of (o := y1) hT1.blk
    have g2 := frozen_of (o := 286 + y2) hT1.blk
    have g3 := frozen_of (o := 316) hT1.blk
    obtain ⟨x1, hx1⟩ : ∃ x, x = at0 Z y1 := ⟨_, rfl⟩
    obtain ⟨x2, hx2⟩ : ∃ x, x = at0 Z (286 + y2) := ⟨_, rfl⟩
    obtain ⟨x3, hx3⟩ : ∃ x, x = at0 Z 316 := ⟨_, rfl⟩
    rw [← hx1] at t1 z1
    rw [← hx2] at t2 z2
    rw [← hx3] at t3 z3
    have i1 : (y1 : Int) < 286 := by omega
    have i2 : (y2 : Int) < 30 := by omega
    have i3 : (s1 : Int) ≤ 5 := by omega
    have i4 : (s2 : Int) ≤ 13 := by omega
    obtain ⟨z1a, z1b⟩ := z1
    obtain ⟨z2a, z2b⟩ := z2
    obtain ⟨z3a, z3b⟩ := z3
    have HT1 := hide hT1
    have HFx := hide hFx
    have Hx1 := hide hx1
    have Hx2 := hide hx2
    have Hx3 := hide hx3
    have n1 : ¬ y1 = 286 + y2 := by omega
    have n2 : ¬ y1 = 316 := by omega
    have n3 : ¬ 286 + y2 = 316 := by omega
    clear hT1 hFx hx1 hx2 hx3 hb4 hb5 c1 c2 q1 q2
    go_wp2_with fail
    go_region
    go_wp2_with fail
    go_region
    go_wp2_with fail
    go_region
    go_wp2
    go_end0
    have h1 := HT1.out.set y1 1
    rw [← Hx1.out] at h1
    have h2 := h1.set (286 + y2) 1
    have v2 : at0 (inc Z y1 1) (286 + y2) = x2 := by rw [inc_at _ _ _ _ (by rw [HT0.out.len]; omega), if_neg (by omega), Hx2.out]
    rw [v2] at h2
    have h3 := h2.set 316 ((s1 + s2 : Nat) : Int)
    have v3 : at0 (inc (inc Z y1 1) (286 + y2) 1) 316 = x3 := by rw [inc_at _ _ _ _ (by rw [inc_len, HT0.out.len]; omega), if_neg (by omega), inc_at _ _ _ _ (by rw [HT0.out.len]; omega), if_neg (by omega), Hx3.out]
    rw [v3, Int.natCast_add] at h3
    rw [Hadd.out, Int.natCast_add]
    refine ⟨rfl, h3.fr (Fr.of_drewN _ 3) (fun e => e), ?_⟩
    exact ((((HF0.out.join HFx.out).trans (((Fr.of_setCell wc ⟨A, y1, none⟩ _).join (Fr.of_setCell _ ⟨A, 286 + y2, none⟩ _)).join (Fr.of_setCell _ ⟨A, 316, none⟩ _))).trans (Fr.of_drewN _ 3))).mono fun i _ e => by
      rcases e with (e | e) | e
      · exact e.elim
      · exact e
      · exact e.elim

theorem tallyAdd_c (A : Nat) (p : Pc) (out : List Nat) (Z : List Int) (w : World) (h : Tl w A Z) (hm : p.may out) (hz : ∀ i, 0 ≤ at0 Z i ∧ at0 Z i ≤ 10000000) :
    Calls Tryd.prog 51 #[.pointer (some ⟨A, 0, none⟩), .agg #[.int .u8 (p.lit : Int), .int .u16 (p.len : Int), .int .u16 (p.back : Int)]] w fun e w' => e = .returned (.tuple #[]) ∧ Tl w' A (addZ Z p) ∧ Fr (fun i => i = A) w w' := by
  rcases hm with ⟨h0, h1⟩ | ⟨h3, h4, h5, h6, _⟩
  · have := tallyAdd_lit A p.lit p.back Z w h h1 ⟨(hz p.lit).1, by have := (hz p.lit).2; omega⟩
    have e : addZ Z p = inc Z p.lit 1 := by unfold addZ; rw [if_pos h0]
    rw [e, h0]
    exact this
  · exact tallyAdd_row A p.lit p.len p.back Z w h h3 h4 h5 h6 hz
end Go.Proofs.YtmefhngmgfmhoaaDoor
