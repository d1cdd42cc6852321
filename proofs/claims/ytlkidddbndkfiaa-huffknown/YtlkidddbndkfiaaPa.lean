/-
  Contracts of the rows of items: pairs.
-/
import Derived.Test.YtlkidddbndkfiaaPn
import Derived.Test.YtlkidddbndkfiaaHd
import Derived.Deep.RegionLaw
import Derived.Deep.RegionHeldLaw
import Derived.Laws.AppendOwnNone
namespace Go.Proofs.Ytlkidddbndkfiaa
open Go.RowKit

theorem Try.info92 : (Try.prog.info? 92).map (fun i => (i.zero, i.size, i.bytes)) = some (some (.agg #[.int .i64 0, .bool false]), 2, 16) := by kernel_rfl

/-- The cells of items. -/
def cellsT : List Item → List Value
  | [] => []
  | x :: r => .int .i64 ((x.1 : Nat) : Int) :: .bool x.2 :: cellsT r
theorem cellsT_length (l : List Item) : (cellsT l).length = l.length * 2 := by
  induction l with
  | nil => rfl
  | cons x r ih => simp [cellsT, ih]; omega
theorem cellsT_append (a b : List Item) : cellsT (a ++ b) = cellsT a ++ cellsT b := by
  induction a with
  | nil => rfl
  | cons x r ih => simp [cellsT, ih]
theorem cellsT_one (l : List Item) : ∀ u ∈ cellsT l, u.oneCell' = true := by
  induction l with
  | nil => simp [cellsT]
  | cons x r ih =>
    intro u hu
    simp only [cellsT, List.mem_cons] at hu
    rcases hu with rfl | rfl | hu
    · rfl
    · rfl
    · exact ih u hu
/-- Item j of a row. -/
def it (l : List Item) (j : Nat) : Item := l.getD j (0, false)
theorem cellsT_get (l : List Item) (j : Nat) (h : j < l.length) : (cellsT l)[j * 2]? = some (.int .i64 (((it l j).1 : Nat) : Int)) ∧ (cellsT l)[j * 2 + 1]? = some (.bool (it l j).2) := by
  induction l generalizing j with
  | nil => simp at h
  | cons x r ih =>
    cases j with
    | zero => exact ⟨rfl, rfl⟩
    | succ j =>
      have := ih j (by simp at h; omega)
      rw [show (j + 1) * 2 = j * 2 + 1 + 1 by omega]
      simp only [cellsT, List.getElem?_cons_succ, it, List.getD_cons_succ] at this ⊢
      exact this

/-- A slice of items that lies in memory. -/
def LiesT (w : World) (a : Option Addr) (l : List Item) : Prop :=
  ∀ j, j < l.length → ∃ B o, a = some ⟨B, o, none⟩ ∧ w.cell? ⟨B, o + j * 2, none⟩ = some (.int .i64 (((it l j).1 : Nat) : Int)) ∧ w.cell? ⟨B, o + j * 2 + 1, none⟩ = some (.bool (it l j).2)

theorem LiesT.keep {w w' : World} {a : Option Addr} {l : List Item} (h : LiesT w a l) {S : Nat → Prop} (f : Fr S w w') (hS : ∀ ad, a = some ad → l ≠ [] → ¬ S ad.block) : LiesT w' a l := by
  intro j hj
  obtain ⟨B, o, rfl, h1, h2⟩ := h j hj
  have hne : l ≠ [] := by rintro rfl; simp at hj
  have b1 := World.block_lt_of_cell? _ _ h1
  have hb := f.block B b1 (hS ⟨B, o, none⟩ rfl hne)
  exact ⟨B, o, rfl, (World.cell?_of_block (a := ⟨B, o + j * 2, none⟩) hb).trans h1, (World.cell?_of_block (a := ⟨B, o + j * 2 + 1, none⟩) hb).trans h2⟩
theorem LiesT.keep0 {w w' : World} {a : Option Addr} {l : List Item} (h : LiesT w a l) (f : Fr (fun _ => False) w w') : LiesT w' a l := h.keep f (fun _ _ _ h => h)

/-- A row of items of one's own. -/
abbrev OwnT (w : World) (lo : Nat) (v : Value) (l : List Item) : Prop := w.ownsRow lo 92 2 v l.length (cellsT l)

theorem own_liesT {w : World} {lo n : Nat} {a : Option Addr} {c : Nat} {l : List Item} (h : w.ownsRow lo 92 2 (.slice a n c) n (cellsT l)) (hn : n = l.length) : LiesT w a l := by
  intro j hj
  rcases h.2 with ⟨hv, e0⟩ | ⟨g, cap, cur, hv, hg, hh, hr⟩
  · omega
  · cases hv
    obtain ⟨h1, h2⟩ := cellsT_get l j hj
    have k1 := h.cells (g := g) rfl _ _ h1
    have k2 := h.cells (g := g) rfl _ _ h2
    rw [add_none] at k1 k2
    exact ⟨g, 0, rfl, k1, by rw [Nat.add_assoc]; exact k2⟩

theorem news_item (w : World) (x : Item) : ∀ (j : Nat) (u : Value), (cellsT [x])[j]? = some u → ((w.alloc (.cells #[.int .i64 ((x.1 : Nat) : Int), .bool x.2] 92)).drew).cell? ((⟨w.heap.size, 0, none⟩ : Addr).add j) = some u := by
  intro j u hu
  have hj : j = 0 ∨ j = 1 := by
    rcases Nat.lt_or_ge j 2 with h | h
    · omega
    · rw [List.getElem?_eq_none (by simp [cellsT]; omega)] at hu; cases hu
  rw [add_none]
  rcases hj with rfl | rfl
  · simp [cellsT] at hu
    subst hu
    have : (w.alloc (.cells #[.int .i64 ((x.1 : Nat) : Int), .bool x.2] 92)).cell? ⟨w.heap.size, 0 + 0, none⟩ = some (.int .i64 ((x.1 : Nat) : Int)) := cell_of (heap_alloc_at rfl) rfl
    exact this
  · simp [cellsT] at hu
    subst hu
    have : (w.alloc (.cells #[.int .i64 ((x.1 : Nat) : Int), .bool x.2] 92)).cell? ⟨w.heap.size, 0 + 1, none⟩ = some (.bool x.2) := cell_of (heap_alloc_at rfl) rfl
    exact this
theorem own_drew' {w : World} {lo : Nat} {e : TypeId} {size : Nat} {v : Value} {n : Nat} {xs : List Value} (h : w.ownsRow lo e size v n xs) (o : Obj) : ((w.alloc o).drew).ownsRow lo e size v n xs := h.alloc o

theorem fr_append {w wr w3 : World} {o : Obj} {e : TypeId} {size n : Nat} {v : Value} {xs : List Value} (hF : Fr (fun _ => False) w wr) (hO : wr.ownsRow w.heap.size e size v n xs) (hg : ((wr.alloc o).drew).grownBy w3 v.ownBlock) : Fr (fun _ => False) w w3 :=
  hF.join_new ((((Fr.of_alloc wr o).join (Fr.of_drewN _ 1)).trans (Fr.of_grown hg)).mono fun i _ h => by
    rcases h with h | h
    · exact h.elim
    · exact (hO.lt i h).1)
theorem fr_append0 {w wr w3 : World} {o : Obj} {e : TypeId} {size n : Nat} {v : Value} {xs : List Value} (hF : Fr (fun _ => False) w wr) (hO : wr.ownsRow w.heap.size e size v n xs) (hg : (wr.alloc o).grownBy w3 v.ownBlock) : Fr (fun _ => False) w w3 :=
  hF.join_new (((Fr.of_alloc wr o).trans (Fr.of_grown hg)).mono fun i _ h => by
    rcases h with h | h
    · exact h.elim
    · exact (hO.lt i h).1)

theorem prs_take_succ (l : List Item) (k : Nat) (h : 2 * k + 1 < l.length) : (prs l).take (k + 1) = (prs l).take k ++ [((it l (2 * k)).1 + (it l (2 * k + 1)).1, true)] := by
  have hg := prs_get l k h
  have hk : k < (prs l).length := (List.getElem?_eq_some_iff.1 hg).1
  rw [List.take_succ_eq_append_getElem hk]
  rw [List.getElem?_eq_getElem hk] at hg
  rw [Option.some.inj hg]
  rfl

set_option maxHeartbeats 3200000 in
set_option maxRecDepth 100000 in
theorem pairs_c (a : Option Addr) (c : Nat) (l : List Item) (w : World) (hl : LiesT w a l) (hlen : l.length ≤ 1000) (hw : ∀ j, j < l.length → (it l j).1 ≤ 1000000000000000) :
    Calls Try.prog 54 #[.slice a l.length c] w fun e w' => ∃ pa pc, e = .returned (.slice pa (prs l).length pc) ∧ OwnT w' w.heap.size (.slice pa (prs l).length pc) (prs l) ∧ Fr (fun _ => False) w w' := by
  obtain ⟨i0, hi0, hz0, hz1, hz2⟩ := info_parts Try.info92
  have Hl := hide hl
  have Hw := hide hw
  clear hl hw
  go_enter Try.func54, Try.ntmps54
  go_wp2
  go_loopw [3, 4] (fun vv iv wr => ∃ k i : Nat, Hid (i = 2 * k + 1) ∧ 2 * k ≤ l.length ∧ iv = .int .i64 (i : Int) ∧ wr.ownsRow w.heap.size 92 2 vv k (cellsT ((prs l).take k)) ∧ Fr (fun _ => False) w wr) (fun _ iv _ => l.length + 2 - (intOf iv).toNat)
  case atStart => exact ⟨0, 1, rfl, Nat.zero_le _, rfl, World.ownsRow_nil _ _ _ _, Fr.refl _ _⟩
  case round =>
    obtain ⟨k, i, Hi, hk, rfl, hO, hF⟩ := hrel
    obtain ⟨va, vc, rfl⟩ := ownsRow_shape hO
    have hie := Hi.out
    by_cases hlt : i < l.length
    · have hL := Hl.out.keep0 hF
      obtain ⟨x, hx⟩ : ∃ x : Nat, x = 2 * k := ⟨_, rfl⟩
      have hx1 : (i : Int) - 1 = (x : Int) := by omega
      obtain ⟨bB, bo, rfl, c1, _⟩ := hL x (by omega)
      obtain ⟨bB', bo', e, c2, _⟩ := hL i hlt
      cases e
      have w1 := Hw.out x (by omega)
      have w2 := Hw.out i hlt
      obtain ⟨A, hA⟩ : ∃ A, A = (it l x).1 := ⟨_, rfl⟩
      obtain ⟨B, hB⟩ : ∃ B, B = (it l i).1 := ⟨_, rfl⟩
      obtain ⟨T, hT⟩ : ∃ T, T = A + B := ⟨_, rfl⟩
      rw [← hA] at c1 w1
      rw [← hB] at c2 w2
      have hT1 : (A : Int) + (B : Int) = (T : Int) := by omega
      have hxs : (x : Int) < (l.length : Nat) := by omega
      have hwx : IntKind.i64.wrap (x : Int) = (x : Int) := wrap_i64_id _ (by omega) (by omega)
      have hwT : IntKind.i64.wrap (T : Int) = (T : Int) := wrap_i64_id _ (by omega) (by omega)
      have HO := hide hO
      have HF := hide hF
      have hws : w.heap.size ≤ wr.heap.size := hF.size
      have HTk : Hid ((prs l).take (k + 1) = (prs l).take k ++ [(T, true)]) := by
        show _ = _
        rw [prs_take_succ l k (by omega), ← hx, show x + 1 = i by omega, ← hA, ← hB, ← hT]
      clear hO hF hL hx hA hB hT hie
      go_wp2
      go_region_law ((refine step_append_lies _ (by rfl) _ _ _ (by rfl) w.heap.size 92 i0 (.agg #[.int .i64 0, .bool false]) 2 16 Try.underlying79 hi0 hz0 hz1 hz2 rfl (by decide) (.slice va k vc) k (cellsT ((prs l).take k)) (by rfl) (own_drew' HO.out _) ⟨wr.heap.size, 0, none⟩ 1 1 (cellsT [((T, true) : Item)]) (by rfl) rfl (news_item _ _) (cellsT_one _) (by decide) (by unfold maxLen; omega) (by omega) (by simp; omega) (wr.heap.size + 1) (by simp) ?_; intro g cap w3 hown3 hgrow hat hlt3))
      all_goals
        have HF3 := hide (fr_append HF.out HO.out hgrow)
        have HO3 : Hid (w3.ownsRow w.heap.size 92 2 (.slice (some ⟨g, 0, none⟩) (k + 1) cap) (k + 1) (cellsT ((prs l).take (k + 1)))) := by
          show World.ownsRow _ _ _ _ _ _ _
          rw [HTk.out, cellsT_append]
          exact hown3
        clear hown3 hgrow hat hlt3
        go_wp2
        go_roundw
        case rel => exact ⟨k + 1, i + 2, by have := Hi.out; show i + 2 = 2 * (k + 1) + 1; omega, by have := Hi.out; omega, by go_num, HO3.out, HF3.out⟩
        case measure => simp [intOf]; omega
    · go_wp2
      go_ret
      have e : k = (prs l).length := by rw [prs_length]; omega
      subst e
      rw [List.take_length] at hO
      exact ⟨va, vc, rfl, hO, hF⟩

set_option maxHeartbeats 1600000 in
set_option maxRecDepth 100000 in
theorem countPairs_c (a : Option Addr) (c : Nat) (l : List Item) (w : World) (hl : LiesT w a l) (hlen : l.length ≤ 1000) :
    Calls Try.prog 52 #[.slice a l.length c] w fun e w' => e = .returned (.int .i64 (cntP l : Nat)) ∧ Fr (fun _ => False) w w' := by
  have Hl := hide hl
  clear hl
  go_enter Try.func52, Try.ntmps52
  go_wp2
  go_loopw [3, 5, 8] (fun nv _ iv wr => ∃ i : Nat, i ≤ l.length ∧ iv = .int .i64 (i : Int) ∧ nv = .int .i64 (cntP (l.take i) : Nat) ∧ Fr (fun _ => False) w wr) (fun _ _ iv _ => l.length - (intOf iv).toNat)
  case atStart => exact ⟨0, Nat.zero_le _, rfl, rfl, Fr.refl _ _⟩
  case round =>
    obtain ⟨i, hi, rfl, rfl, hF⟩ := hrel
    by_cases hlt : i < l.length
    · obtain ⟨bB, bo, rfl, c1, c2⟩ := Hl.out.keep0 hF i hlt
      have hcb : cntP (l.take i) ≤ 1000 := by
        unfold cntP
        have h1 := List.length_filter_le (fun x : Item => x.2) (l.take i)
        rw [List.length_take] at h1
        omega
      have hstep : cntP (l.take (i + 1)) = cntP (l.take i) + if (it l i).2 then 1 else 0 := by
        have e : it l i = l[i] := by simp [it, hlt]
        unfold cntP
        rw [List.take_succ_eq_append_getElem hlt, List.filter_append, List.length_append, e]
        congr 1
        cases h : l[i].2 <;> simp [h]
      have Hst := hide hstep
      have HF := hide hF
      obtain ⟨A, hA⟩ : ∃ A, A = (it l i).1 := ⟨_, rfl⟩
      obtain ⟨bp, hbp⟩ : ∃ bp, bp = (it l i).2 := ⟨_, rfl⟩
      rw [← hA] at c1
      rw [← hbp] at c2 Hst
      have hb1 := World.block_lt_of_cell? _ _ c1
      clear hF hstep hA hbp
      cases bp with
      | true =>
        go_wp2
        go_roundw
        case rel => exact ⟨i + 1, by omega, by go_num, by rw [Hst.out]; go_num, HF.out.join (Fr.of_alloc _ _)⟩
        case measure => simp [intOf]; omega
      | false =>
        go_wp2
        go_roundw
        case rel => exact ⟨i + 1, by omega, by go_num, by rw [Hst.out]; rfl, HF.out.join (Fr.of_alloc _ _)⟩
        case measure => simp [intOf]; omega
    · have e : i = l.length := by omega
      subst e
      go_wp2
      go_ret
      exact ⟨by rw [List.take_length]; rfl, hF⟩

set_option maxHeartbeats 3200000 in
set_option maxRecDepth 100000 in
theorem symbolItems_c (a b : Option Addr) (c d : Nat) (fq : List Int) (us : List Nat) (w : World) (hl : LiesI w a fq) (hu : ∀ j, j < us.length → ∃ ad, b = some ad ∧ w.cell? (ad.add j) = some (.int .i64 ((us.getD j 0 : Nat) : Int))) (hlen : us.length ≤ 320) (hus : ∀ u ∈ us, u < fq.length ∧ 0 ≤ at0 fq u) :
    Calls Try.prog 41 #[.slice a fq.length c, .slice b us.length d] w fun e w' => ∃ pa pc, e = .returned (.slice pa us.length pc) ∧ w'.ownsRow w.heap.size 92 2 (.slice pa us.length pc) us.length (cellsT (us.map fun u => ((at0 fq u).toNat, false))) ∧ Fr (fun _ => False) w w' := by
  obtain ⟨i0, hi0, hz0, hz1, hz2⟩ := info_parts Try.info92
  have Hl := hide hl
  have Hu := hide hu
  have Hus := hide hus
  clear hl hu hus
  go_enter Try.func41, Try.ntmps41
  go_wp2
  go_loopw [5, 7, 10] (fun vv _ iv wr => ∃ i : Nat, i ≤ us.length ∧ iv = .int .i64 (i : Int) ∧ wr.ownsRow w.heap.size 92 2 vv i (cellsT ((us.take i).map fun u => ((at0 fq u).toNat, false))) ∧ Fr (fun _ => False) w wr) (fun _ _ iv _ => us.length - (intOf iv).toNat)
  case atStart => exact ⟨0, Nat.zero_le _, rfl, World.ownsRow_nil _ _ _ _, Fr.refl _ _⟩
  case round =>
    obtain ⟨i, hi, rfl, hO, hF⟩ := hrel
    obtain ⟨va, vc, rfl⟩ := ownsRow_shape hO
    by_cases hlt : i < us.length
    · obtain ⟨ad, rfl, c1⟩ := Hu.out i hlt
      have hb1 := World.block_lt_of_cell? _ _ c1
      have c1' := (World.cell?_of_block (hF.block _ hb1 (fun h => h))).trans c1
      have hget : us.getD i 0 = us[i] := by simp [hlt]
      rw [hget] at c1'
      have hum := Hus.out us[i] (List.getElem_mem hlt)
      obtain ⟨ad2, rfl, c2⟩ := Hl.out.keep hF (fun _ _ _ h => h) us[i] hum.1
      obtain ⟨T, hT⟩ : ∃ T, T = (at0 fq us[i]).toNat := ⟨_, rfl⟩
      have hT1 : at0 fq us[i] = (T : Int) := by omega
      rw [hT1] at c2
      obtain ⟨U, hU⟩ : ∃ U, U = us[i] := ⟨_, rfl⟩
      have hUl : U < fq.length := by rw [hU]; exact hum.1
      have HTk : Hid ((us.take (i + 1)).map (fun u => ((at0 fq u).toNat, false)) = (us.take i).map (fun u => ((at0 fq u).toNat, false)) ++ [(T, false)]) := by
        show _ = _
        rw [List.take_succ_eq_append_getElem hlt, List.map_append, hT]
        rfl
      rw [← hU] at c1' c2
      have HO := hide hO
      have HF := hide hF
      have hws : w.heap.size ≤ wr.heap.size := hF.size
      clear hO hF hum hT hT1 hget hU c1 hb1
      go_wp2_with (at_builtin; go_must (refine wpList_append_lies _ rfl _ _ 79 rfl w.heap.size 92 i0 (.agg #[.int .i64 0, .bool false]) 2 16 Try.underlying79 hi0 hz0 hz1 hz2 rfl (by decide) (.slice va i vc) i (cellsT ((us.take i).map fun u => ((at0 fq u).toNat, false))) rfl (HO.out.alloc _) ⟨wr.heap.size, 0, none⟩ 1 1 (cellsT [((T, false) : Item)]) rfl rfl (news_item _ _) (cellsT_one _) (by decide) (by unfold maxLen; omega) (by omega) (by simp; omega) (wr.heap.size + 1) (by simp) ?_); intro g cap w3 hown3 hgrow hat hlt3)
      have HF3 := hide (fr_append0 HF.out HO.out hgrow)
      have HO3 : Hid (w3.ownsRow w.heap.size 92 2 (.slice (some ⟨g, 0, none⟩) (i + 1) cap) (i + 1) (cellsT ((us.take (i + 1)).map fun u => ((at0 fq u).toNat, false)))) := by
        show World.ownsRow _ _ _ _ _ _ _
        rw [HTk.out, cellsT_append]
        exact hown3
      clear hown3 hgrow hat hlt3
      go_roundw
      case rel => exact ⟨i + 1, by omega, by go_num, HO3.out, HF3.out⟩
      case measure => simp [intOf]; omega
    · have e : i = us.length := by omega
      subst e
      go_wp2
      go_ret
      rw [List.take_length] at hO
      exact ⟨va, vc, rfl, hO, hF⟩
end Go.Proofs.Ytlkidddbndkfiaa
