/-
  Contracts of the rows of items: two rows laid together.
-/
import Derived.Test.YtlkidddbndkfiaaPa
namespace Go.Proofs.Ytlkidddbndkfiaa
open Go.RowKit

/-- What make gives: no element, room for n. -/
theorem makeRoom (n : Nat) (hn : n ≤ 1000000) : ∃ zs : Array Value, (∀ W : World, (Instr.makeSlice 79 (.int .i64 0) (.int .i64 (n : Int))).run Try.prog W = .ok (.slice (some ⟨W.heap.size, 0, none⟩) 0 n) (W.alloc (.cells zs 92))) ∧ zs.size = n * 2 := by
  obtain ⟨i0, hi, hz0, hz1, hz2⟩ := info_parts Try.info92
  refine ⟨madeCells (Value.agg #[.int .i64 0, .bool false]).cells (n * 2), fun W => ?_, by simp [size_madeCells]⟩
  have := run_make (P := Try.prog) W 79 92 i0 (.agg #[.int .i64 0, .bool false]) Try.underlying79 hi hz0 .i64 .i64 0 n (by omega) (by omega) (by rw [hz2]; omega) (by omega)
  rw [hz1] at this
  simpa using this

theorem LiesT.tail {w : World} {B o c : Nat} {x : Item} {l : List Item} (h : LiesT w (some ⟨B, o, none⟩) (x :: l)) (hc : l.length + 1 ≤ c) : LiesT w (if c = 1 then some ⟨B, o, none⟩ else some ⟨B, o + 2, none⟩) l := by
  intro j hj
  obtain ⟨B', o', e, h1, h2⟩ := h (j + 1) (by simp; omega)
  cases e
  rw [if_neg (by omega)]
  refine ⟨B, o + 2, rfl, ?_, ?_⟩
  · rw [show o + 2 + j * 2 = o + (j + 1) * 2 by omega]; exact h1
  · rw [show o + 2 + j * 2 + 1 = o + (j + 1) * 2 + 1 by omega]; exact h2

theorem LiesT.head {w : World} {a : Option Addr} {x : Item} {l : List Item} (h : LiesT w a (x :: l)) : ∃ B o, a = some ⟨B, o, none⟩ ∧ w.cell? ⟨B, o, none⟩ = some (.int .i64 ((x.1 : Nat) : Int)) ∧ w.cell? ⟨B, o + 1, none⟩ = some (.bool x.2) := by
  obtain ⟨B, o, e, h1, h2⟩ := h 0 (by simp)
  exact ⟨B, o, e, by simpa [it] using h1, by simpa [it] using h2⟩

theorem LiesT.news {w : World} {ad : Addr} {l : List Item} (h : LiesT w (some ad) l) : ∀ j u, (cellsT l)[j]? = some u → w.cell? (ad.add j) = some u := by
  intro j u hu
  have hj : j < (cellsT l).length := (List.getElem?_eq_some_iff.1 hu).1
  rw [cellsT_length] at hj
  obtain ⟨k, hk⟩ : ∃ k, k = j / 2 := ⟨_, rfl⟩
  obtain ⟨B, o, e, h1, h2⟩ := h k (by omega)
  cases e
  obtain ⟨g1, g2⟩ := cellsT_get l k (by omega)
  rw [add_none]
  rcases (by omega : j = k * 2 ∨ j = k * 2 + 1) with rfl | rfl
  · rw [g1] at hu; cases hu; exact h1
  · rw [g2] at hu; cases hu; rw [← Nat.add_assoc]; exact h2

theorem append_items {w : World} {ops : Array Oper} {rest : List Oper} {o : Oper} {a : Act} {Q : Exit → Act → World → Prop} (hgd : o.guard = none) (s x : Operand)
    (ho : o.op = .call { callee := .builtin .append, args := #[s, x], argTypes := #[79, 79] }) (base : Nat) (v : Value) (n : Nat) (xs : List Value) (hs : a.eval s = v) (hown : w.ownsRow base 92 2 v n xs)
    (sa : Option Addr) (c : Nat) (l : List Item) (hx : a.eval x = .slice sa l.length c) (hl : LiesT w sa l) (hnil : sa = none → c = 0) (h63 : n + l.length ≤ 1000000) (hbase : base ≤ w.heap.size)
    (h : ∀ v' w', w'.ownsRow base 92 2 v' (n + l.length) (xs ++ cellsT l) → Below base w w' → wpList Try.prog ops Q rest (a.put o.dst v') w') : wpList Try.prog ops Q (o :: rest) a w := by
  obtain ⟨i0, hi, hz0, hz1, hz2⟩ := info_parts Try.info92
  cases sa with
  | none =>
    have hl0 : l = [] := by
      cases l with
      | nil => rfl
      | cons y r => obtain ⟨B, o, e, _⟩ := hl 0 (by simp); cases e
    have hc := hnil rfl
    subst hl0 hc
    refine wpList_append_own_none hgd s x 79 ho base 92 i0 2 Try.underlying79 hi v n xs hs hown hx ?_
    refine h v w ?_ (Below.refl _ _)
    simpa [cellsT] using hown
  | some ad =>
    refine wpList_append_own w hgd s x 79 ho base 92 i0 (.agg #[.int .i64 0, .bool false]) 2 16 Try.underlying79 hi hz0 hz1 hz2 rfl (by decide) v n xs hs hown ad l.length c (cellsT l) hx (by simp [cellsT_length]) hl.news (cellsT_one l) (by unfold maxLen; omega) (by omega) hbase ?_
    intro v' w' h1 h2 _
    exact h v' w' h1 (Below.grown (Below.refl _ _) h2 hbase (fun k hk => (hown.lt k hk).1))

theorem LiesT.blk {w : World} {a : Option Addr} {l : List Item} (h : LiesT w a l) : ∀ ad, a = some ad → l ≠ [] → ad.block < w.heap.size := by
  intro ad e hne
  obtain ⟨B, o, e2, h1, _⟩ := h 0 (List.length_pos_iff.2 hne)
  rw [e] at e2
  cases e2
  exact World.block_lt_of_cell? _ _ h1

def slLen (v : Value) : Nat := match v with
  | .slice _ n _ => n
  | _ => 0

set_option maxHeartbeats 3200000 in
set_option maxRecDepth 100000 in
theorem merged_c (a b : Option Addr) (c d : Nat) (A B : List Item) (w : World) (ha : LiesT w a A) (hb : LiesT w b B) (hca : A.length ≤ c) (hcb : B.length ≤ d) (hna : a = none → c = 0) (hnb : b = none → d = 0) (hlen : A.length + B.length ≤ 2000) :
    Calls Try.prog 53 #[.slice a A.length c, .slice b B.length d] w fun e w' => ∃ pa pc, e = .returned (.slice pa (mrg A B).length pc) ∧ OwnT w' w.heap.size (.slice pa (mrg A B).length pc) (mrg A B) ∧ Fr (fun _ => False) w w' := by
  obtain ⟨i0, hi0, hz0, hz1, hz2⟩ := info_parts Try.info92
  obtain ⟨N, hN⟩ : ∃ N, N = A.length + B.length := ⟨_, rfl⟩
  have hN1 : (A.length : Int) + (B.length : Int) = (N : Int) := by omega
  obtain ⟨zs, hmk, hzs⟩ := makeRoom N (by omega)
  have Ha := hide ha
  have Hna := hide hna
  have Hnb := hide hnb
  have Hb := hide hb
  have HN := hide hN
  have Hzs := hide hzs
  clear ha hb hN hzs hna hnb
  go_enter Try.func53, Try.ntmps53
  go_wp2
  clear hmk
  go_loopw [0, 1, 5] (fun av bv vv wr => ∃ (A2 B2 D : List Item) (aa bb : Option Addr) (ca cb : Nat), av = .slice aa A2.length ca ∧ bv = .slice bb B2.length cb ∧ Hid (D ++ mrg A2 B2 = mrg A B) ∧ LiesT w aa A2 ∧ LiesT w bb B2 ∧ A2.length ≤ ca ∧ B2.length ≤ cb ∧ Hid (aa = none → ca = 0) ∧ Hid (bb = none → cb = 0) ∧ D.length + A2.length + B2.length ≤ 2000 ∧ wr.ownsRow w.heap.size 92 2 vv D.length (cellsT D) ∧ Fr (fun _ => False) w wr) (fun av bv _ _ => slLen av + slLen bv)
  case atStart =>
    refine ⟨A, B, [], a, b, c, d, rfl, rfl, rfl, Ha.out, Hb.out, hca, hcb, Hna.out, Hnb.out, by simp; omega, ?_, Fr.of_alloc _ _⟩
    exact World.ownsRow_made w zs N (Nat.le_refl _) (by unfold maxLen; have := HN.out; omega) Hzs.out
  case round =>
    obtain ⟨A2, B2, D, aa, bb, ca, cb, rfl, rfl, HD, hA, hB, hca2, hcb2, Hn1, Hn2, hDl, hO, hF⟩ := hrel
    obtain ⟨va, vc, rfl⟩ := ownsRow_shape hO
    have hws : w.heap.size ≤ wr.heap.size := hF.size
    cases A2 with
    | nil =>
      have HA := hide hA
      have HB := hide hB
      have HO := hide hO
      have HF := hide hF
      have hmr : mrg ([] : List Item) B2 = B2 := by rw [mrg]
      have HM : Hid (mrg A B = D ++ ([] : List Item) ++ B2) := by
        show _ = _
        rw [← HD.out, hmr]
        simp
      have hAl : D.length + (([] : List Item)).length ≤ 2000 := by simp at hDl ⊢; omega
      have hBl : D.length + (([] : List Item)).length + (B2).length ≤ 2000 := by simp at hDl ⊢; omega

      clear hA hB hO hF hmr hDl
      go_wp2_with (at_builtin; first
        | (refine append_items rfl _ _ rfl w.heap.size (.slice va D.length vc) D.length (cellsT D) rfl HO.out aa ca ([] : List Item) rfl (HA.out.keep0 HF.out) Hn1.out (by omega) hws ?_; intro v1 w7 hO7 hB7; obtain ⟨v1a, v1c, rfl⟩ := ownsRow_shape hO7; have HO7 := hide hO7; have HF7 := hide (HF.out.join_new ((Fr.of_below hB7).mono fun k _ h => h)); have hws7 : w.heap.size ≤ w7.heap.size := Nat.le_trans hws hB7.size; clear hO7 hB7)
        | (refine append_items rfl _ _ rfl w.heap.size (.slice v1a (D.length + (([] : List Item)).length) v1c) (D.length + (([] : List Item)).length) (cellsT D ++ cellsT ([] : List Item)) rfl HO7.out bb cb B2 rfl (HB.out.keep0 HF7.out) Hn2.out (by omega) hws7 ?_; intro v2 w8 hO8 hB8; obtain ⟨v2a, v2c, rfl⟩ := ownsRow_shape hO8))
      have hM := HM.out
      have hlen2 : (mrg A B).length = D.length + (([] : List Item)).length + (B2).length := by rw [hM]; simp only [List.length_append]
      have hO9 : OwnT w8 w.heap.size (.slice v2a (mrg A B).length v2c) (mrg A B) := by
        show World.ownsRow _ _ _ _ _ _ _
        rw [hlen2, hM, cellsT_append, cellsT_append]
        exact hO8
      have HO9 := hide hO9
      have HF9 := hide (HF7.out.join_new ((Fr.of_below hB8).mono fun k _ h => h))
      have Hl2 := hide hlen2
      clear hO8 hB8 hO9 hlen2 hM
      go_ret
      exact ⟨v2a, v2c, by rw [Hl2.out]; rfl, HO9.out, HF9.out⟩
    | cons x A3 =>
      cases B2 with
      | nil =>
        have HA := hide hA
        have HB := hide hB
        have HO := hide hO
        have HF := hide hF
        have hmr : mrg (x :: A3) ([] : List Item) = x :: A3 := by rw [mrg]
        have HM : Hid (mrg A B = D ++ (x :: A3) ++ ([] : List Item)) := by
          show _ = _
          rw [← HD.out, hmr]
          simp
        have hAl : D.length + ((x :: A3)).length ≤ 2000 := by simp at hDl ⊢; omega
        have hBl : D.length + ((x :: A3)).length + (([] : List Item)).length ≤ 2000 := by simp at hDl ⊢; omega

        clear hA hB hO hF hmr hDl
        go_wp2_with (at_builtin; first
          | (refine append_items rfl _ _ rfl w.heap.size (.slice va D.length vc) D.length (cellsT D) rfl HO.out aa ca (x :: A3) rfl (HA.out.keep0 HF.out) Hn1.out (by omega) hws ?_; intro v1 w7 hO7 hB7; obtain ⟨v1a, v1c, rfl⟩ := ownsRow_shape hO7; have HO7 := hide hO7; have HF7 := hide (HF.out.join_new ((Fr.of_below hB7).mono fun k _ h => h)); have hws7 : w.heap.size ≤ w7.heap.size := Nat.le_trans hws hB7.size; clear hO7 hB7)
          | (refine append_items rfl _ _ rfl w.heap.size (.slice v1a (D.length + ((x :: A3)).length) v1c) (D.length + ((x :: A3)).length) (cellsT D ++ cellsT (x :: A3)) rfl HO7.out bb cb ([] : List Item) rfl (HB.out.keep0 HF7.out) Hn2.out (by omega) hws7 ?_; intro v2 w8 hO8 hB8; obtain ⟨v2a, v2c, rfl⟩ := ownsRow_shape hO8))
        have hM := HM.out
        have hlen2 : (mrg A B).length = D.length + ((x :: A3)).length + (([] : List Item)).length := by rw [hM]; simp only [List.length_append]
        have hO9 : OwnT w8 w.heap.size (.slice v2a (mrg A B).length v2c) (mrg A B) := by
          show World.ownsRow _ _ _ _ _ _ _
          rw [hlen2, hM, cellsT_append, cellsT_append]
          exact hO8
        have HO9 := hide hO9
        have HF9 := hide (HF7.out.join_new ((Fr.of_below hB8).mono fun k _ h => h))
        have Hl2 := hide hlen2
        clear hO8 hB8 hO9 hlen2 hM
        go_ret
        exact ⟨v2a, v2c, by rw [Hl2.out]; rfl, HO9.out, HF9.out⟩
      | cons y B3 =>
        obtain ⟨gB, go, rfl, a1, a2⟩ := (hA.keep0 hF).head
        obtain ⟨hBk, ho, rfl, b1, b2⟩ := (hB.keep0 hF).head
        have HA := hide hA
        have HB := hide hB
        have HO := hide hO
        have HF := hide hF
        have hlA : (0 : Int) < ((x :: A3).length : Nat) := by simp
        have hlB : (0 : Int) < ((y :: B3).length : Nat) := by simp
        clear hA hB hO hF
        obtain ⟨X, hX⟩ : ∃ X, X = x.1 := ⟨_, rfl⟩
        obtain ⟨Y, hY⟩ : ∃ Y, Y = y.1 := ⟨_, rfl⟩
        rw [← hX] at a1
        rw [← hY] at b1
        obtain ⟨LA, hLA⟩ : ∃ LA, LA = (x :: A3).length := ⟨_, rfl⟩
        obtain ⟨LB, hLB⟩ : ∃ LB, LB = (y :: B3).length := ⟨_, rfl⟩
        rw [← hLA, ← hLB]
        rw [← hLA] at hlA hca2 hDl
        rw [← hLB] at hlB hcb2 hDl
        have HLA := hide hLA
        have HLB := hide hLB
        have HX := hide hX
        have HY := hide hY
        have hLA1 : (1 : Int) ≤ (LA : Int) := by omega
        have hLB1 : (1 : Int) ≤ (LB : Int) := by omega
        clear hLA hLB hX hY
        by_cases hle : X ≤ Y
        · have hle2 : (X : Int) ≤ (Y : Int) := by omega
          go_wp2
          go_quiet (fail)
          have HF5 := hide (HF.out.join (Fr.of_drewN wr nq))
          have HO5 := hide (ownsRow_fr HO.out fun k _ => rfl (a := (wr.drewN nq).heap[k]?))
          have a1' : (wr.drewN nq).cell? ⟨gB, go, none⟩ = some (.int .i64 (X : Int)) := a1
          have a2' : (wr.drewN nq).cell? ⟨gB, go + 1, none⟩ = some (.bool x.2) := a2
          have hws5 : w.heap.size ≤ (wr.drewN nq).heap.size := hws
          generalize wr.drewN nq = w5 at HF5 HO5 a1' a2' hws5 ⊢
          clear a1 a2 b1 b2 HF HO hws
          go_wp2
          go_region_law ((refine step_append_lies _ (by rfl) _ _ _ (by rfl) w.heap.size 92 i0 (.agg #[.int .i64 0, .bool false]) 2 16 Try.underlying79 hi0 hz0 hz1 hz2 rfl (by decide) (.slice va D.length vc) D.length (cellsT D) (by rfl) (own_drew' HO5.out _) ⟨w5.heap.size, 0, none⟩ 1 1 (cellsT [((X, x.2) : Item)]) (by rfl) rfl (news_item _ _) (cellsT_one _) (by decide) (by unfold maxLen; omega) (by omega) (by simp; omega) (w5.heap.size + 1) (by simp) ?_; intro g cap w6 hown6 hgrow hat hlt6))
          all_goals
            have hT := HA.out.tail (c := ca) (by have := HLA.out; simp at this; omega)
            have hTn : (if ca = 1 then some (⟨gB, go, none⟩ : Addr) else some ⟨gB, go + 2, none⟩) ≠ none := by split <;> simp
            generalize (if ca = 1 then some (⟨gB, go, none⟩ : Addr) else some ⟨gB, go + 2, none⟩) = na at hT hTn ⊢
            have HTn : Hid (na = none → ca - 1 = 0) := fun e => absurd e hTn
            have HT := hide hT
            obtain ⟨L2, hL2⟩ : ∃ L2, L2 = LA - 1 := ⟨_, rfl⟩
            obtain ⟨c2, hc2⟩ : ∃ c2, c2 = ca - 1 := ⟨_, rfl⟩
            rw [← hL2, ← hc2]
            rw [← hc2] at HTn
            have HL2 := hide hL2
            have Hc2 := hide hc2
            have HF6 := hide (fr_append HF5.out HO5.out hgrow)
            have HO6 : Hid (w6.ownsRow w.heap.size 92 2 (.slice (some ⟨g, 0, none⟩) (D.length + 1) cap) (D ++ [x]).length (cellsT (D ++ [x]))) := by
              show World.ownsRow _ _ _ _ _ _ _
              rw [cellsT_append, List.length_append]
              have e : (X, x.2) = x := by rw [HX.out]
              rw [e] at hown6
              exact hown6
            have HD6 : Hid ((D ++ [x]) ++ mrg A3 (y :: B3) = mrg A B) := by
              show _ = _
              rw [← HD.out, mrg, if_pos (by rw [← HX.out, ← HY.out]; exact hle), List.append_assoc]
              rfl
            clear hT hL2 hc2 hTn hown6 hgrow hat hlt6
            simp [Act.put]
            go_wp2
            refine ⟨?rel, ?measure⟩
            case rel =>
              have e1 := HLA.out
              have e2 := HLB.out
              have e3 := HL2.out
              have e4 := Hc2.out
              simp only [List.length_cons] at e1 e2
              refine ⟨A3, y :: B3, D ++ [x], na, some ⟨hBk, ho, none⟩, c2, cb, by rw [show L2 = A3.length by omega], by rw [e2]; rfl, HD6, HT.out, HB.out, by omega, by simp; omega, HTn, Hn2, by simp; omega, HO6.out, HF6.out⟩
            case measure =>
              have e3 := HL2.out
              simp [slLen]; omega
        · have hle2 : ¬ (X : Int) ≤ (Y : Int) := by omega
          go_wp2
          go_quiet (fail)
          have HF5 := hide (HF.out.join (Fr.of_drewN wr nq))
          have HO5 := hide (ownsRow_fr HO.out fun k _ => rfl (a := (wr.drewN nq).heap[k]?))
          have a1' : (wr.drewN nq).cell? ⟨hBk, ho, none⟩ = some (.int .i64 (Y : Int)) := b1
          have a2' : (wr.drewN nq).cell? ⟨hBk, ho + 1, none⟩ = some (.bool y.2) := b2
          have hws5 : w.heap.size ≤ (wr.drewN nq).heap.size := hws
          generalize wr.drewN nq = w5 at HF5 HO5 a1' a2' hws5 ⊢
          clear a1 a2 b1 b2 HF HO hws
          go_wp2
          go_region_law ((refine step_append_lies _ (by rfl) _ _ _ (by rfl) w.heap.size 92 i0 (.agg #[.int .i64 0, .bool false]) 2 16 Try.underlying79 hi0 hz0 hz1 hz2 rfl (by decide) (.slice va D.length vc) D.length (cellsT D) (by rfl) (own_drew' HO5.out _) ⟨w5.heap.size, 0, none⟩ 1 1 (cellsT [((Y, y.2) : Item)]) (by rfl) rfl (news_item _ _) (cellsT_one _) (by decide) (by unfold maxLen; omega) (by omega) (by simp; omega) (w5.heap.size + 1) (by simp) ?_; intro g cap w6 hown6 hgrow hat hlt6))
          all_goals
            have hT := HB.out.tail (c := cb) (by have := HLB.out; simp at this; omega)
            have hTn : (if cb = 1 then some (⟨hBk, ho, none⟩ : Addr) else some ⟨hBk, ho + 2, none⟩) ≠ none := by split <;> simp
            generalize (if cb = 1 then some (⟨hBk, ho, none⟩ : Addr) else some ⟨hBk, ho + 2, none⟩) = na at hT hTn ⊢
            have HTn : Hid (na = none → cb - 1 = 0) := fun e => absurd e hTn
            have HT := hide hT
            obtain ⟨L2, hL2⟩ : ∃ L2, L2 = LB - 1 := ⟨_, rfl⟩
            obtain ⟨c2, hc2⟩ : ∃ c2, c2 = cb - 1 := ⟨_, rfl⟩
            rw [← hL2, ← hc2]
            rw [← hc2] at HTn
            have HL2 := hide hL2
            have Hc2 := hide hc2
            have HF6 := hide (fr_append HF5.out HO5.out hgrow)
            have HO6 : Hid (w6.ownsRow w.heap.size 92 2 (.slice (some ⟨g, 0, none⟩) (D.length + 1) cap) (D ++ [y]).length (cellsT (D ++ [y]))) := by
              show World.ownsRow _ _ _ _ _ _ _
              rw [cellsT_append, List.length_append]
              have e : (Y, y.2) = y := by rw [HY.out]
              rw [e] at hown6
              exact hown6
            have HD6 : Hid ((D ++ [y]) ++ mrg (x :: A3) B3 = mrg A B) := by
              show _ = _
              rw [← HD.out, mrg, if_neg (by rw [← HX.out, ← HY.out]; exact hle), List.append_assoc]
              rfl
            clear hT hL2 hc2 hTn hown6 hgrow hat hlt6
            simp [Act.put]
            go_wp2
            refine ⟨?rel, ?measure⟩
            case rel =>
              have e1 := HLA.out
              have e2 := HLB.out
              have e3 := HL2.out
              have e4 := Hc2.out
              simp only [List.length_cons] at e1 e2
              refine ⟨x :: A3, B3, D ++ [y], some ⟨gB, go, none⟩, na, ca, c2, by rw [e1]; rfl, by rw [show L2 = B3.length by omega], HD6, HA.out, HT.out, by simp; omega, by omega, Hn1, HTn, by simp; omega, HO6.out, HF6.out⟩
            case measure =>
              have e3 := HL2.out
              simp [slLen]; omega
end Go.Proofs.Ytlkidddbndkfiaa
