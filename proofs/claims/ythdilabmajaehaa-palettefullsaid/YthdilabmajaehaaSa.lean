/-
  raster: rows of samples; Clone; both Copies.
-/
import Derived.Test.YthdilabmajaehaaRm
import Derived.Lib.Walk
import Derived.Lib.SliceRun
namespace Go.Proofs.Ythdilabmajaehaa
open Go.RowKit

/-- A row of samples that lies at a. -/
def Lies (w : World) (a : Option Addr) (px : List Nat) : Prop :=
  (∀ b ∈ px, b < 65536) ∧ ∀ j, j < px.length → ∃ ad, a = some ad ∧ w.cell? (ad.add j) = some (.int .u16 ((px.getD j 0 : Nat) : Int))

theorem Lies.keep {w w' : World} {S : Nat → Prop} {a : Option Addr} {px : List Nat} (h : Lies w a px) (f : Fr S w w') (hn : ∀ ad, a = some ad → px ≠ [] → ¬ S ad.block) : Lies w' a px := by
  refine ⟨h.1, fun j hj => ?_⟩
  obtain ⟨ad, e, hc⟩ := h.2 j hj
  refine ⟨ad, e, ?_⟩
  have hne : px ≠ [] := fun e => by rw [e] at hj; simp at hj
  have hl := cell_lt hc
  have hb : (ad.add j).block = ad.block := by unfold Addr.add; split <;> rfl
  rw [← hc]
  refine cell_blk (f.block _ hl ?_)
  rw [hb]
  exact hn ad e hne

theorem Lies.keep0 {w w' : World} {a : Option Addr} {px : List Nat} (h : Lies w a px) (f : Fr (fun _ => False) w w') : Lies w' a px := h.keep f fun _ _ _ h => h

/-- A row that is not empty lies at a plain place. -/
theorem Lies.form {w : World} {a : Option Addr} {px : List Nat} (h : Lies w a px) (hp : 0 < px.length) : ∃ b o, a = some ⟨b, o, none⟩ ∧ b < w.heap.size := by
  obtain ⟨ad, e, hc⟩ := h.2 0 hp
  have e0 : ad.add 0 = ad := by unfold Addr.add; rw [if_pos rfl]
  rw [e0] at hc
  obtain ⟨b, o, s⟩ := ad
  cases s with
  | none => exact ⟨b, o, e, cell_lt hc⟩
  | some s =>
    simp only [World.cell?] at hc
    split at hc <;> simp at hc

theorem Lies.cell {w : World} {b o : Nat} {px : List Nat} (h : Lies w (some ⟨b, o, none⟩) px) {j : Nat} (hj : j < px.length) : w.cell? ⟨b, o + j, none⟩ = some (.int .u16 ((px.getD j 0 : Nat) : Int)) := by
  obtain ⟨ad, e, hc⟩ := h.2 j hj
  cases e
  rw [add_none] at hc
  exact hc

theorem cellsU_length (px : List Nat) : (cellsU px).length = px.length := by simp [cellsU]
theorem cellsU_get {px : List Nat} {j : Nat} (hj : j < px.length) : (cellsU px)[j]? = some (.int .u16 ((px.getD j 0 : Nat) : Int)) := by
  simp [cellsU, List.getElem?_eq_getElem hj, List.getD_eq_getElem?_getD]
theorem cellsU_one (px : List Nat) : ∀ u ∈ cellsU px, u.oneCell' = true := fun u hu => by
  simp only [cellsU, List.mem_map] at hu
  obtain ⟨b, _, rfl⟩ := hu
  rfl

theorem Lies.cells {w : World} {ad : Addr} {px : List Nat} (h : Lies w (some ad) px) : ∀ j u, (cellsU px)[j]? = some u → w.cell? (ad.add j) = some u := fun j u hu => by
  have hj : j < px.length := by rw [← cellsU_length]; exact (List.getElem?_eq_some_iff.1 hu).1
  rw [cellsU_get hj] at hu
  cases hu
  obtain ⟨ad', e, hc⟩ := h.2 j hj
  cases e
  exact hc

/-- Samples of one's own. -/
structure Own (w : World) (lo : Nat) (a : Option Addr) (n c : Nat) (px : List Nat) : Prop where
  own : w.ownsRow lo 29 1 (.slice a n c) n (cellsU px)
  small : ∀ b ∈ px, b < 65536

theorem Own.len {w : World} {lo : Nat} {a : Option Addr} {n c : Nat} {px : List Nat} (h : Own w lo a n c px) : px.length = n := by
  have := h.own.1
  rw [cellsU_length] at this
  omega

theorem Own.form {w : World} {lo : Nat} {a : Option Addr} {n c : Nat} {px : List Nat} (h : Own w lo a n c px) (hn : 0 < n) : ∃ g cur, a = some ⟨g, 0, none⟩ ∧ lo ≤ g ∧ w.heap[g]? = some (.cells cur 29 (0, 0)) ∧ n ≤ c ∧ cur.size = c ∧ cur.toList.take n = cellsU px := by
  rcases h.own.2 with ⟨_, e⟩ | ⟨g, cap, cur, hv, hg, hh, hc, hm, hs, ht⟩
  · omega
  · cases hv
    exact ⟨g, cur, rfl, hg, hh, hc, by omega, by simpa using ht⟩

theorem Own.lies {w : World} {lo : Nat} {a : Option Addr} {n c : Nat} {px : List Nat} (h : Own w lo a n c px) : Lies w a px := by
  refine ⟨h.small, fun j hj => ?_⟩
  have hl := h.len
  obtain ⟨g, cur, rfl, _, hh, _, hs, ht⟩ := h.form (by omega)
  refine ⟨_, rfl, ?_⟩
  rw [add_none, Nat.zero_add]
  refine cell_of hh ?_
  rw [← Array.getElem?_toList]
  have e := cellsU_get hj
  rw [← ht, List.getElem?_take, if_pos (by omega)] at e
  exact e

theorem Own.keep {w w' : World} {S : Nat → Prop} {lo : Nat} {a : Option Addr} {n c : Nat} {px : List Nat} (h : Own w lo a n c px) (f : Fr S w w') (hn : ∀ ad, a = some ad → ¬ S ad.block) : Own w' lo a n c px := by
  refine ⟨ownsRow_fr h.own fun k hk => ?_, h.small⟩
  cases a with
  | none => cases hk
  | some ad =>
    have e : ad.block = k := by simpa [Value.ownBlock] using hk
    have hl := (h.own.lt k hk).2
    exact f.block k hl (by rw [← e]; exact hn ad rfl)

theorem Own.lt {w : World} {lo : Nat} {ad : Addr} {n c : Nat} {px : List Nat} (h : Own w lo (some ad) n c px) : lo ≤ ad.block ∧ ad.block < w.heap.size := h.own.lt _ rfl

theorem Own.low {w : World} {lo lo' : Nat} {a : Option Addr} {n c : Nat} {px : List Nat} (h : Own w lo a n c px) (hl : lo' ≤ lo) : Own w lo' a n c px := by
  refine ⟨⟨h.own.1, ?_⟩, h.small⟩
  rcases h.own.2 with e | ⟨g, cap, cur, hv, hg, r⟩
  · exact Or.inl e
  · exact Or.inr ⟨g, cap, cur, hv, by omega, r⟩

theorem grown_fr {w w' : World} {row : Option Nat} (h : w.grownBy w' row) (lo : Nat) (hr : ∀ k, row = some k → lo ≤ k) (hlo : lo ≤ w.heap.size) : Below lo w w' := Below.grown (Below.refl _ _) h hlo hr

theorem wp_appnil {w : World} {o : Oper} {act : Act} {K : Act → World → Prop} {Q : Exit → Act → World → Prop} (s x : Operand)
    (ho : o.op = .call { callee := .builtin .append, args := #[s, x], argTypes := #[22, 22] }) (hs : act.eval s = .slice none 0 0) (a : Option Addr) (n c : Nat) (px : List Nat) (hx : act.eval x = .slice a n c)
    (hl : Lies w a px) (hp : px.length = n) (hnil : a = none → n = 0 ∧ c = 0) (hn : n ≤ 1000000)
    (h : ∀ a' c' w', Own w' w.heap.size a' n c' px → Below w.heap.size w w' → K (act.put o.dst (.slice a' n c')) w') : o.wp Try.prog act w K Q := by
  obtain ⟨i0, hi, hz0, hz1, hz2⟩ := info_parts Try.info29
  have hown : w.ownsRow w.heap.size 29 1 (.slice none 0 0) 0 [] := ⟨rfl, Or.inl ⟨rfl, rfl⟩⟩
  cases a with
  | none =>
    obtain ⟨rfl, rfl⟩ := hnil rfl
    have e : px = [] := List.eq_nil_of_length_eq_zero hp
    subst e
    have hrun := run_append_owned_none (P := Try.prog) (w := w) w.heap.size 22 o.type 29 i0 1 Try.underlying22 hi _ _ _ hown
    have := h none 0 w ⟨hown, fun b hb => by simp at hb⟩ (Below.refl _ _)
    unfold Oper.wp execOp
    simp only [ho, resolve, invoke, builtin, Sem.run_bind, Sem.run_pure, Result.andThen_ok, List.map_toArray, List.map_cons, List.map_nil, hs, hx, hrun]
    exact this
  | some ad =>
    refine wp_append_own w s x 22 ho w.heap.size 29 i0 (.int .u16 0) 1 2 Try.underlying22 hi hz0 hz1 hz2 rfl (by decide) _ 0 [] hs hown ad n c (cellsU px) hx (by rw [cellsU_length, Nat.mul_one]; exact hp) hl.cells (cellsU_one px) (by unfold maxLen; omega) (by omega) (Nat.le_refl _) ?_
    intro v' w' h1 h2 _
    obtain ⟨a', c', hv⟩ := ownsRow_shape h1
    rw [Nat.zero_add] at hv h1
    rw [hv] at h1 ⊢
    exact h a' c' w' ⟨h1, hl.1⟩ (Below.grown (Below.refl _ _) h2 (Nat.le_refl _) (fun k hk => by simp [Value.ownBlock] at hk))

set_option maxHeartbeats 200000 in
set_option maxRecDepth 100000 in
theorem rcopy_c (W H : Int) (a : Option Addr) (n c : Nat) (px : List Nat) (w : World) (hl : Lies w a px) (hp : px.length = n) (hnil : a = none → n = 0 ∧ c = 0) (hn : n ≤ 1000000) :
    Calls Try.prog 24 #[rasV W H a n c] w fun e w' => ∃ a' c', e = .returned (rasV W H a' n c') ∧ Own w' w.heap.size a' n c' px ∧ Fr (fun _ => False) w w' := by
  obtain ⟨w1, hw1⟩ : ∃ w1, w1 = (w.alloc (.cells #[.int .i64 W, .int .i64 H, .slice a n c] 24)).alloc (.cells #[.int .i64 0, .int .i64 0, .slice none 0 0] 24) := ⟨_, rfl⟩
  have hb : w1.heap[w.heap.size]? = some (.cells #[.int .i64 W, .int .i64 H, .slice a n c] 24 (0, 0)) := by rw [hw1]; exact (Below.heap_alloc _ _ _ (by simp)).trans (heap_alloc_at rfl)
  have hb2 : w1.heap[w.heap.size + 1]? = some (.cells #[.int .i64 0, .int .i64 0, .slice none 0 0] 24 (0, 0)) := by rw [hw1]; exact heap_alloc_at (by simp)
  have hF : Fr (fun _ => False) w w1 := by rw [hw1]; exact (Fr.of_alloc _ _).join (Fr.of_alloc _ _)
  have hsz : w1.heap.size = w.heap.size + 2 := by rw [hw1]; simp
  have Hl := hide hl
  have Hb := hide hb
  have Hb2 := hide hb2
  have HF := hide hF
  have Hw1 := hide hw1
  have Hp := hide hp
  have Hn := hide hnil
  have Hsz := hide hsz
  have hfr0 : Fr (fun _ => False) w1 w1 := Fr.refl _ _
  have Hn2 : n ≤ 1000000 := hn
  clear hl hb hb2 hF hw1 hp hnil hsz
  go_enter Try.func24, Try.ntmps24
  go_upto_region 1 with fail
  rw [← Hw1.out]
  have HL : ∀ {W}, Fr (fun k => k = w.heap.size + 1) w1 W → Lies W a px := fun f => Hl.out.keep0 (frJ HF.out f (fun i e => by have e2 : i = w.heap.size + 1 := e; omega))
  refine wp_region_held_drew (S := fun w' => Fr (fun k => k = w.heap.size + 1) w1 w') (by kernel_rfl) (by exact (Fr.of_drewN _ 1).mono fun _ _ h => h.elim) (fun hHeld => ?_)
  refine wpAnyH_take (i := 0) (v := ?v0) rfl (by kernel_rfl) (by kernel_rfl) (by kernel_rfl) (fun _ _ _ h => h) (Or.inl ⟨by rfl, ?hy0⟩) hHeld ?rest0
  case hy0 => (intro W hSw; (try dsimp only at hSw); have k0 := cell_of (o := 0) (cells_at Hb.out hSw (fun e => absurd e (by omega))) rfl; have k1 := cell_of (o := 1) (cells_at Hb.out hSw (fun e => absurd e (by omega))) rfl; have k2 := cell_of (o := 2) (cells_at Hb.out hSw (fun e => absurd e (by omega))) rfl; go_simp; all_goals (with_reducible rfl))
  change wpAnyH _ _ _ _ _ _ _ (Act.put _ (some 3) _) _
  simp only [Act.put, List.setIfInBounds_toArray, List.set_cons_zero, List.set_cons_succ]
  refine wpAnyH_take (i := 2) (v := ?v2) rfl (by kernel_rfl) (by kernel_rfl) (by kernel_rfl) (fun _ _ _ h => h) (Or.inl ⟨by rfl, ?hy2⟩) hHeld ?rest2
  case hy2 => (intro W hSw; (try dsimp only at hSw); have k0 := cell_of (o := 0) (cells_at Hb.out hSw (fun e => absurd e (by omega))) rfl; have k1 := cell_of (o := 1) (cells_at Hb.out hSw (fun e => absurd e (by omega))) rfl; have k2 := cell_of (o := 2) (cells_at Hb.out hSw (fun e => absurd e (by omega))) rfl; go_simp; all_goals (with_reducible rfl))
  change wpAnyH _ _ _ _ _ _ _ (Act.put _ (some 5) _) _
  simp only [Act.put, List.setIfInBounds_toArray, List.set_cons_zero, List.set_cons_succ]
  refine wpAnyH_take (i := 4) (v := ?v4) rfl (by kernel_rfl) (by kernel_rfl) (by kernel_rfl) (fun _ _ _ h => h) (Or.inl ⟨by rfl, ?hy4⟩) hHeld ?rest4
  case hy4 => (intro W hSw; (try dsimp only at hSw); have k0 := cell_of (o := 0) (cells_at Hb.out hSw (fun e => absurd e (by omega))) rfl; have k1 := cell_of (o := 1) (cells_at Hb.out hSw (fun e => absurd e (by omega))) rfl; have k2 := cell_of (o := 2) (cells_at Hb.out hSw (fun e => absurd e (by omega))) rfl; go_simp; all_goals (with_reducible rfl))
  change wpAnyH _ _ _ _ _ _ _ (Act.put _ (some 7) _) _
  simp only [Act.put, List.setIfInBounds_toArray, List.set_cons_zero, List.set_cons_succ]
  refine wpAnyH_take (i := 1) (v := ?v1) rfl (by kernel_rfl) (by kernel_rfl) (by kernel_rfl) (fun _ _ _ h => h) (Or.inl ⟨by rfl, ?hy1⟩) hHeld ?rest1
  case hy1 => (intro W hSw; (try dsimp only at hSw); have k0 := cell_of (o := 0) (cells_at Hb.out hSw (fun e => absurd e (by omega))) rfl; have k1 := cell_of (o := 1) (cells_at Hb.out hSw (fun e => absurd e (by omega))) rfl; have k2 := cell_of (o := 2) (cells_at Hb.out hSw (fun e => absurd e (by omega))) rfl; go_simp; all_goals (with_reducible rfl))
  change wpAnyH _ _ _ _ _ _ _ (Act.put _ (some 4) _) _
  simp only [Act.put, List.setIfInBounds_toArray, List.set_cons_zero, List.set_cons_succ]
  refine wpAnyH_take (i := 3) (v := ?v3) rfl (by kernel_rfl) (by kernel_rfl) (by kernel_rfl) (fun _ _ _ h => h) (Or.inl ⟨by rfl, ?hy3⟩) hHeld ?rest3
  case hy3 => (intro W hSw; (try dsimp only at hSw); have k0 := cell_of (o := 0) (cells_at Hb.out hSw (fun e => absurd e (by omega))) rfl; have k1 := cell_of (o := 1) (cells_at Hb.out hSw (fun e => absurd e (by omega))) rfl; have k2 := cell_of (o := 2) (cells_at Hb.out hSw (fun e => absurd e (by omega))) rfl; go_simp; all_goals (with_reducible rfl))
  change wpAnyH _ _ _ _ _ _ _ (Act.put _ (some 6) _) _
  simp only [Act.put, List.setIfInBounds_toArray, List.set_cons_zero, List.set_cons_succ]
  refine wpAnyH_take (i := 5) (v := ?v5) rfl (by kernel_rfl) (by kernel_rfl) (by kernel_rfl) (fun _ _ _ h => h) (Or.inl ⟨by rfl, ?hy5⟩) hHeld ?rest5
  case hy5 => (intro W hSw; (try dsimp only at hSw); have k0 := cell_of (o := 0) (cells_at Hb.out hSw (fun e => absurd e (by omega))) rfl; have k1 := cell_of (o := 1) (cells_at Hb.out hSw (fun e => absurd e (by omega))) rfl; have k2 := cell_of (o := 2) (cells_at Hb.out hSw (fun e => absurd e (by omega))) rfl; go_simp; all_goals (with_reducible rfl))
  change wpAnyH _ _ _ _ _ _ _ (Act.put _ (some 8) _) _
  simp only [Act.put, List.setIfInBounds_toArray, List.set_cons_zero, List.set_cons_succ]
  refine wpAnyH_ready (rs := [6]) (by kernel_rfl) (by simp) ?_
  refine AllReadyH.cons rfl (fun K hK => ?_) AllReadyH.nil
  try simp only [List.getElem_toArray, List.getElem_cons_succ, List.getElem_cons_zero]
  rw [if_pos (by rfl)]
  refine wp_appnil _ _ rfl rfl a n c px rfl (HL hHeld) Hp.out Hn.out Hn2 ?_
  rintro a' c' w2 hown hbl
  have hB1 : Hid (w1.drew.heap[w.heap.size + 1]? = some (.cells #[.int .i64 0, .int .i64 0, .slice none 0 0] 24 (0, 0))) := Hb2.out
  have hF2 : Fr (fun k => k = w.heap.size + 1) w1 w2 := (hHeld.trans (Fr.of_below hbl)).mono fun i hi e => e.elim id fun e => absurd hi (Nat.not_lt.2 e)
  have hb3 := (Fr.of_below hbl).block (w.heap.size + 1) (by have := hHeld.size; have := Hsz.out; omega) (by have := hHeld.size; have := Hsz.out; show ¬ _ ≤ _; omega)
  refine hK.out _ _ hF2 (fun hHeld => ?_)
  clear hK K
  refine wpAnyH_take (i := 7) (v := ?v7) rfl (by kernel_rfl) (by kernel_rfl) (by kernel_rfl) (fun _ _ _ h => h) (Or.inl ⟨by rfl, ?hy7⟩) hHeld ?rest7
  case hy7 => (intro W hSw; (try dsimp only at hSw); have k0 := cell_of (o := 0) (cells_at Hb.out hSw (fun e => absurd e (by omega))) rfl; have k1 := cell_of (o := 1) (cells_at Hb.out hSw (fun e => absurd e (by omega))) rfl; have k2 := cell_of (o := 2) (cells_at Hb.out hSw (fun e => absurd e (by omega))) rfl; go_simp; all_goals (with_reducible rfl))
  change wpAnyH _ _ _ _ _ _ _ (Act.put _ (some 10) _) _
  simp only [Act.put, List.setIfInBounds_toArray, List.set_cons_zero, List.set_cons_succ]
  refine wpAnyH_ready (rs := [8]) (by kernel_rfl) (by simp) ?_
  refine AllReadyH.cons rfl (fun K hK => ?_) AllReadyH.nil
  try simp only [List.getElem_toArray, List.getElem_cons_succ, List.getElem_cons_zero]
  have hb4 := hb3.trans hB1.out
  have d0 := cell_of (o := 0) hb4 rfl
  have d1 := cell_of (o := 1) hb4 rfl
  have d2 := cell_of (o := 2) hb4 rfl
  have f0 := frozen_of (o := 0) hb4
  have f1 := frozen_of (o := 1) hb4
  have f2 := frozen_of (o := 2) hb4
  go_simp
  refine hK.out _ _ (hF2.join (((Fr.of_setCell w2 ⟨w.heap.size + 1, 0, none⟩ (.int .i64 W)).join (Fr.of_setCell _ ⟨w.heap.size + 1, 1, none⟩ (.int .i64 H))).join (Fr.of_setCell _ ⟨w.heap.size + 1, 2, none⟩ (.slice a' n c')))) (fun hHeld => ?_)
  clear hK K
  refine wpAnyH_done (by kernel_rfl) ?_ _
  obtain ⟨d, u1, u2, u3⟩ := Try.und24
  obtain ⟨B, hB⟩ : ∃ B, B = w.heap.size + 1 := ⟨_, rfl⟩
  have hb0 := hb3.trans hB1.out
  go_wp2_with fail
  rw [← hB] at hb0 ⊢
  have e1 := heap_setCell_own (o := 2) (.slice a' n c') (heap_setCell_own (o := 1) (.int .i64 H) (heap_setCell_own (o := 0) (.int .i64 W) hb0))
  have hf9 := ((Fr.of_setCell w2 ⟨B, 0, none⟩ (.int .i64 W)).join (Fr.of_setCell _ ⟨B, 1, none⟩ (.int .i64 H))).join (Fr.of_setCell _ ⟨B, 2, none⟩ (.slice a' n c'))
  obtain ⟨w9, hw9⟩ : ∃ w9, w9 = ((w2.setCell ⟨B, 0, none⟩ (.int .i64 W)).setCell ⟨B, 1, none⟩ (.int .i64 H)).setCell ⟨B, 2, none⟩ (.slice a' n c') := ⟨_, rfl⟩
  rw [← hw9] at e1 hf9 ⊢
  have hb9 : w9.heap[B]? = some (.cells [.int .i64 W, .int .i64 H, .slice a' n c'].toArray 24 (0, 0)) := e1
  have hld := run_loadVar_mid (P := Try.prog) w9 B 0 24 [.int .i64 W, .int .i64 H, .slice a' n c'] d (rangeAt_cells hb9) u1 u2 u3
  have hd : w1.drew.heap.size = w1.heap.size := rfl
  have hs1 := Hsz.out
  have hfin : Fr (fun _ => False) w w9 := frJ HF.out (hF2.join ((hf9.mono fun i _ e => by have e2 : i = B := e; show i = _; omega))) fun j e => by have e2 : j = w.heap.size + 1 := e; omega
  have hfo : Own w9 w.heap.size a' n c' px := (hown.keep hf9 fun ad e => by
    subst e
    have := hown.lt.1
    show ¬ _ = B
    omega).low (by omega)
  exact bodyPost_ret (results_cell (t := 2) Try.results24 rfl hld) rfl ⟨a', c', rfl, hfo, hfin⟩
end Go.Proofs.Ythdilabmajaehaa
