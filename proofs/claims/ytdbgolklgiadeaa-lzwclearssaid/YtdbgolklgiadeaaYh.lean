/-
  lzw: the writer as an object; a row's number and a Clear are put.
-/
import Derived.Test.YtdbgolklgiadeaaYg
import Derived.Test.YtdbgolklgiadeaaHg
namespace Go.Proofs.Ytdbgolklgiadeaa
open Go.RowKit

/-- A writer's cells. -/
structure WC (cs : Array Value) (k n mb : Nat) (first : Bool) (row : Int) : Prop where
  size : cs.size = 11
  c0 : cs[0]? = some (.int .i64 (k : Int))
  c1 : cs[1]? = some (.int .i64 ((2 ^ k : Nat) : Int))
  c2 : cs[2]? = some (.int .i64 ((nextN k n : Nat) : Int))
  c3 : cs[3]? = some (.int .i64 ((wid k n : Nat) : Int))
  c4 : cs[4]? = some (.map (some mb))
  c5 : cs[5]? = some (.bool first)
  c6 : cs[6]? = some (.int .i64 row)

theorem WC.put {cs cs' : Array Value} {k n mb : Nat} {first : Bool} {row : Int} (h : WC cs k n mb first row) (c : Cs2 7 cs cs') : WC cs' k n mb first row :=
  ⟨c.size.trans h.size, (c.keep 0 (by decide) (by decide)).trans h.c0, (c.keep 1 (by decide) (by decide)).trans h.c1, (c.keep 2 (by decide) (by decide)).trans h.c2, (c.keep 3 (by decide) (by decide)).trans h.c3, (c.keep 4 (by decide) (by decide)).trans h.c4, (c.keep 5 (by decide) (by decide)).trans h.c5, (c.keep 6 (by decide) (by decide)).trans h.c6⟩

theorem get_ne {cs : Array Value} {i j : Nat} {x : Value} (h : i ≠ j) : (cs.setIfInBounds i x)[j]? = cs[j]? := Array.getElem?_setIfInBounds_ne h
theorem get_at {cs : Array Value} {i : Nat} {x : Value} (h : i < cs.size) : (cs.setIfInBounds i x)[i]? = some x := Array.getElem?_setIfInBounds_self_of_lt h

theorem WC.first {cs : Array Value} {k n mb : Nat} {first : Bool} {row : Int} (h : WC cs k n mb first row) (b : Bool) : WC (cs.setIfInBounds 5 (.bool b)) k n mb b row := by
  have hs := h.size
  refine ⟨by simpa using hs, (get_ne (by decide)).trans (h.c0), (get_ne (by decide)).trans (h.c1), (get_ne (by decide)).trans (h.c2), (get_ne (by decide)).trans (h.c3), (get_ne (by decide)).trans (h.c4), get_at (by simp [hs]), (get_ne (by decide)).trans (h.c6)⟩

theorem WC.row {cs : Array Value} {k n mb : Nat} {first : Bool} {row : Int} (h : WC cs k n mb first row) (x : Int) : WC (cs.setIfInBounds 6 (.int .i64 x)) k n mb first x := by
  have hs := h.size
  refine ⟨by simpa using hs, (get_ne (by decide)).trans (h.c0), (get_ne (by decide)).trans (h.c1), (get_ne (by decide)).trans (h.c2), (get_ne (by decide)).trans (h.c3), (get_ne (by decide)).trans (h.c4), (get_ne (by decide)).trans (h.c5), get_at (by simp [hs])⟩

theorem WC.count {cs : Array Value} {k n mb : Nat} {first : Bool} {row : Int} (h : WC cs k n mb first row) (m : Nat) : WC ((cs.setIfInBounds 2 (.int .i64 ((nextN k m : Nat) : Int))).setIfInBounds 3 (.int .i64 ((wid k m : Nat) : Int))) k m mb first row := by
  have hs := h.size
  refine ⟨by simpa using hs, (get_ne (by decide)).trans ((get_ne (by decide)).trans (h.c0)), (get_ne (by decide)).trans ((get_ne (by decide)).trans (h.c1)), (get_ne (by decide)).trans (get_at (by simp [hs])), get_at (by simp [hs]), (get_ne (by decide)).trans ((get_ne (by decide)).trans (h.c4)), (get_ne (by decide)).trans ((get_ne (by decide)).trans (h.c5)), (get_ne (by decide)).trans ((get_ne (by decide)).trans (h.c6))⟩

theorem WC.again {cs : Array Value} {k n mb : Nat} {first : Bool} {row : Int} (h : WC cs k n mb first row) : WC (((cs.setIfInBounds 1 (.int .i64 ((2 ^ k : Nat) : Int))).setIfInBounds 2 (.int .i64 ((nextN k 0 : Nat) : Int))).setIfInBounds 3 (.int .i64 ((wid k 0 : Nat) : Int))) k 0 mb first row := by
  have hs := h.size
  refine ⟨by simpa using hs, (get_ne (by decide)).trans ((get_ne (by decide)).trans ((get_ne (by decide)).trans (h.c0))), (get_ne (by decide)).trans ((get_ne (by decide)).trans (get_at (by simp [hs]))), (get_ne (by decide)).trans (get_at (by simp [hs])), get_at (by simp [hs]), (get_ne (by decide)).trans ((get_ne (by decide)).trans ((get_ne (by decide)).trans (h.c4))), (get_ne (by decide)).trans ((get_ne (by decide)).trans ((get_ne (by decide)).trans (h.c5))), (get_ne (by decide)).trans ((get_ne (by decide)).trans ((get_ne (by decide)).trans (h.c6)))⟩

theorem Wo.setI {w : World} {A p i : Nat} {cs : Array Value} {g : Option Nat} {os : List Nat} (h : Wo 88 w A 7 cs g os p) (x : Value) (h1 : i ≠ 9) (h2 : i ≠ 10) : Wo 88 (w.setCell ⟨A, i, none⟩ x) A 7 (cs.setIfInBounds i x) g os p := by
  obtain ⟨ov, e1, e2, e3, e4, e5⟩ := h.eobj
  refine ⟨⟨ov, heap_setCell_own _ e1, ?_, ?_, ?_, e5⟩, h.eap⟩
  · rw [Array.getElem?_setIfInBounds_ne (by omega)]; exact e2
  · rw [Array.getElem?_setIfInBounds_ne (by omega)]; exact e3
  · exact ownsRow_fr e4 fun j hj => (Fr.of_setCell w ⟨A, i, none⟩ x).block j (World.ownsRow.lt e4 j hj).2 (h.eap j (e5.symm.trans hj))

/-- A writer at work: v, p: its bits. -/
structure Wk (w : World) (lo A mb k n : Nat) (first : Bool) (row : Int) (F : Nat → Nat → Option Nat) (mn v p : Nat) : Prop where
  it : ∃ cs g os, Wo 88 w A 7 cs g os p ∧ LowSt os p ∧ leNum os = v ∧ WC cs k n mb first row ∧ ∀ j, g = some j → lo ≤ j ∧ j ≠ mb
  mp : Mp w mb mn F
  hA : lo ≤ A
  hm : lo ≤ mb
  ap : mb ≠ A

theorem Wk.sets {w w' : World} {lo A mb k n n' : Nat} {first first' : Bool} {row row' : Int} {F : Nat → Nat → Option Nat} {mn v p : Nat} (_h : Wk w lo A mb k n first row F mn v p) (mp : Mp w' mb mn F)
    (it : ∃ cs g os, Wo 88 w' A 7 cs g os p ∧ LowSt os p ∧ leNum os = v ∧ WC cs k n' mb first' row' ∧ ∀ j, g = some j → lo ≤ j ∧ j ≠ mb) : Wk w' lo A mb k n' first' row' F mn v p := ⟨it, mp, _h.hA, _h.hm, _h.ap⟩

theorem Wk.cell {w : World} {lo A mb k n : Nat} {first : Bool} {row : Int} {F : Nat → Nat → Option Nat} {mn v p : Nat} (h : Wk w lo A mb k n first row F mn v p) :
    w.cell? ⟨A, 0, none⟩ = some (.int .i64 (k : Int)) ∧ w.cell? ⟨A, 1, none⟩ = some (.int .i64 ((2 ^ k : Nat) : Int)) ∧ w.cell? ⟨A, 2, none⟩ = some (.int .i64 ((nextN k n : Nat) : Int)) ∧ w.cell? ⟨A, 3, none⟩ = some (.int .i64 ((wid k n : Nat) : Int)) ∧ w.cell? ⟨A, 4, none⟩ = some (.map (some mb)) ∧ w.cell? ⟨A, 5, none⟩ = some (.bool first) ∧ w.cell? ⟨A, 6, none⟩ = some (.int .i64 row) ∧ ∀ o, w.frozen? ⟨A, o, none⟩ = false := by
  obtain ⟨cs, g, os, h1, _, _, h4, _⟩ := h.it
  obtain ⟨ov, e1, _⟩ := h1.eobj
  exact ⟨cell_of e1 h4.c0, cell_of e1 h4.c1, cell_of e1 h4.c2, cell_of e1 h4.c3, cell_of e1 h4.c4, cell_of e1 h4.c5, cell_of e1 h4.c6, fun o => frozen_of e1⟩

theorem Wk.num {w : World} {lo A mb k n : Nat} {first : Bool} {row : Int} {F : Nat → Nat → Option Nat} {mn v p : Nat} (h : Wk w lo A mb k n first row F mn v p) : Num w A 1 k n := by
  obtain ⟨_, h1, h2, h3, _, _, _, hf⟩ := h.cell
  exact ⟨h1, h2, h3, hf _, hf _⟩

theorem Wk.fr {w w' : World} {lo A mb k n : Nat} {first : Bool} {row : Int} {F : Nat → Nat → Option Nat} {mn v p : Nat} (h : Wk w lo A mb k n first row F mn v p) (f : Fr (fun _ => False) w w') : Wk w' lo A mb k n first row F mn v p := by
  obtain ⟨cs, g, os, h1, h2, h3, h4, h5⟩ := h.it
  exact ⟨⟨cs, g, os, h1.keep f (fun e => e) (fun _ _ e => e), h2, h3, h4, h5⟩, h.mp.fr f (fun e => e), h.hA, h.hm, h.ap⟩

/-- A cell but those of the bits and of the map is written. -/
theorem Wk.setRow {w : World} {lo A mb k n : Nat} {first : Bool} {row : Int} {F : Nat → Nat → Option Nat} {mn v p : Nat} (h : Wk w lo A mb k n first row F mn v p) (x : Int) : Wk (w.setCell ⟨A, 6, none⟩ (.int .i64 x)) lo A mb k n first x F mn v p := by
  obtain ⟨cs, g, os, h1, h2, h3, h4, h5⟩ := h.it
  exact h.sets (h.mp.fr (Fr.of_setCell w ⟨A, 6, none⟩ _) h.ap) ⟨_, g, os, h1.setI _ (by decide) (by decide), h2, h3, h4.row x, h5⟩

theorem Wk.setFirst {w : World} {lo A mb k n : Nat} {first : Bool} {row : Int} {F : Nat → Nat → Option Nat} {mn v p : Nat} (h : Wk w lo A mb k n first row F mn v p) (b : Bool) : Wk (w.setCell ⟨A, 5, none⟩ (.bool b)) lo A mb k n b row F mn v p := by
  obtain ⟨cs, g, os, h1, h2, h3, h4, h5⟩ := h.it
  exact h.sets (h.mp.fr (Fr.of_setCell w ⟨A, 5, none⟩ _) h.ap) ⟨_, g, os, h1.setI _ (by decide) (by decide), h2, h3, h4.first b, h5⟩

theorem Wk.setCount {w : World} {lo A mb k n : Nat} {first : Bool} {row : Int} {F : Nat → Nat → Option Nat} {mn v p : Nat} (h : Wk w lo A mb k n first row F mn v p) (m : Nat) : Wk ((w.setCell ⟨A, 2, none⟩ (.int .i64 ((nextN k m : Nat) : Int))).setCell ⟨A, 3, none⟩ (.int .i64 ((wid k m : Nat) : Int))) lo A mb k m first row F mn v p := by
  obtain ⟨cs, g, os, h1, h2, h3, h4, h5⟩ := h.it
  exact h.sets (h.mp.fr ((Fr.of_setCell w ⟨A, 2, none⟩ _).join (Fr.of_setCell _ ⟨A, 3, none⟩ _)) h.ap) ⟨_, g, os, (h1.setI _ (by decide) (by decide)).setI _ (by decide) (by decide), h2, h3, h4.count m, h5⟩

theorem Wk.setAgain {w : World} {lo A mb k n : Nat} {first : Bool} {row : Int} {F : Nat → Nat → Option Nat} {mn v p : Nat} (h : Wk w lo A mb k n first row F mn v p) : Wk (((w.setCell ⟨A, 1, none⟩ (.int .i64 ((2 ^ k : Nat) : Int))).setCell ⟨A, 2, none⟩ (.int .i64 ((nextN k 0 : Nat) : Int))).setCell ⟨A, 3, none⟩ (.int .i64 ((wid k 0 : Nat) : Int))) lo A mb k 0 first row F mn v p := by
  obtain ⟨cs, g, os, h1, h2, h3, h4, h5⟩ := h.it
  exact h.sets (h.mp.fr (((Fr.of_setCell w ⟨A, 1, none⟩ _).join (Fr.of_setCell _ ⟨A, 2, none⟩ _)).join (Fr.of_setCell _ ⟨A, 3, none⟩ _)) h.ap) ⟨_, g, os, ((h1.setI _ (by decide) (by decide)).setI _ (by decide) (by decide)).setI _ (by decide) (by decide), h2, h3, h4.again, h5⟩

/-- Blocks that a writer may turn: none of a key. -/
def Sk (lo : Nat) (w : World) (j : Nat) : Prop := lo ≤ j ∧ ∀ cs fz, w.heap[j]? ≠ some (.cells cs 90 fz)

theorem Sk.trans {lo : Nat} {a b c : World} (h : Fr (Sk lo a) a b) (k : Fr (Sk lo b) b c) : Fr (Sk lo a) a c :=
  (h.trans k).mono fun j hj e => e.elim id fun e => Classical.byContradiction fun hn => by
    have h1 := h.block j hj hn
    exact hn ⟨e.1, fun cs fz h2 => e.2 cs fz (h1.trans h2)⟩

theorem Sk.low {lo : Nat} {a b : World} (h : Fr (Sk lo a) a b) : Fr (fun j => lo ≤ j) a b := h.mono fun _ _ e => e.1

theorem Sk.none {lo : Nat} {a b : World} (h : Fr (fun _ => False) a b) : Fr (Sk lo a) a b := h.mono fun _ _ e => e.elim

theorem Wk.skA {w : World} {lo A mb k n : Nat} {first : Bool} {row : Int} {F : Nat → Nat → Option Nat} {mn v p : Nat} (h : Wk w lo A mb k n first row F mn v p) : Sk lo w A := by
  obtain ⟨cs, g, os, h1, _⟩ := h.it
  obtain ⟨ov, e1, _⟩ := h1.eobj
  refine ⟨h.hA, fun cs' fz e => ?_⟩
  rw [e1] at e
  injection e with e
  injection e with _ e _
  exact absurd e (by decide)

theorem Wk.skSet {w : World} {lo A mb k n : Nat} {first : Bool} {row : Int} {F : Nat → Nat → Option Nat} {mn v p : Nat} (h : Wk w lo A mb k n first row F mn v p) (i : Nat) (x : Value) : Fr (Sk lo w) w (w.setCell ⟨A, i, none⟩ x) := (Fr.of_setCell w ⟨A, i, none⟩ x).mono fun j _ e => by rw [e]; exact h.skA

/-- Bits are put. -/
theorem Wk.put {w : World} {lo A mb k n : Nat} {first : Bool} {row : Int} {F : Nat → Nat → Option Nat} {mn v p : Nat} (h : Wk w lo A mb k n first row F mn v p) (x m : Nat) (hp : p ≤ 2147480000) (hm : m ≤ 24) (hx : x < 2 ^ m) (hlo : lo ≤ w.heap.size) :
    Calls Try.prog 48 #[.pointer (some ⟨A, 7, none⟩), .int .i64 (x : Int), .int .i64 (m : Int)] w fun e w' => e = .returned (.tuple #[]) ∧ Wk w' lo A mb k n first row F mn (v + x * 2 ^ p) (p + m) ∧ Fr (Sk lo w) w w' := by
  have hsA := h.skA
  obtain ⟨cs, g, os, h1, h2, h3, h4, h5⟩ := h.it
  refine (low_putO 88 A 7 cs g os p m x w h1 h2 hp hm).mono ?_
  rintro e w' ⟨rfl, cs', g', os', a1, a2, a3, a4, a5, a6⟩
  have hmb := h.mp.lt
  have hx2 : lowBits (numOf (x : Int)) 0 m = x := by
    have h24 : 2 ^ m ≤ 2 ^ 24 := Nat.pow_le_pow_right (by omega) hm
    have e : numOf (x : Int) = x := by unfold numOf; omega
    rw [e]
    unfold lowBits
    simp [Nat.mod_eq_of_lt hx]
  refine ⟨rfl, ⟨⟨cs', g', os', a1, a3, by rw [a4, h3, hx2], h4.put a2, fun j hj => ?_⟩, h.mp.fr a5 (fun e => e.elim h.ap fun e => (h5 mb e).2 rfl), h.hA, h.hm, h.ap⟩, a5.mono fun j _ e => e.elim (fun e => by rw [e]; exact hsA) fun e => ⟨(h5 j e).1, fun cs2 fz e2 => ?_⟩⟩
  · rcases a6 with e | ⟨j', e, hj'⟩
    · exact h5 j (e ▸ hj)
    · rw [e] at hj
      injection hj with hj
      subst hj
      exact ⟨by omega, by omega⟩
  · obtain ⟨ov, _, _, _, e4, e5⟩ := h1.eobj
    rcases e4.2 with ⟨e6, _⟩ | ⟨g2, cap, cur, e6, _, hh, _⟩
    · rw [e6] at e5
      rw [← e5] at e
      cases e
    · rw [e6] at e5
      rw [← e5] at e
      injection e with e
      simp at e
      subst e
      rw [hh] at e2
      injection e2 with e2
      injection e2 with _ e2 _
      exact absurd e2 (by decide)

set_option maxHeartbeats 1600000 in
set_option maxRecDepth 100000 in
/-- The gathered row's number is written. -/
theorem putRow_c (lo A mb k n : Nat) (first : Bool) (r : Nat) (F : Nat → Nat → Option Nat) (mn v p : Nat) (w : World) (hk : 2 ≤ k ∧ k ≤ 8) (h : Wk w lo A mb k n first (r : Int) F mn v p) (hp : p ≤ 2147480000) (hr : r < 2 ^ wid k n) (hn : nextN k n < 4096) (hlo : lo ≤ w.heap.size) :
    Calls Try.prog 46 #[.pointer (some ⟨A, 0, none⟩)] w fun e w' => e = .returned (.tuple #[]) ∧ Wk w' lo A mb k (if first then n else n + 1) false (r : Int) F mn (v + r * 2 ^ p) (p + wid k n) ∧ Fr (Sk lo w) w w' := by
  obtain ⟨_, _, _, m3, _, _, m6, _⟩ := h.cell
  have hw := wid_le k hk n
  obtain ⟨W, hW⟩ : ∃ W, W = wid k n := ⟨_, rfl⟩
  rw [← hW] at m3 hw hr ⊢
  obtain ⟨R, hR⟩ : ∃ R : Int, R = (r : Int) := ⟨_, rfl⟩
  have HP : Hid (∀ W', Fr (fun _ => False) w W' → Calls Try.prog 48 #[.pointer (some ⟨A, 7, none⟩), .int .i64 R, .int .i64 (W : Int)] W' fun e w' => e = .returned (.tuple #[]) ∧ Wk w' lo A mb k n first (r : Int) F mn (v + r * 2 ^ p) (p + W) ∧ Fr (Sk lo W') W' w') := fun W' F' => by rw [hR]; exact (h.fr F').put r W hp (by omega) hr (Nat.le_trans hlo F'.size)
  rw [← hR] at m6
  have HR := hide hR
  have HW := hide hW
  clear h hr hW hR
  go_enter Try.func46, Try.ntmps46
  go_upto_region 0 with fail
  have HFz : Hid (Fr (fun _ => False) w w.drew) := Fr.of_drewN w 1
  refine wp_region_held_drew (S := fun W' => W'.cell? ⟨A, 6, none⟩ = some (.int .i64 R) ∧ W'.cell? ⟨A, 3, none⟩ = some (.int .i64 (W : Int))) (by kernel_rfl) ⟨m6, m3⟩ (fun hHeld => ?_)
  refine wpAnyH_take (i := 0) (v := ?v0) rfl (by kernel_rfl) (by kernel_rfl) (by kernel_rfl) (fun _ _ _ h => h) (Or.inl ⟨by rfl, ?hy0⟩) hHeld ?rest0
  case hy0 => (intro W hSw; (try dsimp only at hSw); obtain ⟨s6, s3⟩ := hSw; go_simp; all_goals (with_reducible rfl))
  change wpAnyH _ _ _ _ _ _ _ (Act.put _ (some 2) _) _
  simp only [Act.put, List.setIfInBounds_toArray, List.set_cons_zero, List.set_cons_succ]
  refine wpAnyH_take (i := 3) (v := ?v3) rfl (by kernel_rfl) (by kernel_rfl) (by kernel_rfl) (fun _ _ _ h => h) (Or.inl ⟨by rfl, ?hy3⟩) hHeld ?rest3
  case hy3 => (intro W hSw; (try dsimp only at hSw); obtain ⟨s6, s3⟩ := hSw; go_simp; all_goals (with_reducible rfl))
  change wpAnyH _ _ _ _ _ _ _ (Act.put _ (some 5) _) _
  simp only [Act.put, List.setIfInBounds_toArray, List.set_cons_zero, List.set_cons_succ]
  refine wpAnyH_take (i := 7) (v := ?v7) rfl (by kernel_rfl) (by kernel_rfl) (by kernel_rfl) (fun _ _ _ h => h) (Or.inl ⟨by rfl, ?hy7⟩) hHeld ?rest7
  case hy7 => (intro W hSw; (try dsimp only at hSw); obtain ⟨s6, s3⟩ := hSw; go_simp; all_goals (with_reducible rfl))
  change wpAnyH _ _ _ _ _ _ _ (Act.put _ (some 9) _) _
  simp only [Act.put, List.setIfInBounds_toArray, List.set_cons_zero, List.set_cons_succ]
  refine wpAnyH_take (i := 1) (v := ?v1) rfl (by kernel_rfl) (by kernel_rfl) (by kernel_rfl) (fun _ _ _ h => h) (Or.inl ⟨by rfl, ?hy1⟩) hHeld ?rest1
  case hy1 => (intro W hSw; (try dsimp only at hSw); obtain ⟨s6, s3⟩ := hSw; go_simp; all_goals (with_reducible rfl))
  change wpAnyH _ _ _ _ _ _ _ (Act.put _ (some 3) _) _
  simp only [Act.put, List.setIfInBounds_toArray, List.set_cons_zero, List.set_cons_succ]
  refine wpAnyH_take (i := 4) (v := ?v4) rfl (by kernel_rfl) (by kernel_rfl) (by kernel_rfl) (fun _ _ _ h => h) (Or.inl ⟨by rfl, ?hy4⟩) hHeld ?rest4
  case hy4 => (intro W hSw; (try dsimp only at hSw); obtain ⟨s6, s3⟩ := hSw; go_simp; all_goals (with_reducible rfl))
  change wpAnyH _ _ _ _ _ _ _ (Act.put _ (some 6) _) _
  simp only [Act.put, List.setIfInBounds_toArray, List.set_cons_zero, List.set_cons_succ]
  refine wpAnyH_take (i := 8) (v := ?v8) rfl (by kernel_rfl) (by kernel_rfl) (by kernel_rfl) (fun _ _ _ h => h) (Or.inl ⟨by rfl, ?hy8⟩) hHeld ?rest8
  case hy8 => (intro W hSw; (try dsimp only at hSw); obtain ⟨s6, s3⟩ := hSw; go_simp; all_goals (with_reducible rfl))
  change wpAnyH _ _ _ _ _ _ _ (Act.put _ (some 10) _) _
  simp only [Act.put, List.setIfInBounds_toArray, List.set_cons_zero, List.set_cons_succ]
  refine wpAnyH_take (i := 2) (v := ?v2) rfl (by kernel_rfl) (by kernel_rfl) (by kernel_rfl) (fun _ _ _ h => h) (Or.inl ⟨by rfl, ?hy2⟩) hHeld ?rest2
  case hy2 => (intro W hSw; (try dsimp only at hSw); obtain ⟨s6, s3⟩ := hSw; go_simp; all_goals (with_reducible rfl))
  change wpAnyH _ _ _ _ _ _ _ (Act.put _ (some 4) _) _
  simp only [Act.put, List.setIfInBounds_toArray, List.set_cons_zero, List.set_cons_succ]
  refine wpAnyH_take (i := 5) (v := ?v5) rfl (by kernel_rfl) (by kernel_rfl) (by kernel_rfl) (fun _ _ _ h => h) (Or.inl ⟨by rfl, ?hy5⟩) hHeld ?rest5
  case hy5 => (intro W hSw; (try dsimp only at hSw); obtain ⟨s6, s3⟩ := hSw; go_simp; all_goals (with_reducible rfl))
  change wpAnyH _ _ _ _ _ _ _ (Act.put _ (some 7) _) _
  simp only [Act.put, List.setIfInBounds_toArray, List.set_cons_zero, List.set_cons_succ]
  refine wpAnyH_take (i := 9) (v := ?v9) rfl (by kernel_rfl) (by kernel_rfl) (by kernel_rfl) (fun _ _ _ h => h) (Or.inl ⟨by rfl, ?hy9⟩) hHeld ?rest9
  case hy9 => (intro W hSw; (try dsimp only at hSw); obtain ⟨s6, s3⟩ := hSw; go_simp; all_goals (with_reducible rfl))
  change wpAnyH _ _ _ _ _ _ _ (Act.put _ (some 11) _) _
  simp only [Act.put, List.setIfInBounds_toArray, List.set_cons_zero, List.set_cons_succ]
  refine wpAnyH_take (i := 6) (v := ?v6) rfl (by kernel_rfl) (by kernel_rfl) (by kernel_rfl) (fun _ _ _ h => h) (Or.inl ⟨by rfl, ?hy6⟩) hHeld ?rest6
  case hy6 => (intro W hSw; (try dsimp only at hSw); obtain ⟨s6, s3⟩ := hSw; go_simp; all_goals (with_reducible rfl))
  change wpAnyH _ _ _ _ _ _ _ (Act.put _ (some 8) _) _
  simp only [Act.put, List.setIfInBounds_toArray, List.set_cons_zero, List.set_cons_succ]
  refine wpAnyH_take (i := 10) (v := ?v10) rfl (by kernel_rfl) (by kernel_rfl) (by kernel_rfl) (fun _ _ _ h => h) (Or.inl ⟨by rfl, ?hy10⟩) hHeld ?rest10
  case hy10 => (intro W hSw; (try dsimp only at hSw); obtain ⟨s6, s3⟩ := hSw; go_simp; all_goals (with_reducible rfl))
  change wpAnyH _ _ _ _ _ _ _ (Act.put _ (some 12) _) _
  simp only [Act.put, List.setIfInBounds_toArray, List.set_cons_zero, List.set_cons_succ]
  refine wpAnyH_take (i := 11) (v := ?v11) rfl (by kernel_rfl) (by kernel_rfl) (by kernel_rfl) (fun _ _ _ h => h) (Or.inl ⟨by rfl, ?hy11⟩) hHeld ?rest11
  case hy11 => (intro W hSw; (try dsimp only at hSw); obtain ⟨s6, s3⟩ := hSw; go_simp; all_goals (with_reducible rfl))
  change wpAnyH _ _ _ _ _ _ _ (Act.put _ (some 13) _) _
  simp only [Act.put, List.setIfInBounds_toArray, List.set_cons_zero, List.set_cons_succ]
  refine wpAnyH_ready (rs := [12]) (by kernel_rfl) (by simp) ?_
  refine AllReadyH.cons rfl (fun K hK => ?_) AllReadyH.nil
  try simp only [List.getElem_toArray, List.getElem_cons_succ, List.getElem_cons_zero]
  go_simp
  refine (HP.out _ HFz.out).mono ?_
  rintro e w1 ⟨rfl, hk1, hF1⟩
  have hS1 : w1.cell? ⟨A, 6, none⟩ = some (.int .i64 R) ∧ w1.cell? ⟨A, 3, none⟩ = some (.int .i64 (W : Int)) := ⟨by rw [HR.out]; exact hk1.cell.2.2.2.2.2.2.1, by rw [HW.out]; exact hk1.cell.2.2.2.1⟩
  have HK1 := hide hk1
  have HF1 := hide (show Fr (Sk lo w) w w1 from Sk.trans (Sk.none HFz.out) hF1)
  clear hk1 hF1
  refine hK.out _ _ hS1 (fun hHeld => ?_)
  clear hK K
  refine wpAnyH_done (by kernel_rfl) ?_ _
  obtain ⟨_, _, _, _, _, m5, _, hfz⟩ := HK1.out.cell
  have f5 := hfz 5
  clear hHeld m3 m6 hS1 hfz
  cases first with
  | true =>
    go_wp2_with fail
    go_end0
    exact ⟨rfl, HK1.out.setFirst false, Sk.trans HF1.out (HK1.out.skSet 5 _)⟩
  | false =>
    have HC := hide (count_c A 1 k n w1 hk hn HK1.out.num)
    go_wp2_with fail
    refine HC.out.mono ?_
    rintro e w2 ⟨rfl, d, hw2⟩
    have hK2 : Wk w2 lo A mb k (n + 1) false (r : Int) F mn (v + r * 2 ^ p) (p + W) := by
      rw [hw2]
      exact (HK1.out.setCount (n + 1)).fr (Fr.of_drewN _ d)
    have hF2 : Fr (Sk lo w1) w1 w2 := by
      rw [hw2]
      exact ((((Fr.of_setCell w1 ⟨A, 2, none⟩ _).join (Fr.of_setCell _ ⟨A, 3, none⟩ _)).trans (Fr.of_drewN _ d)).mono fun j _ e => e.elim (fun e => by rw [e]; exact HK1.out.skA) fun e => e.elim)
    obtain ⟨_, _, _, _, _, m5, _, hfz⟩ := hK2.cell
    have f5 := hfz 5
    have HK2 := hide hK2
    have HF2 := hide (Sk.trans HF1.out hF2)
    clear hK2 hF2 hw2 hfz
    go_wp2_with fail
    go_end0
    exact ⟨rfl, HK2.out.setFirst false, Sk.trans HF2.out (HK2.out.skSet 5 _)⟩
end Go.Proofs.Ytdbgolklgiadeaa
