import Derived.Test.YtkmgpapopgeldaaRows
import Derived.Test.YtkmgpapopgeldaaM
import Derived.WalkKit
import Derived.WalkSpells
import Derived.WalkLawsBesides
import Derived.Deep.QuietTactic
import Derived.BigQuiet
namespace Go.Proofs.Ytkmgpapopgeldaa
open Go.RowKit

theorem hide {p : Prop} (h : p) : Hid p := h

theorem ret_int {k : IntKind} {a b : Int} (h : a = b) : Ending.returned (.int k a) = .returned (.int k b) := by rw [h]

set_option maxHeartbeats 400000 in
theorem lowest_c (x : Int) (n : Nat) (hn : n ≤ 62) (w : World) :
    Calls Try.prog 46 #[.int .i64 x, .int .i64 n] w fun e w' => e = .returned (.int .i64 (x % 2 ^ n)) ∧ w = w' := by
  have hp := pow_le62 n hn
  have hp0 := pow_pos2 n
  have e10 : ((2:Int) ^ n) = ((2 ^ n : Nat) : Int) := by simp
  have e1 : wrap64 (wrap64 ((2:Int) ^ n) - 1) = 2 ^ n - 1 := by
    rw [e10]; unfold wrap64; omega
  have He1 : Hid (wrap64 (wrap64 ((2:Int) ^ n) - 1) = 2 ^ n - 1) := e1
  clear e1 e10 hp hp0
  go_enter Try.func46, Try.ntmps46
  go_wp2
  go_ret
  exact ⟨ret_int (by rw [He1.out, mask_i64 x n hn]), rfl⟩
set_option maxHeartbeats 400000 in
theorem width_ok (n : Int) (h0 : 0 ≤ n) (h1 : n ≤ 24) (w : World) :
    Calls Try.prog 43 #[.int .i64 n] w fun e w' => e = .returned (.tuple #[]) ∧ w = w' := by
  go_enter Try.func43, Try.ntmps43
  go_wp2
  go_end0
  exact ⟨rfl, rfl⟩
set_option maxHeartbeats 400000 in
theorem width_bad (n : Int) (h : n < 0 ∨ 24 < n) (w : World) :
    Calls Try.prog 43 #[.int .i64 n] w fun e w' => e = .panicked [{ v := .iface 62 (.int .i64 1), recovered := false }] ∧ w = w' := by
  rcases h with h | h
  · go_enter Try.func43, Try.ntmps43
    go_wp2
    exact ⟨rfl, rfl, rfl⟩
  · have h' : ¬ n < 0 := by omega
    go_enter Try.func43, Try.ntmps43
    go_wp2
    exact ⟨rfl, rfl, rfl⟩
set_option maxHeartbeats 400000 in
theorem left_ok (n l : Int) (h1 : n ≤ l) (w : World) :
    Calls Try.prog 44 #[.int .i64 n, .int .i64 l] w fun e w' => e = .returned (.tuple #[]) ∧ w = w' := by
  go_enter Try.func44, Try.ntmps44
  go_wp2
  go_end0
  exact ⟨rfl, rfl⟩
set_option maxHeartbeats 400000 in
theorem left_bad (n l : Int) (h1 : l < n) (w : World) :
    Calls Try.prog 44 #[.int .i64 n, .int .i64 l] w fun e w' => e = .panicked [{ v := .iface 62 (.int .i64 2), recovered := false }] ∧ w = w' := by
  go_enter Try.func44, Try.ntmps44
  go_wp2
  exact ⟨rfl, rfl, rfl⟩
set_option maxHeartbeats 400000 in
theorem sleft_c (B n c : Nat) (a : Option Addr) (pos : Int) (w : World) (h0 : w.cell? ⟨B, 0, none⟩ = some (.slice a n c)) (h1 : w.cell? ⟨B, 1, none⟩ = some (.int .i64 pos))
    (hn : (n : Int) ≤ 2147483648) (hp0 : 0 ≤ pos) (hp : pos ≤ 17179869184) :
    Calls Try.prog 49 #[.pointer (some ⟨B, 0, none⟩)] w fun e w' => e = .returned (.int .i64 (8 * n - pos)) ∧ ∃ k, w' = w.drewN k := by
  go_enter Try.func49, Try.ntmps49
  go_wp2
  go_quiet (fail)
  go_wp2
  go_ret
  exact ⟨rfl, _, rfl⟩
theorem ret_tup3 {k1 k2 k3 : IntKind} {a1 b1 a2 b2 a3 b3 : Int} (h1 : a1 = b1) (h2 : a2 = b2) (h3 : a3 = b3) :
    Ending.returned (.tuple #[.int k1 a1, .int k2 a2, .int k3 a3]) = .returned (.tuple #[.int k1 b1, .int k2 b2, .int k3 b3]) := by rw [h1, h2, h3]
theorem setCell_drewN_eq {w : World} {n : Nat} {a : Addr} {k : IntKind} {x y : Int} (h : x = y) : (w.drewN n).setCell a (.int k x) = (w.setCell a (.int k y)).drewN n := by rw [h]; rfl

/-- What a reader reads: nothing, or cells of a block that is not the reader's own. -/
def Bytes (w : World) (B : Nat) (a : Option Addr) (bs : List Nat) : Prop :=
  bs = [] ∨ ∃ D o, a = some ⟨D, o, none⟩ ∧ D ≠ B ∧ ∀ i, i < bs.length → w.cell? ⟨D, o + i, none⟩ = some (.int .u8 ((bs.getD i 0 : Nat) : Int))

theorem setCell_same {w : World} {a : Addr} {v : Value} (h : w.cell? a = some v) : w.setCell a v = w := by
  obtain ⟨b, o, s⟩ := a
  cases w with
  | mk heap tape drawn os output =>
  simp only [World.setCell, World.mk.injEq, and_true]
  apply Array.ext_getElem?
  intro i
  rw [Array.getElem?_modify]
  split
  · next e =>
    subst e
    simp only [World.cell?] at h
    split at h
    · next c el fz he =>
      rw [he]
      split at h
      · cases h
      · simp only [Option.map_some, Option.some.injEq]
        split
        · next e1 e2 => exact absurd e2 e1
        · congr 1
          apply Array.ext_getElem?
          intro j
          rw [Array.getElem?_setIfInBounds]
          split
          · next e3 =>
            subst e3
            split
            · exact h.symm
            · next e4 => rw [Array.getElem?_eq_none (by simpa using e4)]
          · rfl
    · cases h
  · rfl

theorem setCell_setCell (w : World) (a : Addr) (u v : Value) : (w.setCell a u).setCell a v = w.setCell a v := by
  cases w with
  | mk heap tape drawn os output =>
  simp only [World.setCell, World.mk.injEq, and_true]
  apply Array.ext_getElem?
  intro i
  simp only [Array.getElem?_modify]
  split
  · cases heap[i]? with
    | none => rfl
    | some o =>
      simp only [Option.map_some, Option.some.injEq]
      cases o <;> simp
      split <;> simp
  · rfl

/-- A reader has been moved on to bit p; nothing else has turned. -/
structure Moved (B p : Nat) (w w' : World) : Prop where
  eq : ∃ k, w' = (w.setCell ⟨B, 1, none⟩ (.int .i64 (p : Int))).drewN k

theorem Moved.cell {B p : Nat} {w w' : World} (h : Moved B p w w') {a : Addr} (ha : a ≠ ⟨B, 1, none⟩) : w'.cell? a = w.cell? a := by
  obtain ⟨k, rfl⟩ := h.eq
  rw [World.cell?_drewN, World.cell?_setCell_other _ _ _ _ (Ne.symm ha)]
theorem Moved.own {B p : Nat} {w w' : World} (h : Moved B p w w') {v : Value} (hv : w.cell? ⟨B, 1, none⟩ = some v) : w'.cell? ⟨B, 1, none⟩ = some (.int .i64 p) := by
  obtain ⟨k, rfl⟩ := h.eq
  rw [World.cell?_drewN]; simp [World.cell?_setCell_same, hv]
theorem Moved.frozen {B p : Nat} {w w' : World} (h : Moved B p w w') (a : Addr) : w'.frozen? a = w.frozen? a := by
  obtain ⟨k, rfl⟩ := h.eq
  simp
theorem Moved.trans {B p q : Nat} {w w' w'' : World} (h : Moved B p w w') (g : Moved B q w' w'') : Moved B q w w'' := by
  obtain ⟨k, rfl⟩ := h.eq
  obtain ⟨k', rfl⟩ := g.eq
  refine ⟨k + k', ?_⟩
  rw [show ((w.setCell ⟨B, 1, none⟩ (.int .i64 (p : Int))).drewN k).setCell ⟨B, 1, none⟩ (.int .i64 (q : Int)) = ((w.setCell ⟨B, 1, none⟩ (.int .i64 (p : Int))).setCell ⟨B, 1, none⟩ (.int .i64 (q : Int))).drewN k from rfl, setCell_setCell]
  simp only [World.drewN, Nat.add_assoc]
theorem Moved.start {B p : Nat} {w : World} (h : w.cell? ⟨B, 1, none⟩ = some (.int .i64 p)) (k : Nat) : Moved B p w (w.drewN k) := ⟨k, by rw [setCell_same h]⟩
theorem Moved.bytes {B p : Nat} {w w' : World} (h : Moved B p w w') {a : Option Addr} {bs : List Nat} (hb : Bytes w B a bs) : Bytes w' B a bs := by
  rcases hb with hb | ⟨D, o, e, hD, hc⟩
  · exact Or.inl hb
  · exact Or.inr ⟨D, o, e, hD, fun i hi => by rw [h.cell (fun e => hD (congrArg Addr.block e))]; exact hc i hi⟩

set_option maxHeartbeats 400000 in
theorem piece_c (B D o n c : Nat) (pos : Nat) (m : Int) (s : Nat) (b : Nat) (w : World) (h0 : w.cell? ⟨B, 0, none⟩ = some (.slice (some ⟨D, o, none⟩) n c)) (h1 : w.cell? ⟨B, 1, none⟩ = some (.int .i64 pos))
    (hf : w.frozen? ⟨B, 1, none⟩ = false) (hb : w.cell? ⟨D, o + pos / 8, none⟩ = some (.int .u8 b)) (hn : (n : Int) ≤ 2147483648) (hp : (pos : Int) < 8 * n) (hm0 : 0 < m) (hm1 : m ≤ 24)
    (hs1 : (s : Int) ≤ m) (hs2 : pos % 8 + s ≤ 8) (hs3 : (s : Int) = m ∨ pos % 8 + s = 8) :
    Calls Try.prog 45 #[.pointer (some ⟨B, 0, none⟩), .int .i64 m] w fun e w' => e = .returned (.tuple #[.int .u8 b, .int .i64 (pos % 8 : Nat), .int .i64 s]) ∧ Moved B (pos + s) w w' := by
  have hi0 : (0 : Int) ≤ (pos : Int) / 8 := by omega
  have hi1 : (pos : Int) / 8 < n := by omega
  have Hs : Hid (((s : Int) ≤ m ∧ pos % 8 + s ≤ 8) ∧ ((s : Int) = m ∨ pos % 8 + s = 8)) := ⟨⟨hs1, hs2⟩, hs3⟩
  clear hs1 hs2 hs3
  go_enter Try.func45, Try.ntmps45
  go_wp2
  go_quiet (fail)
  go_wp2
  all_goals
    go_ret3
    obtain ⟨⟨hs1, hs2⟩, hs3⟩ := Hs.out
    exact ⟨ret_tup3 rfl (by omega) (by omega), ⟨nq, setCell_drewN_eq (by omega)⟩⟩
set_option maxHeartbeats 400000 in
theorem low_left_c (B n c : Nat) (a : Option Addr) (pos : Int) (w : World) (h0 : w.cell? ⟨B, 0, none⟩ = some (.slice a n c)) (h1 : w.cell? ⟨B, 1, none⟩ = some (.int .i64 pos))
    (hn : (n : Int) ≤ 2147483648) (hp0 : 0 ≤ pos) (hp : pos ≤ 17179869184) :
    Calls Try.prog 19 #[.pointer (some ⟨B, 0, none⟩)] w fun e w' => e = .returned (.int .i64 (8 * n - pos)) ∧ ∃ k, w' = w.drewN k := by
  go_enter Try.func19, Try.ntmps19
  go_wp2_with (go_at_call 49; refine (sleft_c B n c a pos _ h0 h1 hn hp0 hp).mono ?_; rintro e w' ⟨rfl, k, rfl⟩)
  go_ret
  exact ⟨rfl, _, rfl⟩
set_option maxHeartbeats 400000 in
theorem high_left_c (B n c : Nat) (a : Option Addr) (pos : Int) (w : World) (h0 : w.cell? ⟨B, 0, none⟩ = some (.slice a n c)) (h1 : w.cell? ⟨B, 1, none⟩ = some (.int .i64 pos))
    (hn : (n : Int) ≤ 2147483648) (hp0 : 0 ≤ pos) (hp : pos ≤ 17179869184) :
    Calls Try.prog 24 #[.pointer (some ⟨B, 0, none⟩)] w fun e w' => e = .returned (.int .i64 (8 * n - pos)) ∧ ∃ k, w' = w.drewN k := by
  go_enter Try.func24, Try.ntmps24
  go_wp2_with (go_at_call 49; refine (sleft_c B n c a pos _ h0 h1 hn hp0 hp).mono ?_; rintro e w' ⟨rfl, k, rfl⟩)
  go_ret
  exact ⟨rfl, _, rfl⟩
end Go.Proofs.Ytkmgpapopgeldaa
