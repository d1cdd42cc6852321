/-
  Contracts of reading bits, leaves first.
-/
import Derived.Test.YtdbgolklgiadeaaRows
import Derived.Test.YtdbgolklgiadeaaBm
import Derived.WalkKit
import Derived.WalkSpells
import Derived.WalkLawsBesides
import Derived.Deep.QuietTactic
import Derived.BigQuiet
namespace Go.Proofs.Ytdbgolklgiadeaa
open Go.RowKit

theorem hide {p : Prop} (h : p) : Hid p := h

theorem ret_int {k : IntKind} {a b : Int} (h : a = b) : Ending.returned (.int k a) = .returned (.int k b) := by rw [h]

set_option maxHeartbeats 400000 in
set_option maxRecDepth 100000 in
theorem lowest_c (x : Int) (n : Nat) (hn : n ≤ 62) (w : World) :
    Calls Try.prog 60 #[.int .i64 x, .int .i64 n] w fun e w' => e = .returned (.int .i64 (x % 2 ^ n)) ∧ w = w' := by
  have hp := pow_le62 n hn
  have hp0 := pow_pos2 n
  have e10 : ((2:Int) ^ n) = ((2 ^ n : Nat) : Int) := by simp
  have e1 : wrap64 (wrap64 ((2:Int) ^ n) - 1) = 2 ^ n - 1 := by
    rw [e10]; unfold wrap64; omega
  have He1 : Hid (wrap64 (wrap64 ((2:Int) ^ n) - 1) = 2 ^ n - 1) := e1
  clear e1 e10 hp hp0
  go_enter Try.func60, Try.ntmps60
  go_wp2
  go_ret
  exact ⟨ret_int (by rw [He1.out, mask_i64 x n hn]), rfl⟩

set_option maxHeartbeats 400000 in
set_option maxRecDepth 100000 in
theorem width_ok (n : Int) (h0 : 0 ≤ n) (h1 : n ≤ 24) (w : World) :
    Calls Try.prog 57 #[.int .i64 n] w fun e w' => e = .returned (.tuple #[]) ∧ w = w' := by
  go_enter Try.func57, Try.ntmps57
  go_wp2
  go_end0
  exact ⟨rfl, rfl⟩

set_option maxHeartbeats 400000 in
set_option maxRecDepth 100000 in
theorem width_bad (n : Int) (h : n < 0 ∨ 24 < n) (w : World) :
    Calls Try.prog 57 #[.int .i64 n] w fun e w' => e = .panicked [{ v := .iface 24 (.int .i64 1), recovered := false }] ∧ w = w' := by
  rcases h with h | h
  · go_enter Try.func57, Try.ntmps57
    go_wp2
    exact ⟨rfl, rfl, rfl⟩
  · have h' : ¬ n < 0 := by omega
    go_enter Try.func57, Try.ntmps57
    go_wp2
    exact ⟨rfl, rfl, rfl⟩

set_option maxHeartbeats 400000 in
set_option maxRecDepth 100000 in
theorem left_ok (n l : Int) (h1 : n ≤ l) (w : World) :
    Calls Try.prog 58 #[.int .i64 n, .int .i64 l] w fun e w' => e = .returned (.tuple #[]) ∧ w = w' := by
  go_enter Try.func58, Try.ntmps58
  go_wp2
  go_end0
  exact ⟨rfl, rfl⟩

set_option maxHeartbeats 400000 in
set_option maxRecDepth 100000 in
theorem left_bad (n l : Int) (h1 : l < n) (w : World) :
    Calls Try.prog 58 #[.int .i64 n, .int .i64 l] w fun e w' => e = .panicked [{ v := .iface 24 (.int .i64 2), recovered := false }] ∧ w = w' := by
  go_enter Try.func58, Try.ntmps58
  go_wp2
  exact ⟨rfl, rfl, rfl⟩

set_option maxHeartbeats 400000 in
set_option maxRecDepth 100000 in
theorem sleft_c (B n c : Nat) (a : Option Addr) (pos : Int) (w : World) (h0 : w.cell? ⟨B, 0, none⟩ = some (.slice a n c)) (h1 : w.cell? ⟨B, 1, none⟩ = some (.int .i64 pos))
    (hn : (n : Int) ≤ 2147483648) (hp0 : 0 ≤ pos) (hp : pos ≤ 17179869184) :
    Calls Try.prog 52 #[.pointer (some ⟨B, 0, none⟩)] w fun e w' => e = .returned (.int .i64 (8 * n - pos)) ∧ ∃ k, w' = w.drewN k := by
  go_enter Try.func52, Try.ntmps52
  go_wp2
  go_quiet (fail)
  go_wp2
  go_ret
  exact ⟨rfl, _, rfl⟩

theorem ret_tup3 {k1 k2 k3 : IntKind} {a1 b1 a2 b2 a3 b3 : Int} (h1 : a1 = b1) (h2 : a2 = b2) (h3 : a3 = b3) :
    Ending.returned (.tuple #[.int k1 a1, .int k2 a2, .int k3 a3]) = .returned (.tuple #[.int k1 b1, .int k2 b2, .int k3 b3]) := by rw [h1, h2, h3]

theorem setCell_drewN_eq {w : World} {n : Nat} {a : Addr} {k : IntKind} {x y : Int} (h : x = y) : (w.drewN n).setCell a (.int k x) = (w.setCell a (.int k y)).drewN n := by rw [h]; rfl

/-- What a reader reads: nothing, or cells of a block that is not the reader's own. -/
def Bytes (w : World) (B : Nat) (a : Option Addr) (bs : List Nat) : Prop :=
  bs = [] ∨ ∃ D o, a = some ⟨D, o, none⟩ ∧ D ≠ B ∧ ∀ i, i < bs.length → w.cell? ⟨D, o + i, none⟩ = some (.int .u8 ((bs.getD i 0 : Nat) : Int))

theorem setCell_same {w : World} {a : Addr} {v : Value} (h : w.cell? a = some v) : w.setCell a v = w := by
  obtain ⟨b, o, s⟩ := a
  cases w with
  | mk heap tape drawn os output =>
  simp only [World.setCell, World.mk.injEq, and_true]
  apply Array.ext_getElem?
  intro i
  rw [Array.getElem?_modify]
  split
  · next e =>
    subst e
    simp only [World.cell?] at h
    split at h
    · next c el fz he =>
      rw [he]
      split at h
      · cases h
      · simp only [Option.map_some, Option.some.injEq]
        split
        · next e1 e2 => exact absurd e2 e1
        · congr 1
          apply Array.ext_getElem?
          intro j
          rw [Array.getElem?_setIfInBounds]
          split
          · next e3 =>
            subst e3
            split
            · exact h.symm
            · next e4 => rw [Array.getElem?_eq_none (by simpa using e4)]
          · rfl
    · cases h
  · rfl

theorem setCell_setCell (w : World) (a : Addr) (u v : Value) : (w.setCell a u).setCell a v = w.setCell a v := by
  cases w with
  | mk heap tape drawn os output =>
  simp only [World.setCell, World.mk.injEq, and_true]
  apply Array.ext_getElem?
  intro i
  simp only [Array.getElem?_modify]
  split
  · cases heap[i]? with
    | none => rfl
    | some o =>
      simp only [Option.map_some, Option.some.injEq]
      cases o <;> simp
      split <;> simp
  · rfl

/-- A reader has been moved on to bit p; nothing else has turned. -/
structure Moved (B p : Nat) (w w' : World) : Prop where
  eq : ∃ k, w' = (w.setCell ⟨B, 1, none⟩ (.int .i64 (p : Int))).drewN k

theorem Moved.cell {B p : Nat} {w w' : World} (h : Moved B p w w') {a : Addr} (ha : a ≠ ⟨B, 1, none⟩) : w'.cell? a = w.cell? a := by
  obtain ⟨k, rfl⟩ := h.eq
  rw [World.cell?_drewN, World.cell?_setCell_other _ _ _ _ (Ne.symm ha)]

theorem Moved.own {B p : Nat} {w w' : World} (h : Moved B p w w') {v : Value} (hv : w.cell? ⟨B, 1, none⟩ = some v) : w'.cell? ⟨B, 1, none⟩ = some (.int .i64 p) := by
  obtain ⟨k, rfl⟩ := h.eq
  rw [World.cell?_drewN]; simp [World.cell?_setCell_same, hv]

theorem Moved.frozen {B p : Nat} {w w' : World} (h : Moved B p w w') (a : Addr) : w'.frozen? a = w.frozen? a := by
  obtain ⟨k, rfl⟩ := h.eq
  simp

theorem Moved.trans {B p q : Nat} {w w' w'' : World} (h : Moved B p w w') (g : Moved B q w' w'') : Moved B q w w'' := by
  obtain ⟨k, rfl⟩ := h.eq
  obtain ⟨k', rfl⟩ := g.eq
  refine ⟨k + k', ?_⟩
  rw [show ((w.setCell ⟨B, 1, none⟩ (.int .i64 (p : Int))).drewN k).setCell ⟨B, 1, none⟩ (.int .i64 (q : Int)) = ((w.setCell ⟨B, 1, none⟩ (.int .i64 (p : Int))).setCell ⟨B, 1, none⟩ (.int .i64 (q : Int))).drewN k from rfl, setCell_setCell]
  simp only [World.drewN, Nat.add_assoc]

theorem Moved.start {B p : Nat} {w : World} (h : w.cell? ⟨B, 1, none⟩ = some (.int .i64 p)) (k : Nat) : Moved B p w (w.drewN k) := ⟨k, by rw [setCell_same h]⟩

theorem Moved.bytes {B p : Nat} {w w' : World} (h : Moved B p w w') {a : Option Addr} {bs : List Nat} (hb : Bytes w B a bs) : Bytes w' B a bs := by
  rcases hb with hb | ⟨D, o, e, hD, hc⟩
  · exact Or.inl hb
  · exact Or.inr ⟨D, o, e, hD, fun i hi => by rw [h.cell (fun e => hD (congrArg Addr.block e))]; exact hc i hi⟩

set_option maxHeartbeats 400000 in
set_option maxRecDepth 100000 in
theorem piece_c (B D o n c : Nat) (pos : Nat) (m : Int) (s : Nat) (b : Nat) (w : World) (h0 : w.cell? ⟨B, 0, none⟩ = some (.slice (some ⟨D, o, none⟩) n c)) (h1 : w.cell? ⟨B, 1, none⟩ = some (.int .i64 pos))
    (hf : w.frozen? ⟨B, 1, none⟩ = false) (hb : w.cell? ⟨D, o + pos / 8, none⟩ = some (.int .u8 b)) (hn : (n : Int) ≤ 2147483648) (hp : (pos : Int) < 8 * n) (hm0 : 0 < m) (hm1 : m ≤ 24)
    (hs1 : (s : Int) ≤ m) (hs2 : pos % 8 + s ≤ 8) (hs3 : (s : Int) = m ∨ pos % 8 + s = 8) :
    Calls Try.prog 59 #[.pointer (some ⟨B, 0, none⟩), .int .i64 m] w fun e w' => e = .returned (.tuple #[.int .u8 b, .int .i64 (pos % 8 : Nat), .int .i64 s]) ∧ Moved B (pos + s) w w' := by
  have hi0 : (0 : Int) ≤ (pos : Int) / 8 := by omega
  have hi1 : (pos : Int) / 8 < n := by omega
  have Hs : Hid (((s : Int) ≤ m ∧ pos % 8 + s ≤ 8) ∧ ((s : Int) = m ∨ pos % 8 + s = 8)) := ⟨⟨hs1, hs2⟩, hs3⟩
  clear hs1 hs2 hs3
  go_enter Try.func59, Try.ntmps59
  go_wp2
  go_quiet (fail)
  go_wp2
  all_goals
    go_ret3
    obtain ⟨⟨hs1, hs2⟩, hs3⟩ := Hs.out
    exact ⟨ret_tup3 rfl (by omega) (by omega), ⟨nq, setCell_drewN_eq (by omega)⟩⟩

set_option maxHeartbeats 400000 in
set_option maxRecDepth 100000 in
theorem low_left_c (B n c : Nat) (a : Option Addr) (pos : Int) (w : World) (h0 : w.cell? ⟨B, 0, none⟩ = some (.slice a n c)) (h1 : w.cell? ⟨B, 1, none⟩ = some (.int .i64 pos))
    (hn : (n : Int) ≤ 2147483648) (hp0 : 0 ≤ pos) (hp : pos ≤ 17179869184) :
    Calls Try.prog 41 #[.pointer (some ⟨B, 0, none⟩)] w fun e w' => e = .returned (.int .i64 (8 * n - pos)) ∧ ∃ k, w' = w.drewN k := by
  go_enter Try.func41, Try.ntmps41
  go_wp2_with (go_at_call 52; refine (sleft_c B n c a pos _ h0 h1 hn hp0 hp).mono ?_; rintro e w' ⟨rfl, k, rfl⟩)
  go_ret
  exact ⟨rfl, _, rfl⟩

theorem byte_lt {l : List Nat} (h : ∀ b ∈ l, b < 256) (k : Nat) : l.getD k 0 < 256 := by
  rw [List.getD_eq_getElem?_getD]
  cases e : l[k]? with
  | none => simp
  | some b => simpa using h b (List.mem_of_getElem? e)

/-- One round of Low.Take in numbers. -/
theorem low_step (l : List Nat) (h : ∀ b ∈ l, b < 256) (p g s n b : Nat) (hb : b = l.getD ((p + g) / 8) 0) (hg : g + s ≤ n) (hn : n ≤ 24) (hs : (p + g) % 8 + s ≤ 8) :
    bits .or .i64 ((lowBits (leNum l) p g : Nat) : Int) (wrap64 (wrap64 (b : Int) / 2 ^ ((p + g) % 8) % 2 ^ s * 2 ^ g)) = ((lowBits (leNum l) p (g + s) : Nat) : Int) := by
  have hb2 := byte_lt h ((p + g) / 8)
  subst hb
  have e1 : (((l.getD ((p + g) / 8) 0 : Nat) : Int) / 2 ^ ((p + g) % 8) % 2 ^ s * 2 ^ g) = ((lowBits (leNum l) (p + g) s * 2 ^ g : Nat) : Int) := by
    rw [← piece_low l h (p + g) s hs]; simp
  have h1 := lowBits_lt (leNum l) p g
  have h2 := lowBits_lt (leNum l) p (g + s)
  have h3 := lowBits_add (leNum l) p g s
  have h4 : (2:Nat) ^ (g + s) ≤ 2 ^ 24 := Nat.pow_le_pow_right (by decide) (by omega)
  have h5 : (2:Nat) ^ 24 = 16777216 := by decide
  have h6 : lowBits (leNum l) (p + g) s * 2 ^ g = 2 ^ g * lowBits (leNum l) (p + g) s := Nat.mul_comm _ _
  rw [wrap64_id ((l.getD ((p + g) / 8) 0 : Nat) : Int) (by omega) (by omega), e1, wrap64_id _ (by omega) (by omega), or_i64 g _ _ h1 (by simp) (by omega)]
  omega

set_option maxHeartbeats 800000 in
set_option maxRecDepth 100000 in
theorem low_take_ok (B c : Nat) (a : Option Addr) (bs : List Nat) (pos n : Nat) (w : World) (h0 : w.cell? ⟨B, 0, none⟩ = some (.slice a bs.length c)) (h1 : w.cell? ⟨B, 1, none⟩ = some (.int .i64 pos))
    (hf : w.frozen? ⟨B, 1, none⟩ = false) (hb : Bytes w B a bs) (hlt : ∀ b ∈ bs, b < 256) (hlen : bs.length ≤ 2147483648) (hn : n ≤ 24) (hle : pos + n ≤ 8 * bs.length) :
    Calls Try.prog 44 #[.pointer (some ⟨B, 0, none⟩), .int .i64 n] w fun e w' => e = .returned (.int .i64 (lowBits (leNum bs) pos n : Nat)) ∧ Moved B (pos + n) w w' := by
  go_enter Try.func44, Try.ntmps44
  go_wp2_with (first | (go_at_call 57; refine (width_ok _ (by omega) (by omega) _).mono ?_; rintro e w' ⟨rfl, rfl⟩) | (go_at_call 41; refine (low_left_c B bs.length c a pos _ h0 h1 (by omega) (by omega) (by omega)).mono ?_; rintro e w' ⟨rfl, k, rfl⟩) | (go_at_call 58; refine (left_ok _ _ (by omega) _).mono ?_; rintro e w' ⟨rfl, rfl⟩))
  go_loopw [5, 6, 7, 8, 9] (fun x g _ _ _ wr => ∃ got P : Nat, got ≤ n ∧ P = pos + got ∧ g = .int .i64 got ∧ x = .int .i64 (lowBits (leNum bs) pos got : Nat) ∧ Moved B P w wr) (fun _ g _ _ _ _ => n - (intOf g).toNat)
  case atStart => exact ⟨0, pos, Nat.zero_le _, rfl, rfl, by simp [lowBits_zero], Moved.start h1 _⟩
  case round =>
    obtain ⟨got, P, hgot, hP, rfl, rfl, hm⟩ := hrel
    by_cases hlt2 : got < n
    · obtain ⟨D, o, rfl, hDB, hcell⟩ : ∃ D o, a = some ⟨D, o, none⟩ ∧ D ≠ B ∧ ∀ i, i < bs.length → wr.cell? ⟨D, o + i, none⟩ = some (.int .u8 ((bs.getD i 0 : Nat) : Int)) := by
        rcases hm.bytes hb with h | h
        · subst h; simp at hle; omega
        · exact h
      have hby := hcell (P / 8) (by omega)
      obtain ⟨b, hbv⟩ : ∃ b, b = bs.getD (P / 8) 0 := ⟨_, rfl⟩
      obtain ⟨s, hs⟩ : ∃ s : Nat, s = min (n - got) (8 - P % 8) := ⟨_, rfl⟩
      have hs1 : s ≤ n - got := by omega
      have hs2 : P % 8 + s ≤ 8 := by omega
      have hs3 : s = n - got ∨ P % 8 + s = 8 := by omega
      have hs4 : 0 < s := by omega
      have f0 := (hm.cell (a := ⟨B, 0, none⟩) (by simp)).trans h0
      have f1 := hm.own h1
      have f2 := (hm.frozen ⟨B, 1, none⟩).trans hf
      have HS := hide (low_step bs hlt pos got s n b (by rw [← hP]; exact hbv) (by omega) hn (by rw [← hP]; exact hs2))
      rw [← hbv] at hby
      rw [← hP] at HS
      have HP := hide hP
      have Hm := hide hm
      have hP8 : P < 8 * bs.length := by omega
      clear hs hcell hb hP hm h0 h1 hf hbv
      go_wp2_with (first | (go_at_call 59; refine (piece_c B D o bs.length c P _ s b _ f0 f1 f2 hby (by omega) (by omega) (by omega) (by omega) (by omega) hs2 (by omega)).mono ?_; rintro e w1 ⟨rfl, hm1⟩) | (go_at_call 60; refine (lowest_c _ s (by omega) _).mono ?_; rintro e w' ⟨rfl, rfl⟩))
      refine ⟨⟨got + s, P + s, by omega, by rw [HP.out]; omega, by simp, by rw [HS.out], Hm.out.trans hm1⟩, by simp [intOf]; omega⟩
    · go_wp2
      go_ret
      have e : got = n := by omega
      subst e
      exact ⟨rfl, hP ▸ hm⟩

theorem Moved.drew {B p : Nat} {w w' : World} (h : Moved B p w w') (k : Nat) : Moved B p w (w'.drewN k) := by
  obtain ⟨j, rfl⟩ := h.eq
  exact ⟨j + k, by simp only [World.drewN, Nat.add_assoc]⟩

/-- A panic of the program's own error number. -/
abbrev errPanic (n : Int) : Ending := .panicked [{ v := .iface 24 (.int .i64 n), recovered := false }]

theorem lowest_q (x : Int) (n : Nat) (hn : n ≤ 62) (w : World) :
    Calls Try.prog 60 #[.int .i64 x, .int .i64 n] w fun e w' => e = .returned (.int .i64 (x % 2 ^ n)) ∧ w' = w :=
  (lowest_c x n hn w).mono fun _ _ ⟨a, b⟩ => ⟨a, b.symm⟩

set_option maxHeartbeats 400000 in
set_option maxRecDepth 100000 in
theorem low_take_bad (B c m : Nat) (a : Option Addr) (pos : Nat) (n : Int) (w : World) (h0 : w.cell? ⟨B, 0, none⟩ = some (.slice a m c)) (h1 : w.cell? ⟨B, 1, none⟩ = some (.int .i64 pos))
    (hlen : m ≤ 2147483648) (hpos : pos ≤ 8 * m) (hbad : (n < 0 ∨ 24 < n) ∨ (8 * m : Nat) < pos + n) :
    Calls Try.prog 44 #[.pointer (some ⟨B, 0, none⟩), .int .i64 n] w fun e w' => (∃ er, e = errPanic er) ∧ ∃ k, w.drewN k = w' := by
  by_cases hw : n < 0 ∨ 24 < n
  · go_enter Try.func44, Try.ntmps44
    go_wp2_with (go_at_call 57; refine (width_bad _ hw _).mono ?_; rintro e w' ⟨rfl, rfl⟩)
    exact ⟨rfl, ⟨_, rfl⟩, 0, rfl⟩
  · have hn0 : 0 ≤ n := by omega
    have hn1 : n ≤ 24 := by omega
    have hb2 : 8 * (m : Int) - pos < n := by omega
    clear hw hbad
    go_enter Try.func44, Try.ntmps44
    go_wp2_with (first | (go_at_call 57; refine (width_ok _ hn0 hn1 _).mono ?_; rintro e w' ⟨rfl, rfl⟩) | (go_at_call 41; refine (low_left_c B m c a pos _ h0 h1 (by omega) (by omega) (by omega)).mono ?_; rintro e w' ⟨rfl, k, rfl⟩) | (go_at_call 58; refine (left_bad _ _ hb2 _).mono ?_; rintro e w' ⟨rfl, rfl⟩))
    exact ⟨rfl, ⟨_, rfl⟩, k, rfl⟩
end Go.Proofs.Ytdbgolklgiadeaa
