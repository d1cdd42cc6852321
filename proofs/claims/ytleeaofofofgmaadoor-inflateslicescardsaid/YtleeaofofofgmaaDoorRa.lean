/-
  The document's own reading of a stream: its reader, lengths, distances, stored blocks.
-/
import Derived.Test.YtleeaofofofgmaaDoorHj
import Derived.Test.YtleeaofofofgmaaDoorNf
namespace Go.Proofs.YtleeaofofofgmaaDoor
open Go.RowKit

/-- The document's reader at block R, from lo on; what it reads lies below lo. -/
structure Rz (w : World) (lo R : Nat) (sv : Value) (bs : List Nat) (p : Nat) : Prop where
  rf : Rf w R sv bs p false
  hR : lo ≤ R
  sb : bs ≠ [] → ∀ ad n c, sv = .slice (some ad) n c → ad.block < lo
  slo : lo ≤ w.heap.size

section
variable {w w' : World} {lo R : Nat} {sv : Value} {bs : List Nat} {p q : Nat}
theorem Rz.lt (h : Rz w lo R sv bs p) : R < w.heap.size := by obtain ⟨sh, ho⟩ := h.rf.eobj; exact lt_of ho
theorem Rz.next (h : Rz w lo R sv bs p) (hr : Rf w' R sv bs q false) (hF : Fr (fun k => k = R) w w') : Rz w' lo R sv bs q := ⟨hr, h.hR, h.sb, Nat.le_trans h.slo hF.size⟩
theorem Rz.keep (h : Rz w lo R sv bs p) {S : Nat → Prop} (hF : Fr S w w') (hS : ∀ k, S k → lo ≤ k ∧ k ≠ R) : Rz w' lo R sv bs p :=
  ⟨h.rf.keep hF (fun e => (hS R e).2 rfl) (fun hne ad n c e => ⟨Nat.lt_of_lt_of_le (h.sb hne ad n c e) h.slo, fun e2 => by have := (hS _ e2).1; have := h.sb hne ad n c e; omega⟩), h.hR, h.sb, Nat.le_trans h.slo hF.size⟩
theorem Rz.low (h : Rz w lo R sv bs p) {a b : World} (hF : Fr (fun k => k = R) a b) : Fl lo a b := hF.mono fun k _ e => by have := h.hR; omega
end

/-- What a contract of the document's taking of bits says. -/
structure RTakes (n : Nat) (R : Nat) (sv : Value) (bs : List Nat) (p : Nat) (w : World) (Q : Ending → World → Prop) : Prop where
  ok : ∀ (a q : Nat) w', tkn n (leNum bs) (8 * bs.length) p = .ok (a, q) → Rf w' R sv bs q false → Fr (fun k => k = R) w w' → Q (.returned (.tuple #[.int .i64 (a : Int), .bool true])) w'
  no : ∀ w', tkn n (leNum bs) (8 * bs.length) p = .error 2 → Fr (fun k => k = R) w w' → Q (.returned (.tuple #[.int .i64 0, .bool false])) w'

theorem rtakes (w : World) (lo R : Nat) (sv : Value) (bs : List Nat) (p n : Nat) (h : Rz w lo R sv bs p) (hn : n ≤ 24) (Q : Ending → World → Prop) (hQ : RTakes n R sv bs p w Q) :
    Calls Tryd.prog 23 #[.pointer (some ⟨R, 0, none⟩), .int .i64 (n : Int)] w Q := by
  by_cases hf : p + n ≤ 8 * bs.length
  · exact (ref_take_low w R sv bs p n h.rf hn hf).mono fun e w' ⟨he, hr, hF⟩ => by rw [he]; exact hQ.ok _ _ w' (tkn_ok hf) hr hF
  · exact (ref_take_no w R sv bs p n false h.rf (Or.inr (by omega))).mono fun e w' ⟨he, _, hF⟩ => by rw [he]; exact hQ.no w' (tkn_err hf) hF

/-- What a contract of the document's taking of a word says. -/
structure RWords (x : Rdr Nat) (R : Nat) (sv : Value) (bs : List Nat) (p : Nat) (w : World) (Q : Ending → World → Prop) : Prop where
  ok : ∀ (a q : Nat) w', x (leNum bs) (8 * bs.length) p = .ok (a, q) → Rf w' R sv bs q false → Fr (fun k => k = R) w w' → Q (.returned (.tuple #[.int .i64 (a : Int), .int .i64 0])) w'
  no : ∀ (er : Nat) w', x (leNum bs) (8 * bs.length) p = .error er → Fr (fun k => k = R) w w' → Q (.returned (.tuple #[.int .i64 0, .int .i64 (er : Int)])) w'

theorem rwords (w : World) (lo R : Nat) (sv : Value) (bs : List Nat) (p : Nat) (h : Rz w lo R sv bs p) (M clo chi : Nat) (ls : List Int) (hC : Rc w clo chi M ls) (hap : chi ≤ R ∨ R < clo) (Q : Ending → World → Prop) (hQ : RWords (tk ls) R sv bs p w Q) :
    Calls Tryd.prog 34 #[.pointer (some ⟨M, 0, none⟩), .pointer (some ⟨R, 0, none⟩)] w Q :=
  rtake_Q clo chi M R ls sv bs p w hC h.rf hap Q (fun _ y w' hh hy hr hF => hQ.ok y _ w' (hh.tk hy) hr hF) (fun er _ w' hh hF => hQ.no er w' hh.tk hF)

set_option maxHeartbeats 400000 in
theorem ralign_c (w : World) (lo R : Nat) (sv : Value) (bs : List Nat) (p : Nat) (h : Rz w lo R sv bs p) :
    Calls Tryd.prog 32 #[.pointer (some ⟨R, 0, none⟩)] w fun e w' => e = .returned (.tuple #[]) ∧ Rz w' lo R sv bs ((p + 7) / 8 * 8) ∧ Fr (fun k => k = R) w w' := by
  obtain ⟨a, c, h0, h1, _, _, h2, _⟩ := h.rf.facts
  have hl := h.rf.elen
  have hp := h.rf.epos
  have H := hide h
  obtain ⟨q, hq⟩ : ∃ q, q = (p + 7) / 8 := ⟨_, rfl⟩
  have hqi : ((p : Int) + 7) / 8 = (q : Int) := by omega
  have hqb : q ≤ 20000000000 := by omega
  have Hq := hide hq
  clear h hq
  go_enter Tryd.func32, Tryd.ntmps32
  go_wp2
  go_end0
  have hm : Moved R (q * 8) w (w.setCell ⟨R, 1, none⟩ (.int .i64 ((q : Int) * 8))) := moved_of (by omega)
  have hr := H.out.rf.moved hm (by have := Hq.out; omega)
  rw [← Hq.out]
  exact ⟨rfl, H.out.next hr (Fr.of_moved hm), Fr.of_moved hm⟩

/-- The least length of symbol 257 + i, and how many bits more. -/
def lb (i : Nat) : Nat := if i = 28 then 258 else if i < 8 then 3 + i else 3 + (4 + i % 4) * 2 ^ (i / 4 - 1)
def lm (i : Nat) : Nat := if i = 28 then 0 else if i < 8 then 0 else i / 4 - 1

def lbs : List Int := [3, 4, 5, 6, 7, 8, 9, 10, 11, 13, 15, 17, 19, 23, 27, 31, 35, 43, 51, 59, 67, 83, 99, 115, 131, 163, 195, 227, 258]
def lms : List Int := [0, 0, 0, 0, 0, 0, 0, 0, 1, 1, 1, 1, 2, 2, 2, 2, 3, 3, 3, 3, 4, 4, 4, 4, 5, 5, 5, 5, 0]
theorem lbs_at (i : Nat) (hi : i < 29) : at0 lbs i = (lb i : Nat) := by
  have : ∀ j : Fin 29, at0 lbs j.1 = (lb j.1 : Nat) := by decide
  exact this ⟨i, hi⟩
theorem lms_at (i : Nat) (hi : i < 29) : at0 lms i = (lm i : Nat) := by
  have : ∀ j : Fin 29, at0 lms j.1 = (lm j.1 : Nat) := by decide
  exact this ⟨i, hi⟩

theorem rlen_tab (i : Nat) (hi : i < 29) {V L p : Nat} (hp : p ≤ L) : rlen (257 + i) V L p = andThen (tkn (lm i)) (fun x => ret (lb i + x)) V L p := by
  unfold rlen lm lb
  rw [if_neg (by omega)]
  by_cases h28 : i = 28
  · subst h28
    simp only [if_true]
    rw [then_ok (tkn_ok (n := 0) (by omega)), lowBits_zero]
    rfl
  rw [if_neg (by omega), if_neg h28, if_neg h28, show 257 + i - 257 = i by omega]
  unfold rung
  by_cases h8 : i < 8
  · rw [if_pos (by omega), if_pos h8, if_pos h8, then_ok (tkn_ok (n := 0) (by omega)), lowBits_zero]
    rfl
  · rw [if_neg (by omega), if_neg h8, if_neg h8]
    simp only [andThen]
    cases tkn (i / 4 - 1) V L p with
    | error e => rfl
    | ok aq =>
      simp only [ret]
      rw [Nat.add_assoc]

set_option maxHeartbeats 800000 in
set_option maxRecDepth 100000 in
theorem lengthOf_c (i : Nat) (hi : i < 29) (w : World) : Calls Tryd.prog 35 #[.int .i64 ((257 + i : Nat) : Int)] w fun e w' => e = .returned (.tuple #[.int .i64 (lb i : Int), .int .i64 (lm i : Int), .bool true]) ∧ Fr (fun _ => False) w w' := by
  have e1 : ((257 + i : Nat) : Int) - 257 = (i : Int) := by omega
  have e2 : ¬ ((257 + i : Nat) : Int) < 257 := by omega
  have e3 : ¬ (285 : Int) < ((257 + i : Nat) : Int) := by omega
  have i29 : (i : Int) < 29 := by omega
  have f1 := Fr.of_alloc w (.cells (cellsZ lbs).toArray 3)
  have f2 := Fr.of_alloc (w.alloc (.cells (cellsZ lbs).toArray 3)) (.cells (cellsZ lms).toArray 3)
  have h1 : ((w.alloc (.cells (cellsZ lbs).toArray 3)).alloc (.cells (cellsZ lms).toArray 3)).cell? ⟨w.heap.size, i, none⟩ = some (.int .i64 (lb i : Int)) := by
    rw [cell_blk (f2.block w.heap.size (by simp) (fun h => h))]
    rw [← lbs_at i hi]
    exact cell_of (heap_alloc_new _ _) (by simp [cellsZ, at0, List.getElem?_eq_getElem (show i < lbs.length from hi)])
  have h2 : ((w.alloc (.cells (cellsZ lbs).toArray 3)).alloc (.cells (cellsZ lms).toArray 3)).cell? ⟨w.heap.size + 1, i, none⟩ = some (.int .i64 (lm i : Int)) := by
    rw [← lms_at i hi]
    refine cell_of (heap_alloc_at (by simp)) (by simp [cellsZ, at0, List.getElem?_eq_getElem (show i < lms.length from hi)])
  obtain ⟨w2, hw2⟩ : ∃ w2, w2 = (w.alloc (.cells #[.int .i64 3, .int .i64 4, .int .i64 5, .int .i64 6, .int .i64 7, .int .i64 8, .int .i64 9, .int .i64 10, .int .i64 11, .int .i64 13, .int .i64 15, .int .i64 17, .int .i64 19, .int .i64 23, .int .i64 27, .int .i64 31, .int .i64 35, .int .i64 43, .int .i64 51, .int .i64 59, .int .i64 67, .int .i64 83, .int .i64 99, .int .i64 115, .int .i64 131, .int .i64 163, .int .i64 195, .int .i64 227, .int .i64 258] 3)).alloc (.cells #[.int .i64 0, .int .i64 0, .int .i64 0, .int .i64 0, .int .i64 0, .int .i64 0, .int .i64 0, .int .i64 0, .int .i64 1, .int .i64 1, .int .i64 1, .int .i64 1, .int .i64 2, .int .i64 2, .int .i64 2, .int .i64 2, .int .i64 3, .int .i64 3, .int .i64 3, .int .i64 3, .int .i64 4, .int .i64 4, .int .i64 4, .int .i64 4, .int .i64 5, .int .i64 5, .int .i64 5, .int .i64 5, .int .i64 0] 3) := ⟨_, rfl⟩
  have h1' : w2.cell? ⟨w.heap.size, i, none⟩ = some (.int .i64 (lb i : Int)) := by rw [hw2]; exact h1
  have h2' : w2.cell? ⟨w.heap.size + 1, i, none⟩ = some (.int .i64 (lm i : Int)) := by rw [hw2]; exact h2
  have F : Hid (Fr (fun _ => False) w w2) := by rw [hw2]; exact f1.join f2
  obtain ⟨s, hs⟩ : ∃ s, s = 257 + i := ⟨_, rfl⟩
  rw [← hs] at e1 e2 e3 ⊢
  obtain ⟨B, hB⟩ : ∃ B, B = lb i := ⟨_, rfl⟩
  obtain ⟨C, hC⟩ : ∃ C, C = lm i := ⟨_, rfl⟩
  rw [← hB] at h1' ⊢
  rw [← hC] at h2' ⊢
  have Hw2 := hide hw2
  clear hs f1 f2 hB hC hi h1 h2 hw2
  go_enter Tryd.func35, Tryd.ntmps35
  go_wp2_with fail
  rw [← Hw2.out]
  clear Hw2
  go_quiet (fail)
  go_wp2
  go_ret3
  exact ⟨rfl, F.out.join (Fr.of_drewN _ _)⟩

set_option maxHeartbeats 400000 in
theorem lengthOf_no (s : Nat) (hs : 285 < s) (w : World) : Calls Tryd.prog 35 #[.int .i64 (s : Int)] w fun e w' => e = .returned (.tuple #[.int .i64 0, .int .i64 0, .bool false]) ∧ Fr (fun _ => False) w w' := by
  have e2 : ¬ (s : Int) < 257 := by omega
  have e3 : (285 : Int) < (s : Int) := by omega
  go_enter Tryd.func35, Tryd.ntmps35
  go_wp2
  go_ret3
  exact ⟨rfl, (Fr.of_alloc _ _).join (Fr.of_alloc _ _)⟩

/-- The least distance of a symbol, and how many bits more. -/
def db (s : Nat) : Nat := if s < 4 then 1 + s else 1 + (2 + s % 2) * 2 ^ (s / 2 - 1)
def dm (s : Nat) : Nat := if s < 4 then 0 else s / 2 - 1

theorem rdist_tab (s : Nat) {V L p : Nat} (hp : p ≤ L) : andThen (rung s 2) (fun x => ret (1 + x)) V L p = andThen (tkn (dm s)) (fun x => ret (db s + x)) V L p := by
  unfold rung dm db
  by_cases h4 : s < 4
  · rw [if_pos (by omega), if_pos h4, if_pos h4, then_ok (x := tkn 0) (tkn_ok (n := 0) (by omega)), lowBits_zero]
    rfl
  · rw [if_neg (by omega), if_neg h4, if_neg h4]
    simp only [andThen]
    cases tkn (s / 2 - 1) V L p with
    | error e => rfl
    | ok aq =>
      simp only [ret]
      rw [Nat.add_assoc]

set_option maxHeartbeats 400000 in
theorem distanceOf_c (s : Nat) (hs : s < 30) (w : World) : Calls Tryd.prog 36 #[.int .i64 (s : Int)] w fun e w' => e = .returned (.tuple #[.int .i64 (db s : Int), .int .i64 (dm s : Int), .bool true]) ∧ w = w' := by
  have e1 : ¬ (s : Int) < 0 := by omega
  have e2 : ¬ (29 : Int) < (s : Int) := by omega
  unfold db dm
  by_cases h4 : s < 4
  · have h4i : (s : Int) < 4 := by omega
    rw [if_pos h4, if_pos h4]
    go_enter Tryd.func36, Tryd.ntmps36
    go_wp2
    go_ret3
    exact ⟨by simp; omega, rfl⟩
  · have h4i : ¬ (s : Int) < 4 := by omega
    rw [if_neg h4, if_neg h4]
    obtain ⟨f, hf⟩ : ∃ f, f = s / 2 - 1 := ⟨_, rfl⟩
    have hfi : ((s : Int) / 2) - 1 = (f : Int) := by omega
    have hf13 : f ≤ 13 := by omega
    obtain ⟨t, ht⟩ : ∃ t, t = s % 2 := ⟨_, rfl⟩
    have hti : (s : Int).tmod 2 = (t : Int) := by rw [Int.tmod_eq_emod_of_nonneg (by omega)]; omega
    have hti2 : (s : Int) % 2 = (t : Int) := by omega
    have htb : t < 2 := by omega
    obtain ⟨P2, hP2⟩ : ∃ P2, P2 = 2 ^ f := ⟨_, rfl⟩
    have hP3 : (2 : Int) ^ f = (P2 : Int) := by rw [hP2]; simp
    have hPb : P2 ≤ 8192 := by rw [hP2]; exact Nat.pow_le_pow_right (by decide) hf13
    obtain ⟨X, hX⟩ : ∃ X, X = (2 + t) * P2 := ⟨_, rfl⟩
    have hXb : X ≤ 65536 := by
      rw [hX]
      exact Nat.le_trans (Nat.mul_le_mul (show 2 + t ≤ 8 by omega) hPb) (by decide)
    have hXi : ((2 : Int) + (t : Int)) * (P2 : Int) = (X : Int) := by rw [hX]; simp
    have hwf : IntKind.u64.wrap (f : Int) = (f : Int) := by show (f : Int) % 18446744073709551616 = f; omega
    rw [← hf, ← ht, ← hP2, ← hX]
    clear hf ht hP2 hX
    go_enter Tryd.func36, Tryd.ntmps36
    go_wp2
    go_ret3
    exact ⟨by rw [Int.add_comm]; rfl, rfl⟩

set_option maxHeartbeats 400000 in
theorem distanceOf_no (s : Nat) (hs : 30 ≤ s) (w : World) : Calls Tryd.prog 36 #[.int .i64 (s : Int)] w fun e w' => e = .returned (.tuple #[.int .i64 0, .int .i64 0, .bool false]) ∧ w = w' := by
  have e1 : ¬ (s : Int) < 0 := by omega
  have e2 : (29 : Int) < (s : Int) := by omega
  go_enter Tryd.func36, Tryd.ntmps36
  go_wp2
  go_ret3
  exact ⟨rfl, rfl⟩
end Go.Proofs.YtleeaofofofgmaaDoor
