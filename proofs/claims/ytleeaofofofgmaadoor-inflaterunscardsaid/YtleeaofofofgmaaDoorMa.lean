/-
  Contracts of reading numbers of a stream: of the ladder, of lengths, of a stored block's length.
-/
import Derived.Test.YtleeaofofofgmaaDoorHi
import Derived.Deep.CutRange
namespace Go.Proofs.YtleeaofofofgmaaDoor
open Go.RowKit

/-- A reader at block B, as a machine has it. -/
abbrev Rm (w : World) (lo R B : Nat) (bs : List Nat) (p : Nat) : Prop := Rd 83 w lo R B bs p (.slice none 0 0) 0

/-- What a contract of a reading says. -/
structure Reads (x : Rdr Nat) (lo R B : Nat) (bs : List Nat) (p : Nat) (w : World) (Q : Ending → World → Prop) : Prop where
  ok : ∀ a q w', x (leNum bs) (8 * bs.length) p = .ok (a, q) → Rm w' lo R B bs q → Fr (fun k => k = B) w w' → Q (.returned (.int .i64 (a : Nat))) w'
  no : ∀ (er : Nat) w', x (leNum bs) (8 * bs.length) p = .error er → Fr (fun k => k = B) w w' → Q (errPanic er) w'

theorem Fr.none {S : Nat → Prop} {w : World} (k : Nat) : Fr S w (w.drewN k) := (Fr.of_drewN w k).mono fun _ _ h => h.elim

theorem low_reads (w : World) (lo R B : Nat) (bs : List Nat) (p n : Nat) (h : Rm w lo R B bs p) (hn : n ≤ 24) (Q : Ending → World → Prop) (hQ : Reads (tkn n) lo R B bs p w Q) :
    Calls Tryd.prog 46 #[.pointer (some ⟨B, 0, none⟩), .int .i64 n] w Q := by
  by_cases hf : p + n ≤ 8 * bs.length
  · exact (low_take w lo R B bs p n _ _ h hn hf).mono fun e w' ⟨he, hr, hF⟩ => by rw [he]; exact hQ.ok _ _ w' (tkn_ok hf) hr hF
  · exact (low_short w lo R B bs p n _ _ h hn hf).mono fun e w' ⟨he, k, hk⟩ => by rw [he, ← hk]; exact hQ.no 2 _ (tkn_err hf) (Fr.none k)

theorem take_E (lo hi C lo' hi' B : Nat) (ls : List Int) (bs : List Nat) (p : Nat) (w : World) (hC : Cd w lo hi C ls) (hB : Rm w lo' hi' B bs p) (hap : hi ≤ B ∨ B < lo) (Q : Ending → World → Prop) (hQ : Reads (tk ls) lo' hi' B bs p w Q) :
    Calls Tryd.prog 47 #[.pointer (some ⟨C, 0, none⟩), .pointer (some ⟨B, 0, none⟩)] w Q :=
  take_Q lo hi C lo' hi' B ls bs p _ _ w hC hB hap Q (fun _ y w' h hy hr hF => hQ.ok y _ w' (h.tk hy) hr hF) (fun er _ w' h hF => hQ.no er w' h.tk hF)

set_option maxHeartbeats 400000 in
theorem whole_c (p : Nat) (hp : p ≤ 100000000000) (w : World) : Calls Tryd.prog 66 #[.int .i64 p] w fun e w' => e = .returned (.int .i64 ((p + 7) / 8 : Nat)) ∧ w = w' := by
  go_enter Tryd.func66, Tryd.ntmps66
  go_wp2
  go_ret
  exact ⟨ret_int (by omega), rfl⟩

theorem moved_of {B q : Nat} {w : World} {x : Int} (h : x = (q : Nat)) : Moved B q w (w.setCell ⟨B, 1, none⟩ (.int .i64 x)) := by
  subst h
  exact ⟨0, rfl⟩

set_option maxHeartbeats 400000 in
theorem align_c (w : World) (lo R B : Nat) (bs : List Nat) (p : Nat) (h : Rm w lo R B bs p) :
    Calls Tryd.prog 60 #[.pointer (some ⟨B, 0, none⟩)] w fun e w' => e = .returned (.tuple #[]) ∧ Rm w' lo R B bs ((p + 7) / 8 * 8) ∧ Fr (fun k => k = B) w w' := by
  obtain ⟨a, c, h0, h1, h2, _⟩ := h.facts
  have hl := h.elen
  have hp := h.epos
  have hpl : p ≤ 20000000000 := by omega
  have H := hide h
  clear h
  go_enter Tryd.func60, Tryd.ntmps60
  go_wp2_with fail
  refine (whole_c p (by omega) w).mono ?_
  rintro e w1 ⟨rfl, rfl⟩
  obtain ⟨q, hq⟩ : ∃ q, q = (p + 7) / 8 := ⟨_, rfl⟩
  have hqb : q ≤ 20000000000 := by omega
  have Hq : Hid (q = (p + 7) / 8) := hq
  rw [← hq]
  clear hq
  go_wp2
  go_end0
  have hm : Moved B (q * 8) w (w.setCell ⟨B, 1, none⟩ (.int .i64 (8 * (q : Int)))) := moved_of (by omega)
  exact ⟨rfl, by rw [← Hq.out]; exact H.out.moved hm (by have := Hq.out; have := hp; omega), Fr.of_moved hm⟩
/-- A machine's reader. -/
structure Mi (w : World) (lo R M B : Nat) (bs : List Nat) (p : Nat) : Prop where
  rd : Rm w lo R B bs p
  hM : R ≤ M
  ptr : w.cell? ⟨M, 0, none⟩ = some (.pointer (some ⟨B, 0, none⟩))

theorem Mi.ne {w : World} {lo R M B : Nat} {bs : List Nat} {p : Nat} (h : Mi w lo R M B bs p) : M ≠ B := by
  have := h.hM
  have := h.rd.ehi
  omega

theorem cell_blk {w w' : World} {a : Addr} (h : w'.heap[a.block]? = w.heap[a.block]?) : w'.cell? a = w.cell? a := by
  unfold World.cell?
  rw [h]

theorem cell_lt {w : World} {a : Addr} {v : Value} (h : w.cell? a = some v) : a.block < w.heap.size := World.block_lt_of_cell? w _ h

/-- Behind a reading. -/
theorem Mi.next {w w' : World} {lo R M B : Nat} {bs : List Nat} {p q : Nat} (h : Mi w lo R M B bs p) (hr : Rm w' lo R B bs q) (hF : Fr (fun k => k = B) w w') : Mi w' lo R M B bs q :=
  ⟨hr, h.hM, by rw [cell_blk (hF.block M (cell_lt h.ptr) h.ne)]; exact h.ptr⟩

theorem Mi.drewN {w : World} {lo R M B : Nat} {bs : List Nat} {p : Nat} (h : Mi w lo R M B bs p) (k : Nat) : Mi (w.drewN k) lo R M B bs p := ⟨h.rd.drewN k, h.hM, h.ptr⟩

theorem calls_args {P : Program} {f : FuncId} {args args' : Array Value} {w : World} {Q : Ending → World → Prop} (h : Calls P f args w Q) (e : args' = args) : Calls P f args' w Q := by rw [e]; exact h

theorem Mi.call {w W : World} {lo R M B : Nat} {bs : List Nat} {p : Nat} (h : Mi w lo R M B bs p) (k : ∃ n, W = w.drewN n) : Mi W lo R M B bs p := by
  obtain ⟨n, rfl⟩ := k
  exact h.drewN n

set_option maxHeartbeats 1000000 in
theorem rung4_c (w : World) (lo R M B : Nat) (bs : List Nat) (p i : Nat) (h : Mi w lo R M B bs p) (hi : i ≤ 29) (Q : Ending → World → Prop) (hQ : Reads (rung i 4) lo R B bs p w Q) :
    Calls Tryd.prog 58 #[.pointer (some ⟨M, 0, none⟩), .int .i64 i, .int .i64 4] w Q := by
  have hp := h.ptr
  have H := hide h
  have HQ := hide hQ
  clear h hQ
  by_cases hs : i < 2 * 4
  · have hsi : (i : Int) < 8 := by omega
    go_enter Tryd.func58, Tryd.ntmps58
    go_wp2
    exact HQ.out.ok _ _ _ (by unfold rung; rw [if_pos hs]; rfl) H.out.rd (Fr.refl _ _)
  · have hsi : ¬ (i : Int) < 8 := by omega
    have E : Hid (rung i 4 (leNum bs) (8 * bs.length) p = andThen (tkn (i / 4 - 1)) (fun x => ret ((4 + i % 4) * 2 ^ (i / 4 - 1) + x)) (leNum bs) (8 * bs.length) p) := by
      show rung i 4 (leNum bs) (8 * bs.length) p = _
      unfold rung
      rw [if_neg hs]
    obtain ⟨f, hf⟩ : ∃ f, f = i / 4 - 1 := ⟨_, rfl⟩
    have hfi : ((i : Int) / 4) - 1 = (f : Int) := by omega
    have hf13 : f ≤ 13 := by omega
    obtain ⟨P2, hP2⟩ : ∃ P2, P2 = 2 ^ f := ⟨_, rfl⟩
    have hP3 : (2 : Int) ^ f = (P2 : Int) := by rw [hP2]; simp
    have hPb : P2 ≤ 8192 := by rw [hP2]; exact Nat.pow_le_pow_right (by decide) hf13
    obtain ⟨t, ht⟩ : ∃ t, t = i % 4 := ⟨_, rfl⟩
    have hti : (i : Int).tmod 4 = (t : Int) := by rw [Int.tmod_eq_emod_of_nonneg (by omega)]; omega
    have htb : t < 4 := by omega
    obtain ⟨X, hX⟩ : ∃ X, X = (4 + t) * P2 := ⟨_, rfl⟩
    have hXb : X ≤ 65536 := by
      rw [hX]
      exact Nat.le_trans (Nat.mul_le_mul (show 4 + t ≤ 8 by omega) hPb) (by decide)
    have hXi : ((4 : Int) + (t : Int)) * (P2 : Int) = (X : Int) := by rw [hX]; simp
    rw [← hf, ← ht, ← hP2, ← hX] at E
    have Hf := hide hf
    clear hf hs hX ht hP2
    go_enter Tryd.func58, Tryd.ntmps58
    go_wp2_with fail
    refine wp_region_held_drew (S := fun w' => w'.cell? ⟨M, 0, none⟩ = some (.pointer (some ⟨B, 0, none⟩))) (by kernel_rfl) (by go_keep) (fun hHeld => ?_)
    refine wpAnyH_take (i := 0) (v := ?v0) rfl (by kernel_rfl) (by kernel_rfl) (by kernel_rfl) (fun _ _ _ h => h) (Or.inl ⟨by rfl, ?hy0⟩) hHeld ?rest0
    case hy0 => (intro W hSw; (try dsimp only at hSw); go_simp; all_goals (with_reducible rfl))
    change wpAnyH _ _ _ _ _ _ _ (Act.put _ (some 17) _) _
    simp only [Act.put, List.setIfInBounds_toArray, List.set_cons_zero, List.set_cons_succ]
    refine wpAnyH_take (i := 1) (v := ?v1) rfl (by kernel_rfl) (by kernel_rfl) (by kernel_rfl) (fun _ _ _ h => h) (Or.inl ⟨by rfl, ?hy1⟩) hHeld ?rest1
    case hy1 => (intro W hSw; (try dsimp only at hSw); go_simp; all_goals (with_reducible rfl))
    change wpAnyH _ _ _ _ _ _ _ (Act.put _ (some 18) _) _
    simp only [Act.put, List.setIfInBounds_toArray, List.set_cons_zero, List.set_cons_succ]
    refine wpAnyH_take (i := 2) (v := ?v2) rfl (by kernel_rfl) (by kernel_rfl) (by kernel_rfl) (fun _ _ _ h => h) (Or.inl ⟨by rfl, ?hy2⟩) hHeld ?rest2
    case hy2 => (intro W hSw; (try dsimp only at hSw); go_simp; all_goals (with_reducible rfl))
    change wpAnyH _ _ _ _ _ _ _ (Act.put _ (some 19) _) _
    simp only [Act.put, List.setIfInBounds_toArray, List.set_cons_zero, List.set_cons_succ]
    refine wpAnyH_take (i := 5) (v := ?v5) rfl (by kernel_rfl) (by kernel_rfl) (by kernel_rfl) (fun _ _ _ h => h) (Or.inl ⟨by rfl, ?hy5⟩) hHeld ?rest5
    case hy5 => (intro W hSw; (try dsimp only at hSw); go_simp; all_goals (with_reducible rfl))
    change wpAnyH _ _ _ _ _ _ _ (Act.put _ (some 22) _) _
    simp only [Act.put, List.setIfInBounds_toArray, List.set_cons_zero, List.set_cons_succ]
    refine wpAnyH_take (i := 7) (v := ?v7) rfl (by kernel_rfl) (by kernel_rfl) (by kernel_rfl) (fun _ _ _ h => h) (Or.inl ⟨by rfl, ?hy7⟩) hHeld ?rest7
    case hy7 => (intro W hSw; (try dsimp only at hSw); go_simp; all_goals (with_reducible rfl))
    change wpAnyH _ _ _ _ _ _ _ (Act.put _ (some 24) _) _
    simp only [Act.put, List.setIfInBounds_toArray, List.set_cons_zero, List.set_cons_succ]
    refine wpAnyH_take (i := 11) (v := ?v11) rfl (by kernel_rfl) (by kernel_rfl) (by kernel_rfl) (fun _ _ _ h => h) (Or.inl ⟨by rfl, ?hy11⟩) hHeld ?rest11
    case hy11 => (intro W hSw; (try dsimp only at hSw); go_simp; all_goals (with_reducible rfl))
    change wpAnyH _ _ _ _ _ _ _ (Act.put _ (some 28) _) _
    simp only [Act.put, List.setIfInBounds_toArray, List.set_cons_zero, List.set_cons_succ]
    refine wpAnyH_take (i := 3) (v := ?v3) rfl (by kernel_rfl) (by kernel_rfl) (by kernel_rfl) (fun _ _ _ h => h) (Or.inl ⟨by rfl, ?hy3⟩) hHeld ?rest3
    case hy3 => (intro W hSw; (try dsimp only at hSw); go_simp; all_goals (with_reducible rfl))
    change wpAnyH _ _ _ _ _ _ _ (Act.put _ (some 20) _) _
    simp only [Act.put, List.setIfInBounds_toArray, List.set_cons_zero, List.set_cons_succ]
    refine wpAnyH_take (i := 8) (v := ?v8) rfl (by kernel_rfl) (by kernel_rfl) (by kernel_rfl) (fun _ _ _ h => h) (Or.inl ⟨by rfl, ?hy8⟩) hHeld ?rest8
    case hy8 => (intro W hSw; (try dsimp only at hSw); go_simp; all_goals (with_reducible rfl))
    change wpAnyH _ _ _ _ _ _ _ (Act.put _ (some 25) _) _
    simp only [Act.put, List.setIfInBounds_toArray, List.set_cons_zero, List.set_cons_succ]
    refine wpAnyH_take (i := 4) (v := ?v4) rfl (by kernel_rfl) (by kernel_rfl) (by kernel_rfl) (fun _ _ _ h => h) (Or.inl ⟨by rfl, ?hy4⟩) hHeld ?rest4
    case hy4 => (intro W hSw; (try dsimp only at hSw); go_simp; all_goals (with_reducible rfl))
    change wpAnyH _ _ _ _ _ _ _ (Act.put _ (some 21) _) _
    simp only [Act.put, List.setIfInBounds_toArray, List.set_cons_zero, List.set_cons_succ]
    refine wpAnyH_take (i := 9) (v := ?v9) rfl (by kernel_rfl) (by kernel_rfl) (by kernel_rfl) (fun _ _ _ h => h) (Or.inl ⟨by rfl, ?hy9⟩) hHeld ?rest9
    case hy9 => (intro W hSw; (try dsimp only at hSw); go_simp; all_goals (with_reducible rfl))
    change wpAnyH _ _ _ _ _ _ _ (Act.put _ (some 26) _) _
    simp only [Act.put, List.setIfInBounds_toArray, List.set_cons_zero, List.set_cons_succ]
    refine wpAnyH_take (i := 6) (v := ?v6) rfl (by kernel_rfl) (by kernel_rfl) (by kernel_rfl) (fun _ _ _ h => h) (Or.inl ⟨by rfl, ?hy6⟩) hHeld ?rest6
    case hy6 => (intro W hSw; (try dsimp only at hSw); go_simp; all_goals (with_reducible rfl))
    change wpAnyH _ _ _ _ _ _ _ (Act.put _ (some 23) _) _
    simp only [Act.put, List.setIfInBounds_toArray, List.set_cons_zero, List.set_cons_succ]
    refine wpAnyH_take (i := 10) (v := ?v10) rfl (by kernel_rfl) (by kernel_rfl) (by kernel_rfl) (fun _ _ _ h => h) (Or.inl ⟨by rfl, ?hy10⟩) hHeld ?rest10
    case hy10 => (intro W hSw; (try dsimp only at hSw); go_simp; all_goals (with_reducible rfl))
    change wpAnyH _ _ _ _ _ _ _ (Act.put _ (some 27) _) _
    simp only [Act.put, List.setIfInBounds_toArray, List.set_cons_zero, List.set_cons_succ]
    refine wpAnyH_ready (rs := [12]) (by kernel_rfl) (by simp) ?_
    refine AllReadyH.cons rfl (fun K hK => ?_) AllReadyH.nil
    try simp only [List.getElem_toArray, List.getElem_cons_succ, List.getElem_cons_zero]
    go_simp
    refine calls_args (low_reads _ lo R B bs p f (H.out.call ⟨_, rfl⟩).rd (by omega) _ ⟨?ok, ?no⟩) rfl
    case no => (intro er w1 hx hF; exact ⟨rfl, HQ.out.no er w1 (E.out.trans (then_err hx)) ((Fr.none _).join hF)⟩)
    intro x q w1 hx hR hF
    have hxb : x < 16777216 := by rw [(tkn_inv hx).2.1]; exact Nat.lt_of_lt_of_le (lowBits_lt _ _ _) (Nat.pow_le_pow_right (by decide) (by omega) : 2 ^ f ≤ 2 ^ 24)
    have Hx := hide hx
    have HN := hide ((H.out.call ⟨_, rfl⟩).next hR hF)
    have HF := hide hF
    clear hx hR hF
    refine hK.out _ _ HN.out.ptr (fun hHeld => ?_)
    clear hK K
    refine wpAnyH_take (i := 13) (v := ?v13) rfl (by kernel_rfl) (by kernel_rfl) (by kernel_rfl) (fun _ _ _ h => h) (Or.inl ⟨by rfl, ?hy13⟩) hHeld ?rest13
    case hy13 => (intro W hSw; (try dsimp only at hSw); go_simp; all_goals (with_reducible rfl))
    change wpAnyH _ _ _ _ _ _ _ (Act.put _ (some 30) _) _
    simp only [Act.put, List.setIfInBounds_toArray, List.set_cons_zero, List.set_cons_succ]
    refine wpAnyH_take (i := 14) (v := ?v14) rfl (by kernel_rfl) (by kernel_rfl) (by kernel_rfl) (fun _ _ _ h => h) (Or.inl ⟨by rfl, ?hy14⟩) hHeld ?rest14
    case hy14 => (intro W hSw; (try dsimp only at hSw); go_simp; all_goals (with_reducible rfl))
    change wpAnyH _ _ _ _ _ _ _ (Act.put _ (some 6) _) _
    simp only [Act.put, List.setIfInBounds_toArray, List.set_cons_zero, List.set_cons_succ]
    refine wpAnyH_done (by kernel_rfl) ?_ _
    go_wp2
    show Q (.returned (.int .i64 (IntKind.i64.wrap (IntKind.i64.wrap (IntKind.i64.wrap (4 + (t : Int)) * (P2 : Int)) + (x : Int))))) w1
    rw [wrap_i64_id (4 + (t : Int)) (by omega) (by omega), hXi, wrap_i64_id (X : Int) (by omega) (by omega), wrap_i64_id _ (by omega) (by omega), ← Int.natCast_add]
    exact HQ.out.ok _ _ _ (E.out.trans (then_ok Hx.out)) HN.out.rd ((Fr.none _).join HF.out)

set_option maxHeartbeats 1000000 in
theorem rung2_c (w : World) (lo R M B : Nat) (bs : List Nat) (p i : Nat) (h : Mi w lo R M B bs p) (hi : i ≤ 29) (Q : Ending → World → Prop) (hQ : Reads (rung i 2) lo R B bs p w Q) :
    Calls Tryd.prog 58 #[.pointer (some ⟨M, 0, none⟩), .int .i64 i, .int .i64 2] w Q := by
  have hp := h.ptr
  have H := hide h
  have HQ := hide hQ
  clear h hQ
  by_cases hs : i < 2 * 2
  · have hsi : (i : Int) < 4 := by omega
    go_enter Tryd.func58, Tryd.ntmps58
    go_wp2
    exact HQ.out.ok _ _ _ (by unfold rung; rw [if_pos hs]; rfl) H.out.rd (Fr.refl _ _)
  · have hsi : ¬ (i : Int) < 4 := by omega
    have E : Hid (rung i 2 (leNum bs) (8 * bs.length) p = andThen (tkn (i / 2 - 1)) (fun x => ret ((2 + i % 2) * 2 ^ (i / 2 - 1) + x)) (leNum bs) (8 * bs.length) p) := by
      show rung i 2 (leNum bs) (8 * bs.length) p = _
      unfold rung
      rw [if_neg hs]
    obtain ⟨f, hf⟩ : ∃ f, f = i / 2 - 1 := ⟨_, rfl⟩
    have hfi : ((i : Int) / 2) - 1 = (f : Int) := by omega
    have hf13 : f ≤ 13 := by omega
    obtain ⟨P2, hP2⟩ : ∃ P2, P2 = 2 ^ f := ⟨_, rfl⟩
    have hP3 : (2 : Int) ^ f = (P2 : Int) := by rw [hP2]; simp
    have hPb : P2 ≤ 8192 := by rw [hP2]; exact Nat.pow_le_pow_right (by decide) hf13
    obtain ⟨t, ht⟩ : ∃ t, t = i % 2 := ⟨_, rfl⟩
    have hti : (i : Int).tmod 2 = (t : Int) := by rw [Int.tmod_eq_emod_of_nonneg (by omega)]; omega
    have htb : t < 2 := by omega
    obtain ⟨X, hX⟩ : ∃ X, X = (2 + t) * P2 := ⟨_, rfl⟩
    have hXb : X ≤ 65536 := by
      rw [hX]
      exact Nat.le_trans (Nat.mul_le_mul (show 2 + t ≤ 8 by omega) hPb) (by decide)
    have hXi : ((2 : Int) + (t : Int)) * (P2 : Int) = (X : Int) := by rw [hX]; simp
    rw [← hf, ← ht, ← hP2, ← hX] at E
    have Hf := hide hf
    clear hf hs hX ht hP2
    go_enter Tryd.func58, Tryd.ntmps58
    go_wp2_with fail
    refine wp_region_held_drew (S := fun w' => w'.cell? ⟨M, 0, none⟩ = some (.pointer (some ⟨B, 0, none⟩))) (by kernel_rfl) (by go_keep) (fun hHeld => ?_)
    refine wpAnyH_take (i := 0) (v := ?v0) rfl (by kernel_rfl) (by kernel_rfl) (by kernel_rfl) (fun _ _ _ h => h) (Or.inl ⟨by rfl, ?hy0⟩) hHeld ?rest0
    case hy0 => (intro W hSw; (try dsimp only at hSw); go_simp; all_goals (with_reducible rfl))
    change wpAnyH _ _ _ _ _ _ _ (Act.put _ (some 17) _) _
    simp only [Act.put, List.setIfInBounds_toArray, List.set_cons_zero, List.set_cons_succ]
    refine wpAnyH_take (i := 1) (v := ?v1) rfl (by kernel_rfl) (by kernel_rfl) (by kernel_rfl) (fun _ _ _ h => h) (Or.inl ⟨by rfl, ?hy1⟩) hHeld ?rest1
    case hy1 => (intro W hSw; (try dsimp only at hSw); go_simp; all_goals (with_reducible rfl))
    change wpAnyH _ _ _ _ _ _ _ (Act.put _ (some 18) _) _
    simp only [Act.put, List.setIfInBounds_toArray, List.set_cons_zero, List.set_cons_succ]
    refine wpAnyH_take (i := 2) (v := ?v2) rfl (by kernel_rfl) (by kernel_rfl) (by kernel_rfl) (fun _ _ _ h => h) (Or.inl ⟨by rfl, ?hy2⟩) hHeld ?rest2
    case hy2 => (intro W hSw; (try dsimp only at hSw); go_simp; all_goals (with_reducible rfl))
    change wpAnyH _ _ _ _ _ _ _ (Act.put _ (some 19) _) _
    simp only [Act.put, List.setIfInBounds_toArray, List.set_cons_zero, List.set_cons_succ]
    refine wpAnyH_take (i := 5) (v := ?v5) rfl (by kernel_rfl) (by kernel_rfl) (by kernel_rfl) (fun _ _ _ h => h) (Or.inl ⟨by rfl, ?hy5⟩) hHeld ?rest5
    case hy5 => (intro W hSw; (try dsimp only at hSw); go_simp; all_goals (with_reducible rfl))
    change wpAnyH _ _ _ _ _ _ _ (Act.put _ (some 22) _) _
    simp only [Act.put, List.setIfInBounds_toArray, List.set_cons_zero, List.set_cons_succ]
    refine wpAnyH_take (i := 7) (v := ?v7) rfl (by kernel_rfl) (by kernel_rfl) (by kernel_rfl) (fun _ _ _ h => h) (Or.inl ⟨by rfl, ?hy7⟩) hHeld ?rest7
    case hy7 => (intro W hSw; (try dsimp only at hSw); go_simp; all_goals (with_reducible rfl))
    change wpAnyH _ _ _ _ _ _ _ (Act.put _ (some 24) _) _
    simp only [Act.put, List.setIfInBounds_toArray, List.set_cons_zero, List.set_cons_succ]
    refine wpAnyH_take (i := 11) (v := ?v11) rfl (by kernel_rfl) (by kernel_rfl) (by kernel_rfl) (fun _ _ _ h => h) (Or.inl ⟨by rfl, ?hy11⟩) hHeld ?rest11
    case hy11 => (intro W hSw; (try dsimp only at hSw); go_simp; all_goals (with_reducible rfl))
    change wpAnyH _ _ _ _ _ _ _ (Act.put _ (some 28) _) _
    simp only [Act.put, List.setIfInBounds_toArray, List.set_cons_zero, List.set_cons_succ]
    refine wpAnyH_take (i := 3) (v := ?v3) rfl (by kernel_rfl) (by kernel_rfl) (by kernel_rfl) (fun _ _ _ h => h) (Or.inl ⟨by rfl, ?hy3⟩) hHeld ?rest3
    case hy3 => (intro W hSw; (try dsimp only at hSw); go_simp; all_goals (with_reducible rfl))
    change wpAnyH _ _ _ _ _ _ _ (Act.put _ (some 20) _) _
    simp only [Act.put, List.setIfInBounds_toArray, List.set_cons_zero, List.set_cons_succ]
    refine wpAnyH_take (i := 8) (v := ?v8) rfl (by kernel_rfl) (by kernel_rfl) (by kernel_rfl) (fun _ _ _ h => h) (Or.inl ⟨by rfl, ?hy8⟩) hHeld ?rest8
    case hy8 => (intro W hSw; (try dsimp only at hSw); go_simp; all_goals (with_reducible rfl))
    change wpAnyH _ _ _ _ _ _ _ (Act.put _ (some 25) _) _
    simp only [Act.put, List.setIfInBounds_toArray, List.set_cons_zero, List.set_cons_succ]
    refine wpAnyH_take (i := 4) (v := ?v4) rfl (by kernel_rfl) (by kernel_rfl) (by kernel_rfl) (fun _ _ _ h => h) (Or.inl ⟨by rfl, ?hy4⟩) hHeld ?rest4
    case hy4 => (intro W hSw; (try dsimp only at hSw); go_simp; all_goals (with_reducible rfl))
    change wpAnyH _ _ _ _ _ _ _ (Act.put _ (some 21) _) _
    simp only [Act.put, List.setIfInBounds_toArray, List.set_cons_zero, List.set_cons_succ]
    refine wpAnyH_take (i := 9) (v := ?v9) rfl (by kernel_rfl) (by kernel_rfl) (by kernel_rfl) (fun _ _ _ h => h) (Or.inl ⟨by rfl, ?hy9⟩) hHeld ?rest9
    case hy9 => (intro W hSw; (try dsimp only at hSw); go_simp; all_goals (with_reducible rfl))
    change wpAnyH _ _ _ _ _ _ _ (Act.put _ (some 26) _) _
    simp only [Act.put, List.setIfInBounds_toArray, List.set_cons_zero, List.set_cons_succ]
    refine wpAnyH_take (i := 6) (v := ?v6) rfl (by kernel_rfl) (by kernel_rfl) (by kernel_rfl) (fun _ _ _ h => h) (Or.inl ⟨by rfl, ?hy6⟩) hHeld ?rest6
    case hy6 => (intro W hSw; (try dsimp only at hSw); go_simp; all_goals (with_reducible rfl))
    change wpAnyH _ _ _ _ _ _ _ (Act.put _ (some 23) _) _
    simp only [Act.put, List.setIfInBounds_toArray, List.set_cons_zero, List.set_cons_succ]
    refine wpAnyH_take (i := 10) (v := ?v10) rfl (by kernel_rfl) (by kernel_rfl) (by kernel_rfl) (fun _ _ _ h => h) (Or.inl ⟨by rfl, ?hy10⟩) hHeld ?rest10
    case hy10 => (intro W hSw; (try dsimp only at hSw); go_simp; all_goals (with_reducible rfl))
    change wpAnyH _ _ _ _ _ _ _ (Act.put _ (some 27) _) _
    simp only [Act.put, List.setIfInBounds_toArray, List.set_cons_zero, List.set_cons_succ]
    refine wpAnyH_ready (rs := [12]) (by kernel_rfl) (by simp) ?_
    refine AllReadyH.cons rfl (fun K hK => ?_) AllReadyH.nil
    try simp only [List.getElem_toArray, List.getElem_cons_succ, List.getElem_cons_zero]
    go_simp
    refine calls_args (low_reads _ lo R B bs p f (H.out.call ⟨_, rfl⟩).rd (by omega) _ ⟨?ok, ?no⟩) rfl
    case no => (intro er w1 hx hF; exact ⟨rfl, HQ.out.no er w1 (E.out.trans (then_err hx)) ((Fr.none _).join hF)⟩)
    intro x q w1 hx hR hF
    have hxb : x < 16777216 := by rw [(tkn_inv hx).2.1]; exact Nat.lt_of_lt_of_le (lowBits_lt _ _ _) (Nat.pow_le_pow_right (by decide) (by omega) : 2 ^ f ≤ 2 ^ 24)
    have Hx := hide hx
    have HN := hide ((H.out.call ⟨_, rfl⟩).next hR hF)
    have HF := hide hF
    clear hx hR hF
    refine hK.out _ _ HN.out.ptr (fun hHeld => ?_)
    clear hK K
    refine wpAnyH_take (i := 13) (v := ?v13) rfl (by kernel_rfl) (by kernel_rfl) (by kernel_rfl) (fun _ _ _ h => h) (Or.inl ⟨by rfl, ?hy13⟩) hHeld ?rest13
    case hy13 => (intro W hSw; (try dsimp only at hSw); go_simp; all_goals (with_reducible rfl))
    change wpAnyH _ _ _ _ _ _ _ (Act.put _ (some 30) _) _
    simp only [Act.put, List.setIfInBounds_toArray, List.set_cons_zero, List.set_cons_succ]
    refine wpAnyH_take (i := 14) (v := ?v14) rfl (by kernel_rfl) (by kernel_rfl) (by kernel_rfl) (fun _ _ _ h => h) (Or.inl ⟨by rfl, ?hy14⟩) hHeld ?rest14
    case hy14 => (intro W hSw; (try dsimp only at hSw); go_simp; all_goals (with_reducible rfl))
    change wpAnyH _ _ _ _ _ _ _ (Act.put _ (some 6) _) _
    simp only [Act.put, List.setIfInBounds_toArray, List.set_cons_zero, List.set_cons_succ]
    refine wpAnyH_done (by kernel_rfl) ?_ _
    go_wp2
    show Q (.returned (.int .i64 (IntKind.i64.wrap (IntKind.i64.wrap (IntKind.i64.wrap (2 + (t : Int)) * (P2 : Int)) + (x : Int))))) w1
    rw [wrap_i64_id (2 + (t : Int)) (by omega) (by omega), hXi, wrap_i64_id (X : Int) (by omega) (by omega), wrap_i64_id _ (by omega) (by omega), ← Int.natCast_add]
    exact HQ.out.ok _ _ _ (E.out.trans (then_ok Hx.out)) HN.out.rd ((Fr.none _).join HF.out)

theorem rung_le {i lot V L p x q : Nat} (hi : i ≤ 29) (h : rung i lot V L p = .ok (x, q)) (hl : lot = 4 ∨ lot = 2 := by omega) : x ≤ 1000000 := by
  unfold rung at h
  split at h
  · cases h; omega
  · obtain ⟨a, m, h1, h2⟩ := then_inv h
    have ha := (tkn_inv h1).2.1
    have hb := lowBits_lt V p (i / lot - 1)
    have hf : i / lot - 1 ≤ 13 := by rcases hl with rfl | rfl <;> omega
    have hp : (2:Nat) ^ (i / lot - 1) ≤ 8192 := Nat.pow_le_pow_right (by decide) hf
    have ht : lot + i % lot ≤ 8 := by rcases hl with rfl | rfl <;> omega
    have hm := Nat.mul_le_mul ht hp
    cases h2
    omega
end Go.Proofs.YtleeaofofofgmaaDoor
