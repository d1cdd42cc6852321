import Derived.Test.YtkmgpapopgeldaaT
namespace Go.Proofs.Ytkmgpapopgeldaa
open Go.RowKit

set_option maxHeartbeats 400000 in
theorem whole_c (n : Nat) (hn : (n : Int) ≤ 17179869184) (w : World) : Calls Try.prog 48 #[.int .i64 n] w fun e w' => e = .returned (.int .i64 ((n + 7) / 8 : Nat)) ∧ w = w' := by
  go_enter Try.func48, Try.ntmps48
  go_wp2
  go_ret
  exact ⟨rfl, rfl⟩

set_option maxHeartbeats 400000 in
theorem low_align_c (B pos : Nat) (w : World) (h1 : w.cell? ⟨B, 1, none⟩ = some (.int .i64 pos)) (hf : w.frozen? ⟨B, 1, none⟩ = false) (hp : (pos : Int) ≤ 17179869184) :
    Calls Try.prog 15 #[.pointer (some ⟨B, 0, none⟩)] w fun e w' => e = .returned (.tuple #[]) ∧ Moved B (8 * ((pos + 7) / 8)) w w' := by
  obtain ⟨q, hq⟩ : ∃ q, q = (pos + 7) / 8 := ⟨_, rfl⟩
  have hq1 : q ≤ 2147483649 := by omega
  have hw := whole_c pos hp
  rw [← hq] at hw
  have Hw := hide hw
  rw [← hq]
  clear hq hw
  go_enter Try.func15, Try.ntmps15
  go_wp2_with (go_at_call 48; refine (Hw.out _).mono ?_; rintro e w' ⟨rfl, rfl⟩)
  go_end0
  exact ⟨rfl, ⟨0, by rw [show ((8 * q : Nat) : Int) = 8 * (q : Int) by omega]; rfl⟩⟩

theorem low_align (w : World) (lo hi B : Nat) (bs : List Nat) (pos : Nat) (ov : Value) (wn : Int) (h : Rd 56 w lo hi B bs pos ov wn) :
    Calls Try.prog 15 #[.pointer (some ⟨B, 0, none⟩)] w fun e w' => e = .returned (.tuple #[]) ∧ Rd 56 w' lo hi B bs (8 * ((pos + 7) / 8)) ov wn ∧ Fr (fun k => k = B) w w' := by
  obtain ⟨a, c, f0, f1, f2, f3⟩ := h.facts
  have h1 := h.elen
  have h2 := h.epos
  exact (low_align_c B pos w f1 f2 (by omega)).mono fun e w' ⟨he, hm⟩ => ⟨he, h.moved hm (by omega), Fr.of_moved hm⟩

set_option maxHeartbeats 400000 in
theorem ref_align_c (R pos : Nat) (w : World) (h1 : w.cell? ⟨R, 1, none⟩ = some (.int .i64 pos)) (hf : w.frozen? ⟨R, 1, none⟩ = false) (hp : (pos : Int) ≤ 17179869184) :
    Calls Try.prog 16 #[.pointer (some ⟨R, 0, none⟩)] w fun e w' => e = .returned (.tuple #[]) ∧ Moved R (8 * ((pos + 7) / 8)) w w' := by
  go_enter Try.func16, Try.ntmps16
  go_wp2
  go_end0
  exact ⟨rfl, ⟨0, by rw [show ((8 * ((pos + 7) / 8) : Nat) : Int) = ((pos : Int) + 7) / 8 * 8 by omega]; rfl⟩⟩

theorem ref_align (w : World) (R : Nat) (sv : Value) (bs : List Nat) (p : Nat) (hg : Bool) (h : Rf w R sv bs p hg) :
    Calls Try.prog 16 #[.pointer (some ⟨R, 0, none⟩)] w fun e w' => e = .returned (.tuple #[]) ∧ Rf w' R sv bs (8 * ((p + 7) / 8)) hg ∧ Fr (fun k => k = R) w w' := by
  obtain ⟨a, c, f0, f1, f2, _, f3, _, f4⟩ := h.facts
  have h1 := h.elen
  have h2 := h.epos
  exact (ref_align_c R p w f1 f3 (by omega)).mono fun e w' ⟨he, hm⟩ => ⟨he, h.moved hm (by omega), Fr.of_moved hm⟩

set_option maxHeartbeats 400000 in
theorem low_bytes_neg (B : Nat) (n : Int) (w : World) (h : n < 0) :
    Calls Try.prog 18 #[.pointer (some ⟨B, 0, none⟩), .int .i64 n] w fun e w' => (∃ er, e = errPanic er) ∧ ∃ k, w.drewN k = w' := by
  go_enter Try.func18, Try.ntmps18
  go_wp2
  exact ⟨rfl, ⟨_, rfl⟩, 0, rfl⟩

set_option maxHeartbeats 400000 in
theorem low_bytes_short (w : World) (lo hi B : Nat) (bs : List Nat) (pos : Nat) (n : Int) (ov : Value) (wn : Int) (h : Rd 56 w lo hi B bs pos ov wn) (hn : 0 ≤ n) (hb : (bs.length : Int) < ((pos + 7) / 8 : Nat) + n) :
    Calls Try.prog 18 #[.pointer (some ⟨B, 0, none⟩), .int .i64 n] w fun e w' => (∃ er, e = errPanic er) ∧ ∃ k, w.drewN k = w' := by
  have h1 := h.elen
  have h2 := h.epos
  have H := hide h
  have hq : (8 * (bs.length : Int) - (pos : Int)) / 8 < n := by omega
  have hz : (0 : Int) ≤ 8 * (bs.length : Int) - (pos : Int) := by omega
  have hz2 : 8 * (bs.length : Int) - (pos : Int) ≤ 17179869184 := by omega
  clear h hb
  go_enter Try.func18, Try.ntmps18
  go_wp2_with (first | (go_at_call 19; refine (low_left w lo hi B bs pos ov wn H.out).mono ?_; rintro e w' ⟨rfl, k, rfl⟩) | (go_at_call 44; refine (left_bad _ _ (by omega) _).mono ?_; rintro e w' ⟨rfl, rfl⟩))
  exact ⟨rfl, ⟨_, rfl⟩, k, rfl⟩

theorem Rd.shape {T : TypeId} {w : World} {lo hi B : Nat} {bs : List Nat} {pos : Nat} {ov : Value} {wn : Int} (h : Rd T w lo hi B bs pos ov wn) (hl : 0 < bs.length) :
    ∃ g cap, w.heap[B]? = some (.cells #[.slice (some ⟨g, 0, none⟩) bs.length cap, .int .i64 pos, ov, .int .i64 wn] T (0, 0)) ∧ bs.length ≤ cap ∧ g ≠ B ∧ (∀ j u, (cellsOf bs)[j]? = some u → w.cell? ⟨g, j, none⟩ = some u) := by
  obtain ⟨v, h1, h2, h3⟩ := h.eobj
  rcases h2.2 with ⟨rfl, hn⟩ | ⟨g, cap, cur, rfl, hg, hh, hr, hm, hs, ht⟩
  · omega
  · refine ⟨g, cap, h1, hr, (h3 g rfl).1, fun j u hu => ?_⟩
    have := h2.cells (g := g) rfl j u hu
    rw [add_none, Nat.zero_add] at this
    exact this

theorem cellsOf_cut (bs : List Nat) (q n j : Nat) (u : Value) (h : (cellsOf ((bs.drop q).take n))[j]? = some u) : (cellsOf bs)[q + j]? = some u := by
  simp only [cellsOf, List.getElem?_map] at h ⊢
  rw [List.getElem?_take] at h
  split at h
  · rw [List.getElem?_drop] at h; exact h
  · cases h

set_option maxHeartbeats 800000 in
theorem low_bytes_ok (w : World) (lo hi B : Nat) (bs : List Nat) (pos n : Nat) (ov : Value) (wn : Int) (h : Rd 56 w lo hi B bs pos ov wn) (hb : (pos + 7) / 8 + n ≤ bs.length) :
    Calls Try.prog 18 #[.pointer (some ⟨B, 0, none⟩), .int .i64 n] w fun e w' => ∃ a c, e = .returned (.slice a n c) ∧ Lies w' (.slice a n c) ((bs.drop ((pos + 7) / 8)).take n) ∧ Rd 56 w' lo hi B bs (8 * ((pos + 7) / 8 + n)) ov wn ∧ Fr (fun k => k = B) w w' ∧ (∀ ad, a = some ad → w.heap.size ≤ ad.block) := by
  have h1 := h.elen
  have h2 := h.epos
  have H := hide h
  have hq : (n : Int) ≤ (8 * (bs.length : Int) - (pos : Int)) / 8 := by omega
  have hz : (0 : Int) ≤ 8 * (bs.length : Int) - (pos : Int) := by omega
  have hz2 : 8 * (bs.length : Int) - (pos : Int) ≤ 17179869184 := by omega
  clear h
  by_cases h0 : n = 0
  · subst h0
    go_enter Try.func18, Try.ntmps18
    go_wp2_with (first | (go_at_call 19; refine (low_left w lo hi B bs pos ov wn H.out).mono ?_; rintro e w' ⟨rfl, k, hw'⟩; have H1 := hide (H.out.keep (w' := w') (by rw [hw']; exact Fr.of_drewN _ _) (fun _ _ _ h => h)); have F1 : Hid (Fr (fun _ => False) w w') := (by show _; rw [hw']; exact Fr.of_drewN _ _); clear hw') | (go_at_call 44; refine (left_ok _ _ (by omega) _).mono ?_; rintro e w'' ⟨rfl, rfl⟩) | (go_at_call 15; refine (low_align _ lo hi B bs pos ov wn H1.out).mono ?_; rintro e w2 ⟨rfl, hr2, hf2⟩))
    go_ret
    exact ⟨none, 0, rfl, Or.inl ⟨rfl, by simp⟩, hr2, (F1.out.trans hf2).mono (fun i _ h => by rcases h with h | h; exact h.elim; exact h), fun _ e => by cases e⟩
  · have hne : ((n : Int) == 0) = false := by simp; omega
    go_enter Try.func18, Try.ntmps18
    go_wp2_with (first | (go_at_call 19; refine (low_left w lo hi B bs pos ov wn H.out).mono ?_; rintro e w' ⟨rfl, k, hw'⟩; have H1 := hide (H.out.keep (w' := w') (by rw [hw']; exact Fr.of_drewN _ _) (fun _ _ _ h => h)); have F1 : Hid (Fr (fun _ => False) w w') := (by show _; rw [hw']; exact Fr.of_drewN _ _); clear hw') | (go_at_call 44; refine (left_ok _ _ (by omega) _).mono ?_; rintro e w'' ⟨rfl, rfl⟩))
    go_wp2_with fail
    refine (low_align _ lo hi B bs pos ov wn H1.out).mono ?_
    obtain ⟨q, hqq⟩ : ∃ q, q = (pos + 7) / 8 := ⟨_, rfl⟩
    rw [← hqq]
    rintro e w2 ⟨rfl, hr2, hf2⟩
    rw [← hqq] at hb
    obtain ⟨g, cap, o1, o2, o3, o4⟩ := hr2.shape (by omega)
    have c0 := cell_of (o := 0) o1 rfl
    have c1 := cell_of (o := 1) o1 rfl
    have z1 := frozen_of (o := 1) o1
    have hq8 : q ≤ 2147483648 := by omega
    have hc1 : w2.cell? ⟨B, 1, none⟩ = some (.int .i64 (8 * (q : Int))) := by rw [c1]; rfl
    have hqi : (q : Int) + (n : Int) ≤ (cap : Int) := by omega
    have hqn : (q : Int) ≤ (q : Int) + (n : Int) := by omega
    have hql : (q : Int) + (n : Int) ≤ (bs.length : Int) := by omega
    have Hr2 := hide hr2
    have Hf2 := hide hf2
    have Ho4 := hide o4
    have Hqq := hide hqq
    clear hr2 hf2 o4 c1 o1 hqq
    go_wp2_with fail
    have hm : Moved B (8 * (q + n)) w2 (w2.setCell ⟨B, 1, none⟩ (.int .i64 (8 * (q : Int) + 8 * (n : Int)))) := ⟨0, by rw [show ((8 * (q + n) : Nat) : Int) = 8 * (q : Int) + 8 * (n : Int) by omega]; rfl⟩
    have el : ((bs.drop q).take n).length = n := by rw [List.length_take, List.length_drop]; omega
    have hL : Lies (w2.setCell ⟨B, 1, none⟩ (.int .i64 (8 * (q : Int) + 8 * (n : Int)))) (.slice (some ⟨g, q, none⟩) n (cap - q)) ((bs.drop q).take n) := by
      refine Or.inr ⟨⟨g, q, none⟩, cap - q, by rw [el], fun j u hu => ?_⟩
      rw [add_none, hm.cell (fun e => o3 (congrArg Addr.block e))]
      exact Ho4.out _ _ (cellsOf_cut bs q n j u hu)
    have hcl := clone_c _ _ _ hL (by omega)
    rw [el] at hcl
    refine hcl.mono ?_
    rintro e w3 ⟨a3, c3, rfl, hown, hbel⟩
    have F3 := hide ((Fr.of_below hbel).mono (S' := fun _ => False) (fun k hk h => by omega))
    have HL3 : Hid (Lies w3 (.slice a3 n c3) ((bs.drop q).take n)) := by
      have := lies_own (bs := (bs.drop q).take n) (by rw [el]; exact hown)
      exact this
    have hnew : ∀ ad, a3 = some ad → w.heap.size ≤ ad.block := fun ad e => by
      subst e
      have h5 := (hown.lt ad.block rfl).1
      have h6 := F1.out.size
      have h7 := Hf2.out.size
      have h8 := (Fr.of_moved hm).size
      omega
    have Hnew := hide hnew
    have Hm := hide hm
    clear hnew hown hbel hm hcl hL
    go_wp2
    go_ret
    rw [← Hqq.out]
    refine ⟨a3, c3, rfl, HL3.out, (Hr2.out.moved Hm.out (by omega)).keep F3.out (fun _ _ _ h => h), ?_, Hnew.out⟩
    exact (((F1.out.trans Hf2.out).trans (Fr.of_moved Hm.out)).trans F3.out).mono (fun i _ h => by
      rcases h with ((h | h) | h) | h
      · exact h.elim
      · exact h
      · exact h
      · exact h.elim)
end Go.Proofs.Ytkmgpapopgeldaa
