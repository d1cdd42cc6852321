import Derived.Test.YtkmgpapopgeldaaB
namespace Go.Proofs.Ytkmgpapopgeldaa
open Go.RowKit

theorem Moved.drew {B p : Nat} {w w' : World} (h : Moved B p w w') (k : Nat) : Moved B p w (w'.drewN k) := by
  obtain ⟨j, rfl⟩ := h.eq
  exact ⟨j + k, by simp only [World.drewN, Nat.add_assoc]⟩

/-- A panic of the program's own error number. -/
abbrev errPanic (n : Int) : Ending := .panicked [{ v := .iface 62 (.int .i64 n), recovered := false }]

theorem lowest_q (x : Int) (n : Nat) (hn : n ≤ 62) (w : World) :
    Calls Try.prog 46 #[.int .i64 x, .int .i64 n] w fun e w' => e = .returned (.int .i64 (x % 2 ^ n)) ∧ w' = w :=
  (lowest_c x n hn w).mono fun _ _ ⟨a, b⟩ => ⟨a, b.symm⟩

set_option maxHeartbeats 400000 in
theorem low_take_bad (B c m : Nat) (a : Option Addr) (pos : Nat) (n : Int) (w : World) (h0 : w.cell? ⟨B, 0, none⟩ = some (.slice a m c)) (h1 : w.cell? ⟨B, 1, none⟩ = some (.int .i64 pos))
    (hlen : m ≤ 2147483648) (hpos : pos ≤ 8 * m) (hbad : (n < 0 ∨ 24 < n) ∨ (8 * m : Nat) < pos + n) :
    Calls Try.prog 13 #[.pointer (some ⟨B, 0, none⟩), .int .i64 n] w fun e w' => (∃ er, e = errPanic er) ∧ ∃ k, w.drewN k = w' := by
  by_cases hw : n < 0 ∨ 24 < n
  · go_enter Try.func13, Try.ntmps13
    go_wp2_with (go_at_call 43; refine (width_bad _ hw _).mono ?_; rintro e w' ⟨rfl, rfl⟩)
    exact ⟨rfl, ⟨_, rfl⟩, 0, rfl⟩
  · have hn0 : 0 ≤ n := by omega
    have hn1 : n ≤ 24 := by omega
    have hb2 : 8 * (m : Int) - pos < n := by omega
    clear hw hbad
    go_enter Try.func13, Try.ntmps13
    go_wp2_with (first | (go_at_call 43; refine (width_ok _ hn0 hn1 _).mono ?_; rintro e w' ⟨rfl, rfl⟩) | (go_at_call 19; refine (low_left_c B m c a pos _ h0 h1 (by omega) (by omega) (by omega)).mono ?_; rintro e w' ⟨rfl, k, rfl⟩) | (go_at_call 44; refine (left_bad _ _ hb2 _).mono ?_; rintro e w' ⟨rfl, rfl⟩))
    exact ⟨rfl, ⟨_, rfl⟩, k, rfl⟩

set_option maxHeartbeats 400000 in
theorem high_take_bad (B c m : Nat) (a : Option Addr) (pos : Nat) (n : Int) (w : World) (h0 : w.cell? ⟨B, 0, none⟩ = some (.slice a m c)) (h1 : w.cell? ⟨B, 1, none⟩ = some (.int .i64 pos))
    (hlen : m ≤ 2147483648) (hpos : pos ≤ 8 * m) (hbad : (n < 0 ∨ 24 < n) ∨ (8 * m : Nat) < pos + n) :
    Calls Try.prog 23 #[.pointer (some ⟨B, 0, none⟩), .int .i64 n] w fun e w' => (∃ er, e = errPanic er) ∧ ∃ k, w.drewN k = w' := by
  by_cases hw : n < 0 ∨ 24 < n
  · go_enter Try.func23, Try.ntmps23
    go_wp2_with (go_at_call 43; refine (width_bad _ hw _).mono ?_; rintro e w' ⟨rfl, rfl⟩)
    exact ⟨rfl, ⟨_, rfl⟩, 0, rfl⟩
  · have hn0 : 0 ≤ n := by omega
    have hn1 : n ≤ 24 := by omega
    have hb2 : 8 * (m : Int) - pos < n := by omega
    clear hw hbad
    go_enter Try.func23, Try.ntmps23
    go_wp2_with (first | (go_at_call 43; refine (width_ok _ hn0 hn1 _).mono ?_; rintro e w' ⟨rfl, rfl⟩) | (go_at_call 24; refine (high_left_c B m c a pos _ h0 h1 (by omega) (by omega) (by omega)).mono ?_; rintro e w' ⟨rfl, k, rfl⟩) | (go_at_call 44; refine (left_bad _ _ hb2 _).mono ?_; rintro e w' ⟨rfl, rfl⟩))
    exact ⟨rfl, ⟨_, rfl⟩, k, rfl⟩

set_option maxHeartbeats 800000 in
theorem high_take_ok (B c : Nat) (a : Option Addr) (bs : List Nat) (pos n : Nat) (w : World) (h0 : w.cell? ⟨B, 0, none⟩ = some (.slice a bs.length c)) (h1 : w.cell? ⟨B, 1, none⟩ = some (.int .i64 pos))
    (hf : w.frozen? ⟨B, 1, none⟩ = false) (hb : Bytes w B a bs) (hlt : ∀ b ∈ bs, b < 256) (hlen : bs.length ≤ 2147483648) (hn : n ≤ 24) (hle : pos + n ≤ 8 * bs.length) :
    Calls Try.prog 23 #[.pointer (some ⟨B, 0, none⟩), .int .i64 n] w fun e w' => e = .returned (.int .i64 (lowBits (beNum bs) (8 * bs.length - pos - n) n : Nat)) ∧ Moved B (pos + n) w w' := by
  go_enter Try.func23, Try.ntmps23
  go_wp2_with (first | (go_at_call 43; refine (width_ok _ (by omega) (by omega) _).mono ?_; rintro e w' ⟨rfl, rfl⟩) | (go_at_call 24; refine (high_left_c B bs.length c a pos _ h0 h1 (by omega) (by omega) (by omega)).mono ?_; rintro e w' ⟨rfl, k, rfl⟩) | (go_at_call 44; refine (left_ok _ _ (by omega) _).mono ?_; rintro e w' ⟨rfl, rfl⟩))
  go_loopw [5, 6, 7, 8, 9] (fun x g _ _ _ wr => ∃ got P : Nat, got ≤ n ∧ P = pos + got ∧ g = .int .i64 got ∧ x = .int .i64 (lowBits (beNum bs) (8 * bs.length - pos - got) got : Nat) ∧ Moved B P w wr) (fun _ g _ _ _ _ => n - (intOf g).toNat)
  case atStart => exact ⟨0, pos, Nat.zero_le _, rfl, rfl, by simp [lowBits_zero], Moved.start h1 _⟩
  case round =>
    obtain ⟨got, P, hgot, hP, rfl, rfl, hm⟩ := hrel
    by_cases hlt2 : got < n
    · obtain ⟨D, o, rfl, hDB, hcell⟩ : ∃ D o, a = some ⟨D, o, none⟩ ∧ D ≠ B ∧ ∀ i, i < bs.length → wr.cell? ⟨D, o + i, none⟩ = some (.int .u8 ((bs.getD i 0 : Nat) : Int)) := by
        rcases hm.bytes hb with h | h
        · subst h; simp at hle; omega
        · exact h
      have hby := hcell (P / 8) (by omega)
      obtain ⟨b, hbv⟩ : ∃ b, b = bs.getD (P / 8) 0 := ⟨_, rfl⟩
      obtain ⟨s, hs⟩ : ∃ s : Nat, s = min (n - got) (8 - P % 8) := ⟨_, rfl⟩
      have hs1 : s ≤ n - got := by omega
      have hs2 : P % 8 + s ≤ 8 := by omega
      have hs3 : s = n - got ∨ P % 8 + s = 8 := by omega
      have hs4 : 0 < s := by omega
      have f0 := (hm.cell (a := ⟨B, 0, none⟩) (by simp)).trans h0
      have f1 := hm.own h1
      have f2 := (hm.frozen ⟨B, 1, none⟩).trans hf
      have HS := hide (high_step bs hlt pos got s n b (by rw [← hP]; exact hbv) (by omega) hn (by rw [← hP]; exact hs2) hle hs4)
      rw [← hbv] at hby
      rw [← hP] at HS
      have HP := hide hP
      have Hm := hide hm
      have hP8 : P < 8 * bs.length := by omega
      obtain ⟨x, hx⟩ : ∃ x : Nat, x = lowBits (beNum bs) (8 * bs.length - pos - got) got := ⟨_, rfl⟩
      rw [← hx] at HS
      rw [← hx]
      obtain ⟨t, ht⟩ : ∃ t : Nat, t = 8 - P % 8 - s := ⟨_, rfl⟩
      have hw1 : IntKind.i64.wrap (8 - (P : Int) % 8) = 8 - (P : Int) % 8 := wrap_i64_id _ (by omega) (by omega)
      have hw2 : IntKind.i64.wrap (8 - (P : Int) % 8 - (s : Int)) = (t : Int) := by rw [wrap_i64_id _ (by omega) (by omega)]; omega
      have hw3 : IntKind.i64.wrap (b : Int) = (b : Int) := wrap_i64_id _ (by omega) (by have := byte_lt hlt (P / 8); omega)
      have ht8 : t ≤ 8 := by omega
      have hw4 : wrap64 (b : Int) = (b : Int) := wrap64_id _ (by omega) (by have := byte_lt hlt (P / 8); omega)
      rw [hw4, ← ht] at HS
      clear hw4
      clear hs hcell hb hP hm h0 h1 hf hbv hx ht
      go_wp2_with (go_at_call 45; refine (piece_c B D o bs.length c P _ s b _ f0 f1 f2 hby (by omega) (by omega) (by omega) (by omega) (by omega) hs2 (by omega)).mono ?_; rintro e w1 ⟨rfl, hm1⟩)
      go_quiet ((go_at_call 46; exact Calls.quiet_of_same (lowest_q _ s (by omega) _)))
      go_wp2
      exact ⟨⟨got + s, P + s, by omega, by rw [HP.out]; omega, by simp, by rw [HS.out], (Hm.out.trans hm1).drew nq⟩, by simp [intOf]; omega⟩
    · go_wp2
      go_ret
      have e : got = n := by omega
      subst e
      exact ⟨rfl, hP ▸ hm⟩
end Go.Proofs.Ytkmgpapopgeldaa
