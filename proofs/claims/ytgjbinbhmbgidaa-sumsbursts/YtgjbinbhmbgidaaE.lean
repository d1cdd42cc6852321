/-
  SumsGo: a sum of anything goes on with any bytes.
-/
import Derived.Test.YtgjbinbhmbgidaaK
namespace Go.Proofs.Ytgjbinbhmbgidaa
open Go.RowKit

theorem adler_0 (s : Nat) (a : Option Addr) (c : Nat) (w : World) (hs : s < 4294967296) :
    Calls Try.prog 15 #[.int .u32 (s : Int), .slice a 0 c] w fun e w' => e = .returned (.int .u32 (s : Int)) ∧ w = w' :=
  (adlerMore_c s a c [] w hs (Lies.nil _ _) (by decide)).mono fun e w' ⟨he, hw⟩ => ⟨by rw [he, adler_nil], hw⟩

set_option maxHeartbeats 400000 in
theorem go_long (s : Int) (a : Option Addr) (len c : Nat) (w : World) (h : (5000 : Int) < (len : Int)) :
    Calls Try.prog 4 #[.int .u32 s, .slice a len c] w fun e w' => e = .returned (.bool true) ∧ Fr (fun _ => False) w w' := by
  go_enter Try.func4, Try.ntmps4
  go_wp2_with fail
  refine (awake_c w).mono ?_
  rintro e w1 ⟨rfl, hf1⟩
  have Hf1 := hide hf1
  clear hf1
  go_wp2
  go_ret
  exact ⟨rfl, Hf1.out⟩

set_option maxHeartbeats 400000 in
theorem go_nil (s : BitVec 32) (a : Option Addr) (c : Nat) (w : World) :
    Calls Try.prog 4 #[.int .u32 (s.toNat : Int), .slice a 0 c] w fun e w' => e = .returned (.bool true) ∧ Fr (fun _ => False) w w' := by
  have hs := s.isLt
  go_enter Try.func4, Try.ntmps4
  go_wp2_with fail
  refine (awake_c w).mono ?_
  rintro e w1 ⟨rfl, hf1⟩
  have Hf1 := hide hf1
  clear hf1
  go_wp2_with fail
  refine (new_c w1).mono ?_
  rintro e w2 ⟨T, rfl, ht, hf⟩
  have Ht := hide ht
  have Hf := hide (Hf1.out.join hf)
  clear ht hf Hf1
  go_wp2_with fail
  refine (more_c T s a c [] w2 Ht.out (Lies.nil _ _) (by decide)).mono ?_
  rintro e w3 ⟨rfl, rfl⟩
  go_wp2_with fail
  refine (refMore_c s a c [] w2 (Lies.nil _ _) (by decide)).mono ?_
  rintro e w3 ⟨rfl, rfl⟩
  go_wp2_with fail
  refine (adler_0 s.toNat a c w2 (by omega)).mono ?_
  rintro e w3 ⟨rfl, rfl⟩
  go_wp2
  go_ret
  exact ⟨rfl, Hf.out⟩

set_option maxHeartbeats 400000 in
theorem go_some (s : BitVec 32) (a : Option Addr) (c : Nat) (bs : List Nat) (w : World) (hl : Lies w a bs) (h0 : (0 : Int) < (bs.length : Int)) (h1 : (bs.length : Int) ≤ 5000) :
    Calls Try.prog 4 #[.int .u32 (s.toNat : Int), .slice a bs.length c] w fun e w' => e = .returned (.bool true) ∧ Fr (fun _ => False) w w' := by
  have hs := s.isLt
  have hd : ((bs.length : Int) == 0) = false := beq_false_of_ne (by omega)
  have hp : 0 < bs.length := by omega
  go_enter Try.func4, Try.ntmps4
  go_wp2_with fail
  refine (awake_c w).mono ?_
  rintro e w1 ⟨rfl, hf1⟩
  have Hf1 := hide hf1
  clear hf1
  go_wp2_with fail
  refine (new_c w1).mono ?_
  rintro e w2 ⟨T, rfl, ht, hf⟩
  have Ht := hide ht
  have Hf := hide (Hf1.out.join hf)
  clear ht hf Hf1
  have Hl := hide (hl.keep Hf.out (fun _ _ h => h))
  go_wp2_with fail
  refine (more_c T s a c bs w2 Ht.out Hl.out (by omega)).mono ?_
  rintro e w3 ⟨rfl, rfl⟩
  go_wp2_with fail
  refine (refMore_c s a c bs w2 Hl.out (by omega)).mono ?_
  rintro e w3 ⟨rfl, rfl⟩
  go_wp2_with fail
  refine (adlerMore_c s.toNat a c bs w2 (by omega) Hl.out (by omega)).mono ?_
  rintro e w3 ⟨rfl, rfl⟩
  go_wp2_with fail
  refine (refAdler_c s.toNat a c bs w2 (by omega) Hl.out (by omega)).mono ?_
  rintro e w3 ⟨rfl, rfl⟩
  go_wp2
  go_ret
  exact ⟨rfl, Hf.out⟩

theorem u32_of {n : Int} (h : (Lit.int .u32 n).wf = true) : ∃ x : BitVec 32, n = (x.toNat : Int) := by
  have hb := bounds_u32 h
  refine ⟨BitVec.ofNat 32 n.toNat, ?_⟩
  rw [BitVec.toNat_ofNat, Nat.mod_eq_of_lt (by omega)]
  omega

theorem sumsGo_walk (a0 : Int) (a1 : Option Addr) (len1 cap1 : Nat) (z1 : List Int) (w : World) (w0 : (Lit.int .u32 a0).wf = true) (w1 : IsRow .u8 w a1 len1 cap1 z1) :
    Calls Try.prog 4 #[.int .u32 a0, .slice a1 len1 cap1] w fun e w' => e = .returned (.bool true) ∧ Below w.heap.size w w' := by
  have fin : Calls Try.prog 4 #[.int .u32 a0, .slice a1 len1 cap1] w fun e w' => e = .returned (.bool true) ∧ Fr (fun _ => False) w w' := by
    by_cases h : (5000 : Int) < (len1 : Int)
    · exact go_long a0 a1 len1 cap1 w h
    · obtain ⟨x, rfl⟩ := u32_of w0
      by_cases h0 : len1 = 0
      · subst h0; exact go_nil x a1 cap1 w
      · obtain ⟨e, hl⟩ := w1.bytes
        have := go_some x a1 cap1 (bytesOf len1 z1) w hl (by omega) (by omega)
        rw [e] at this
        exact this
  exact fin.mono fun e w' ⟨he, f⟩ => ⟨he, f.below (Nat.le_refl _) (fun k h => h.elim)⟩
end Go.Proofs.Ytgjbinbhmbgidaa
