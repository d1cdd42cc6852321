/-
  InflateReads.
-/
import Derived.Test.YtleeaofofofgmaaDoorRh
import Derived.Test.YtleeaofofofgmaaDoorNf
namespace Go.Proofs.YtleeaofofofgmaaDoor
open Go.RowKit

set_option maxHeartbeats 1600000 in
theorem reads_c (a : Option Addr) (n c : Nat) (bs : List Nat) (m : Int) (w : World) (hn : n = bs.length) (h : Lies w (.slice a n c) bs) (hlt : ∀ b ∈ bs, b < 256) (hg : Gw w) :
    Calls Tryd.prog 3 #[.slice a n c, .int .i64 m] w fun e w' => e = .returned (.bool true) ∧ Fr (fun _ => False) w w' := by
  have HG := hide hg
  have HL := hide h
  have Hlt := hide hlt
  have Hn := hide hn
  clear hg h hlt hn
  go_enter Tryd.func3, Tryd.ntmps3
  go_wp2_with fail
  refine (awake_c w HG.out).mono ?_
  rintro e w0 ⟨rfl, hF0⟩
  have HG0 := hide (HG.out.fr hF0)
  have HF0 := hide hF0
  clear hF0
  by_cases hbig : 3000 < n
  · have hbi : (3000 : Int) < n := by omega
    go_wp2
    go_ret
    exact ⟨rfl, HF0.out⟩
  have hbi : ¬ (3000 : Int) < n := by omega
  by_cases hbm : 65536 < m
  · go_wp2
    go_ret
    exact ⟨rfl, HF0.out⟩
  have hln : bs.length ≤ 3000 := by have := Hn.out; omega
  go_wp2_with fail
  refine (all_at (.slice a n c) bs m w0 (lies_fr HL.out HF0.out) Hlt.out (by omega) (by omega) HG0.out).mono ?_
  rintro e w1 ⟨r1, a1, c1, hA1, rfl, hL1, hF1⟩
  have HF1 := hide (HF0.out.join hF1)
  have HL1 := hide hL1
  have HA1 := hide hA1
  clear hF1 hL1 hA1
  obtain ⟨X, hX⟩ : ∃ X, X = (outOf r1).length := ⟨_, rfl⟩
  obtain ⟨U, hU⟩ : ∃ U, U = usedOf r1 := ⟨_, rfl⟩
  obtain ⟨V, hV⟩ : ∃ V, V = errOf r1 := ⟨_, rfl⟩
  rw [← hX, ← hU, ← hV]
  rw [← hX] at HL1
  have HXU := hide (And.intro hX (And.intro hU hV))
  clear hX hU hV
  go_wp2_with fail
  refine (rInflate_c (.slice a n c) bs m w1 (lies_fr HL.out HF1.out) Hlt.out (by omega) (by omega)).mono ?_
  rintro e w2 ⟨r2, a2, c2, hA2, rfl, hL2, hF2⟩
  obtain rfl := hA2.det HA1.out
  have hx256 : ∀ b ∈ outOf r2, b < 256 := HA1.out.bytes
  rw [← HXU.out.1, ← HXU.out.2.1, ← HXU.out.2.2]
  rw [← HXU.out.1] at hL2
  have HF2 := hide (HF1.out.join hF2)
  have s1 := str_lies (lies_fr HL1.out hF2) hx256
  have s2 := str_lies hL2 hx256
  clear hF2 hL2 hA2 hx256
  go_wp2
  go_ret
  exact ⟨rfl, HF2.out⟩
end Go.Proofs.YtleeaofofofgmaaDoor
