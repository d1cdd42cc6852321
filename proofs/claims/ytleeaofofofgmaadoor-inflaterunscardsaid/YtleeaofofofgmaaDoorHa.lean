/-
  Contracts under huff.New.
-/
import Derived.Test.YtleeaofofofgmaaDoorBe
import Derived.Test.YtleeaofofofgmaaDoorHm
import Derived.BigRegion
import Derived.Deep.RegionHeld3
import Derived.Deep.DrawnRows
import Derived.Deep.AppendLies
namespace Go.Proofs.YtleeaofofofgmaaDoor
open Go.RowKit

/-- A slice of ints that lies in memory. -/
def LiesI (w : World) (a : Option Addr) (zs : List Int) : Prop :=
  ∀ j, j < zs.length → ∃ ad, a = some ad ∧ w.cell? (ad.add j) = some (.int .i64 (at0 zs j))

set_option maxHeartbeats 400000 in
theorem mayLens_ok (a : Option Addr) (c : Nat) (ls : List Int) (w : World) (hl : LiesI w a ls) (hg : good ls) :
    Calls Tryd.prog 73 #[.slice a ls.length c] w fun e w' => e = .returned (.bool true) ∧ w = w' := by
  have h320 := hg.1
  have Hg := hide hg.2
  have Hl := hide hl
  clear hg hl
  go_enter Tryd.func73, Tryd.ntmps73
  go_wp2
  go_loop [4, 10] (fun _ i => ∃ k : Nat, k ≤ ls.length ∧ i = .int .i64 k) (fun _ i => ls.length - (intOf i).toNat)
  case atStart => exact ⟨0, Nat.zero_le _, rfl⟩
  case round =>
    obtain ⟨k, hk, rfl⟩ := hrel
    by_cases hlt : k < ls.length
    · obtain ⟨ad, rfl, hc⟩ := Hl.out k hlt
      obtain ⟨h0, h1⟩ := Hg.out k hlt
      go_wp2
      go_round
      case rel => exact ⟨k + 1, by omega, by go_num⟩
      case measure => simp [intOf]; omega
    · go_wp2
      go_ret
      exact ⟨rfl, rfl⟩

set_option maxHeartbeats 400000 in
theorem mayLens_no (a : Option Addr) (c : Nat) (ls : List Int) (w : World) (hl : LiesI w a ls) (hlen : (ls.length : Int) ≤ 9223372036854775807) (hg : ¬ good ls) :
    Calls Tryd.prog 73 #[.slice a ls.length c] w fun e w' => e = .returned (.bool false) ∧ w = w' := by
  by_cases h320 : ls.length ≤ 320
  · obtain ⟨m, hm, hbad⟩ : ∃ m, m < ls.length ∧ ¬ (0 ≤ at0 ls m ∧ at0 ls m ≤ 15) := by
      apply Classical.byContradiction
      intro h
      refine hg ⟨h320, fun i hi => ?_⟩
      apply Classical.byContradiction
      intro h2
      exact h ⟨i, hi, h2⟩
    have Hl := hide hl
    have Hb := hide hbad
    clear hg hl hbad
    go_enter Tryd.func73, Tryd.ntmps73
    go_wp2
    go_loop [4, 10] (fun _ i => ∃ k : Nat, k ≤ m ∧ i = .int .i64 k) (fun _ i => ls.length - (intOf i).toNat)
    case atStart => exact ⟨0, Nat.zero_le _, rfl⟩
    case round =>
      obtain ⟨k, hk, rfl⟩ := hrel
      have hlt : k < ls.length := by omega
      obtain ⟨ad, rfl, hc⟩ := Hl.out k hlt
      by_cases h0 : at0 ls k < 0
      · go_wp2
        go_ret
        exact ⟨rfl, rfl⟩
      · by_cases h1 : 15 < at0 ls k
        · go_wp2
          go_ret
          exact ⟨rfl, rfl⟩
        · have hkm : k < m := by
            rcases Nat.lt_or_ge k m with h | h
            · exact h
            · have e : k = m := by omega
              subst e
              exact absurd ⟨by omega, by omega⟩ Hb.out
          go_wp2
          go_round
          case rel => exact ⟨k + 1, by omega, by go_num⟩
          case measure => simp [intOf]; omega
  · clear hg hl
    have h' : 320 < ls.length := by omega
    go_enter Tryd.func73, Tryd.ntmps73
    go_wp2
    go_ret
    exact ⟨rfl, rfl⟩

/-- A code under way: its sizes. -/
structure Sz (w : World) (B : Nat) (wv rv : Value) (f : Nat → Nat) : Prop where
  eobj : ∃ cs : Array Value, w.heap[B]? = some (.cells cs 98 (0, 0)) ∧ cs.size = 18 ∧ cs[0]? = some wv ∧ cs[17]? = some rv ∧ ∀ i, 1 ≤ i → i < 16 → cs[1 + i]? = some (.int .i64 (f i : Nat))

theorem Sz.cell {w : World} {B : Nat} {wv rv : Value} {f : Nat → Nat} (h : Sz w B wv rv f) {i : Nat} (h1 : 1 ≤ i) (h2 : i < 16) : w.cell? ⟨B, 1 + i, none⟩ = some (.int .i64 (f i : Nat)) := by
  obtain ⟨cs, ho, _, _, _, hc⟩ := h.eobj
  exact cell_of ho (hc i h1 h2)

theorem Sz.cell0 {w : World} {B : Nat} {wv rv : Value} {f : Nat → Nat} (h : Sz w B wv rv f) : w.cell? ⟨B, 0, none⟩ = some wv := by
  obtain ⟨cs, ho, _, h0, _, hc⟩ := h.eobj
  exact cell_of ho h0

theorem Sz.cell17 {w : World} {B : Nat} {wv rv : Value} {f : Nat → Nat} (h : Sz w B wv rv f) : w.cell? ⟨B, 17, none⟩ = some rv := by
  obtain ⟨cs, ho, _, _, h0, hc⟩ := h.eobj
  exact cell_of ho h0

theorem Sz.frozen {w : World} {B : Nat} {wv rv : Value} {f : Nat → Nat} (h : Sz w B wv rv f) (i : Nat) : w.frozen? ⟨B, i, none⟩ = false := by
  obtain ⟨cs, ho, _⟩ := h.eobj
  exact frozen_of ho

theorem Sz.keep {w w' : World} {B : Nat} {wv rv : Value} {f : Nat → Nat} (h : Sz w B wv rv f) {S : Nat → Prop} (g : Fr S w w') (hB : ¬ S B) : Sz w' B wv rv f := by
  obtain ⟨cs, ho, h1⟩ := h.eobj
  exact ⟨cs, by rw [g.block B (lt_of ho) hB]; exact ho, h1⟩

set_option maxHeartbeats 400000 in
set_option maxRecDepth 100000 in
theorem mayBe_c (B : Nat) (wv rv : Value) (ls : List Int) (w : World) (h : Sz w B wv rv (cnt ls)) (h320 : ls.length ≤ 320) (b : Bool) (hb : b = true ↔ codeOk ls) :
    Calls Tryd.prog 74 #[.pointer (some ⟨B, 0, none⟩)] w fun e w' => e = .returned (.bool b) ∧ w = w' := by
  have H := hide h
  have Hb := hide hb
  clear h hb
  go_enter Tryd.func74, Tryd.ntmps74
  go_wp2
  go_loop [3, 4, 6, 12] (fun al fre _ i => ∃ k : Nat, k ≤ 15 ∧ i = .int .i64 k ∧ al = .int .i64 (tot ls k : Nat) ∧ fre = .int .i64 (frk ls k)) (fun _ _ _ i => 15 - (intOf i).toNat)
  case atStart => exact ⟨0, Nat.zero_le _, rfl, rfl, rfl⟩
  case round =>
    obtain ⟨k, hk, rfl, rfl, rfl⟩ := hrel
    by_cases hlt : k < 15
    · have hc := H.out.cell (i := k + 1) (by omega) (by omega)
      rw [show 1 + (k + 1) = 2 + k by omega] at hc
      have h1 := fr_bound ls h320 (n := k) (by omega)
      have h2 := tot_le ls k
      have h3 := cnt_le ls (k + 1)
      have HT := hide (tot_succ ls k)
      have HF := hide (frk_succ ls k)
      go_wp2
      go_round
      case rel => exact ⟨k + 1, by omega, by go_num, by rw [HT.out]; go_num, by rw [HF.out]⟩
      case measure => simp [intOf]; omega
    · have e : k = 15 := by omega
      subst e
      have hc := H.out.cell (i := 1) (by omega) (by omega)
      by_cases h1 : frk ls 15 = 0
      · have q1 : ((frk ls 15 : Int) == 0) = true := by simpa using h1
        have hbt : b = true := Hb.out.2 (Or.inl h1)
        subst hbt
        have Hx := hide h1
        clear h1
        go_wp2
        go_ret
        exact ⟨rfl, rfl⟩
      · have q1 : ((frk ls 15 : Int) == 0) = false := beq_false_of_ne h1
        by_cases h2 : tot ls 15 = 0
        · have hbt : b = true := Hb.out.2 (Or.inr (Or.inl h2))
          subst hbt
          have q2 : (((tot ls 15 : Nat) : Int) == 0) = true := by simp [h2]
          clear h1 h2
          go_wp2
          go_ret
          exact ⟨rfl, rfl⟩
        · have q2 : (((tot ls 15 : Nat) : Int) == 0) = false := beq_false_of_ne (by omega)
          by_cases h3 : tot ls 15 = 1
          · have q3 : (((tot ls 15 : Nat) : Int) == 1) = true := by simp [h3]
            have hbb : b = (((cnt ls 1 : Nat) : Int) == 1) := by
              rw [Bool.eq_iff_iff, Hb.out]
              unfold codeOk
              simp [h1, h3]
              omega
            have Hbb := hide hbb
            clear h1 h2 h3 hbb
            go_wp2
            go_ret
            exact ⟨by rw [Hbb.out]; rfl, rfl⟩
          · have q3 : (((tot ls 15 : Nat) : Int) == 1) = false := beq_false_of_ne (by omega)
            have hbb : b = false := by
              rw [← Bool.not_eq_true, Hb.out]
              unfold codeOk
              omega
            subst hbb
            clear h1 h2 h3
            go_wp2
            go_ret
            exact ⟨rfl, rfl⟩
end Go.Proofs.YtleeaofofofgmaaDoor
