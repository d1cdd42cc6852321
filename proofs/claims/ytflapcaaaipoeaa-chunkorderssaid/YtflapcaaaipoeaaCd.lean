/-
  chunk: order.
-/
import Derived.Test.YtflapcaaaipoeaaCc
namespace Go.Proofs.Ytflapcaaaipoeaa
open Go.RowKit
set_option linter.unusedVariables false

def sHead : ByteArray := ⟨#[73, 72, 68, 82]⟩
def sPlte : ByteArray := ⟨#[80, 76, 84, 69]⟩
def sTrns : ByteArray := ⟨#[116, 82, 78, 83]⟩
def sIdat : ByteArray := ⟨#[73, 68, 65, 84]⟩
def sIend : ByteArray := ⟨#[73, 69, 78, 68]⟩

theorem eqB (k s : ByteArray) : (k.toList == s.toList) = decide (k = s) := by
  by_cases h : k = s
  · subst h; simp
  · rw [bytes_ne h]; simp [h]

theorem eqL (k : ByteArray) (L : List UInt8) : (k.toList == L) = decide (k = ⟨L.toArray⟩) := by
  rw [← eqB]
  congr 1
  rw [ByteArray.toList_eq]

/-- A kind that is known, or need not be. -/
def okK (k : ByteArray) : Bool := decide (k = sHead) || decide (k = sPlte) || decide (k = sIdat) || decide (k = sIend) || (kindB k && !critB k)
def knownB (l : List Ck) : Bool := l.all fun c => okK c.1

theorem alls_snoc (f : Ck → Bool) (l : List Ck) (k : Nat) (h : k < l.length) : (l.take (k + 1)).all f = ((l.take k).all f && f (l.getD k default)) := by
  rw [List.take_succ_eq_append_getElem h, List.all_append]
  simp [List.getD_eq_getElem?_getD, List.getElem?_eq_getElem h]
theorem alls_false {f : Ck → Bool} {l : List Ck} {k : Nat} (h : (l.take k).all f = false) : l.all f = false := by
  rw [Bool.eq_false_iff] at h ⊢
  intro hh
  apply h
  rw [List.all_eq_true] at hh ⊢
  exact fun x hx => hh x (List.mem_of_mem_take hx)

set_option maxHeartbeats 800000 in
theorem areKnown_c (a : Option Addr) (c : Nat) (l : List Ck) (w : World) (hl : LiesC w a l) (hlen : l.length ≤ 281474976710656) :
    Calls Try.prog 30 #[.slice a l.length c] w fun e w' => e = .returned (.bool (knownB l)) ∧ Fr (fun _ => False) w w' := by
  have Hl := hide hl
  clear hl
  go_enter Try.func30, Try.ntmps30
  go_wp2
  go_loopw [7] (fun i wr => ∃ k : Nat, k ≤ l.length ∧ i = .int .i64 k ∧ Fr (fun _ => False) w wr ∧ Hid ((l.take k).all (fun c => okK c.1) = true)) (fun i _ => l.length - (intOf i).toNat)
  case atStart => exact ⟨0, by omega, rfl, Fr.refl _ _, rfl⟩
  case round =>
    obtain ⟨k, hk, rfl, hF, H⟩ := hrel
    by_cases hlt : k < l.length
    · obtain ⟨b, o, d, cap, rfl, hck⟩ := Hl.out k hlt
      have h0 : (0 : Int) ≤ (k : Int) := by omega
      have h1 : (k : Int) < (l.length : Int) := by omega
      have hc1 := cell_fr hF hck.kind (fun h => h)
      have hc2 := cell_fr hF hck.data (fun h => h)
      have hm := mayBeKind_c (l.getD k default).1
      have hcr := critical_c (l.getD k default).1
      have hs : (l.getD k default).1.size ≤ maxLen := by have := hck.size; unfold maxLen; omega
      have HS := hide (alls_snoc (fun c => okK c.1) l k hlt)
      have HQ := hide (@alls_false (fun c => okK c.1) l (k + 1))
      have HF := hide hF
      clear hF hck
      generalize l.getD k default = q at *
      obtain ⟨kd, ds⟩ := q
      simp only [] at hc1 hc2
      have b1 : (kd.toList == [73, 72, 68, 82]) = decide (kd = sHead) := eqL kd _
      have b2 : (kd.toList == [80, 76, 84, 69]) = decide (kd = sPlte) := eqL kd _
      have b3 : (kd.toList == [73, 68, 65, 84]) = decide (kd = sIdat) := eqL kd _
      have b4 : (kd.toList == [73, 69, 78, 68]) = decide (kd = sIend) := eqL kd _
      have hG : okK kd = (decide (kd = sHead) || decide (kd = sPlte) || decide (kd = sIdat) || decide (kd = sIend) || (kindB kd && !critB kd)) := rfl
      generalize decide (kd = sHead) = t1 at b1 hG
      generalize decide (kd = sPlte) = t2 at b2 hG
      generalize decide (kd = sIdat) = t3 at b3 hG
      generalize decide (kd = sIend) = t4 at b4 hG
      generalize kindB kd = t5 at hm hG
      generalize critB kd = t6 at hcr hG
      cases hok : okK kd
      · have HN : Hid (knownB l = false) := HQ.out (by rw [HS.out, hok, Bool.and_false])
        rw [hok] at hG
        obtain ⟨rfl, rfl, rfl, rfl, hc⟩ : t1 = false ∧ t2 = false ∧ t3 = false ∧ t4 = false ∧ (t5 = false ∨ t5 = true ∧ t6 = true) := by
          revert hG
          cases t1 <;> cases t2 <;> cases t3 <;> cases t4 <;> cases t5 <;> cases t6 <;> simp
        clear HS HQ H hok hG
        rcases hc with rfl | ⟨rfl, rfl⟩
        all_goals
          go_wp2_with (first | (go_at_call 34; refine (hm _ hs).mono ?_; rintro e w' ⟨rfl, rfl⟩) | (go_at_call 18; refine (hcr _ hs).mono ?_; rintro e w' ⟨rfl, rfl⟩))
          go_ret
          exact ⟨by rw [HN.out]; rfl, HF.out.join (Fr.of_alloc _ _)⟩
      · have HN : Hid ((l.take (k + 1)).all (fun c => okK c.1) = true) := by
          show _ = _
          rw [HS.out, H.out, hok]; rfl
        rw [hok] at hG
        have hc : t1 = true ∨ t1 = false ∧ t2 = true ∨ t1 = false ∧ t2 = false ∧ t3 = true ∨ t1 = false ∧ t2 = false ∧ t3 = false ∧ t4 = true ∨ t1 = false ∧ t2 = false ∧ t3 = false ∧ t4 = false ∧ t5 = true ∧ t6 = false := by
          revert hG
          cases t1 <;> cases t2 <;> cases t3 <;> cases t4 <;> cases t5 <;> cases t6 <;> simp
        clear HS HQ H hok hG
        rcases hc with rfl | ⟨rfl, rfl⟩ | ⟨rfl, rfl, rfl⟩ | ⟨rfl, rfl, rfl, rfl⟩ | ⟨rfl, rfl, rfl, rfl, rfl, rfl⟩
        all_goals
          go_wp2_with (first | (go_at_call 34; refine (hm _ hs).mono ?_; rintro e w' ⟨rfl, rfl⟩) | (go_at_call 18; refine (hcr _ hs).mono ?_; rintro e w' ⟨rfl, rfl⟩))
          go_roundw
          case rel => exact ⟨k + 1, by omega, by go_num, HF.out.join (Fr.of_alloc _ _), HN⟩
          case measure => simp [intOf]; omega
    · have HN : Hid (knownB l = true) := by
        have h := H.out
        rw [List.take_of_length_le (by omega)] at h
        exact h
      have HF := hide hF
      clear H hF
      go_wp2
      go_ret
      exact ⟨by rw [HN.out]; rfl, HF.out⟩
end Go.Proofs.Ytflapcaaaipoeaa
