/-
  chunk: chunks in memory.
-/
import Derived.Test.YtflapcaaaipoeaaCa
namespace Go.Proofs.Ytflapcaaaipoeaa
open Go.RowKit
set_option linter.unusedVariables false

/-- A chunk: its kind, its data. -/
abbrev Ck := ByteArray × List Nat

/-- A chunk that lies at an address. -/
structure CkAt (w : World) (b o : Nat) (c : Ck) (d : Option Addr) (cap : Nat) : Prop where
  kind : w.cell? ⟨b, o, none⟩ = some (.string c.1)
  data : w.cell? ⟨b, o + 1, none⟩ = some (.slice d c.2.length cap)
  lies : Lies w d c.2
  nil : d = none → cap = 0 ∧ c.2 = []
  size : c.1.size ≤ 281474976710656
  len : c.2.length ≤ 281474976710656
  sp : c.2.length ≤ cap

/-- Chunks that lie from an address on. -/
def LiesC (w : World) (a : Option Addr) (l : List Ck) : Prop := ∀ i, i < l.length → ∃ b o d cap, a = some ⟨b, o, none⟩ ∧ CkAt w b (o + i * 2) (l.getD i default) d cap

theorem CkAt.keep {w w' : World} {S : Nat → Prop} {b o : Nat} {c : Ck} {d : Option Addr} {cap : Nat} (h : CkAt w b o c d cap) (f : Fr S w w') (hS : ∀ k, k < w.heap.size → ¬ S k) : CkAt w' b o c d cap :=
  ⟨cell_fr f h.kind (hS _ (World.block_lt_of_cell? w _ h.kind)), cell_fr f h.data (hS _ (World.block_lt_of_cell? w _ h.data)), h.lies.keep f hS, h.nil, h.size, h.len, h.sp⟩
theorem LiesC.keep {w w' : World} {S : Nat → Prop} {a : Option Addr} {l : List Ck} (h : LiesC w a l) (f : Fr S w w') (hS : ∀ k, k < w.heap.size → ¬ S k) : LiesC w' a l := fun i hi => by
  obtain ⟨b, o, d, cap, e, hk⟩ := h i hi
  exact ⟨b, o, d, cap, e, hk.keep f hS⟩

def kindsB (l : List Ck) : Bool := l.all fun c => kindB c.1

theorem kinds_snoc (l : List Ck) (k : Nat) (h : k < l.length) : (l.take (k + 1)).all (fun c => kindB c.1) = ((l.take k).all (fun c => kindB c.1) && kindB (l.getD k default).1) := by
  rw [List.take_succ_eq_append_getElem h, List.all_append]
  simp [List.getD_eq_getElem?_getD, List.getElem?_eq_getElem h]
theorem kinds_false {l : List Ck} {k : Nat} (h : (l.take k).all (fun c => kindB c.1) = false) : kindsB l = false := by
  unfold kindsB
  rw [Bool.eq_false_iff] at h ⊢
  intro hh
  apply h
  rw [List.all_eq_true] at hh ⊢
  exact fun x hx => hh x (List.mem_of_mem_take hx)

set_option maxHeartbeats 400000 in
theorem kindsMayBe_c (a : Option Addr) (c : Nat) (l : List Ck) (w : World) (hl : LiesC w a l) (hlen : l.length ≤ 281474976710656) :
    Calls Try.prog 26 #[.slice a l.length c] w fun e w' => e = .returned (.bool (kindsB l)) ∧ Fr (fun _ => False) w w' := by
  have Hl := hide hl
  clear hl
  go_enter Try.func26, Try.ntmps26
  go_wp2
  go_loopw [7] (fun i wr => ∃ k : Nat, k ≤ l.length ∧ i = .int .i64 k ∧ Fr (fun _ => False) w wr ∧ Hid ((l.take k).all (fun c => kindB c.1) = true)) (fun i _ => l.length - (intOf i).toNat)
  case atStart => exact ⟨0, by omega, rfl, Fr.refl _ _, rfl⟩
  case round =>
    obtain ⟨k, hk, rfl, hF, H⟩ := hrel
    by_cases hlt : k < l.length
    · obtain ⟨b, o, d, cap, rfl, hck⟩ := Hl.out k hlt
      have h0 : (0 : Int) ≤ (k : Int) := by omega
      have h1 : (k : Int) < (l.length : Int) := by omega
      have hc1 := cell_fr hF hck.kind (fun h => h)
      have hc2 := cell_fr hF hck.data (fun h => h)
      have hm := mayBeKind_c (l.getD k default).1
      have hs : (l.getD k default).1.size ≤ maxLen := by have := hck.size; unfold maxLen; omega
      have HS := hide (kinds_snoc l k hlt)
      have HQ := hide (@kinds_false l (k + 1))
      have HF := hide hF
      clear hF hck
      generalize l.getD k default = q at *
      obtain ⟨kd, ds⟩ := q
      cases hkb : kindB kd
      · have HN : Hid (kindsB l = false) := HQ.out (by rw [HS.out, hkb, Bool.and_false])
        rw [hkb] at hm
        go_wp2_with (go_at_call 34; refine (hm _ hs).mono ?_; rintro e w' ⟨rfl, rfl⟩)
        go_ret
        exact ⟨by rw [HN.out]; rfl, HF.out.join (Fr.of_alloc _ _)⟩
      · have HN : Hid ((l.take (k + 1)).all (fun c => kindB c.1) = true) := by
          show _ = _
          rw [HS.out, H.out, hkb]; rfl
        rw [hkb] at hm
        go_wp2_with (go_at_call 34; refine (hm _ hs).mono ?_; rintro e w' ⟨rfl, rfl⟩)
        go_roundw
        case rel => exact ⟨k + 1, by omega, by go_num, HF.out.join (Fr.of_alloc _ _), HN⟩
        case measure => simp [intOf]; omega
    · have HN : Hid (kindsB l = true) := by
        have h := H.out
        rw [List.take_of_length_le (by omega)] at h
        exact h
      have HF := hide hF
      clear H hF
      go_wp2
      go_ret
      exact ⟨by rw [HN.out]; rfl, HF.out⟩
end Go.Proofs.Ytflapcaaaipoeaa
