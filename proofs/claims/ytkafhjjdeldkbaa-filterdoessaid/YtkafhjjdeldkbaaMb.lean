/-
  filter: how far apart, Paeth (both).
-/
import Derived.Test.YtkafhjjdeldkbaaMa
namespace Go.Proofs.Ytkafhjjdeldkbaa
open Go.RowKit Go.Lib
set_option linter.unusedVariables false

theorem apart_c (p x : Int) (w : World) (hp : -1000000 ≤ p ∧ p ≤ 1000000) (hx : -1000000 ≤ x ∧ x ≤ 1000000) :
    Calls Try.prog 22 #[.int .i64 p, .int .i64 x] w fun e w' => e = .returned (.int .i64 (dist p x)) ∧ w = w' := by
  obtain ⟨hp1, hp2⟩ := hp
  obtain ⟨hx1, hx2⟩ := hx
  go_enter Try.func22, Try.ntmps22
  go_wp2
  all_goals
    go_ret
    exact ⟨ret_int (by unfold dist; split <;> omega), rfl⟩
theorem away_c (p : Int) (x : Nat) (w : World) (hp : -1000000 ≤ p ∧ p ≤ 1000000) (hx : x < 256) :
    Calls Try.prog 23 #[.int .i64 p, .int .u8 (x : Int)] w fun e w' => e = .returned (.int .i64 (dist p x)) ∧ w = w' := by
  obtain ⟨hp1, hp2⟩ := hp
  go_enter Try.func23, Try.ntmps23
  go_wp2
  all_goals
    go_ret
    exact ⟨ret_int (by unfold dist; split <;> omega), rfl⟩

set_option maxHeartbeats 800000 in
theorem paeth_c (a b c : Nat) (w : World) (ha : a < 256) (hb : b < 256) (hc : c < 256) :
    Calls Try.prog 14 #[.int .u8 (a : Int), .int .u8 (b : Int), .int .u8 (c : Int)] w fun e w' => e = .returned (.int .u8 ((paethV a b c : Nat) : Int)) ∧ w = w' := by
  obtain ⟨p, hp⟩ : ∃ p : Int, p = (a : Int) + b - c := ⟨_, rfl⟩
  have HP : Hid (paethV a b c = if dist p a ≤ dist p b ∧ dist p a ≤ dist p c then a else if dist p b ≤ dist p c then b else c) := by subst hp; rfl
  have A1 := hide (fun w => apart_c p a w (by omega) (by omega))
  have A2 := hide (fun w => apart_c p b w (by omega) (by omega))
  have A3 := hide (fun w => apart_c p c w (by omega) (by omega))
  have hb1 : -255 ≤ p ∧ p ≤ 510 := by omega
  have hp' : (a : Int) + b - c = p := hp.symm
  clear hp
  generalize dist p a = x at *
  generalize dist p b = y at *
  generalize dist p c = z at *
  go_enter Try.func14, Try.ntmps14
  go_wp2_with fail
  refine (A1.out w).mono ?_
  rintro e w' ⟨rfl, rfl⟩
  go_wp2_with fail
  refine (A2.out w).mono ?_
  rintro e w' ⟨rfl, rfl⟩
  go_wp2_with fail
  refine (A3.out w).mono ?_
  rintro e w' ⟨rfl, rfl⟩
  go_wp2
  all_goals
    go_ret
    refine ⟨ret_int ?_, rfl⟩
    rw [HP.out]
    repeat' split
    all_goals first | rfl | (exfalso; omega)
set_option maxHeartbeats 800000 in
theorem rpaeth_c (a b c : Nat) (w : World) (ha : a < 256) (hb : b < 256) (hc : c < 256) :
    Calls Try.prog 16 #[.int .u8 (a : Int), .int .u8 (b : Int), .int .u8 (c : Int)] w fun e w' => e = .returned (.int .u8 ((paethV a b c : Nat) : Int)) ∧ w = w' := by
  obtain ⟨p, hp⟩ : ∃ p : Int, p = (a : Int) + b - c := ⟨_, rfl⟩
  have HP : Hid (paethV a b c = if dist p a ≤ dist p b ∧ dist p a ≤ dist p c then a else if dist p b ≤ dist p c then b else c) := by subst hp; rfl
  have A1 := hide (fun w => away_c p a w (by omega) ha)
  have A2 := hide (fun w => away_c p b w (by omega) hb)
  have A3 := hide (fun w => away_c p c w (by omega) hc)
  have hb1 : -255 ≤ p ∧ p ≤ 510 := by omega
  have hp' : (a : Int) + b - c = p := hp.symm
  clear hp
  generalize dist p a = x at *
  generalize dist p b = y at *
  generalize dist p c = z at *
  go_enter Try.func16, Try.ntmps16
  go_wp2_with fail
  refine (A1.out w).mono ?_
  rintro e w' ⟨rfl, rfl⟩
  go_wp2_with fail
  refine (A2.out w).mono ?_
  rintro e w' ⟨rfl, rfl⟩
  go_wp2_with fail
  refine (A3.out w).mono ?_
  rintro e w' ⟨rfl, rfl⟩
  go_wp2
  all_goals
    go_ret
    refine ⟨ret_int ?_, rfl⟩
    rw [HP.out]
    repeat' split
    all_goals first | rfl | (exfalso; omega)

/-- What a filter foretells, by what it is foretold from. -/
theorem tell_num (kind l u ul : Nat) (hk : kind ≤ 4) : (kind = 0 ∧ tellV kind l u ul = 0) ∨ (kind = 1 ∧ tellV kind l u ul = l) ∨ (kind = 2 ∧ tellV kind l u ul = u) ∨ (kind = 3 ∧ tellV kind l u ul = (l + u) / 2) ∨ (kind = 4 ∧ tellV kind l u ul = paethV l u ul) := by
  match kind, hk with
  | 0, _ => exact .inl ⟨rfl, rfl⟩
  | 1, _ => exact .inr (.inl ⟨rfl, rfl⟩)
  | 2, _ => exact .inr (.inr (.inl ⟨rfl, rfl⟩))
  | 3, _ => exact .inr (.inr (.inr (.inl ⟨rfl, rfl⟩)))
  | 4, _ => exact .inr (.inr (.inr (.inr ⟨rfl, rfl⟩)))
end Go.Proofs.Ytkafhjjdeldkbaa
