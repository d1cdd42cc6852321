/-
  filter: what a filter foretells of a byte (the program's).
-/
import Derived.Test.YtkafhjjdeldkbaaMb
namespace Go.Proofs.Ytkafhjjdeldkbaa
open Go.RowKit Go.Lib
set_option linter.unusedVariables false

set_option maxHeartbeats 3200000 in
theorem foretold_c (kind back i : Nat) (a a2 : Option Addr) (c c2 : Nat) (xs ys : List Nat) (w : World) (hk : kind ≤ 4) (hb : 1 ≤ back ∧ back ≤ 8) (hi : i < xs.length) (hx : Lies w a xs) (hy : Lies w a2 ys) (hm : ys.length = 0 ∨ ys.length = xs.length) (hl : xs.length ≤ 140737488355328) :
    Calls Try.prog 19 #[.int .i64 (kind : Int), .slice a xs.length c, .slice a2 ys.length c2, .int .i64 (back : Int), .int .i64 (i : Int)] w fun e w' => e = .returned (.int .u8 ((foreV kind xs ys back i : Nat) : Int)) ∧ w = w' := by
  obtain ⟨hb1, hb8⟩ := hb
  have HE : Hid (foreV kind xs ys back i = tellV kind (leftV xs back i) (ys.getD i 0) (leftV ys back i)) := rfl
  have hL := left_lt hx.1 back i
  have hU := getD_lt hy.1 i
  have hUL := left_lt hy.1 back i
  have i0 : (0 : Int) ≤ (i : Int) := by omega
  have i1 : (i : Int) < (xs.length : Int) := by omega
  by_cases hbi : back ≤ i
  · obtain ⟨j, hj⟩ : ∃ j, i = j + back := ⟨i - back, by omega⟩
    have e1 : leftV xs back i = xs.getD j 0 := by unfold leftV; rw [if_pos hbi, show i - back = j by omega]
    have e2 : leftV ys back i = ys.getD j 0 := by unfold leftV; rw [if_pos hbi, show i - back = j by omega]
    obtain ⟨ad, rfl, hc1⟩ := hx.2 j (by omega)
    have hjj : (i : Int) - (back : Int) = (j : Int) := by omega
    have j0 : (0 : Int) ≤ (j : Int) := by omega
    have j1 : (j : Int) < (xs.length : Int) := by omega
    have hge : decide ((i : Int) ≥ (back : Int)) = true := by simp; omega
    have hge' : (back : Int) ≤ (i : Int) := by omega
    rw [e1] at hL HE
    rw [e2] at hUL HE
    generalize xs.getD j 0 = L at *
    by_cases hup : ys.length = 0
    · have hy0 : ys = [] := List.eq_nil_of_length_eq_zero hup
      subst hy0
      have z1 : ([] : List Nat).getD i 0 = 0 := rfl
      have z2 : ([] : List Nat).getD j 0 = 0 := rfl
      rw [z1, z2] at HE
      rw [z1] at hU
      rw [z2] at hUL
      clear hx hy e1 e2 hj hbi hup z1 z2
      rcases tell_num kind L 0 0 hk with ⟨rfl, hT⟩ | ⟨rfl, hT⟩ | ⟨rfl, hT⟩ | ⟨rfl, hT⟩ | ⟨rfl, hT⟩
      · have HT : Hid (foreV 0 xs [] back i = 0) := by show _ = _; rw [HE.out, hT]
        clear HE hT
        generalize foreV 0 xs [] back i = R at *
        generalize xs.length = n at *
        clear hm
        go_enter Try.func19, Try.ntmps19
        go_wp2
        go_ret
        exact ⟨ret_int (by have h9 := HT.out; omega), rfl⟩
      · have HT : Hid (foreV 1 xs [] back i = L) := by show _ = _; rw [HE.out, hT]
        clear HE hT
        generalize foreV 1 xs [] back i = R at *
        generalize xs.length = n at *
        clear hm
        go_enter Try.func19, Try.ntmps19
        go_wp2
        go_ret
        exact ⟨ret_int (by have h9 := HT.out; omega), rfl⟩
      · have HT : Hid (foreV 2 xs [] back i = 0) := by show _ = _; rw [HE.out, hT]
        clear HE hT
        generalize foreV 2 xs [] back i = R at *
        generalize xs.length = n at *
        clear hm
        go_enter Try.func19, Try.ntmps19
        go_wp2
        go_ret
        exact ⟨ret_int (by have h9 := HT.out; omega), rfl⟩
      · have HT : Hid (foreV 3 xs [] back i = (L + 0) / 2) := by show _ = _; rw [HE.out, hT]
        clear HE hT
        generalize foreV 3 xs [] back i = R at *
        generalize xs.length = n at *
        clear hm
        go_enter Try.func19, Try.ntmps19
        go_wp2
        go_ret
        exact ⟨ret_int (by have h9 := HT.out; omega), rfl⟩
      · have HT : Hid (foreV 4 xs [] back i = paethV L 0 0) := by show _ = _; rw [HE.out, hT]
        clear HE hT
        generalize foreV 4 xs [] back i = R at *
        generalize xs.length = n at *
        clear hm
        have hp := hide (fun w => paeth_c L 0 0 w hL hU hUL)
        generalize paethV L 0 0 = pv at *
        go_enter Try.func19, Try.ntmps19
        go_wp2_with fail
        refine (hp.out w).mono ?_
        rintro e w' ⟨rfl, rfl⟩
        go_wp2
        go_ret
        exact ⟨ret_int (by have h9 := HT.out; omega), rfl⟩
    · have i2 : (i : Int) < (ys.length : Int) := by omega
      have j2 : (j : Int) < (ys.length : Int) := by omega
      have m0 : (0 : Int) < (ys.length : Int) := by omega
      obtain ⟨ad2, rfl, hc2⟩ := hy.2 i (by omega)
      obtain ⟨ad3, e3, hc3⟩ := hy.2 j (by omega)
      cases e3
      clear hx hy e1 e2 hj hbi hup
      generalize ys.getD i 0 = U at *
      generalize ys.getD j 0 = UL at *
      rcases tell_num kind L U UL hk with ⟨rfl, hT⟩ | ⟨rfl, hT⟩ | ⟨rfl, hT⟩ | ⟨rfl, hT⟩ | ⟨rfl, hT⟩
      · have HT : Hid (foreV 0 xs ys back i = 0) := by show _ = _; rw [HE.out, hT]
        clear HE hT
        generalize foreV 0 xs ys back i = R at *
        generalize xs.length = n at *
        generalize ys.length = m at *
        clear hm
        go_enter Try.func19, Try.ntmps19
        go_wp2
        go_ret
        exact ⟨ret_int (by have h9 := HT.out; omega), rfl⟩
      · have HT : Hid (foreV 1 xs ys back i = L) := by show _ = _; rw [HE.out, hT]
        clear HE hT
        generalize foreV 1 xs ys back i = R at *
        generalize xs.length = n at *
        generalize ys.length = m at *
        clear hm
        go_enter Try.func19, Try.ntmps19
        go_wp2
        go_ret
        exact ⟨ret_int (by have h9 := HT.out; omega), rfl⟩
      · have HT : Hid (foreV 2 xs ys back i = U) := by show _ = _; rw [HE.out, hT]
        clear HE hT
        generalize foreV 2 xs ys back i = R at *
        generalize xs.length = n at *
        generalize ys.length = m at *
        clear hm
        go_enter Try.func19, Try.ntmps19
        go_wp2
        go_ret
        exact ⟨ret_int (by have h9 := HT.out; omega), rfl⟩
      · have HT : Hid (foreV 3 xs ys back i = (L + U) / 2) := by show _ = _; rw [HE.out, hT]
        clear HE hT
        generalize foreV 3 xs ys back i = R at *
        generalize xs.length = n at *
        generalize ys.length = m at *
        clear hm
        go_enter Try.func19, Try.ntmps19
        go_wp2
        go_ret
        exact ⟨ret_int (by have h9 := HT.out; omega), rfl⟩
      · have HT : Hid (foreV 4 xs ys back i = paethV L U UL) := by show _ = _; rw [HE.out, hT]
        clear HE hT
        generalize foreV 4 xs ys back i = R at *
        generalize xs.length = n at *
        generalize ys.length = m at *
        clear hm
        have hp := hide (fun w => paeth_c L U UL w hL hU hUL)
        generalize paethV L U UL = pv at *
        go_enter Try.func19, Try.ntmps19
        go_wp2_with fail
        refine (hp.out w).mono ?_
        rintro e w' ⟨rfl, rfl⟩
        go_wp2
        go_ret
        exact ⟨ret_int (by have h9 := HT.out; omega), rfl⟩
  · have e1 : leftV xs back i = 0 := by unfold leftV; rw [if_neg hbi]
    have e2 : leftV ys back i = 0 := by unfold leftV; rw [if_neg hbi]
    have hge : decide ((i : Int) ≥ (back : Int)) = false := by simp; omega
    have hge' : (i : Int) < (back : Int) := by omega
    rw [e1] at hL HE
    rw [e2] at hUL HE
    by_cases hup : ys.length = 0
    · have hy0 : ys = [] := List.eq_nil_of_length_eq_zero hup
      subst hy0
      have z1 : ([] : List Nat).getD i 0 = 0 := rfl
      rw [z1] at HE hU
      clear hx hy e1 e2 hbi hup z1
      rcases tell_num kind 0 0 0 hk with ⟨rfl, hT⟩ | ⟨rfl, hT⟩ | ⟨rfl, hT⟩ | ⟨rfl, hT⟩ | ⟨rfl, hT⟩
      · have HT : Hid (foreV 0 xs [] back i = 0) := by show _ = _; rw [HE.out, hT]
        clear HE hT
        generalize foreV 0 xs [] back i = R at *
        generalize xs.length = n at *
        clear hm
        go_enter Try.func19, Try.ntmps19
        go_wp2
        go_ret
        exact ⟨ret_int (by have h9 := HT.out; omega), rfl⟩
      · have HT : Hid (foreV 1 xs [] back i = 0) := by show _ = _; rw [HE.out, hT]
        clear HE hT
        generalize foreV 1 xs [] back i = R at *
        generalize xs.length = n at *
        clear hm
        go_enter Try.func19, Try.ntmps19
        go_wp2
        go_ret
        exact ⟨ret_int (by have h9 := HT.out; omega), rfl⟩
      · have HT : Hid (foreV 2 xs [] back i = 0) := by show _ = _; rw [HE.out, hT]
        clear HE hT
        generalize foreV 2 xs [] back i = R at *
        generalize xs.length = n at *
        clear hm
        go_enter Try.func19, Try.ntmps19
        go_wp2
        go_ret
        exact ⟨ret_int (by have h9 := HT.out; omega), rfl⟩
      · have HT : Hid (foreV 3 xs [] back i = (0 + 0) / 2) := by show _ = _; rw [HE.out, hT]
        clear HE hT
        generalize foreV 3 xs [] back i = R at *
        generalize xs.length = n at *
        clear hm
        go_enter Try.func19, Try.ntmps19
        go_wp2
        go_ret
        exact ⟨ret_int (by have h9 := HT.out; omega), rfl⟩
      · have HT : Hid (foreV 4 xs [] back i = paethV 0 0 0) := by show _ = _; rw [HE.out, hT]
        clear HE hT
        generalize foreV 4 xs [] back i = R at *
        generalize xs.length = n at *
        clear hm
        have hp := hide (fun w => paeth_c 0 0 0 w hL hU hUL)
        generalize paethV 0 0 0 = pv at *
        go_enter Try.func19, Try.ntmps19
        go_wp2_with fail
        refine (hp.out w).mono ?_
        rintro e w' ⟨rfl, rfl⟩
        go_wp2
        go_ret
        exact ⟨ret_int (by have h9 := HT.out; omega), rfl⟩
    · have i2 : (i : Int) < (ys.length : Int) := by omega
      have m0 : (0 : Int) < (ys.length : Int) := by omega
      obtain ⟨ad2, rfl, hc2⟩ := hy.2 i (by omega)
      clear hx hy e1 e2 hbi hup
      generalize ys.getD i 0 = U at *
      rcases tell_num kind 0 U 0 hk with ⟨rfl, hT⟩ | ⟨rfl, hT⟩ | ⟨rfl, hT⟩ | ⟨rfl, hT⟩ | ⟨rfl, hT⟩
      · have HT : Hid (foreV 0 xs ys back i = 0) := by show _ = _; rw [HE.out, hT]
        clear HE hT
        generalize foreV 0 xs ys back i = R at *
        generalize xs.length = n at *
        generalize ys.length = m at *
        clear hm
        go_enter Try.func19, Try.ntmps19
        go_wp2
        go_ret
        exact ⟨ret_int (by have h9 := HT.out; omega), rfl⟩
      · have HT : Hid (foreV 1 xs ys back i = 0) := by show _ = _; rw [HE.out, hT]
        clear HE hT
        generalize foreV 1 xs ys back i = R at *
        generalize xs.length = n at *
        generalize ys.length = m at *
        clear hm
        go_enter Try.func19, Try.ntmps19
        go_wp2
        go_ret
        exact ⟨ret_int (by have h9 := HT.out; omega), rfl⟩
      · have HT : Hid (foreV 2 xs ys back i = U) := by show _ = _; rw [HE.out, hT]
        clear HE hT
        generalize foreV 2 xs ys back i = R at *
        generalize xs.length = n at *
        generalize ys.length = m at *
        clear hm
        go_enter Try.func19, Try.ntmps19
        go_wp2
        go_ret
        exact ⟨ret_int (by have h9 := HT.out; omega), rfl⟩
      · have HT : Hid (foreV 3 xs ys back i = (0 + U) / 2) := by show _ = _; rw [HE.out, hT]
        clear HE hT
        generalize foreV 3 xs ys back i = R at *
        generalize xs.length = n at *
        generalize ys.length = m at *
        clear hm
        go_enter Try.func19, Try.ntmps19
        go_wp2
        go_ret
        exact ⟨ret_int (by have h9 := HT.out; omega), rfl⟩
      · have HT : Hid (foreV 4 xs ys back i = paethV 0 U 0) := by show _ = _; rw [HE.out, hT]
        clear HE hT
        generalize foreV 4 xs ys back i = R at *
        generalize xs.length = n at *
        generalize ys.length = m at *
        clear hm
        have hp := hide (fun w => paeth_c 0 U 0 w hL hU hUL)
        generalize paethV 0 U 0 = pv at *
        go_enter Try.func19, Try.ntmps19
        go_wp2_with fail
        refine (hp.out w).mono ?_
        rintro e w' ⟨rfl, rfl⟩
        go_wp2
        go_ret
        exact ⟨ret_int (by have h9 := HT.out; omega), rfl⟩
end Go.Proofs.Ytkafhjjdeldkbaa
