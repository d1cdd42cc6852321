/-
  Contracts of copying bytes, of guarding a call.
-/
import Derived.Test.YtlkidddbndkfiaaBa
import Derived.Defers
import Derived.Recover
namespace Go.Proofs.Ytlkidddbndkfiaa
open Go.RowKit

theorem Try.info5 : (Try.prog.info? 5).map (fun i => (i.zero, i.size, i.bytes)) = some (some (.int .u8 0), 1, 1) := by kernel_rfl

theorem nil34 (w : World) (a : Option Addr) (n c n' c' : Nat) : (binOp .eql 34 (.slice a n c) (.slice none n' c')).run Try.prog w = .ok (.bool a.isNone) w := Lib.run_eql_slice_nil w _ _ a n c n' c' Try.underlying34

/-- The cells of bytes. -/
def cellsOf (bs : List Nat) : List Value := bs.map fun b => .int .u8 ((b : Nat) : Int)

theorem cellsOf_length (bs : List Nat) : (cellsOf bs).length = bs.length := by simp [cellsOf]

theorem cellsOf_one (bs : List Nat) : ∀ u ∈ cellsOf bs, u.oneCell' = true := by
  intro u hu
  simp only [cellsOf, List.mem_map] at hu
  obtain ⟨b, _, rfl⟩ := hu
  rfl

set_option maxHeartbeats 400000 in
theorem clone_nil (w : World) : Calls Try.prog 31 #[.slice none 0 0] w fun e w' => e = .returned (.slice none 0 0) ∧ w = w' := by
  have q := nil34
  go_enter Try.func31, Try.ntmps31
  go_wp2
  go_ret
  exact ⟨rfl, rfl⟩

set_option maxHeartbeats 400000 in
theorem clone_some (ad : Addr) (c : Nat) (bs : List Nat) (w : World) (hc : ∀ j u, (cellsOf bs)[j]? = some u → w.cell? (ad.add j) = some u) (hlen : bs.length ≤ 2147483648) :
    Calls Try.prog 31 #[.slice (some ad) bs.length c] w fun e w' => ∃ v, e = .returned v ∧ w'.ownsRow w.heap.size 5 1 v bs.length (cellsOf bs) ∧ Below w.heap.size w w' := by
  obtain ⟨i0, hi, hz0, hz1, hz2⟩ := info_parts Try.info5
  have hnews : ∀ j u, (cellsOf bs)[j]? = some u → (w.alloc (.cells #[] 5)).cell? (ad.add j) = some u := by
    intro j u hu
    have := hc j u hu
    have hb := World.block_lt_of_cell? w _ this
    rw [World.cell?_alloc_lt _ _ _ hb]; exact this
  have hone := cellsOf_one bs
  have hl : (cellsOf bs).length = bs.length * 1 := by simp [cellsOf_length]
  generalize cellsOf bs = news at *
  generalize bs.length = m at *
  have q := nil34
  go_enter Try.func31, Try.ntmps31
  go_wp2_with (at_builtin; refine wpList_append_own _ rfl _ _ 34 rfl w.heap.size 5 i0 (.int .u8 0) 1 1 Try.underlying34 hi hz0 hz1 hz2 rfl (by decide) (.slice (some ⟨w.heap.size, 0, none⟩) 0 0) 0 [] rfl (World.ownsRow_made _ #[] 0 (Nat.le_refl _) (by unfold maxLen; omega) rfl) ad m c news rfl hl hnews hone (by unfold maxLen; omega) (by omega) (by simp) ?_; intro v' w3 hown' hgrow3 hnil3)
  go_ret
  exact ⟨_, rfl, by simpa using hown', Below.grown ((Below.refl _ _).alloc (Nat.le_refl _) _) hgrow3 (by simp) (fun k hk => by simp [Value.ownBlock] at hk; omega)⟩

/-- A slice of bytes that lies in memory. -/
def Lies (w : World) (sv : Value) (bs : List Nat) : Prop :=
  (sv = .slice none 0 0 ∧ bs = []) ∨ ∃ ad c, sv = .slice (some ad) bs.length c ∧ ∀ j u, (cellsOf bs)[j]? = some u → w.cell? (ad.add j) = some u

theorem ownsRow_shape {w : World} {lo : Nat} {e : TypeId} {size : Nat} {v : Value} {n : Nat} {xs : List Value} (h : w.ownsRow lo e size v n xs) : ∃ a c, v = .slice a n c := by
  rcases h.2 with ⟨h, hn⟩ | ⟨g, cap, cur, hv, _⟩
  · exact ⟨none, 0, by rw [h, hn]⟩
  · exact ⟨_, _, hv⟩

theorem clone_c (sv : Value) (bs : List Nat) (w : World) (h : Lies w sv bs) (hlen : bs.length ≤ 2147483648) :
    Calls Try.prog 31 #[sv] w fun e w' => ∃ a c, e = .returned (.slice a bs.length c) ∧ w'.ownsRow w.heap.size 5 1 (.slice a bs.length c) bs.length (cellsOf bs) ∧ Below w.heap.size w w' := by
  rcases h with ⟨rfl, rfl⟩ | ⟨ad, c, rfl, hc⟩
  · exact (clone_nil w).mono fun e w' ⟨he, hw⟩ => ⟨none, 0, he, hw ▸ World.ownsRow_nil _ _ _ _, hw ▸ Below.refl _ _⟩
  · exact (clone_some ad c bs w hc hlen).mono fun e w' ⟨v, he, ho, hb⟩ => by
      obtain ⟨a, c, rfl⟩ := ownsRow_shape ho
      exact ⟨a, c, he, ho, hb⟩

theorem catch_panicking (p : Addr) (x : Bool) (u : TypeId) (pv : Value) (older : List PanicEntry) (w : World) (hc : w.cell? p = some (.bool x)) (hz : w.frozen? p = false) :
    CallsD Try.prog 32 #[.pointer (some p)] (.panicking ({ v := .iface u pv, recovered := false } :: older)) w fun e u' w' =>
      e = .returned (.tuple #[]) ∧ u' = .panicking ({ v := .iface u pv, recovered := true } :: older) ∧ w' = w.setCell p (.bool false) := by
  refine callsD_of_wpS Try.func32 rfl fun c₀ cs hu => ?_
  apply wpS_seq
  apply wpS_region
  simp [wpOpsS, go_sem, recoverD, hu, Try.ntmps32, Exit.thenS]
  refine wpS_cond (t := true) (by simp [Act.eval, Array.replicate]) ?_
  simp only [if_true]
  apply wpS_region
  simp [wpOpsS, go_sem, hc, hz, bodyPostS, results, Try.results32]

theorem catch_idle (p : Addr) (w : World) :
    CallsD Try.prog 32 #[.pointer (some p)] .returning w fun e u' w' => e = .returned (.tuple #[]) ∧ u' = .returning ∧ w' = w := by
  refine callsD_of_wpS Try.func32 rfl fun c₀ cs hu => ?_
  apply wpS_seq
  apply wpS_region
  simp [wpOpsS, go_sem, recoverD, hu, Try.ntmps32, Exit.thenS]
  refine wpS_cond (t := false) (by simp [Act.eval, Array.replicate]) ?_
  simp only [Bool.false_eq_true, if_false]
  refine wpS_of_wp (wp_skip ?_)
  cases c₀
  simp_all [bodyPostS, results, Try.results32]

theorem nilFunc1 (w : World) (fn : Fn) (a b : Array Value) : (binOp .eql 1 (.func fn a b) .nilFunc).run Try.prog w = .ok (.bool false) w := by kernel_rfl

set_option maxHeartbeats 800000 in
theorem guard_c (f : FuncId) (cap : Array Value) (w : World) (Q : Bool → World → Prop) (hcf : ∀ W, (callFunc f cap).run Try.prog W = .ok (.enter f cap) W)
    (h : Calls Try.prog f cap (w.alloc (.cells #[.bool false] 4)) fun e w' => (e = .returned (.tuple #[]) ∧ Q true w') ∨ ((∃ u pv, e = .panicked [{ v := .iface u pv, recovered := false }]) ∧ Q false w'))
    (hQ : ∀ b w', Q b w' → w'.heap[w.heap.size]? = some (.cells #[.bool false] 4 (0, 0))) :
    Calls Try.prog 15 #[.func (.func f) #[] cap] w fun e w' => ∃ b w1, e = .returned (.bool b) ∧ Q b w1 ∧ w' = w1.setCell ⟨w.heap.size, 0, none⟩ (.bool b) := by
  have hmf : ∀ (fn : Fn) (first cap : Array Value) (w : World), (Instr.makeFunc fn first cap).run Try.prog w = .ok (.func fn first cap) w := fun _ _ _ _ => rfl
  have hn := nilFunc1
  have H := hide h
  have HQ := hide hQ
  clear h hQ
  go_enter_defers Try.func15, Try.ntmps15
  go_wp2_with fail
  refine H.out.mono ?_
  rintro e w1 (⟨rfl, hq⟩ | ⟨⟨u, pv, rfl⟩, hq⟩)
  · have hc0 : w1.cell? ⟨w.heap.size, 0, none⟩ = some (.bool false) := by simp [World.cell?, HQ.out _ _ hq]
    have hz0 : w1.frozen? ⟨w.heap.size, 0, none⟩ = false := by simp [World.frozen?, HQ.out _ _ hq]
    go_wp2
    refine leaves_cons (f := 32) (args := #[.pointer (some ⟨w.heap.size, 0, none⟩)]) (by simp) (by simp [go_sem]) ?_
    refine (catch_idle ⟨w.heap.size, 0, none⟩ _).mono ?_
    rintro e u' w'' ⟨rfl, rfl, rfl⟩
    have hr : (w1.setCell ⟨w.heap.size, 0, none⟩ (.bool true)).cell? ⟨w.heap.size, 0, none⟩ = some (.bool true) := World.cell?_setCell_same _ _ _ hc0
    simp [Leaves, settle, results, Try.results15, go_sem, hr]
    exact ⟨w1, hq, rfl⟩
  · have hc0 : w1.cell? ⟨w.heap.size, 0, none⟩ = some (.bool false) := by simp [World.cell?, HQ.out _ _ hq]
    have hz0 : w1.frozen? ⟨w.heap.size, 0, none⟩ = false := by simp [World.frozen?, HQ.out _ _ hq]
    go_wp2
    refine leaves_cons (f := 32) (args := #[.pointer (some ⟨w.heap.size, 0, none⟩)]) (by simp) (by simp [go_sem]) ?_
    refine (catch_panicking ⟨w.heap.size, 0, none⟩ false u pv [] _ hc0 hz0).mono ?_
    rintro e u' w'' ⟨rfl, rfl, rfl⟩
    have hr : (w1.setCell ⟨w.heap.size, 0, none⟩ (.bool false)).cell? ⟨w.heap.size, 0, none⟩ = some (.bool false) := World.cell?_setCell_same _ _ _ hc0
    simp [Leaves, settle, results, Try.results15, go_sem, hr]
    exact ⟨w1, hq, rfl⟩
end Go.Proofs.Ytlkidddbndkfiaa
