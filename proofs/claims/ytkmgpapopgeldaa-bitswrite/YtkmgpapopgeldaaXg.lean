import Derived.Test.YtkmgpapopgeldaaXe
namespace Go.Proofs.Ytkmgpapopgeldaa
open Go.RowKit

/-- A block that lies in memory from N on and holds such an object. -/
def Has (N : Nat) (w : World) (b : Nat) (P : Obj → Prop) : Prop := N ≤ b ∧ ∃ o, w.heap[b]? = some o ∧ P o
def Low0 (o : Obj) : Prop := ∃ v pos, o = .cells #[v, .int .i64 pos, .slice none 0 0, .int .i64 0] 56 (0, 0)
def High0 (o : Obj) : Prop := ∃ v pos, o = .cells #[v, .int .i64 pos, .slice none 0 0, .int .i64 0] 63 (0, 0)
def Pk0 (hb : Bool) (o : Obj) : Prop := o = .cells #[.slice none 0 0, .bool hb] 45 (0, 0)
def Ptr (T : TypeId) (v : Value) (o : Obj) : Prop := o = .cells #[v] T (0, 0)

section
variable {N : Nat} {w w' : World} {b p : Nat} {P P' : Obj → Prop}
theorem Has.keep (h : Has N w b P) (f : Fr (fun _ => False) w w') : Has N w' b P := by
  obtain ⟨h1, o, h2, h3⟩ := h
  exact ⟨h1, o, by rw [f.block b (lt_of h2) (fun h => h)]; exact h2, h3⟩
theorem Has.ne (h : Has N w b P) (h' : Has N w p P') (hd : ∀ o, P o → P' o → False) : b ≠ p := by
  rintro rfl
  obtain ⟨h1, o, h2, h3⟩ := h
  obtain ⟨h1', o', h2', h3'⟩ := h'
  rw [h2] at h2'
  cases h2'
  exact hd o h3 h3'
theorem Has.set (h : Has N w b P) (h' : Has N w p P') (hd : ∀ o, P o → P' o → False) (v : Value) : Has N (w.setCell ⟨p, 0, none⟩ v) b P := by
  have hn := h.ne h' hd
  obtain ⟨h1, o, h2, h3⟩ := h
  exact ⟨h1, o, by rw [Below.heap_setCell _ _ _ _ hn]; exact h2, h3⟩
theorem Has.put {T : TypeId} {u : Value} (h : Has N w p (Ptr T u)) (v : Value) : Has N (w.setCell ⟨p, 0, none⟩ v) p (Ptr T v) := by
  obtain ⟨h1, o, h2, h3⟩ := h
  subst h3
  exact ⟨h1, _, heap_setCell_one (u := u) _ h2, rfl⟩
theorem Has.heap {T : TypeId} {u : Value} (h : Has N w p (Ptr T u)) : w.heap[p]? = some (.cells #[u] T) := by
  obtain ⟨h1, o, h2, h3⟩ := h
  subst h3
  exact h2
theorem has_new (o : Obj) (h : P o) (hN : N ≤ w.heap.size) : Has N (w.alloc o) w.heap.size P := ⟨hN, o, heap_alloc_new _ _, h⟩
theorem has_low {A : Nat} (h : Rd 56 w' w.heap.size w'.heap.size A [] 0 (.slice none 0 0) 0) (hN : N ≤ w.heap.size) : Has N w' A Low0 := by
  obtain ⟨v, h1, _⟩ := h.eobj
  exact ⟨Nat.le_trans hN h.elo, _, h1, _, _, rfl⟩
theorem has_high {A : Nat} (h : Rd 63 w' w.heap.size w'.heap.size A [] 0 (.slice none 0 0) 0) (hN : N ≤ w.heap.size) : Has N w' A High0 := by
  obtain ⟨v, h1, _⟩ := h.eobj
  exact ⟨Nat.le_trans hN h.elo, _, h1, _, _, rfl⟩
theorem frG {a b c : World} (h : Fr (fun k => N ≤ k) a b) (f : Fr (fun _ => False) b c) : Fr (fun k => N ≤ k) a c := (h.trans f).mono fun k _ e => by
  rcases e with e | e
  · exact e
  · exact e.elim
theorem frS {a b : World} (h : Fr (fun k => N ≤ k) a b) (hp : N ≤ p) (v : Value) : Fr (fun k => N ≤ k) a (b.setCell ⟨p, 0, none⟩ v) := (h.trans (Fr.of_setCell b ⟨p, 0, none⟩ v)).mono fun k _ e => by
  rcases e with e | e
  · exact e
  · have : k = p := e
    omega
theorem s_of {w1 : World} {p3 : Nat} {hb : Bool} (hc : w1.heap[p3]? = some (.cells #[.bool hb] 4)) (f : Fr (fun k => w1.heap.size ≤ k) w1 w) : w.cell? ⟨p3, 0, none⟩ = some (.bool hb) := by
  have := lt_of hc
  exact cell_of (o := 0) ((f.block p3 this (by omega)).trans hc) rfl
end
theorem d_lp (T : TypeId) (v : Value) (o : Obj) (h : Low0 o) (h' : Ptr T v o) : False := by
  obtain ⟨_, _, rfl⟩ := h
  simp [Ptr] at h'
theorem d_hp (T : TypeId) (v : Value) (o : Obj) (h : High0 o) (h' : Ptr T v o) : False := by
  obtain ⟨_, _, rfl⟩ := h
  simp [Ptr] at h'
theorem d_kp (hb : Bool) (T : TypeId) (v : Value) (o : Obj) (h : Pk0 hb o) (h' : Ptr T v o) : False := by
  unfold Pk0 at h
  subst h
  simp [Ptr] at h'
theorem d_pp (u v : Value) (o : Obj) (h : Ptr 40 u o) (h' : Ptr 25 v o) : False := by
  unfold Ptr at h
  subst h
  simp [Ptr] at h'
theorem d_pp' (u v : Value) (o : Obj) (h : Ptr 25 u o) (h' : Ptr 40 v o) : False := d_pp v u o h' h
theorem d_lh (o : Obj) (h : Low0 o) (h' : High0 o) : False := by
  obtain ⟨_, _, rfl⟩ := h
  obtain ⟨_, _, h'⟩ := h'
  simp at h'
theorem d_lk (hb : Bool) (o : Obj) (h : Low0 o) (h' : Pk0 hb o) : False := by
  obtain ⟨_, _, rfl⟩ := h
  simp [Pk0] at h'
theorem d_hk (hb : Bool) (o : Obj) (h : High0 o) (h' : Pk0 hb o) : False := by
  obtain ⟨_, _, rfl⟩ := h
  simp [Pk0] at h'

theorem W0.of {hb : Bool} {w0 w1 w : World} {p3 p5 p6 A B K : Nat} (hc : w1.heap[p3]? = some (.cells #[.bool hb] 4)) (f0 : Fr (fun _ => False) w0 w1) (h3 : w0.heap.size ≤ p3) (f : Fr (fun k => w1.heap.size ≤ k) w1 w)
    (hA : Has w1.heap.size w A Low0) (hB : Has w1.heap.size w B High0) (hK : Has w1.heap.size w K (Pk0 hb)) (h5 : Has w1.heap.size w p5 (Ptr 25 (.pointer (some ⟨A, 0, none⟩)))) (h6 : Has w1.heap.size w p6 (Ptr 40 (.pointer (some ⟨B, 0, none⟩)))) : W0 hb w0 p3 p5 p6 A B K w := by
  have l3 := lt_of hc
  have n1 := h5.ne hA (fun o a b => d_lp _ _ o b a)
  have n2 := h5.ne hB (fun o a b => d_hp _ _ o b a)
  have n3 := h5.ne hK (fun o a b => d_kp _ _ _ o b a)
  have n4 := h6.ne hA (fun o a b => d_lp _ _ o b a)
  have n5 := h6.ne hB (fun o a b => d_hp _ _ o b a)
  have n6 := h6.ne hK (fun o a b => d_kp _ _ _ o b a)
  have n7 := hA.ne hB d_lh
  have n8 := hA.ne hK (d_lk hb)
  have n9 := hB.ne hK (d_hk hb)
  have e5 := h5.heap
  have e6 := h6.heap
  obtain ⟨lA, oA, eA, vA, posA, rfl⟩ := hA
  obtain ⟨lB, oB, eB, vB, posB, rfl⟩ := hB
  obtain ⟨lK, oK, eK, rK⟩ := hK
  unfold Pk0 at rK
  subst rK
  have l5 := h5.1
  have l6 := h6.1
  have s0 := f0.size
  refine ⟨by rw [f.block p3 l3 (by omega)]; exact hc, e5, e6, wr_zero 56 w A _ _ eA, wr_zero 63 w B _ _ eB, pk_zero eK, (f0.trans f).mono ?_, by omega, by omega⟩
  intro k hk e
  rcases e with e | e
  · exact e
  · omega

set_option quotPrecheck false in
local notation "OPS5" => (#[{ dst := some 19, op := Op.call { callee := Callee.value (Operand.func 10), args := #[Operand.const (Value.slice none 0 0)], argTypes := #[22] }, type := 25, pos := "law.go:97", after := #[], guard := none }, { dst := some 20, op := Op.call { callee := Callee.value (Operand.func 21), args := #[Operand.const (Value.slice none 0 0)], argTypes := #[22] }, type := 40, pos := "law.go:97", after := #[{ on := 0, ground := Ground.chain }], guard := none }, { dst := some 21, op := Op.load 4 (Operand.tmp 3), type := 4, pos := "law.go:97", after := #[{ on := 8, ground := Ground.gcOnly Departure.lateStores }], guard := none }, { dst := some 22, op := Op.build 45 #[(1, Operand.tmp 21)], type := 45, pos := "law.go:97", after := #[{ on := 2, ground := Ground.data }, { on := 8, ground := Ground.gcOnly Departure.lateStores }], guard := none }, { dst := some 23, op := Op.box 45 (Operand.tmp 22), type := 43, pos := "law.go:97", after := #[{ on := 3, ground := Ground.data }, { on := 8, ground := Ground.gcOnly Departure.lateStores }], guard := none }, { dst := some 5, op := Op.alloc 25, type := 0, pos := "law.go:97", after := #[], guard := none }, { dst := some 6, op := Op.alloc 40, type := 0, pos := "law.go:97", after := #[], guard := none }, { dst := none, op := Op.store 25 (Operand.tmp 5) (Operand.tmp 19), type := 0, pos := "law.go:97", after := #[{ on := 5, ground := Ground.data }, { on := 0, ground := Ground.data }, { on := 1, ground := Ground.chain }, { on := 0, ground := Ground.phase }, { on := 1, ground := Ground.textOnly Departure.lateStoresUnsure }, { on := 2, ground := Ground.textOnly Departure.lateStores }, { on := 3, ground := Ground.textOnly Departure.lateStores }, { on := 4, ground := Ground.textOnly Departure.lateStores }, { on := 5, ground := Ground.phase }, { on := 6, ground := Ground.phase }], guard := none }, { dst := none, op := Op.store 40 (Operand.tmp 6) (Operand.tmp 20), type := 0, pos := "law.go:97", after := #[{ on := 6, ground := Ground.data }, { on := 1, ground := Ground.data }, { on := 7, ground := Ground.chain }, { on := 0, ground := Ground.phase }, { on := 1, ground := Ground.phase }, { on := 2, ground := Ground.textOnly Departure.lateStores }, { on := 3, ground := Ground.textOnly Departure.lateStores }, { on := 4, ground := Ground.textOnly Departure.lateStores }, { on := 5, ground := Ground.phase }, { on := 6, ground := Ground.phase }, { on := 7, ground := Ground.phase }], guard := none }, { dst := some 7, op := Op.assign (Operand.tmp 23), type := 43, pos := "law.go:97", after := #[{ on := 4, ground := Ground.data }, { on := 8, ground := Ground.chain }, { on := 0, ground := Ground.phase }, { on := 1, ground := Ground.phase }, { on := 2, ground := Ground.phase }, { on := 3, ground := Ground.phase }, { on := 4, ground := Ground.phase }, { on := 5, ground := Ground.phase }, { on := 6, ground := Ground.phase }, { on := 7, ground := Ground.phase }, { on := 8, ground := Ground.phase }], guard := none }] : Array Oper)
set_option maxHeartbeats 12800000 in
set_option maxRecDepth 100000 in
theorem region5 (hb : Bool) (w0 w1 : World) (p3 : Nat) (hc : w1.heap[p3]? = some (.cells #[.bool hb] 4)) (f0 : Fr (fun _ => False) w0 w1) (h3 : w0.heap.size ≤ p3) (Q : Exit → Act → World → Prop) {t0 t1 t2 t4 t8 t9 t10 t11 t12 t13 t14 t15 t16 t17 t18 t24 t25 t26 t27 t28 t29 t30 t31 t32 t33 t34 t35 t36 t37 t38 t39 t40 t41 t42 t43 t44 t45 t46 t47 t48 t49 t50 t51 t52 t53 t54 t55 t56 t57 t58 t59 t60 t61 t62 t63 t64 t65 t66 t67 t68 t69 t70 t71 t72 : Value}
    (hQ : ∀ (A B K p5 p6 : Nat) (wF : World), W0 hb w0 p3 p5 p6 A B K wF → Q .normal ({ tmps := #[t0, t1, t2, (.pointer (some ⟨p3, 0, none⟩)), t4, (.pointer (some ⟨p5, 0, none⟩)), (.pointer (some ⟨p6, 0, none⟩)), (.pointer (some ⟨K, 0, none⟩)), t8, t9, t10, t11, t12, t13, t14, t15, t16, t17, t18, (.pointer (some ⟨A, 0, none⟩)), (.pointer (some ⟨B, 0, none⟩)), (.bool hb), (.agg #[.slice none 0 0, .bool hb]), (.pointer (some ⟨K, 0, none⟩)), t24, t25, t26, t27, t28, t29, t30, t31, t32, t33, t34, t35, t36, t37, t38, t39, t40, t41, t42, t43, t44, t45, t46, t47, t48, t49, t50, t51, t52, t53, t54, t55, t56, t57, t58, t59, t60, t61, t62, t63, t64, t65, t66, t67, t68, t69, t70, t71, t72], defers := [] } : Act) wF) :
    wpAnyH Try.prog Region.Mode.any OPS5 (NoPanic Q) (fun w' => w'.cell? ⟨p3, 0, none⟩ = some (.bool hb)) 10 (Array.replicate 10 false) ({ tmps := #[t0, t1, t2, (.pointer (some ⟨p3, 0, none⟩)), t4, undef, undef, undef, t8, t9, t10, t11, t12, t13, t14, t15, t16, t17, t18, undef, undef, undef, undef, undef, t24, t25, t26, t27, t28, t29, t30, t31, t32, t33, t34, t35, t36, t37, t38, t39, t40, t41, t42, t43, t44, t45, t46, t47, t48, t49, t50, t51, t52, t53, t54, t55, t56, t57, t58, t59, t60, t61, t62, t63, t64, t65, t66, t67, t68, t69, t70, t71, t72], defers := [] } : Act) w1.drew := by
  have Hc := hide hc
  have F0 := hide f0
  have HQ := hide hQ
  clear hc f0 hQ
  have st_21112 : Hid (∀ (wv : World) (A B K p5 p6 : Nat), Fr (fun k => w1.heap.size ≤ k) w1 wv → Has w1.heap.size wv A Low0 → Has w1.heap.size wv B High0 → Has w1.heap.size wv K (Pk0 hb) → Has w1.heap.size wv p5 (Ptr 25 (.pointer (some ⟨A, 0, none⟩))) → Has w1.heap.size wv p6 (Ptr 40 (.pointer (some ⟨B, 0, none⟩))) → wpAnyH Try.prog Region.Mode.any OPS5 (NoPanic Q) (fun w' => w'.cell? ⟨p3, 0, none⟩ = some (.bool hb)) 1 #[true, true, true, true, true, true, true, true, true, false] ({ tmps := #[t0, t1, t2, (.pointer (some ⟨p3, 0, none⟩)), t4, (.pointer (some ⟨p5, 0, none⟩)), (.pointer (some ⟨p6, 0, none⟩)), undef, t8, t9, t10, t11, t12, t13, t14, t15, t16, t17, t18, (.pointer (some ⟨A, 0, none⟩)), (.pointer (some ⟨B, 0, none⟩)), (.bool hb), (.agg #[.slice none 0 0, .bool hb]), (.pointer (some ⟨K, 0, none⟩)), t24, t25, t26, t27, t28, t29, t30, t31, t32, t33, t34, t35, t36, t37, t38, t39, t40, t41, t42, t43, t44, t45, t46, t47, t48, t49, t50, t51, t52, t53, t54, t55, t56, t57, t58, t59, t60, t61, t62, t63, t64, t65, t66, t67, t68, t69, t70, t71, t72], defers := [] } : Act) wv) := by
    intro wv A B K p5 p6 Fv' hA' hB' hK' h5' h6'
    have Fv := hide Fv'
    have hA := hide hA'
    have hB := hide hB'
    have hKk := hide hK'
    have h5 := hide h5'
    have h6 := hide h6'
    have hS := s_of Hc.out Fv'
    clear Fv' hA' hB' hK' h5' h6'
    refine wpAnyH_ready (rs := [9]) (by kernel_rfl) (by simp) ?_
    refine (AllReadyH.cons rfl (fun Kx hK => ?_) AllReadyH.nil)
    · skip
      try simp only [List.getElem_toArray, List.getElem_cons_succ, List.getElem_cons_zero]
      go_simp
      refine hK.out _ _ hS (fun _ => ?_)
      refine wpAnyH_done (by kernel_rfl) ?_ _
      exact NoPanic.normal (HQ.out A B K p5 p6 wv (W0.of Hc.out F0.out h3 Fv.out hA.out hB.out hKk.out h5.out h6.out))
  have st_20112 : Hid (∀ (wv : World) (A B p5 p6 : Nat), Fr (fun k => w1.heap.size ≤ k) w1 wv → Has w1.heap.size wv A Low0 → Has w1.heap.size wv B High0 → Has w1.heap.size wv p5 (Ptr 25 (.pointer (some ⟨A, 0, none⟩))) → Has w1.heap.size wv p6 (Ptr 40 (.pointer (some ⟨B, 0, none⟩))) → wpAnyH Try.prog Region.Mode.any OPS5 (NoPanic Q) (fun w' => w'.cell? ⟨p3, 0, none⟩ = some (.bool hb)) 2 #[true, true, true, true, false, true, true, true, true, false] ({ tmps := #[t0, t1, t2, (.pointer (some ⟨p3, 0, none⟩)), t4, (.pointer (some ⟨p5, 0, none⟩)), (.pointer (some ⟨p6, 0, none⟩)), undef, t8, t9, t10, t11, t12, t13, t14, t15, t16, t17, t18, (.pointer (some ⟨A, 0, none⟩)), (.pointer (some ⟨B, 0, none⟩)), (.bool hb), (.agg #[.slice none 0 0, .bool hb]), undef, t24, t25, t26, t27, t28, t29, t30, t31, t32, t33, t34, t35, t36, t37, t38, t39, t40, t41, t42, t43, t44, t45, t46, t47, t48, t49, t50, t51, t52, t53, t54, t55, t56, t57, t58, t59, t60, t61, t62, t63, t64, t65, t66, t67, t68, t69, t70, t71, t72], defers := [] } : Act) wv) := by
    intro wv A B p5 p6 Fv' hA' hB' h5' h6'
    have Fv := hide Fv'
    have hA := hide hA'
    have hB := hide hB'
    have h5 := hide h5'
    have h6 := hide h6'
    have hS := s_of Hc.out Fv'
    clear Fv' hA' hB' h5' h6'
    refine wpAnyH_ready (rs := [4]) (by kernel_rfl) (by simp) ?_
    refine (AllReadyH.cons rfl (fun Kx hK => ?_) AllReadyH.nil)
    · skip
      try simp only [List.getElem_toArray, List.getElem_cons_succ, List.getElem_cons_zero]
      go_simp
      refine hK.out _ _ (s_of Hc.out (frG Fv.out (Fr.of_alloc wv (.cells #[.slice none 0 0, .bool hb] 45)))) (fun _ => ?_)
      exact st_21112.out _ A B wv.heap.size p5 p6 (frG Fv.out (Fr.of_alloc wv (.cells #[.slice none 0 0, .bool hb] 45))) (hA.out.keep (Fr.of_alloc wv (.cells #[.slice none 0 0, .bool hb] 45))) (hB.out.keep (Fr.of_alloc wv (.cells #[.slice none 0 0, .bool hb] 45))) (has_new _ rfl Fv.out.size) (h5.out.keep (Fr.of_alloc wv (.cells #[.slice none 0 0, .bool hb] 45))) (h6.out.keep (Fr.of_alloc wv (.cells #[.slice none 0 0, .bool hb] 45)))
  have st_21111 : Hid (∀ (wv : World) (A B K p5 p6 : Nat), Fr (fun k => w1.heap.size ≤ k) w1 wv → Has w1.heap.size wv A Low0 → Has w1.heap.size wv B High0 → Has w1.heap.size wv K (Pk0 hb) → Has w1.heap.size wv p5 (Ptr 25 (.pointer (some ⟨A, 0, none⟩))) → Has w1.heap.size wv p6 (Ptr 40 (.pointer none)) → wpAnyH Try.prog Region.Mode.any OPS5 (NoPanic Q) (fun w' => w'.cell? ⟨p3, 0, none⟩ = some (.bool hb)) 2 #[true, true, true, true, true, true, true, true, false, false] ({ tmps := #[t0, t1, t2, (.pointer (some ⟨p3, 0, none⟩)), t4, (.pointer (some ⟨p5, 0, none⟩)), (.pointer (some ⟨p6, 0, none⟩)), undef, t8, t9, t10, t11, t12, t13, t14, t15, t16, t17, t18, (.pointer (some ⟨A, 0, none⟩)), (.pointer (some ⟨B, 0, none⟩)), (.bool hb), (.agg #[.slice none 0 0, .bool hb]), (.pointer (some ⟨K, 0, none⟩)), t24, t25, t26, t27, t28, t29, t30, t31, t32, t33, t34, t35, t36, t37, t38, t39, t40, t41, t42, t43, t44, t45, t46, t47, t48, t49, t50, t51, t52, t53, t54, t55, t56, t57, t58, t59, t60, t61, t62, t63, t64, t65, t66, t67, t68, t69, t70, t71, t72], defers := [] } : Act) wv) := by
    intro wv A B K p5 p6 Fv' hA' hB' hK' h5' h6'
    have Fv := hide Fv'
    have hA := hide hA'
    have hB := hide hB'
    have hKk := hide hK'
    have h5 := hide h5'
    have h6 := hide h6'
    have c6 := cell_of (o := 0) h6'.heap rfl
    have z6 := frozen_of (o := 0) h6'.heap
    have hS := s_of Hc.out Fv'
    clear Fv' hA' hB' hK' h5' h6'
    refine wpAnyH_ready (rs := [8]) (by kernel_rfl) (by simp) ?_
    refine (AllReadyH.cons rfl (fun Kx hK => ?_) AllReadyH.nil)
    · skip
      try simp only [List.getElem_toArray, List.getElem_cons_succ, List.getElem_cons_zero]
      go_simp
      refine hK.out _ _ (s_of Hc.out (frS Fv.out h6.out.1 _)) (fun _ => ?_)
      exact st_21112.out _ A B K p5 p6 (frS Fv.out h6.out.1 _) (hA.out.set h6.out (d_lp _ _) _) (hB.out.set h6.out (d_hp _ _) _) (hKk.out.set h6.out (d_kp _ _ _) _) (h5.out.set h6.out (d_pp' _ _) _) (h6.out.put _)
  have st_20111 : Hid (∀ (wv : World) (A B p5 p6 : Nat), Fr (fun k => w1.heap.size ≤ k) w1 wv → Has w1.heap.size wv A Low0 → Has w1.heap.size wv B High0 → Has w1.heap.size wv p5 (Ptr 25 (.pointer (some ⟨A, 0, none⟩))) → Has w1.heap.size wv p6 (Ptr 40 (.pointer none)) → wpAnyH Try.prog Region.Mode.any OPS5 (NoPanic Q) (fun w' => w'.cell? ⟨p3, 0, none⟩ = some (.bool hb)) 3 #[true, true, true, true, false, true, true, true, false, false] ({ tmps := #[t0, t1, t2, (.pointer (some ⟨p3, 0, none⟩)), t4, (.pointer (some ⟨p5, 0, none⟩)), (.pointer (some ⟨p6, 0, none⟩)), undef, t8, t9, t10, t11, t12, t13, t14, t15, t16, t17, t18, (.pointer (some ⟨A, 0, none⟩)), (.pointer (some ⟨B, 0, none⟩)), (.bool hb), (.agg #[.slice none 0 0, .bool hb]), undef, t24, t25, t26, t27, t28, t29, t30, t31, t32, t33, t34, t35, t36, t37, t38, t39, t40, t41, t42, t43, t44, t45, t46, t47, t48, t49, t50, t51, t52, t53, t54, t55, t56, t57, t58, t59, t60, t61, t62, t63, t64, t65, t66, t67, t68, t69, t70, t71, t72], defers := [] } : Act) wv) := by
    intro wv A B p5 p6 Fv' hA' hB' h5' h6'
    have Fv := hide Fv'
    have hA := hide hA'
    have hB := hide hB'
    have h5 := hide h5'
    have h6 := hide h6'
    have c6 := cell_of (o := 0) h6'.heap rfl
    have z6 := frozen_of (o := 0) h6'.heap
    have hS := s_of Hc.out Fv'
    clear Fv' hA' hB' h5' h6'
    refine wpAnyH_ready (rs := [4, 8]) (by kernel_rfl) (by simp) ?_
    refine (AllReadyH.cons rfl (fun Kx hK => ?_) (AllReadyH.cons rfl (fun Kx hK => ?_) AllReadyH.nil))
    · skip
      try simp only [List.getElem_toArray, List.getElem_cons_succ, List.getElem_cons_zero]
      go_simp
      refine hK.out _ _ (s_of Hc.out (frG Fv.out (Fr.of_alloc wv (.cells #[.slice none 0 0, .bool hb] 45)))) (fun _ => ?_)
      exact st_21111.out _ A B wv.heap.size p5 p6 (frG Fv.out (Fr.of_alloc wv (.cells #[.slice none 0 0, .bool hb] 45))) (hA.out.keep (Fr.of_alloc wv (.cells #[.slice none 0 0, .bool hb] 45))) (hB.out.keep (Fr.of_alloc wv (.cells #[.slice none 0 0, .bool hb] 45))) (has_new _ rfl Fv.out.size) (h5.out.keep (Fr.of_alloc wv (.cells #[.slice none 0 0, .bool hb] 45))) (h6.out.keep (Fr.of_alloc wv (.cells #[.slice none 0 0, .bool hb] 45)))
    · skip
      try simp only [List.getElem_toArray, List.getElem_cons_succ, List.getElem_cons_zero]
      go_simp
      refine hK.out _ _ (s_of Hc.out (frS Fv.out h6.out.1 _)) (fun _ => ?_)
      exact st_20112.out _ A B p5 p6 (frS Fv.out h6.out.1 _) (hA.out.set h6.out (d_lp _ _) _) (hB.out.set h6.out (d_hp _ _) _) (h5.out.set h6.out (d_pp' _ _) _) (h6.out.put _)
  have st_21110 : Hid (∀ (wv : World) (A B K p5 p6 : Nat), Fr (fun k => w1.heap.size ≤ k) w1 wv → Has w1.heap.size wv A Low0 → Has w1.heap.size wv B High0 → Has w1.heap.size wv K (Pk0 hb) → Has w1.heap.size wv p5 (Ptr 25 (.pointer none)) → Has w1.heap.size wv p6 (Ptr 40 (.pointer none)) → wpAnyH Try.prog Region.Mode.any OPS5 (NoPanic Q) (fun w' => w'.cell? ⟨p3, 0, none⟩ = some (.bool hb)) 3 #[true, true, true, true, true, true, true, false, false, false] ({ tmps := #[t0, t1, t2, (.pointer (some ⟨p3, 0, none⟩)), t4, (.pointer (some ⟨p5, 0, none⟩)), (.pointer (some ⟨p6, 0, none⟩)), undef, t8, t9, t10, t11, t12, t13, t14, t15, t16, t17, t18, (.pointer (some ⟨A, 0, none⟩)), (.pointer (some ⟨B, 0, none⟩)), (.bool hb), (.agg #[.slice none 0 0, .bool hb]), (.pointer (some ⟨K, 0, none⟩)), t24, t25, t26, t27, t28, t29, t30, t31, t32, t33, t34, t35, t36, t37, t38, t39, t40, t41, t42, t43, t44, t45, t46, t47, t48, t49, t50, t51, t52, t53, t54, t55, t56, t57, t58, t59, t60, t61, t62, t63, t64, t65, t66, t67, t68, t69, t70, t71, t72], defers := [] } : Act) wv) := by
    intro wv A B K p5 p6 Fv' hA' hB' hK' h5' h6'
    have Fv := hide Fv'
    have hA := hide hA'
    have hB := hide hB'
    have hKk := hide hK'
    have h5 := hide h5'
    have h6 := hide h6'
    have c5 := cell_of (o := 0) h5'.heap rfl
    have z5 := frozen_of (o := 0) h5'.heap
    have c6 := cell_of (o := 0) h6'.heap rfl
    have z6 := frozen_of (o := 0) h6'.heap
    have hS := s_of Hc.out Fv'
    clear Fv' hA' hB' hK' h5' h6'
    refine wpAnyH_ready (rs := [7]) (by kernel_rfl) (by simp) ?_
    refine (AllReadyH.cons rfl (fun Kx hK => ?_) AllReadyH.nil)
    · skip
      try simp only [List.getElem_toArray, List.getElem_cons_succ, List.getElem_cons_zero]
      go_simp
      refine hK.out _ _ (s_of Hc.out (frS Fv.out h5.out.1 _)) (fun _ => ?_)
      exact st_21111.out _ A B K p5 p6 (frS Fv.out h5.out.1 _) (hA.out.set h5.out (d_lp _ _) _) (hB.out.set h5.out (d_hp _ _) _) (hKk.out.set h5.out (d_kp _ _ _) _) (h5.out.put _) (h6.out.set h5.out (d_pp _ _) _)
  have st_11110 : Hid (∀ (wv : World) (A K p5 p6 : Nat), Fr (fun k => w1.heap.size ≤ k) w1 wv → Has w1.heap.size wv A Low0 → Has w1.heap.size wv K (Pk0 hb) → Has w1.heap.size wv p5 (Ptr 25 (.pointer none)) → Has w1.heap.size wv p6 (Ptr 40 (.pointer none)) → wpAnyH Try.prog Region.Mode.any OPS5 (NoPanic Q) (fun w' => w'.cell? ⟨p3, 0, none⟩ = some (.bool hb)) 4 #[true, false, true, true, true, true, true, false, false, false] ({ tmps := #[t0, t1, t2, (.pointer (some ⟨p3, 0, none⟩)), t4, (.pointer (some ⟨p5, 0, none⟩)), (.pointer (some ⟨p6, 0, none⟩)), undef, t8, t9, t10, t11, t12, t13, t14, t15, t16, t17, t18, (.pointer (some ⟨A, 0, none⟩)), undef, (.bool hb), (.agg #[.slice none 0 0, .bool hb]), (.pointer (some ⟨K, 0, none⟩)), t24, t25, t26, t27, t28, t29, t30, t31, t32, t33, t34, t35, t36, t37, t38, t39, t40, t41, t42, t43, t44, t45, t46, t47, t48, t49, t50, t51, t52, t53, t54, t55, t56, t57, t58, t59, t60, t61, t62, t63, t64, t65, t66, t67, t68, t69, t70, t71, t72], defers := [] } : Act) wv) := by
    intro wv A K p5 p6 Fv' hA' hK' h5' h6'
    have Fv := hide Fv'
    have hA := hide hA'
    have hKk := hide hK'
    have h5 := hide h5'
    have h6 := hide h6'
    have c5 := cell_of (o := 0) h5'.heap rfl
    have z5 := frozen_of (o := 0) h5'.heap
    have c6 := cell_of (o := 0) h6'.heap rfl
    have z6 := frozen_of (o := 0) h6'.heap
    have hS := s_of Hc.out Fv'
    clear Fv' hA' hK' h5' h6'
    refine wpAnyH_ready (rs := [1]) (by kernel_rfl) (by simp) ?_
    refine (AllReadyH.cons rfl (fun Kx hK => ?_) AllReadyH.nil)
    · skip
      try simp only [List.getElem_toArray, List.getElem_cons_succ, List.getElem_cons_zero]
      go_simp
      refine (newHigh_c (.slice none 0 0) [] wv (Or.inl ⟨rfl, rfl⟩) (by simp) (by simp)).mono ?_
      rintro e w' ⟨B, rfl, hr, f⟩
      refine hK.out _ _ (s_of Hc.out (frG Fv.out f)) (fun _ => ?_)
      exact st_21110.out w' A B K p5 p6 (frG Fv.out f) (hA.out.keep f) (has_high hr Fv.out.size) (hKk.out.keep f) (h5.out.keep f) (h6.out.keep f)
  have st_20110 : Hid (∀ (wv : World) (A B p5 p6 : Nat), Fr (fun k => w1.heap.size ≤ k) w1 wv → Has w1.heap.size wv A Low0 → Has w1.heap.size wv B High0 → Has w1.heap.size wv p5 (Ptr 25 (.pointer none)) → Has w1.heap.size wv p6 (Ptr 40 (.pointer none)) → wpAnyH Try.prog Region.Mode.any OPS5 (NoPanic Q) (fun w' => w'.cell? ⟨p3, 0, none⟩ = some (.bool hb)) 4 #[true, true, true, true, false, true, true, false, false, false] ({ tmps := #[t0, t1, t2, (.pointer (some ⟨p3, 0, none⟩)), t4, (.pointer (some ⟨p5, 0, none⟩)), (.pointer (some ⟨p6, 0, none⟩)), undef, t8, t9, t10, t11, t12, t13, t14, t15, t16, t17, t18, (.pointer (some ⟨A, 0, none⟩)), (.pointer (some ⟨B, 0, none⟩)), (.bool hb), (.agg #[.slice none 0 0, .bool hb]), undef, t24, t25, t26, t27, t28, t29, t30, t31, t32, t33, t34, t35, t36, t37, t38, t39, t40, t41, t42, t43, t44, t45, t46, t47, t48, t49, t50, t51, t52, t53, t54, t55, t56, t57, t58, t59, t60, t61, t62, t63, t64, t65, t66, t67, t68, t69, t70, t71, t72], defers := [] } : Act) wv) := by
    intro wv A B p5 p6 Fv' hA' hB' h5' h6'
    have Fv := hide Fv'
    have hA := hide hA'
    have hB := hide hB'
    have h5 := hide h5'
    have h6 := hide h6'
    have c5 := cell_of (o := 0) h5'.heap rfl
    have z5 := frozen_of (o := 0) h5'.heap
    have c6 := cell_of (o := 0) h6'.heap rfl
    have z6 := frozen_of (o := 0) h6'.heap
    have hS := s_of Hc.out Fv'
    clear Fv' hA' hB' h5' h6'
    refine wpAnyH_ready (rs := [4, 7]) (by kernel_rfl) (by simp) ?_
    refine (AllReadyH.cons rfl (fun Kx hK => ?_) (AllReadyH.cons rfl (fun Kx hK => ?_) AllReadyH.nil))
    · skip
      try simp only [List.getElem_toArray, List.getElem_cons_succ, List.getElem_cons_zero]
      go_simp
      refine hK.out _ _ (s_of Hc.out (frG Fv.out (Fr.of_alloc wv (.cells #[.slice none 0 0, .bool hb] 45)))) (fun _ => ?_)
      exact st_21110.out _ A B wv.heap.size p5 p6 (frG Fv.out (Fr.of_alloc wv (.cells #[.slice none 0 0, .bool hb] 45))) (hA.out.keep (Fr.of_alloc wv (.cells #[.slice none 0 0, .bool hb] 45))) (hB.out.keep (Fr.of_alloc wv (.cells #[.slice none 0 0, .bool hb] 45))) (has_new _ rfl Fv.out.size) (h5.out.keep (Fr.of_alloc wv (.cells #[.slice none 0 0, .bool hb] 45))) (h6.out.keep (Fr.of_alloc wv (.cells #[.slice none 0 0, .bool hb] 45)))
    · skip
      try simp only [List.getElem_toArray, List.getElem_cons_succ, List.getElem_cons_zero]
      go_simp
      refine hK.out _ _ (s_of Hc.out (frS Fv.out h5.out.1 _)) (fun _ => ?_)
      exact st_20111.out _ A B p5 p6 (frS Fv.out h5.out.1 _) (hA.out.set h5.out (d_lp _ _) _) (hB.out.set h5.out (d_hp _ _) _) (h5.out.put _) (h6.out.set h5.out (d_pp _ _) _)
  have st_21010 : Hid (∀ (wv : World) (A B K p6 : Nat), Fr (fun k => w1.heap.size ≤ k) w1 wv → Has w1.heap.size wv A Low0 → Has w1.heap.size wv B High0 → Has w1.heap.size wv K (Pk0 hb) → Has w1.heap.size wv p6 (Ptr 40 (.pointer none)) → wpAnyH Try.prog Region.Mode.any OPS5 (NoPanic Q) (fun w' => w'.cell? ⟨p3, 0, none⟩ = some (.bool hb)) 4 #[true, true, true, true, true, false, true, false, false, false] ({ tmps := #[t0, t1, t2, (.pointer (some ⟨p3, 0, none⟩)), t4, undef, (.pointer (some ⟨p6, 0, none⟩)), undef, t8, t9, t10, t11, t12, t13, t14, t15, t16, t17, t18, (.pointer (some ⟨A, 0, none⟩)), (.pointer (some ⟨B, 0, none⟩)), (.bool hb), (.agg #[.slice none 0 0, .bool hb]), (.pointer (some ⟨K, 0, none⟩)), t24, t25, t26, t27, t28, t29, t30, t31, t32, t33, t34, t35, t36, t37, t38, t39, t40, t41, t42, t43, t44, t45, t46, t47, t48, t49, t50, t51, t52, t53, t54, t55, t56, t57, t58, t59, t60, t61, t62, t63, t64, t65, t66, t67, t68, t69, t70, t71, t72], defers := [] } : Act) wv) := by
    intro wv A B K p6 Fv' hA' hB' hK' h6'
    have Fv := hide Fv'
    have hA := hide hA'
    have hB := hide hB'
    have hKk := hide hK'
    have h6 := hide h6'
    have c6 := cell_of (o := 0) h6'.heap rfl
    have z6 := frozen_of (o := 0) h6'.heap
    have hS := s_of Hc.out Fv'
    clear Fv' hA' hB' hK' h6'
    refine wpAnyH_ready (rs := [5]) (by kernel_rfl) (by simp) ?_
    refine (AllReadyH.cons rfl (fun Kx hK => ?_) AllReadyH.nil)
    · skip
      try simp only [List.getElem_toArray, List.getElem_cons_succ, List.getElem_cons_zero]
      go_simp
      refine hK.out _ _ (s_of Hc.out (frG Fv.out (Fr.of_alloc wv (.cells #[.pointer none] 25)))) (fun _ => ?_)
      exact st_21110.out _ A B K wv.heap.size p6 (frG Fv.out (Fr.of_alloc wv (.cells #[.pointer none] 25))) (hA.out.keep (Fr.of_alloc wv (.cells #[.pointer none] 25))) (hB.out.keep (Fr.of_alloc wv (.cells #[.pointer none] 25))) (hKk.out.keep (Fr.of_alloc wv (.cells #[.pointer none] 25))) (has_new _ rfl Fv.out.size) (h6.out.keep (Fr.of_alloc wv (.cells #[.pointer none] 25)))
  have st_21100 : Hid (∀ (wv : World) (A B K p5 : Nat), Fr (fun k => w1.heap.size ≤ k) w1 wv → Has w1.heap.size wv A Low0 → Has w1.heap.size wv B High0 → Has w1.heap.size wv K (Pk0 hb) → Has w1.heap.size wv p5 (Ptr 25 (.pointer none)) → wpAnyH Try.prog Region.Mode.any OPS5 (NoPanic Q) (fun w' => w'.cell? ⟨p3, 0, none⟩ = some (.bool hb)) 4 #[true, true, true, true, true, true, false, false, false, false] ({ tmps := #[t0, t1, t2, (.pointer (some ⟨p3, 0, none⟩)), t4, (.pointer (some ⟨p5, 0, none⟩)), undef, undef, t8, t9, t10, t11, t12, t13, t14, t15, t16, t17, t18, (.pointer (some ⟨A, 0, none⟩)), (.pointer (some ⟨B, 0, none⟩)), (.bool hb), (.agg #[.slice none 0 0, .bool hb]), (.pointer (some ⟨K, 0, none⟩)), t24, t25, t26, t27, t28, t29, t30, t31, t32, t33, t34, t35, t36, t37, t38, t39, t40, t41, t42, t43, t44, t45, t46, t47, t48, t49, t50, t51, t52, t53, t54, t55, t56, t57, t58, t59, t60, t61, t62, t63, t64, t65, t66, t67, t68, t69, t70, t71, t72], defers := [] } : Act) wv) := by
    intro wv A B K p5 Fv' hA' hB' hK' h5'
    have Fv := hide Fv'
    have hA := hide hA'
    have hB := hide hB'
    have hKk := hide hK'
    have h5 := hide h5'
    have c5 := cell_of (o := 0) h5'.heap rfl
    have z5 := frozen_of (o := 0) h5'.heap
    have hS := s_of Hc.out Fv'
    clear Fv' hA' hB' hK' h5'
    refine wpAnyH_ready (rs := [6]) (by kernel_rfl) (by simp) ?_
    refine (AllReadyH.cons rfl (fun Kx hK => ?_) AllReadyH.nil)
    · skip
      try simp only [List.getElem_toArray, List.getElem_cons_succ, List.getElem_cons_zero]
      go_simp
      refine hK.out _ _ (s_of Hc.out (frG Fv.out (Fr.of_alloc wv (.cells #[.pointer none] 40)))) (fun _ => ?_)
      exact st_21110.out _ A B K p5 wv.heap.size (frG Fv.out (Fr.of_alloc wv (.cells #[.pointer none] 40))) (hA.out.keep (Fr.of_alloc wv (.cells #[.pointer none] 40))) (hB.out.keep (Fr.of_alloc wv (.cells #[.pointer none] 40))) (hKk.out.keep (Fr.of_alloc wv (.cells #[.pointer none] 40))) (h5.out.keep (Fr.of_alloc wv (.cells #[.pointer none] 40))) (has_new _ rfl Fv.out.size)
  have st_01110 : Hid (∀ (wv : World) (K p5 p6 : Nat), Fr (fun k => w1.heap.size ≤ k) w1 wv → Has w1.heap.size wv K (Pk0 hb) → Has w1.heap.size wv p5 (Ptr 25 (.pointer none)) → Has w1.heap.size wv p6 (Ptr 40 (.pointer none)) → wpAnyH Try.prog Region.Mode.any OPS5 (NoPanic Q) (fun w' => w'.cell? ⟨p3, 0, none⟩ = some (.bool hb)) 5 #[false, false, true, true, true, true, true, false, false, false] ({ tmps := #[t0, t1, t2, (.pointer (some ⟨p3, 0, none⟩)), t4, (.pointer (some ⟨p5, 0, none⟩)), (.pointer (some ⟨p6, 0, none⟩)), undef, t8, t9, t10, t11, t12, t13, t14, t15, t16, t17, t18, undef, undef, (.bool hb), (.agg #[.slice none 0 0, .bool hb]), (.pointer (some ⟨K, 0, none⟩)), t24, t25, t26, t27, t28, t29, t30, t31, t32, t33, t34, t35, t36, t37, t38, t39, t40, t41, t42, t43, t44, t45, t46, t47, t48, t49, t50, t51, t52, t53, t54, t55, t56, t57, t58, t59, t60, t61, t62, t63, t64, t65, t66, t67, t68, t69, t70, t71, t72], defers := [] } : Act) wv) := by
    intro wv K p5 p6 Fv' hK' h5' h6'
    have Fv := hide Fv'
    have hKk := hide hK'
    have h5 := hide h5'
    have h6 := hide h6'
    have c5 := cell_of (o := 0) h5'.heap rfl
    have z5 := frozen_of (o := 0) h5'.heap
    have c6 := cell_of (o := 0) h6'.heap rfl
    have z6 := frozen_of (o := 0) h6'.heap
    have hS := s_of Hc.out Fv'
    clear Fv' hK' h5' h6'
    refine wpAnyH_ready (rs := [0]) (by kernel_rfl) (by simp) ?_
    refine (AllReadyH.cons rfl (fun Kx hK => ?_) AllReadyH.nil)
    · skip
      try simp only [List.getElem_toArray, List.getElem_cons_zero]
      go_simp
      refine (newLow_c (.slice none 0 0) [] wv (Or.inl ⟨rfl, rfl⟩) (by simp) (by simp)).mono ?_
      rintro e w' ⟨A, rfl, hr, f⟩
      refine hK.out _ _ (s_of Hc.out (frG Fv.out f)) (fun _ => ?_)
      exact st_11110.out w' A K p5 p6 (frG Fv.out f) (has_low hr Fv.out.size) (hKk.out.keep f) (h5.out.keep f) (h6.out.keep f)
  have st_10110 : Hid (∀ (wv : World) (A p5 p6 : Nat), Fr (fun k => w1.heap.size ≤ k) w1 wv → Has w1.heap.size wv A Low0 → Has w1.heap.size wv p5 (Ptr 25 (.pointer none)) → Has w1.heap.size wv p6 (Ptr 40 (.pointer none)) → wpAnyH Try.prog Region.Mode.any OPS5 (NoPanic Q) (fun w' => w'.cell? ⟨p3, 0, none⟩ = some (.bool hb)) 5 #[true, false, true, true, false, true, true, false, false, false] ({ tmps := #[t0, t1, t2, (.pointer (some ⟨p3, 0, none⟩)), t4, (.pointer (some ⟨p5, 0, none⟩)), (.pointer (some ⟨p6, 0, none⟩)), undef, t8, t9, t10, t11, t12, t13, t14, t15, t16, t17, t18, (.pointer (some ⟨A, 0, none⟩)), undef, (.bool hb), (.agg #[.slice none 0 0, .bool hb]), undef, t24, t25, t26, t27, t28, t29, t30, t31, t32, t33, t34, t35, t36, t37, t38, t39, t40, t41, t42, t43, t44, t45, t46, t47, t48, t49, t50, t51, t52, t53, t54, t55, t56, t57, t58, t59, t60, t61, t62, t63, t64, t65, t66, t67, t68, t69, t70, t71, t72], defers := [] } : Act) wv) := by
    intro wv A p5 p6 Fv' hA' h5' h6'
    have Fv := hide Fv'
    have hA := hide hA'
    have h5 := hide h5'
    have h6 := hide h6'
    have c5 := cell_of (o := 0) h5'.heap rfl
    have z5 := frozen_of (o := 0) h5'.heap
    have c6 := cell_of (o := 0) h6'.heap rfl
    have z6 := frozen_of (o := 0) h6'.heap
    have hS := s_of Hc.out Fv'
    clear Fv' hA' h5' h6'
    refine wpAnyH_ready (rs := [1, 4]) (by kernel_rfl) (by simp) ?_
    refine (AllReadyH.cons rfl (fun Kx hK => ?_) (AllReadyH.cons rfl (fun Kx hK => ?_) AllReadyH.nil))
    · skip
      try simp only [List.getElem_toArray, List.getElem_cons_succ, List.getElem_cons_zero]
      go_simp
      refine (newHigh_c (.slice none 0 0) [] wv (Or.inl ⟨rfl, rfl⟩) (by simp) (by simp)).mono ?_
      rintro e w' ⟨B, rfl, hr, f⟩
      refine hK.out _ _ (s_of Hc.out (frG Fv.out f)) (fun _ => ?_)
      exact st_20110.out w' A B p5 p6 (frG Fv.out f) (hA.out.keep f) (has_high hr Fv.out.size) (h5.out.keep f) (h6.out.keep f)
    · skip
      try simp only [List.getElem_toArray, List.getElem_cons_succ, List.getElem_cons_zero]
      go_simp
      refine hK.out _ _ (s_of Hc.out (frG Fv.out (Fr.of_alloc wv (.cells #[.slice none 0 0, .bool hb] 45)))) (fun _ => ?_)
      exact st_11110.out _ A wv.heap.size p5 p6 (frG Fv.out (Fr.of_alloc wv (.cells #[.slice none 0 0, .bool hb] 45))) (hA.out.keep (Fr.of_alloc wv (.cells #[.slice none 0 0, .bool hb] 45))) (has_new _ rfl Fv.out.size) (h5.out.keep (Fr.of_alloc wv (.cells #[.slice none 0 0, .bool hb] 45))) (h6.out.keep (Fr.of_alloc wv (.cells #[.slice none 0 0, .bool hb] 45)))
  have st_11010 : Hid (∀ (wv : World) (A K p6 : Nat), Fr (fun k => w1.heap.size ≤ k) w1 wv → Has w1.heap.size wv A Low0 → Has w1.heap.size wv K (Pk0 hb) → Has w1.heap.size wv p6 (Ptr 40 (.pointer none)) → wpAnyH Try.prog Region.Mode.any OPS5 (NoPanic Q) (fun w' => w'.cell? ⟨p3, 0, none⟩ = some (.bool hb)) 5 #[true, false, true, true, true, false, true, false, false, false] ({ tmps := #[t0, t1, t2, (.pointer (some ⟨p3, 0, none⟩)), t4, undef, (.pointer (some ⟨p6, 0, none⟩)), undef, t8, t9, t10, t11, t12, t13, t14, t15, t16, t17, t18, (.pointer (some ⟨A, 0, none⟩)), undef, (.bool hb), (.agg #[.slice none 0 0, .bool hb]), (.pointer (some ⟨K, 0, none⟩)), t24, t25, t26, t27, t28, t29, t30, t31, t32, t33, t34, t35, t36, t37, t38, t39, t40, t41, t42, t43, t44, t45, t46, t47, t48, t49, t50, t51, t52, t53, t54, t55, t56, t57, t58, t59, t60, t61, t62, t63, t64, t65, t66, t67, t68, t69, t70, t71, t72], defers := [] } : Act) wv) := by
    intro wv A K p6 Fv' hA' hK' h6'
    have Fv := hide Fv'
    have hA := hide hA'
    have hKk := hide hK'
    have h6 := hide h6'
    have c6 := cell_of (o := 0) h6'.heap rfl
    have z6 := frozen_of (o := 0) h6'.heap
    have hS := s_of Hc.out Fv'
    clear Fv' hA' hK' h6'
    refine wpAnyH_ready (rs := [1, 5]) (by kernel_rfl) (by simp) ?_
    refine (AllReadyH.cons rfl (fun Kx hK => ?_) (AllReadyH.cons rfl (fun Kx hK => ?_) AllReadyH.nil))
    · skip
      try simp only [List.getElem_toArray, List.getElem_cons_succ, List.getElem_cons_zero]
      go_simp
      refine (newHigh_c (.slice none 0 0) [] wv (Or.inl ⟨rfl, rfl⟩) (by simp) (by simp)).mono ?_
      rintro e w' ⟨B, rfl, hr, f⟩
      refine hK.out _ _ (s_of Hc.out (frG Fv.out f)) (fun _ => ?_)
      exact st_21010.out w' A B K p6 (frG Fv.out f) (hA.out.keep f) (has_high hr Fv.out.size) (hKk.out.keep f) (h6.out.keep f)
    · skip
      try simp only [List.getElem_toArray, List.getElem_cons_succ, List.getElem_cons_zero]
      go_simp
      refine hK.out _ _ (s_of Hc.out (frG Fv.out (Fr.of_alloc wv (.cells #[.pointer none] 25)))) (fun _ => ?_)
      exact st_11110.out _ A K wv.heap.size p6 (frG Fv.out (Fr.of_alloc wv (.cells #[.pointer none] 25))) (hA.out.keep (Fr.of_alloc wv (.cells #[.pointer none] 25))) (hKk.out.keep (Fr.of_alloc wv (.cells #[.pointer none] 25))) (has_new _ rfl Fv.out.size) (h6.out.keep (Fr.of_alloc wv (.cells #[.pointer none] 25)))
  have st_11100 : Hid (∀ (wv : World) (A K p5 : Nat), Fr (fun k => w1.heap.size ≤ k) w1 wv → Has w1.heap.size wv A Low0 → Has w1.heap.size wv K (Pk0 hb) → Has w1.heap.size wv p5 (Ptr 25 (.pointer none)) → wpAnyH Try.prog Region.Mode.any OPS5 (NoPanic Q) (fun w' => w'.cell? ⟨p3, 0, none⟩ = some (.bool hb)) 5 #[true, false, true, true, true, true, false, false, false, false] ({ tmps := #[t0, t1, t2, (.pointer (some ⟨p3, 0, none⟩)), t4, (.pointer (some ⟨p5, 0, none⟩)), undef, undef, t8, t9, t10, t11, t12, t13, t14, t15, t16, t17, t18, (.pointer (some ⟨A, 0, none⟩)), undef, (.bool hb), (.agg #[.slice none 0 0, .bool hb]), (.pointer (some ⟨K, 0, none⟩)), t24, t25, t26, t27, t28, t29, t30, t31, t32, t33, t34, t35, t36, t37, t38, t39, t40, t41, t42, t43, t44, t45, t46, t47, t48, t49, t50, t51, t52, t53, t54, t55, t56, t57, t58, t59, t60, t61, t62, t63, t64, t65, t66, t67, t68, t69, t70, t71, t72], defers := [] } : Act) wv) := by
    intro wv A K p5 Fv' hA' hK' h5'
    have Fv := hide Fv'
    have hA := hide hA'
    have hKk := hide hK'
    have h5 := hide h5'
    have c5 := cell_of (o := 0) h5'.heap rfl
    have z5 := frozen_of (o := 0) h5'.heap
    have hS := s_of Hc.out Fv'
    clear Fv' hA' hK' h5'
    refine wpAnyH_ready (rs := [1, 6]) (by kernel_rfl) (by simp) ?_
    refine (AllReadyH.cons rfl (fun Kx hK => ?_) (AllReadyH.cons rfl (fun Kx hK => ?_) AllReadyH.nil))
    · skip
      try simp only [List.getElem_toArray, List.getElem_cons_succ, List.getElem_cons_zero]
      go_simp
      refine (newHigh_c (.slice none 0 0) [] wv (Or.inl ⟨rfl, rfl⟩) (by simp) (by simp)).mono ?_
      rintro e w' ⟨B, rfl, hr, f⟩
      refine hK.out _ _ (s_of Hc.out (frG Fv.out f)) (fun _ => ?_)
      exact st_21100.out w' A B K p5 (frG Fv.out f) (hA.out.keep f) (has_high hr Fv.out.size) (hKk.out.keep f) (h5.out.keep f)
    · skip
      try simp only [List.getElem_toArray, List.getElem_cons_succ, List.getElem_cons_zero]
      go_simp
      refine hK.out _ _ (s_of Hc.out (frG Fv.out (Fr.of_alloc wv (.cells #[.pointer none] 40)))) (fun _ => ?_)
      exact st_11110.out _ A K p5 wv.heap.size (frG Fv.out (Fr.of_alloc wv (.cells #[.pointer none] 40))) (hA.out.keep (Fr.of_alloc wv (.cells #[.pointer none] 40))) (hKk.out.keep (Fr.of_alloc wv (.cells #[.pointer none] 40))) (h5.out.keep (Fr.of_alloc wv (.cells #[.pointer none] 40))) (has_new _ rfl Fv.out.size)
  have st_20010 : Hid (∀ (wv : World) (A B p6 : Nat), Fr (fun k => w1.heap.size ≤ k) w1 wv → Has w1.heap.size wv A Low0 → Has w1.heap.size wv B High0 → Has w1.heap.size wv p6 (Ptr 40 (.pointer none)) → wpAnyH Try.prog Region.Mode.any OPS5 (NoPanic Q) (fun w' => w'.cell? ⟨p3, 0, none⟩ = some (.bool hb)) 5 #[true, true, true, true, false, false, true, false, false, false] ({ tmps := #[t0, t1, t2, (.pointer (some ⟨p3, 0, none⟩)), t4, undef, (.pointer (some ⟨p6, 0, none⟩)), undef, t8, t9, t10, t11, t12, t13, t14, t15, t16, t17, t18, (.pointer (some ⟨A, 0, none⟩)), (.pointer (some ⟨B, 0, none⟩)), (.bool hb), (.agg #[.slice none 0 0, .bool hb]), undef, t24, t25, t26, t27, t28, t29, t30, t31, t32, t33, t34, t35, t36, t37, t38, t39, t40, t41, t42, t43, t44, t45, t46, t47, t48, t49, t50, t51, t52, t53, t54, t55, t56, t57, t58, t59, t60, t61, t62, t63, t64, t65, t66, t67, t68, t69, t70, t71, t72], defers := [] } : Act) wv) := by
    intro wv A B p6 Fv' hA' hB' h6'
    have Fv := hide Fv'
    have hA := hide hA'
    have hB := hide hB'
    have h6 := hide h6'
    have c6 := cell_of (o := 0) h6'.heap rfl
    have z6 := frozen_of (o := 0) h6'.heap
    have hS := s_of Hc.out Fv'
    clear Fv' hA' hB' h6'
    refine wpAnyH_ready (rs := [4, 5]) (by kernel_rfl) (by simp) ?_
    refine (AllReadyH.cons rfl (fun Kx hK => ?_) (AllReadyH.cons rfl (fun Kx hK => ?_) AllReadyH.nil))
    · skip
      try simp only [List.getElem_toArray, List.getElem_cons_succ, List.getElem_cons_zero]
      go_simp
      refine hK.out _ _ (s_of Hc.out (frG Fv.out (Fr.of_alloc wv (.cells #[.slice none 0 0, .bool hb] 45)))) (fun _ => ?_)
      exact st_21010.out _ A B wv.heap.size p6 (frG Fv.out (Fr.of_alloc wv (.cells #[.slice none 0 0, .bool hb] 45))) (hA.out.keep (Fr.of_alloc wv (.cells #[.slice none 0 0, .bool hb] 45))) (hB.out.keep (Fr.of_alloc wv (.cells #[.slice none 0 0, .bool hb] 45))) (has_new _ rfl Fv.out.size) (h6.out.keep (Fr.of_alloc wv (.cells #[.slice none 0 0, .bool hb] 45)))
    · skip
      try simp only [List.getElem_toArray, List.getElem_cons_succ, List.getElem_cons_zero]
      go_simp
      refine hK.out _ _ (s_of Hc.out (frG Fv.out (Fr.of_alloc wv (.cells #[.pointer none] 25)))) (fun _ => ?_)
      exact st_20110.out _ A B wv.heap.size p6 (frG Fv.out (Fr.of_alloc wv (.cells #[.pointer none] 25))) (hA.out.keep (Fr.of_alloc wv (.cells #[.pointer none] 25))) (hB.out.keep (Fr.of_alloc wv (.cells #[.pointer none] 25))) (has_new _ rfl Fv.out.size) (h6.out.keep (Fr.of_alloc wv (.cells #[.pointer none] 25)))
  have st_20100 : Hid (∀ (wv : World) (A B p5 : Nat), Fr (fun k => w1.heap.size ≤ k) w1 wv → Has w1.heap.size wv A Low0 → Has w1.heap.size wv B High0 → Has w1.heap.size wv p5 (Ptr 25 (.pointer none)) → wpAnyH Try.prog Region.Mode.any OPS5 (NoPanic Q) (fun w' => w'.cell? ⟨p3, 0, none⟩ = some (.bool hb)) 5 #[true, true, true, true, false, true, false, false, false, false] ({ tmps := #[t0, t1, t2, (.pointer (some ⟨p3, 0, none⟩)), t4, (.pointer (some ⟨p5, 0, none⟩)), undef, undef, t8, t9, t10, t11, t12, t13, t14, t15, t16, t17, t18, (.pointer (some ⟨A, 0, none⟩)), (.pointer (some ⟨B, 0, none⟩)), (.bool hb), (.agg #[.slice none 0 0, .bool hb]), undef, t24, t25, t26, t27, t28, t29, t30, t31, t32, t33, t34, t35, t36, t37, t38, t39, t40, t41, t42, t43, t44, t45, t46, t47, t48, t49, t50, t51, t52, t53, t54, t55, t56, t57, t58, t59, t60, t61, t62, t63, t64, t65, t66, t67, t68, t69, t70, t71, t72], defers := [] } : Act) wv) := by
    intro wv A B p5 Fv' hA' hB' h5'
    have Fv := hide Fv'
    have hA := hide hA'
    have hB := hide hB'
    have h5 := hide h5'
    have c5 := cell_of (o := 0) h5'.heap rfl
    have z5 := frozen_of (o := 0) h5'.heap
    have hS := s_of Hc.out Fv'
    clear Fv' hA' hB' h5'
    refine wpAnyH_ready (rs := [4, 6]) (by kernel_rfl) (by simp) ?_
    refine (AllReadyH.cons rfl (fun Kx hK => ?_) (AllReadyH.cons rfl (fun Kx hK => ?_) AllReadyH.nil))
    · skip
      try simp only [List.getElem_toArray, List.getElem_cons_succ, List.getElem_cons_zero]
      go_simp
      refine hK.out _ _ (s_of Hc.out (frG Fv.out (Fr.of_alloc wv (.cells #[.slice none 0 0, .bool hb] 45)))) (fun _ => ?_)
      exact st_21100.out _ A B wv.heap.size p5 (frG Fv.out (Fr.of_alloc wv (.cells #[.slice none 0 0, .bool hb] 45))) (hA.out.keep (Fr.of_alloc wv (.cells #[.slice none 0 0, .bool hb] 45))) (hB.out.keep (Fr.of_alloc wv (.cells #[.slice none 0 0, .bool hb] 45))) (has_new _ rfl Fv.out.size) (h5.out.keep (Fr.of_alloc wv (.cells #[.slice none 0 0, .bool hb] 45)))
    · skip
      try simp only [List.getElem_toArray, List.getElem_cons_succ, List.getElem_cons_zero]
      go_simp
      refine hK.out _ _ (s_of Hc.out (frG Fv.out (Fr.of_alloc wv (.cells #[.pointer none] 40)))) (fun _ => ?_)
      exact st_20110.out _ A B p5 wv.heap.size (frG Fv.out (Fr.of_alloc wv (.cells #[.pointer none] 40))) (hA.out.keep (Fr.of_alloc wv (.cells #[.pointer none] 40))) (hB.out.keep (Fr.of_alloc wv (.cells #[.pointer none] 40))) (h5.out.keep (Fr.of_alloc wv (.cells #[.pointer none] 40))) (has_new _ rfl Fv.out.size)
  have st_21000 : Hid (∀ (wv : World) (A B K : Nat), Fr (fun k => w1.heap.size ≤ k) w1 wv → Has w1.heap.size wv A Low0 → Has w1.heap.size wv B High0 → Has w1.heap.size wv K (Pk0 hb) → wpAnyH Try.prog Region.Mode.any OPS5 (NoPanic Q) (fun w' => w'.cell? ⟨p3, 0, none⟩ = some (.bool hb)) 5 #[true, true, true, true, true, false, false, false, false, false] ({ tmps := #[t0, t1, t2, (.pointer (some ⟨p3, 0, none⟩)), t4, undef, undef, undef, t8, t9, t10, t11, t12, t13, t14, t15, t16, t17, t18, (.pointer (some ⟨A, 0, none⟩)), (.pointer (some ⟨B, 0, none⟩)), (.bool hb), (.agg #[.slice none 0 0, .bool hb]), (.pointer (some ⟨K, 0, none⟩)), t24, t25, t26, t27, t28, t29, t30, t31, t32, t33, t34, t35, t36, t37, t38, t39, t40, t41, t42, t43, t44, t45, t46, t47, t48, t49, t50, t51, t52, t53, t54, t55, t56, t57, t58, t59, t60, t61, t62, t63, t64, t65, t66, t67, t68, t69, t70, t71, t72], defers := [] } : Act) wv) := by
    intro wv A B K Fv' hA' hB' hK'
    have Fv := hide Fv'
    have hA := hide hA'
    have hB := hide hB'
    have hKk := hide hK'
    have hS := s_of Hc.out Fv'
    clear Fv' hA' hB' hK'
    refine wpAnyH_ready (rs := [5, 6]) (by kernel_rfl) (by simp) ?_
    refine (AllReadyH.cons rfl (fun Kx hK => ?_) (AllReadyH.cons rfl (fun Kx hK => ?_) AllReadyH.nil))
    · skip
      try simp only [List.getElem_toArray, List.getElem_cons_succ, List.getElem_cons_zero]
      go_simp
      refine hK.out _ _ (s_of Hc.out (frG Fv.out (Fr.of_alloc wv (.cells #[.pointer none] 25)))) (fun _ => ?_)
      exact st_21100.out _ A B K wv.heap.size (frG Fv.out (Fr.of_alloc wv (.cells #[.pointer none] 25))) (hA.out.keep (Fr.of_alloc wv (.cells #[.pointer none] 25))) (hB.out.keep (Fr.of_alloc wv (.cells #[.pointer none] 25))) (hKk.out.keep (Fr.of_alloc wv (.cells #[.pointer none] 25))) (has_new _ rfl Fv.out.size)
    · skip
      try simp only [List.getElem_toArray, List.getElem_cons_succ, List.getElem_cons_zero]
      go_simp
      refine hK.out _ _ (s_of Hc.out (frG Fv.out (Fr.of_alloc wv (.cells #[.pointer none] 40)))) (fun _ => ?_)
      exact st_21010.out _ A B K wv.heap.size (frG Fv.out (Fr.of_alloc wv (.cells #[.pointer none] 40))) (hA.out.keep (Fr.of_alloc wv (.cells #[.pointer none] 40))) (hB.out.keep (Fr.of_alloc wv (.cells #[.pointer none] 40))) (hKk.out.keep (Fr.of_alloc wv (.cells #[.pointer none] 40))) (has_new _ rfl Fv.out.size)
  have st_00110 : Hid (∀ (wv : World) (p5 p6 : Nat), Fr (fun k => w1.heap.size ≤ k) w1 wv → Has w1.heap.size wv p5 (Ptr 25 (.pointer none)) → Has w1.heap.size wv p6 (Ptr 40 (.pointer none)) → wpAnyH Try.prog Region.Mode.any OPS5 (NoPanic Q) (fun w' => w'.cell? ⟨p3, 0, none⟩ = some (.bool hb)) 6 #[false, false, true, true, false, true, true, false, false, false] ({ tmps := #[t0, t1, t2, (.pointer (some ⟨p3, 0, none⟩)), t4, (.pointer (some ⟨p5, 0, none⟩)), (.pointer (some ⟨p6, 0, none⟩)), undef, t8, t9, t10, t11, t12, t13, t14, t15, t16, t17, t18, undef, undef, (.bool hb), (.agg #[.slice none 0 0, .bool hb]), undef, t24, t25, t26, t27, t28, t29, t30, t31, t32, t33, t34, t35, t36, t37, t38, t39, t40, t41, t42, t43, t44, t45, t46, t47, t48, t49, t50, t51, t52, t53, t54, t55, t56, t57, t58, t59, t60, t61, t62, t63, t64, t65, t66, t67, t68, t69, t70, t71, t72], defers := [] } : Act) wv) := by
    intro wv p5 p6 Fv' h5' h6'
    have Fv := hide Fv'
    have h5 := hide h5'
    have h6 := hide h6'
    have c5 := cell_of (o := 0) h5'.heap rfl
    have z5 := frozen_of (o := 0) h5'.heap
    have c6 := cell_of (o := 0) h6'.heap rfl
    have z6 := frozen_of (o := 0) h6'.heap
    have hS := s_of Hc.out Fv'
    clear Fv' h5' h6'
    refine wpAnyH_ready (rs := [0, 4]) (by kernel_rfl) (by simp) ?_
    refine (AllReadyH.cons rfl (fun Kx hK => ?_) (AllReadyH.cons rfl (fun Kx hK => ?_) AllReadyH.nil))
    · skip
      try simp only [List.getElem_toArray, List.getElem_cons_zero]
      go_simp
      refine (newLow_c (.slice none 0 0) [] wv (Or.inl ⟨rfl, rfl⟩) (by simp) (by simp)).mono ?_
      rintro e w' ⟨A, rfl, hr, f⟩
      refine hK.out _ _ (s_of Hc.out (frG Fv.out f)) (fun _ => ?_)
      exact st_10110.out w' A p5 p6 (frG Fv.out f) (has_low hr Fv.out.size) (h5.out.keep f) (h6.out.keep f)
    · skip
      try simp only [List.getElem_toArray, List.getElem_cons_succ, List.getElem_cons_zero]
      go_simp
      refine hK.out _ _ (s_of Hc.out (frG Fv.out (Fr.of_alloc wv (.cells #[.slice none 0 0, .bool hb] 45)))) (fun _ => ?_)
      exact st_01110.out _ wv.heap.size p5 p6 (frG Fv.out (Fr.of_alloc wv (.cells #[.slice none 0 0, .bool hb] 45))) (has_new _ rfl Fv.out.size) (h5.out.keep (Fr.of_alloc wv (.cells #[.slice none 0 0, .bool hb] 45))) (h6.out.keep (Fr.of_alloc wv (.cells #[.slice none 0 0, .bool hb] 45)))
  have st_01010 : Hid (∀ (wv : World) (K p6 : Nat), Fr (fun k => w1.heap.size ≤ k) w1 wv → Has w1.heap.size wv K (Pk0 hb) → Has w1.heap.size wv p6 (Ptr 40 (.pointer none)) → wpAnyH Try.prog Region.Mode.any OPS5 (NoPanic Q) (fun w' => w'.cell? ⟨p3, 0, none⟩ = some (.bool hb)) 6 #[false, false, true, true, true, false, true, false, false, false] ({ tmps := #[t0, t1, t2, (.pointer (some ⟨p3, 0, none⟩)), t4, undef, (.pointer (some ⟨p6, 0, none⟩)), undef, t8, t9, t10, t11, t12, t13, t14, t15, t16, t17, t18, undef, undef, (.bool hb), (.agg #[.slice none 0 0, .bool hb]), (.pointer (some ⟨K, 0, none⟩)), t24, t25, t26, t27, t28, t29, t30, t31, t32, t33, t34, t35, t36, t37, t38, t39, t40, t41, t42, t43, t44, t45, t46, t47, t48, t49, t50, t51, t52, t53, t54, t55, t56, t57, t58, t59, t60, t61, t62, t63, t64, t65, t66, t67, t68, t69, t70, t71, t72], defers := [] } : Act) wv) := by
    intro wv K p6 Fv' hK' h6'
    have Fv := hide Fv'
    have hKk := hide hK'
    have h6 := hide h6'
    have c6 := cell_of (o := 0) h6'.heap rfl
    have z6 := frozen_of (o := 0) h6'.heap
    have hS := s_of Hc.out Fv'
    clear Fv' hK' h6'
    refine wpAnyH_ready (rs := [0, 5]) (by kernel_rfl) (by simp) ?_
    refine (AllReadyH.cons rfl (fun Kx hK => ?_) (AllReadyH.cons rfl (fun Kx hK => ?_) AllReadyH.nil))
    · skip
      try simp only [List.getElem_toArray, List.getElem_cons_zero]
      go_simp
      refine (newLow_c (.slice none 0 0) [] wv (Or.inl ⟨rfl, rfl⟩) (by simp) (by simp)).mono ?_
      rintro e w' ⟨A, rfl, hr, f⟩
      refine hK.out _ _ (s_of Hc.out (frG Fv.out f)) (fun _ => ?_)
      exact st_11010.out w' A K p6 (frG Fv.out f) (has_low hr Fv.out.size) (hKk.out.keep f) (h6.out.keep f)
    · skip
      try simp only [List.getElem_toArray, List.getElem_cons_succ, List.getElem_cons_zero]
      go_simp
      refine hK.out _ _ (s_of Hc.out (frG Fv.out (Fr.of_alloc wv (.cells #[.pointer none] 25)))) (fun _ => ?_)
      exact st_01110.out _ K wv.heap.size p6 (frG Fv.out (Fr.of_alloc wv (.cells #[.pointer none] 25))) (hKk.out.keep (Fr.of_alloc wv (.cells #[.pointer none] 25))) (has_new _ rfl Fv.out.size) (h6.out.keep (Fr.of_alloc wv (.cells #[.pointer none] 25)))
  have st_01100 : Hid (∀ (wv : World) (K p5 : Nat), Fr (fun k => w1.heap.size ≤ k) w1 wv → Has w1.heap.size wv K (Pk0 hb) → Has w1.heap.size wv p5 (Ptr 25 (.pointer none)) → wpAnyH Try.prog Region.Mode.any OPS5 (NoPanic Q) (fun w' => w'.cell? ⟨p3, 0, none⟩ = some (.bool hb)) 6 #[false, false, true, true, true, true, false, false, false, false] ({ tmps := #[t0, t1, t2, (.pointer (some ⟨p3, 0, none⟩)), t4, (.pointer (some ⟨p5, 0, none⟩)), undef, undef, t8, t9, t10, t11, t12, t13, t14, t15, t16, t17, t18, undef, undef, (.bool hb), (.agg #[.slice none 0 0, .bool hb]), (.pointer (some ⟨K, 0, none⟩)), t24, t25, t26, t27, t28, t29, t30, t31, t32, t33, t34, t35, t36, t37, t38, t39, t40, t41, t42, t43, t44, t45, t46, t47, t48, t49, t50, t51, t52, t53, t54, t55, t56, t57, t58, t59, t60, t61, t62, t63, t64, t65, t66, t67, t68, t69, t70, t71, t72], defers := [] } : Act) wv) := by
    intro wv K p5 Fv' hK' h5'
    have Fv := hide Fv'
    have hKk := hide hK'
    have h5 := hide h5'
    have c5 := cell_of (o := 0) h5'.heap rfl
    have z5 := frozen_of (o := 0) h5'.heap
    have hS := s_of Hc.out Fv'
    clear Fv' hK' h5'
    refine wpAnyH_ready (rs := [0, 6]) (by kernel_rfl) (by simp) ?_
    refine (AllReadyH.cons rfl (fun Kx hK => ?_) (AllReadyH.cons rfl (fun Kx hK => ?_) AllReadyH.nil))
    · skip
      try simp only [List.getElem_toArray, List.getElem_cons_zero]
      go_simp
      refine (newLow_c (.slice none 0 0) [] wv (Or.inl ⟨rfl, rfl⟩) (by simp) (by simp)).mono ?_
      rintro e w' ⟨A, rfl, hr, f⟩
      refine hK.out _ _ (s_of Hc.out (frG Fv.out f)) (fun _ => ?_)
      exact st_11100.out w' A K p5 (frG Fv.out f) (has_low hr Fv.out.size) (hKk.out.keep f) (h5.out.keep f)
    · skip
      try simp only [List.getElem_toArray, List.getElem_cons_succ, List.getElem_cons_zero]
      go_simp
      refine hK.out _ _ (s_of Hc.out (frG Fv.out (Fr.of_alloc wv (.cells #[.pointer none] 40)))) (fun _ => ?_)
      exact st_01110.out _ K p5 wv.heap.size (frG Fv.out (Fr.of_alloc wv (.cells #[.pointer none] 40))) (hKk.out.keep (Fr.of_alloc wv (.cells #[.pointer none] 40))) (h5.out.keep (Fr.of_alloc wv (.cells #[.pointer none] 40))) (has_new _ rfl Fv.out.size)
  have st_10010 : Hid (∀ (wv : World) (A p6 : Nat), Fr (fun k => w1.heap.size ≤ k) w1 wv → Has w1.heap.size wv A Low0 → Has w1.heap.size wv p6 (Ptr 40 (.pointer none)) → wpAnyH Try.prog Region.Mode.any OPS5 (NoPanic Q) (fun w' => w'.cell? ⟨p3, 0, none⟩ = some (.bool hb)) 6 #[true, false, true, true, false, false, true, false, false, false] ({ tmps := #[t0, t1, t2, (.pointer (some ⟨p3, 0, none⟩)), t4, undef, (.pointer (some ⟨p6, 0, none⟩)), undef, t8, t9, t10, t11, t12, t13, t14, t15, t16, t17, t18, (.pointer (some ⟨A, 0, none⟩)), undef, (.bool hb), (.agg #[.slice none 0 0, .bool hb]), undef, t24, t25, t26, t27, t28, t29, t30, t31, t32, t33, t34, t35, t36, t37, t38, t39, t40, t41, t42, t43, t44, t45, t46, t47, t48, t49, t50, t51, t52, t53, t54, t55, t56, t57, t58, t59, t60, t61, t62, t63, t64, t65, t66, t67, t68, t69, t70, t71, t72], defers := [] } : Act) wv) := by
    intro wv A p6 Fv' hA' h6'
    have Fv := hide Fv'
    have hA := hide hA'
    have h6 := hide h6'
    have c6 := cell_of (o := 0) h6'.heap rfl
    have z6 := frozen_of (o := 0) h6'.heap
    have hS := s_of Hc.out Fv'
    clear Fv' hA' h6'
    refine wpAnyH_ready (rs := [1, 4, 5]) (by kernel_rfl) (by simp) ?_
    refine (AllReadyH.cons rfl (fun Kx hK => ?_) (AllReadyH.cons rfl (fun Kx hK => ?_) (AllReadyH.cons rfl (fun Kx hK => ?_) AllReadyH.nil)))
    · skip
      try simp only [List.getElem_toArray, List.getElem_cons_succ, List.getElem_cons_zero]
      go_simp
      refine (newHigh_c (.slice none 0 0) [] wv (Or.inl ⟨rfl, rfl⟩) (by simp) (by simp)).mono ?_
      rintro e w' ⟨B, rfl, hr, f⟩
      refine hK.out _ _ (s_of Hc.out (frG Fv.out f)) (fun _ => ?_)
      exact st_20010.out w' A B p6 (frG Fv.out f) (hA.out.keep f) (has_high hr Fv.out.size) (h6.out.keep f)
    · skip
      try simp only [List.getElem_toArray, List.getElem_cons_succ, List.getElem_cons_zero]
      go_simp
      refine hK.out _ _ (s_of Hc.out (frG Fv.out (Fr.of_alloc wv (.cells #[.slice none 0 0, .bool hb] 45)))) (fun _ => ?_)
      exact st_11010.out _ A wv.heap.size p6 (frG Fv.out (Fr.of_alloc wv (.cells #[.slice none 0 0, .bool hb] 45))) (hA.out.keep (Fr.of_alloc wv (.cells #[.slice none 0 0, .bool hb] 45))) (has_new _ rfl Fv.out.size) (h6.out.keep (Fr.of_alloc wv (.cells #[.slice none 0 0, .bool hb] 45)))
    · skip
      try simp only [List.getElem_toArray, List.getElem_cons_succ, List.getElem_cons_zero]
      go_simp
      refine hK.out _ _ (s_of Hc.out (frG Fv.out (Fr.of_alloc wv (.cells #[.pointer none] 25)))) (fun _ => ?_)
      exact st_10110.out _ A wv.heap.size p6 (frG Fv.out (Fr.of_alloc wv (.cells #[.pointer none] 25))) (hA.out.keep (Fr.of_alloc wv (.cells #[.pointer none] 25))) (has_new _ rfl Fv.out.size) (h6.out.keep (Fr.of_alloc wv (.cells #[.pointer none] 25)))
  have st_10100 : Hid (∀ (wv : World) (A p5 : Nat), Fr (fun k => w1.heap.size ≤ k) w1 wv → Has w1.heap.size wv A Low0 → Has w1.heap.size wv p5 (Ptr 25 (.pointer none)) → wpAnyH Try.prog Region.Mode.any OPS5 (NoPanic Q) (fun w' => w'.cell? ⟨p3, 0, none⟩ = some (.bool hb)) 6 #[true, false, true, true, false, true, false, false, false, false] ({ tmps := #[t0, t1, t2, (.pointer (some ⟨p3, 0, none⟩)), t4, (.pointer (some ⟨p5, 0, none⟩)), undef, undef, t8, t9, t10, t11, t12, t13, t14, t15, t16, t17, t18, (.pointer (some ⟨A, 0, none⟩)), undef, (.bool hb), (.agg #[.slice none 0 0, .bool hb]), undef, t24, t25, t26, t27, t28, t29, t30, t31, t32, t33, t34, t35, t36, t37, t38, t39, t40, t41, t42, t43, t44, t45, t46, t47, t48, t49, t50, t51, t52, t53, t54, t55, t56, t57, t58, t59, t60, t61, t62, t63, t64, t65, t66, t67, t68, t69, t70, t71, t72], defers := [] } : Act) wv) := by
    intro wv A p5 Fv' hA' h5'
    have Fv := hide Fv'
    have hA := hide hA'
    have h5 := hide h5'
    have c5 := cell_of (o := 0) h5'.heap rfl
    have z5 := frozen_of (o := 0) h5'.heap
    have hS := s_of Hc.out Fv'
    clear Fv' hA' h5'
    refine wpAnyH_ready (rs := [1, 4, 6]) (by kernel_rfl) (by simp) ?_
    refine (AllReadyH.cons rfl (fun Kx hK => ?_) (AllReadyH.cons rfl (fun Kx hK => ?_) (AllReadyH.cons rfl (fun Kx hK => ?_) AllReadyH.nil)))
    · skip
      try simp only [List.getElem_toArray, List.getElem_cons_succ, List.getElem_cons_zero]
      go_simp
      refine (newHigh_c (.slice none 0 0) [] wv (Or.inl ⟨rfl, rfl⟩) (by simp) (by simp)).mono ?_
      rintro e w' ⟨B, rfl, hr, f⟩
      refine hK.out _ _ (s_of Hc.out (frG Fv.out f)) (fun _ => ?_)
      exact st_20100.out w' A B p5 (frG Fv.out f) (hA.out.keep f) (has_high hr Fv.out.size) (h5.out.keep f)
    · skip
      try simp only [List.getElem_toArray, List.getElem_cons_succ, List.getElem_cons_zero]
      go_simp
      refine hK.out _ _ (s_of Hc.out (frG Fv.out (Fr.of_alloc wv (.cells #[.slice none 0 0, .bool hb] 45)))) (fun _ => ?_)
      exact st_11100.out _ A wv.heap.size p5 (frG Fv.out (Fr.of_alloc wv (.cells #[.slice none 0 0, .bool hb] 45))) (hA.out.keep (Fr.of_alloc wv (.cells #[.slice none 0 0, .bool hb] 45))) (has_new _ rfl Fv.out.size) (h5.out.keep (Fr.of_alloc wv (.cells #[.slice none 0 0, .bool hb] 45)))
    · skip
      try simp only [List.getElem_toArray, List.getElem_cons_succ, List.getElem_cons_zero]
      go_simp
      refine hK.out _ _ (s_of Hc.out (frG Fv.out (Fr.of_alloc wv (.cells #[.pointer none] 40)))) (fun _ => ?_)
      exact st_10110.out _ A p5 wv.heap.size (frG Fv.out (Fr.of_alloc wv (.cells #[.pointer none] 40))) (hA.out.keep (Fr.of_alloc wv (.cells #[.pointer none] 40))) (h5.out.keep (Fr.of_alloc wv (.cells #[.pointer none] 40))) (has_new _ rfl Fv.out.size)
  have st_11000 : Hid (∀ (wv : World) (A K : Nat), Fr (fun k => w1.heap.size ≤ k) w1 wv → Has w1.heap.size wv A Low0 → Has w1.heap.size wv K (Pk0 hb) → wpAnyH Try.prog Region.Mode.any OPS5 (NoPanic Q) (fun w' => w'.cell? ⟨p3, 0, none⟩ = some (.bool hb)) 6 #[true, false, true, true, true, false, false, false, false, false] ({ tmps := #[t0, t1, t2, (.pointer (some ⟨p3, 0, none⟩)), t4, undef, undef, undef, t8, t9, t10, t11, t12, t13, t14, t15, t16, t17, t18, (.pointer (some ⟨A, 0, none⟩)), undef, (.bool hb), (.agg #[.slice none 0 0, .bool hb]), (.pointer (some ⟨K, 0, none⟩)), t24, t25, t26, t27, t28, t29, t30, t31, t32, t33, t34, t35, t36, t37, t38, t39, t40, t41, t42, t43, t44, t45, t46, t47, t48, t49, t50, t51, t52, t53, t54, t55, t56, t57, t58, t59, t60, t61, t62, t63, t64, t65, t66, t67, t68, t69, t70, t71, t72], defers := [] } : Act) wv) := by
    intro wv A K Fv' hA' hK'
    have Fv := hide Fv'
    have hA := hide hA'
    have hKk := hide hK'
    have hS := s_of Hc.out Fv'
    clear Fv' hA' hK'
    refine wpAnyH_ready (rs := [1, 5, 6]) (by kernel_rfl) (by simp) ?_
    refine (AllReadyH.cons rfl (fun Kx hK => ?_) (AllReadyH.cons rfl (fun Kx hK => ?_) (AllReadyH.cons rfl (fun Kx hK => ?_) AllReadyH.nil)))
    · skip
      try simp only [List.getElem_toArray, List.getElem_cons_succ, List.getElem_cons_zero]
      go_simp
      refine (newHigh_c (.slice none 0 0) [] wv (Or.inl ⟨rfl, rfl⟩) (by simp) (by simp)).mono ?_
      rintro e w' ⟨B, rfl, hr, f⟩
      refine hK.out _ _ (s_of Hc.out (frG Fv.out f)) (fun _ => ?_)
      exact st_21000.out w' A B K (frG Fv.out f) (hA.out.keep f) (has_high hr Fv.out.size) (hKk.out.keep f)
    · skip
      try simp only [List.getElem_toArray, List.getElem_cons_succ, List.getElem_cons_zero]
      go_simp
      refine hK.out _ _ (s_of Hc.out (frG Fv.out (Fr.of_alloc wv (.cells #[.pointer none] 25)))) (fun _ => ?_)
      exact st_11100.out _ A K wv.heap.size (frG Fv.out (Fr.of_alloc wv (.cells #[.pointer none] 25))) (hA.out.keep (Fr.of_alloc wv (.cells #[.pointer none] 25))) (hKk.out.keep (Fr.of_alloc wv (.cells #[.pointer none] 25))) (has_new _ rfl Fv.out.size)
    · skip
      try simp only [List.getElem_toArray, List.getElem_cons_succ, List.getElem_cons_zero]
      go_simp
      refine hK.out _ _ (s_of Hc.out (frG Fv.out (Fr.of_alloc wv (.cells #[.pointer none] 40)))) (fun _ => ?_)
      exact st_11010.out _ A K wv.heap.size (frG Fv.out (Fr.of_alloc wv (.cells #[.pointer none] 40))) (hA.out.keep (Fr.of_alloc wv (.cells #[.pointer none] 40))) (hKk.out.keep (Fr.of_alloc wv (.cells #[.pointer none] 40))) (has_new _ rfl Fv.out.size)
  have st_20000 : Hid (∀ (wv : World) (A B : Nat), Fr (fun k => w1.heap.size ≤ k) w1 wv → Has w1.heap.size wv A Low0 → Has w1.heap.size wv B High0 → wpAnyH Try.prog Region.Mode.any OPS5 (NoPanic Q) (fun w' => w'.cell? ⟨p3, 0, none⟩ = some (.bool hb)) 6 #[true, true, true, true, false, false, false, false, false, false] ({ tmps := #[t0, t1, t2, (.pointer (some ⟨p3, 0, none⟩)), t4, undef, undef, undef, t8, t9, t10, t11, t12, t13, t14, t15, t16, t17, t18, (.pointer (some ⟨A, 0, none⟩)), (.pointer (some ⟨B, 0, none⟩)), (.bool hb), (.agg #[.slice none 0 0, .bool hb]), undef, t24, t25, t26, t27, t28, t29, t30, t31, t32, t33, t34, t35, t36, t37, t38, t39, t40, t41, t42, t43, t44, t45, t46, t47, t48, t49, t50, t51, t52, t53, t54, t55, t56, t57, t58, t59, t60, t61, t62, t63, t64, t65, t66, t67, t68, t69, t70, t71, t72], defers := [] } : Act) wv) := by
    intro wv A B Fv' hA' hB'
    have Fv := hide Fv'
    have hA := hide hA'
    have hB := hide hB'
    have hS := s_of Hc.out Fv'
    clear Fv' hA' hB'
    refine wpAnyH_ready (rs := [4, 5, 6]) (by kernel_rfl) (by simp) ?_
    refine (AllReadyH.cons rfl (fun Kx hK => ?_) (AllReadyH.cons rfl (fun Kx hK => ?_) (AllReadyH.cons rfl (fun Kx hK => ?_) AllReadyH.nil)))
    · skip
      try simp only [List.getElem_toArray, List.getElem_cons_succ, List.getElem_cons_zero]
      go_simp
      refine hK.out _ _ (s_of Hc.out (frG Fv.out (Fr.of_alloc wv (.cells #[.slice none 0 0, .bool hb] 45)))) (fun _ => ?_)
      exact st_21000.out _ A B wv.heap.size (frG Fv.out (Fr.of_alloc wv (.cells #[.slice none 0 0, .bool hb] 45))) (hA.out.keep (Fr.of_alloc wv (.cells #[.slice none 0 0, .bool hb] 45))) (hB.out.keep (Fr.of_alloc wv (.cells #[.slice none 0 0, .bool hb] 45))) (has_new _ rfl Fv.out.size)
    · skip
      try simp only [List.getElem_toArray, List.getElem_cons_succ, List.getElem_cons_zero]
      go_simp
      refine hK.out _ _ (s_of Hc.out (frG Fv.out (Fr.of_alloc wv (.cells #[.pointer none] 25)))) (fun _ => ?_)
      exact st_20100.out _ A B wv.heap.size (frG Fv.out (Fr.of_alloc wv (.cells #[.pointer none] 25))) (hA.out.keep (Fr.of_alloc wv (.cells #[.pointer none] 25))) (hB.out.keep (Fr.of_alloc wv (.cells #[.pointer none] 25))) (has_new _ rfl Fv.out.size)
    · skip
      try simp only [List.getElem_toArray, List.getElem_cons_succ, List.getElem_cons_zero]
      go_simp
      refine hK.out _ _ (s_of Hc.out (frG Fv.out (Fr.of_alloc wv (.cells #[.pointer none] 40)))) (fun _ => ?_)
      exact st_20010.out _ A B wv.heap.size (frG Fv.out (Fr.of_alloc wv (.cells #[.pointer none] 40))) (hA.out.keep (Fr.of_alloc wv (.cells #[.pointer none] 40))) (hB.out.keep (Fr.of_alloc wv (.cells #[.pointer none] 40))) (has_new _ rfl Fv.out.size)
  have st_00010 : Hid (∀ (wv : World) (p6 : Nat), Fr (fun k => w1.heap.size ≤ k) w1 wv → Has w1.heap.size wv p6 (Ptr 40 (.pointer none)) → wpAnyH Try.prog Region.Mode.any OPS5 (NoPanic Q) (fun w' => w'.cell? ⟨p3, 0, none⟩ = some (.bool hb)) 7 #[false, false, true, true, false, false, true, false, false, false] ({ tmps := #[t0, t1, t2, (.pointer (some ⟨p3, 0, none⟩)), t4, undef, (.pointer (some ⟨p6, 0, none⟩)), undef, t8, t9, t10, t11, t12, t13, t14, t15, t16, t17, t18, undef, undef, (.bool hb), (.agg #[.slice none 0 0, .bool hb]), undef, t24, t25, t26, t27, t28, t29, t30, t31, t32, t33, t34, t35, t36, t37, t38, t39, t40, t41, t42, t43, t44, t45, t46, t47, t48, t49, t50, t51, t52, t53, t54, t55, t56, t57, t58, t59, t60, t61, t62, t63, t64, t65, t66, t67, t68, t69, t70, t71, t72], defers := [] } : Act) wv) := by
    intro wv p6 Fv' h6'
    have Fv := hide Fv'
    have h6 := hide h6'
    have c6 := cell_of (o := 0) h6'.heap rfl
    have z6 := frozen_of (o := 0) h6'.heap
    have hS := s_of Hc.out Fv'
    clear Fv' h6'
    refine wpAnyH_ready (rs := [0, 4, 5]) (by kernel_rfl) (by simp) ?_
    refine (AllReadyH.cons rfl (fun Kx hK => ?_) (AllReadyH.cons rfl (fun Kx hK => ?_) (AllReadyH.cons rfl (fun Kx hK => ?_) AllReadyH.nil)))
    · skip
      try simp only [List.getElem_toArray, List.getElem_cons_zero]
      go_simp
      refine (newLow_c (.slice none 0 0) [] wv (Or.inl ⟨rfl, rfl⟩) (by simp) (by simp)).mono ?_
      rintro e w' ⟨A, rfl, hr, f⟩
      refine hK.out _ _ (s_of Hc.out (frG Fv.out f)) (fun _ => ?_)
      exact st_10010.out w' A p6 (frG Fv.out f) (has_low hr Fv.out.size) (h6.out.keep f)
    · skip
      try simp only [List.getElem_toArray, List.getElem_cons_succ, List.getElem_cons_zero]
      go_simp
      refine hK.out _ _ (s_of Hc.out (frG Fv.out (Fr.of_alloc wv (.cells #[.slice none 0 0, .bool hb] 45)))) (fun _ => ?_)
      exact st_01010.out _ wv.heap.size p6 (frG Fv.out (Fr.of_alloc wv (.cells #[.slice none 0 0, .bool hb] 45))) (has_new _ rfl Fv.out.size) (h6.out.keep (Fr.of_alloc wv (.cells #[.slice none 0 0, .bool hb] 45)))
    · skip
      try simp only [List.getElem_toArray, List.getElem_cons_succ, List.getElem_cons_zero]
      go_simp
      refine hK.out _ _ (s_of Hc.out (frG Fv.out (Fr.of_alloc wv (.cells #[.pointer none] 25)))) (fun _ => ?_)
      exact st_00110.out _ wv.heap.size p6 (frG Fv.out (Fr.of_alloc wv (.cells #[.pointer none] 25))) (has_new _ rfl Fv.out.size) (h6.out.keep (Fr.of_alloc wv (.cells #[.pointer none] 25)))
  have st_00100 : Hid (∀ (wv : World) (p5 : Nat), Fr (fun k => w1.heap.size ≤ k) w1 wv → Has w1.heap.size wv p5 (Ptr 25 (.pointer none)) → wpAnyH Try.prog Region.Mode.any OPS5 (NoPanic Q) (fun w' => w'.cell? ⟨p3, 0, none⟩ = some (.bool hb)) 7 #[false, false, true, true, false, true, false, false, false, false] ({ tmps := #[t0, t1, t2, (.pointer (some ⟨p3, 0, none⟩)), t4, (.pointer (some ⟨p5, 0, none⟩)), undef, undef, t8, t9, t10, t11, t12, t13, t14, t15, t16, t17, t18, undef, undef, (.bool hb), (.agg #[.slice none 0 0, .bool hb]), undef, t24, t25, t26, t27, t28, t29, t30, t31, t32, t33, t34, t35, t36, t37, t38, t39, t40, t41, t42, t43, t44, t45, t46, t47, t48, t49, t50, t51, t52, t53, t54, t55, t56, t57, t58, t59, t60, t61, t62, t63, t64, t65, t66, t67, t68, t69, t70, t71, t72], defers := [] } : Act) wv) := by
    intro wv p5 Fv' h5'
    have Fv := hide Fv'
    have h5 := hide h5'
    have c5 := cell_of (o := 0) h5'.heap rfl
    have z5 := frozen_of (o := 0) h5'.heap
    have hS := s_of Hc.out Fv'
    clear Fv' h5'
    refine wpAnyH_ready (rs := [0, 4, 6]) (by kernel_rfl) (by simp) ?_
    refine (AllReadyH.cons rfl (fun Kx hK => ?_) (AllReadyH.cons rfl (fun Kx hK => ?_) (AllReadyH.cons rfl (fun Kx hK => ?_) AllReadyH.nil)))
    · skip
      try simp only [List.getElem_toArray, List.getElem_cons_zero]
      go_simp
      refine (newLow_c (.slice none 0 0) [] wv (Or.inl ⟨rfl, rfl⟩) (by simp) (by simp)).mono ?_
      rintro e w' ⟨A, rfl, hr, f⟩
      refine hK.out _ _ (s_of Hc.out (frG Fv.out f)) (fun _ => ?_)
      exact st_10100.out w' A p5 (frG Fv.out f) (has_low hr Fv.out.size) (h5.out.keep f)
    · skip
      try simp only [List.getElem_toArray, List.getElem_cons_succ, List.getElem_cons_zero]
      go_simp
      refine hK.out _ _ (s_of Hc.out (frG Fv.out (Fr.of_alloc wv (.cells #[.slice none 0 0, .bool hb] 45)))) (fun _ => ?_)
      exact st_01100.out _ wv.heap.size p5 (frG Fv.out (Fr.of_alloc wv (.cells #[.slice none 0 0, .bool hb] 45))) (has_new _ rfl Fv.out.size) (h5.out.keep (Fr.of_alloc wv (.cells #[.slice none 0 0, .bool hb] 45)))
    · skip
      try simp only [List.getElem_toArray, List.getElem_cons_succ, List.getElem_cons_zero]
      go_simp
      refine hK.out _ _ (s_of Hc.out (frG Fv.out (Fr.of_alloc wv (.cells #[.pointer none] 40)))) (fun _ => ?_)
      exact st_00110.out _ p5 wv.heap.size (frG Fv.out (Fr.of_alloc wv (.cells #[.pointer none] 40))) (h5.out.keep (Fr.of_alloc wv (.cells #[.pointer none] 40))) (has_new _ rfl Fv.out.size)
  have st_01000 : Hid (∀ (wv : World) (K : Nat), Fr (fun k => w1.heap.size ≤ k) w1 wv → Has w1.heap.size wv K (Pk0 hb) → wpAnyH Try.prog Region.Mode.any OPS5 (NoPanic Q) (fun w' => w'.cell? ⟨p3, 0, none⟩ = some (.bool hb)) 7 #[false, false, true, true, true, false, false, false, false, false] ({ tmps := #[t0, t1, t2, (.pointer (some ⟨p3, 0, none⟩)), t4, undef, undef, undef, t8, t9, t10, t11, t12, t13, t14, t15, t16, t17, t18, undef, undef, (.bool hb), (.agg #[.slice none 0 0, .bool hb]), (.pointer (some ⟨K, 0, none⟩)), t24, t25, t26, t27, t28, t29, t30, t31, t32, t33, t34, t35, t36, t37, t38, t39, t40, t41, t42, t43, t44, t45, t46, t47, t48, t49, t50, t51, t52, t53, t54, t55, t56, t57, t58, t59, t60, t61, t62, t63, t64, t65, t66, t67, t68, t69, t70, t71, t72], defers := [] } : Act) wv) := by
    intro wv K Fv' hK'
    have Fv := hide Fv'
    have hKk := hide hK'
    have hS := s_of Hc.out Fv'
    clear Fv' hK'
    refine wpAnyH_ready (rs := [0, 5, 6]) (by kernel_rfl) (by simp) ?_
    refine (AllReadyH.cons rfl (fun Kx hK => ?_) (AllReadyH.cons rfl (fun Kx hK => ?_) (AllReadyH.cons rfl (fun Kx hK => ?_) AllReadyH.nil)))
    · skip
      try simp only [List.getElem_toArray, List.getElem_cons_zero]
      go_simp
      refine (newLow_c (.slice none 0 0) [] wv (Or.inl ⟨rfl, rfl⟩) (by simp) (by simp)).mono ?_
      rintro e w' ⟨A, rfl, hr, f⟩
      refine hK.out _ _ (s_of Hc.out (frG Fv.out f)) (fun _ => ?_)
      exact st_11000.out w' A K (frG Fv.out f) (has_low hr Fv.out.size) (hKk.out.keep f)
    · skip
      try simp only [List.getElem_toArray, List.getElem_cons_succ, List.getElem_cons_zero]
      go_simp
      refine hK.out _ _ (s_of Hc.out (frG Fv.out (Fr.of_alloc wv (.cells #[.pointer none] 25)))) (fun _ => ?_)
      exact st_01100.out _ K wv.heap.size (frG Fv.out (Fr.of_alloc wv (.cells #[.pointer none] 25))) (hKk.out.keep (Fr.of_alloc wv (.cells #[.pointer none] 25))) (has_new _ rfl Fv.out.size)
    · skip
      try simp only [List.getElem_toArray, List.getElem_cons_succ, List.getElem_cons_zero]
      go_simp
      refine hK.out _ _ (s_of Hc.out (frG Fv.out (Fr.of_alloc wv (.cells #[.pointer none] 40)))) (fun _ => ?_)
      exact st_01010.out _ K wv.heap.size (frG Fv.out (Fr.of_alloc wv (.cells #[.pointer none] 40))) (hKk.out.keep (Fr.of_alloc wv (.cells #[.pointer none] 40))) (has_new _ rfl Fv.out.size)
  have st_10000 : Hid (∀ (wv : World) (A : Nat), Fr (fun k => w1.heap.size ≤ k) w1 wv → Has w1.heap.size wv A Low0 → wpAnyH Try.prog Region.Mode.any OPS5 (NoPanic Q) (fun w' => w'.cell? ⟨p3, 0, none⟩ = some (.bool hb)) 7 #[true, false, true, true, false, false, false, false, false, false] ({ tmps := #[t0, t1, t2, (.pointer (some ⟨p3, 0, none⟩)), t4, undef, undef, undef, t8, t9, t10, t11, t12, t13, t14, t15, t16, t17, t18, (.pointer (some ⟨A, 0, none⟩)), undef, (.bool hb), (.agg #[.slice none 0 0, .bool hb]), undef, t24, t25, t26, t27, t28, t29, t30, t31, t32, t33, t34, t35, t36, t37, t38, t39, t40, t41, t42, t43, t44, t45, t46, t47, t48, t49, t50, t51, t52, t53, t54, t55, t56, t57, t58, t59, t60, t61, t62, t63, t64, t65, t66, t67, t68, t69, t70, t71, t72], defers := [] } : Act) wv) := by
    intro wv A Fv' hA'
    have Fv := hide Fv'
    have hA := hide hA'
    have hS := s_of Hc.out Fv'
    clear Fv' hA'
    refine wpAnyH_ready (rs := [1, 4, 5, 6]) (by kernel_rfl) (by simp) ?_
    refine (AllReadyH.cons rfl (fun Kx hK => ?_) (AllReadyH.cons rfl (fun Kx hK => ?_) (AllReadyH.cons rfl (fun Kx hK => ?_) (AllReadyH.cons rfl (fun Kx hK => ?_) AllReadyH.nil))))
    · skip
      try simp only [List.getElem_toArray, List.getElem_cons_succ, List.getElem_cons_zero]
      go_simp
      refine (newHigh_c (.slice none 0 0) [] wv (Or.inl ⟨rfl, rfl⟩) (by simp) (by simp)).mono ?_
      rintro e w' ⟨B, rfl, hr, f⟩
      refine hK.out _ _ (s_of Hc.out (frG Fv.out f)) (fun _ => ?_)
      exact st_20000.out w' A B (frG Fv.out f) (hA.out.keep f) (has_high hr Fv.out.size)
    · skip
      try simp only [List.getElem_toArray, List.getElem_cons_succ, List.getElem_cons_zero]
      go_simp
      refine hK.out _ _ (s_of Hc.out (frG Fv.out (Fr.of_alloc wv (.cells #[.slice none 0 0, .bool hb] 45)))) (fun _ => ?_)
      exact st_11000.out _ A wv.heap.size (frG Fv.out (Fr.of_alloc wv (.cells #[.slice none 0 0, .bool hb] 45))) (hA.out.keep (Fr.of_alloc wv (.cells #[.slice none 0 0, .bool hb] 45))) (has_new _ rfl Fv.out.size)
    · skip
      try simp only [List.getElem_toArray, List.getElem_cons_succ, List.getElem_cons_zero]
      go_simp
      refine hK.out _ _ (s_of Hc.out (frG Fv.out (Fr.of_alloc wv (.cells #[.pointer none] 25)))) (fun _ => ?_)
      exact st_10100.out _ A wv.heap.size (frG Fv.out (Fr.of_alloc wv (.cells #[.pointer none] 25))) (hA.out.keep (Fr.of_alloc wv (.cells #[.pointer none] 25))) (has_new _ rfl Fv.out.size)
    · skip
      try simp only [List.getElem_toArray, List.getElem_cons_succ, List.getElem_cons_zero]
      go_simp
      refine hK.out _ _ (s_of Hc.out (frG Fv.out (Fr.of_alloc wv (.cells #[.pointer none] 40)))) (fun _ => ?_)
      exact st_10010.out _ A wv.heap.size (frG Fv.out (Fr.of_alloc wv (.cells #[.pointer none] 40))) (hA.out.keep (Fr.of_alloc wv (.cells #[.pointer none] 40))) (has_new _ rfl Fv.out.size)
  have st_00000 : Hid (∀ (wv : World), Fr (fun k => w1.heap.size ≤ k) w1 wv → wpAnyH Try.prog Region.Mode.any OPS5 (NoPanic Q) (fun w' => w'.cell? ⟨p3, 0, none⟩ = some (.bool hb)) 8 #[false, false, true, true, false, false, false, false, false, false] ({ tmps := #[t0, t1, t2, (.pointer (some ⟨p3, 0, none⟩)), t4, undef, undef, undef, t8, t9, t10, t11, t12, t13, t14, t15, t16, t17, t18, undef, undef, (.bool hb), (.agg #[.slice none 0 0, .bool hb]), undef, t24, t25, t26, t27, t28, t29, t30, t31, t32, t33, t34, t35, t36, t37, t38, t39, t40, t41, t42, t43, t44, t45, t46, t47, t48, t49, t50, t51, t52, t53, t54, t55, t56, t57, t58, t59, t60, t61, t62, t63, t64, t65, t66, t67, t68, t69, t70, t71, t72], defers := [] } : Act) wv) := by
    intro wv Fv'
    have Fv := hide Fv'
    have hS := s_of Hc.out Fv'
    clear Fv'
    refine wpAnyH_ready (rs := [0, 4, 5, 6]) (by kernel_rfl) (by simp) ?_
    refine (AllReadyH.cons rfl (fun Kx hK => ?_) (AllReadyH.cons rfl (fun Kx hK => ?_) (AllReadyH.cons rfl (fun Kx hK => ?_) (AllReadyH.cons rfl (fun Kx hK => ?_) AllReadyH.nil))))
    · skip
      try simp only [List.getElem_toArray, List.getElem_cons_zero]
      go_simp
      refine (newLow_c (.slice none 0 0) [] wv (Or.inl ⟨rfl, rfl⟩) (by simp) (by simp)).mono ?_
      rintro e w' ⟨A, rfl, hr, f⟩
      refine hK.out _ _ (s_of Hc.out (frG Fv.out f)) (fun _ => ?_)
      exact st_10000.out w' A (frG Fv.out f) (has_low hr Fv.out.size)
    · skip
      try simp only [List.getElem_toArray, List.getElem_cons_succ, List.getElem_cons_zero]
      go_simp
      refine hK.out _ _ (s_of Hc.out (frG Fv.out (Fr.of_alloc wv (.cells #[.slice none 0 0, .bool hb] 45)))) (fun _ => ?_)
      exact st_01000.out _ wv.heap.size (frG Fv.out (Fr.of_alloc wv (.cells #[.slice none 0 0, .bool hb] 45))) (has_new _ rfl Fv.out.size)
    · skip
      try simp only [List.getElem_toArray, List.getElem_cons_succ, List.getElem_cons_zero]
      go_simp
      refine hK.out _ _ (s_of Hc.out (frG Fv.out (Fr.of_alloc wv (.cells #[.pointer none] 25)))) (fun _ => ?_)
      exact st_00100.out _ wv.heap.size (frG Fv.out (Fr.of_alloc wv (.cells #[.pointer none] 25))) (has_new _ rfl Fv.out.size)
    · skip
      try simp only [List.getElem_toArray, List.getElem_cons_succ, List.getElem_cons_zero]
      go_simp
      refine hK.out _ _ (s_of Hc.out (frG Fv.out (Fr.of_alloc wv (.cells #[.pointer none] 40)))) (fun _ => ?_)
      exact st_00010.out _ wv.heap.size (frG Fv.out (Fr.of_alloc wv (.cells #[.pointer none] 40))) (has_new _ rfl Fv.out.size)
  have hS : w1.drew.cell? ⟨p3, 0, none⟩ = some (.bool hb) := s_of Hc.out (frG (Fr.refl _ w1) (Fr.of_drewN w1 1))
  refine wpAnyH_take (i := 2) (v := ?v2) rfl (by kernel_rfl) (by kernel_rfl) (by kernel_rfl) (fun _ _ _ h => h) (Or.inl ⟨by rfl, ?hy2⟩) hS ?rest2
  case hy2 => (intro W hSw; (try dsimp only at hSw); go_simp; all_goals (with_reducible rfl))
  change wpAnyH _ _ _ _ _ _ _ (Act.put _ (some 21) _) _
  simp only [Act.put, List.setIfInBounds_toArray, List.set_cons_zero, List.set_cons_succ]
  refine wpAnyH_take (i := 3) (v := ?v3) rfl (by kernel_rfl) (by kernel_rfl) (by kernel_rfl) (fun _ _ _ h => h) (Or.inl ⟨by rfl, ?hy3⟩) hS ?rest3
  case hy3 => (intro W hSw; (try dsimp only at hSw); go_simp; all_goals (with_reducible rfl))
  change wpAnyH _ _ _ _ _ _ _ (Act.put _ (some 22) _) _
  simp only [Act.put, List.setIfInBounds_toArray, List.set_cons_zero, List.set_cons_succ]
  exact st_00000.out _ (frG (Fr.refl _ w1) (Fr.of_drewN w1 1))
end Go.Proofs.Ytkmgpapopgeldaa
