/-
  raster: frames, cells and the like.
-/
import Derived.Test.YtdnhndiaiejkoaaDoorRows
import Derived.WalkKit
import Derived.WalkSpells
import Derived.WalkLawsBesides
import Derived.BigQuiet
import Derived.BigRegion
import Derived.Deep.QuietTactic
import Derived.Deep.RegionHeld3
import Derived.Deep.RegionHeldLaw
import Derived.Deep.RegionLaw
import Derived.Deep.CutRange
import Derived.Defers
import Derived.Recover
namespace Go.Proofs.YtdnhndiaiejkoaaDoor
open Go.RowKit


theorem hide {p : Prop} (h : p) : Hid p := h

theorem wrap_i64_id (x : Int) (h0 : -9223372036854775808 ≤ x) (h1 : x < 9223372036854775808) : IntKind.i64.wrap x = x := by
  simp [IntKind.wrap, IntKind.bits, IntKind.signed]; omega

theorem wrap64_id (x : Int) (h0 : -9223372036854775808 ≤ x) (h1 : x < 9223372036854775808) : wrap64 x = x := by
  unfold wrap64; omega

/-- From w to w' only the blocks of S have turned (and new ones have come). -/
structure Fr (S : Nat → Prop) (w w' : World) : Prop where
  os : w'.os = w.os
  tape : w'.tape = w.tape
  output : w'.output = w.output
  size : w.heap.size ≤ w'.heap.size
  block : ∀ k, k < w.heap.size → ¬ S k → w'.heap[k]? = w.heap[k]?

theorem Fr.refl (S : Nat → Prop) (w : World) : Fr S w w := ⟨rfl, rfl, rfl, Nat.le_refl _, fun _ _ _ => rfl⟩

theorem Fr.trans {S S' : Nat → Prop} {a b c : World} (h : Fr S a b) (k : Fr S' b c) : Fr (fun i => S i ∨ S' i) a c :=
  ⟨k.os.trans h.os, k.tape.trans h.tape, k.output.trans h.output, Nat.le_trans h.size k.size, fun i hi hs =>
    (k.block i (Nat.lt_of_lt_of_le hi h.size) (fun x => hs (Or.inr x))).trans (h.block i hi (fun x => hs (Or.inl x)))⟩

/-- S may be widened on old blocks. -/
theorem Fr.mono {S S' : Nat → Prop} {a b : World} (h : Fr S a b) (hs : ∀ k, k < a.heap.size → S k → S' k) : Fr S' a b :=
  ⟨h.os, h.tape, h.output, h.size, fun i hi hn => h.block i hi (fun x => hn (hs i hi x))⟩

theorem Fr.below {S : Nat → Prop} {a b : World} (h : Fr S a b) {B : Nat} (hB : B ≤ a.heap.size) (hs : ∀ k, S k → B ≤ k) : Below B a b :=
  ⟨h.os, h.tape, h.output, h.size, fun k hk => h.block k (by omega) (fun x => by have := hs k x; omega)⟩

theorem Fr.of_below {B : Nat} {a b : World} (h : Below B a b) : Fr (fun k => B ≤ k) a b :=
  ⟨h.os, h.tape, h.output, h.size, fun k _ hn => h.block k (by omega)⟩

theorem Fr.of_drewN (w : World) (k : Nat) : Fr (fun _ => False) w (w.drewN k) := ⟨rfl, rfl, rfl, Nat.le_refl _, fun _ _ _ => rfl⟩

theorem Fr.of_setCell (w : World) (a : Addr) (v : Value) : Fr (fun k => k = a.block) w (w.setCell a v) :=
  ⟨rfl, rfl, rfl, by simp [World.setCell], fun k _ hn => Below.heap_setCell _ _ _ _ hn⟩

theorem Fr.of_alloc (w : World) (o : Obj) : Fr (fun _ => False) w (w.alloc o) :=
  ⟨rfl, rfl, rfl, by simp, fun k hk _ => Below.heap_alloc _ _ _ hk⟩

theorem ownsRow_fr {w w' : World} {lo : Nat} {e : TypeId} {size : Nat} {v : Value} {n : Nat} {xs : List Value} (h : w.ownsRow lo e size v n xs) (hs : ∀ k, v.ownBlock = some k → w'.heap[k]? = w.heap[k]?) : w'.ownsRow lo e size v n xs := by
  obtain ⟨h1, h2⟩ := h
  refine ⟨h1, ?_⟩
  rcases h2 with h2 | ⟨g, cap, cur, hv, hg, hh, r⟩
  · exact Or.inl h2
  · exact Or.inr ⟨g, cap, cur, hv, hg, by rw [hs g (by rw [hv]; rfl)]; exact hh, r⟩

theorem cell_of {w : World} {b o : Nat} {cs : Array Value} {T : TypeId} {v : Value} (h : w.heap[b]? = some (.cells cs T (0, 0))) (hv : cs[o]? = some v) : w.cell? ⟨b, o, none⟩ = some v := by
  simp [World.cell?, h, hv]

theorem frozen_of {w : World} {b o : Nat} {cs : Array Value} {T : TypeId} (h : w.heap[b]? = some (.cells cs T (0, 0))) : w.frozen? ⟨b, o, none⟩ = false := by
  simp [World.frozen?, h]

theorem lt_of {w : World} {b : Nat} {o : Obj} (h : w.heap[b]? = some o) : b < w.heap.size := by
  rcases Nat.lt_or_ge b w.heap.size with hlt | hge
  · exact hlt
  · rw [Array.getElem?_eq_none hge] at h; cases h

theorem heap_setCell_own {w : World} {b o : Nat} {cs : Array Value} {T : TypeId} {fz : Nat × Nat} (v : Value) (h : w.heap[b]? = some (.cells cs T fz)) : (w.setCell ⟨b, o, none⟩ v).heap[b]? = some (.cells (cs.setIfInBounds o v) T fz) := by
  show (w.heap.modify b _)[b]? = _
  simp [Array.getElem?_modify, h]

theorem heap_setCell_one {w : World} {b : Nat} {u : Value} {T : TypeId} {fz : Nat × Nat} (v : Value) (h : w.heap[b]? = some (.cells #[u] T fz)) : (w.setCell ⟨b, 0, none⟩ v).heap[b]? = some (.cells #[v] T fz) := heap_setCell_own v h

theorem Fr.join {S : Nat → Prop} {a b c : World} (h : Fr S a b) (k : Fr S b c) : Fr S a c := (h.trans k).mono fun _ _ h => h.elim id id

theorem size_alloc (w : World) (o : Obj) : (w.alloc o).heap.size = w.heap.size + 1 := by simp

theorem heap_alloc_at {w : World} {o : Obj} {n : Nat} (h : n = w.heap.size) : (w.alloc o).heap[n]? = some o := by rw [h]; exact heap_alloc_new _ _

theorem cell_blk {w w' : World} {a : Addr} (h : w'.heap[a.block]? = w.heap[a.block]?) : w'.cell? a = w.cell? a := by
  unfold World.cell?
  rw [h]

theorem cell_lt {w : World} {a : Addr} {v : Value} (h : w.cell? a = some v) : a.block < w.heap.size := World.block_lt_of_cell? w _ h

theorem Fr.join' {a b c : World} (h : Fr (fun _ => False) a b) (k : Below a.heap.size b c) : Fr (fun _ => False) a c :=
  (h.trans (Fr.of_below k)).mono fun i hi e => e.elim id (fun e => by omega)

theorem frJ {a b c : World} {S : Nat → Prop} (h : Fr (fun _ => False) a b) (k : Fr S b c) (hs : ∀ i, S i → a.heap.size ≤ i) : Fr (fun _ => False) a c :=
  (h.trans k).mono fun j hj e => by
    rcases e with e | e
    · exact e
    · have := hs j e; omega

theorem cells_at {w w' : World} {S : Nat → Prop} {D : Nat} {cs : Array Value} {T : TypeId} (h : w.heap[D]? = some (.cells cs T (0, 0))) (f : Fr S w w') (hn : ¬ S D) : w'.heap[D]? = some (.cells cs T (0, 0)) := (f.block D (lt_of h) hn).trans h

theorem ownsRow_shape {w : World} {lo : Nat} {e : TypeId} {size : Nat} {v : Value} {n : Nat} {xs : List Value} (h : w.ownsRow lo e size v n xs) : ∃ a c, v = .slice a n c := by
  rcases h.2 with ⟨h, hn⟩ | ⟨g, cap, cur, hv, _⟩
  · exact ⟨none, 0, by rw [h, hn]⟩
  · exact ⟨_, _, hv⟩

theorem results_cell {fn : Func} {tmps : Array Value} {P : Program} {w : World} {t : Nat} {ty : TypeId} {a : Addr} {v : Value} (hf : fn.results = #[.cell t ty]) (ht : tmps[t]? = some (.pointer (some a))) (hl : (loadVar ty a).run P w = .ok v w) :
    (results fn tmps).run P w = .ok v w := by
  simp [results, hf, asAddr, ht, hl]

theorem row_of {P : Program} {ty : TypeId} (h : (P.underlying ty).map TypeDesc.isRow = some true) : ∃ d, P.underlying ty = some d ∧ d.isRow = true := by
  cases e : P.underlying ty with
  | none => rw [e] at h; cases h
  | some d => rw [e] at h; exact ⟨d, rfl, by simpa using h⟩

theorem calls_args {P : Program} {f : Nat} {args args' : Array Value} {w : World} {Q : Ending → World → Prop} (h : Calls P f args w Q) (e : args' = args) : Calls P f args' w Q := by rw [e]; exact h

/-- Which numbers may be a width and a height: 0, or the error. -/
def sizeE (W H : Int) : Int := if W < 1 ∨ H < 1 then 1 else if 256 < W ∨ 256 < H ∨ (16384 : Int).tdiv H < W then 6 else 0

theorem size_c (W H : Int) (w : World) : Calls Tryd.prog 19 #[.int .i64 W, .int .i64 H] w fun e w' => e = .returned (.int .i64 (sizeE W H)) ∧ w' = w := by
  by_cases h1 : W < 1
  · have e : sizeE W H = 1 := by unfold sizeE; rw [if_pos (Or.inl h1)]
    rw [e]
    go_enter Tryd.func19, Tryd.ntmps19
    go_wp2
    go_ret
    exact ⟨rfl, rfl⟩
  by_cases h2 : H < 1
  · have e : sizeE W H = 1 := by unfold sizeE; rw [if_pos (Or.inr h2)]
    rw [e]
    go_enter Tryd.func19, Tryd.ntmps19
    go_wp2
    go_ret
    exact ⟨rfl, rfl⟩
  by_cases h3 : 256 < W
  · have e : sizeE W H = 6 := by unfold sizeE; rw [if_neg (by omega), if_pos (Or.inl h3)]
    rw [e]
    go_enter Tryd.func19, Tryd.ntmps19
    go_wp2
    go_ret
    exact ⟨rfl, rfl⟩
  by_cases h4 : 256 < H
  · have e : sizeE W H = 6 := by unfold sizeE; rw [if_neg (by omega), if_pos (Or.inr (Or.inl h4))]
    rw [e]
    go_enter Tryd.func19, Tryd.ntmps19
    go_wp2
    go_ret
    exact ⟨rfl, rfl⟩
  have hH : (H == 0) = false := by rw [beq_eq_false_iff_ne]; omega
  have hq : (16384 : Int).tdiv H = 16384 / H := Int.tdiv_eq_ediv_of_nonneg (by omega)
  have hq1 : 0 ≤ (16384 : Int) / H := Int.ediv_nonneg (by omega) (by omega)
  have hq2 : (16384 : Int) / H ≤ 16384 := Int.ediv_le_self _ (by omega)
  have hq3 : IntKind.i64.wrap ((16384 : Int) / H) = 16384 / H := wrap_i64_id _ (by omega) (by omega)
  have hq4 : wrap64 ((16384 : Int) / H) = 16384 / H := wrap64_id _ (by omega) (by omega)
  by_cases h5 : (16384 : Int) / H < W
  · have e : sizeE W H = 6 := by unfold sizeE; rw [if_neg (by omega), if_pos (Or.inr (Or.inr (by rw [hq]; exact h5)))]
    rw [e]
    go_enter Tryd.func19, Tryd.ntmps19
    go_wp2
    go_ret
    exact ⟨rfl, rfl⟩
  · have e : sizeE W H = 0 := by unfold sizeE; rw [if_neg (by omega), if_neg (by rw [hq]; omega)]
    rw [e]
    go_enter Tryd.func19, Tryd.ntmps19
    go_wp2
    go_ret
    exact ⟨rfl, rfl⟩

theorem rsize_c (W H : Int) (w : World) : Calls Tryd.prog 21 #[.int .i64 W, .int .i64 H] w fun e w' => e = .returned (.int .i64 (sizeE W H)) ∧ w' = w := by
  by_cases h1 : W < 1
  · have e : sizeE W H = 1 := by unfold sizeE; rw [if_pos (Or.inl h1)]
    rw [e]
    go_enter Tryd.func21, Tryd.ntmps21
    go_wp2
    go_ret
    exact ⟨rfl, rfl⟩
  by_cases h2 : H < 1
  · have e : sizeE W H = 1 := by unfold sizeE; rw [if_pos (Or.inr h2)]
    rw [e]
    go_enter Tryd.func21, Tryd.ntmps21
    go_wp2
    go_ret
    exact ⟨rfl, rfl⟩
  by_cases h3 : 256 < W
  · have e : sizeE W H = 6 := by unfold sizeE; rw [if_neg (by omega), if_pos (Or.inl h3)]
    rw [e]
    go_enter Tryd.func21, Tryd.ntmps21
    go_wp2
    go_ret
    exact ⟨rfl, rfl⟩
  by_cases h4 : 256 < H
  · have e : sizeE W H = 6 := by unfold sizeE; rw [if_neg (by omega), if_pos (Or.inr (Or.inl h4))]
    rw [e]
    go_enter Tryd.func21, Tryd.ntmps21
    go_wp2
    go_ret
    exact ⟨rfl, rfl⟩
  have hH : (H == 0) = false := by rw [beq_eq_false_iff_ne]; omega
  have hq : (16384 : Int).tdiv H = 16384 / H := Int.tdiv_eq_ediv_of_nonneg (by omega)
  have hq1 : 0 ≤ (16384 : Int) / H := Int.ediv_nonneg (by omega) (by omega)
  have hq2 : (16384 : Int) / H ≤ 16384 := Int.ediv_le_self _ (by omega)
  have hq3 : IntKind.i64.wrap ((16384 : Int) / H) = 16384 / H := wrap_i64_id _ (by omega) (by omega)
  have hq4 : wrap64 ((16384 : Int) / H) = 16384 / H := wrap64_id _ (by omega) (by omega)
  by_cases h5 : (16384 : Int) / H < W
  · have e : sizeE W H = 6 := by unfold sizeE; rw [if_neg (by omega), if_pos (Or.inr (Or.inr (by rw [hq]; exact h5)))]
    rw [e]
    go_enter Tryd.func21, Tryd.ntmps21
    go_wp2
    go_ret
    exact ⟨rfl, rfl⟩
  · have e : sizeE W H = 0 := by unfold sizeE; rw [if_neg (by omega), if_neg (by rw [hq]; omega)]
    rw [e]
    go_enter Tryd.func21, Tryd.ntmps21
    go_wp2
    go_ret
    exact ⟨rfl, rfl⟩

theorem size_ok {W H : Int} (h : sizeE W H = 0) : 1 ≤ W ∧ W ≤ 256 ∧ 1 ≤ H ∧ H ≤ 256 ∧ W * H ≤ 16384 := by
  unfold sizeE at h
  split at h
  · omega
  · rename_i h1
    split at h
    · omega
    · rename_i h2
      have hq : (16384 : Int).tdiv H = 16384 / H := Int.tdiv_eq_ediv_of_nonneg (by omega)
      rw [hq] at h2
      have h3 : W ≤ 16384 / H := by omega
      have h4 : W * H ≤ 16384 / H * H := Int.mul_le_mul_of_nonneg_right h3 (by omega)
      have h5 : 16384 / H * H ≤ 16384 := Int.ediv_mul_le _ (by omega)
      omega
end Go.Proofs.YtdnhndiaiejkoaaDoor
