/-
  raster: At of both, where there is a pixel.
-/
import Derived.Test.YthdilabmajaehaaSb
namespace Go.Proofs.Ythdilabmajaehaa
open Go.RowKit

theorem wp_copy_own {P : Program} {w : World} {o : Oper} {a : Act} {K : Act → World → Prop} {Q : Exit → Act → World → Prop} (d s : Operand) (dT sT : TypeId)
    (ho : o.op = .call { callee := .builtin .copy, args := #[d, s], argTypes := #[dT, sT] }) (elem : TypeId) (hu : P.underlying dT = some (.slice elem)) (hsz : (P.info? elem).map (·.size) = some 1)
    (g off dLen dCap : Nat) (ad : Addr) (sLen sCap : Nat) (hd : a.eval d = .slice (some ⟨g, off, none⟩) dLen dCap) (hs : a.eval s = .slice (some ad) sLen sCap)
    (cur : Array Value) (t : TypeId) (hg : w.heap[g]? = some (.cells cur t (0, 0))) (cs : List Value) (hn : cs.length = Nat.min sLen dLen)
    (hsrc : ∀ j v, cs[j]? = some v → w.cell? (ad.add j) = some v) (hfit : off + cs.length ≤ cur.size) (h1 : ∀ v ∈ cs, v.oneCell' = true)
    (h : K (a.put o.dst (goInt cs.length)) (w.setRow g (cur.toList.take off ++ (cs ++ cur.toList.drop (off + cs.length))).toArray)) : o.wp P a w K Q := by
  have hrun := run_copy_row (P := P) w dT sT o.type elem g off dLen dCap ad sLen sCap cur t cs hu hsz hg hn hsrc hfit h1
  unfold Oper.wp
  simp [execOp, ho, resolve, invoke, builtin, hd, hs, hrun, Result.andThen]
  exact h

/-- The four samples from k on. -/
def pixL (px : List Nat) (k : Nat) : List Value := [.int .u16 ((px.getD k 0 : Nat) : Int), .int .u16 ((px.getD (k + 1) 0 : Nat) : Int), .int .u16 ((px.getD (k + 2) 0 : Nat) : Int), .int .u16 ((px.getD (k + 3) 0 : Nat) : Int)]

theorem pixL_one (px : List Nat) (k : Nat) : ∀ v ∈ pixL px k, v.oneCell' = true := fun v hv => by
  simp only [pixL, List.mem_cons, List.not_mem_nil, or_false] at hv
  rcases hv with rfl | rfl | rfl | rfl <;> rfl

theorem pixL_cell {w : World} {b o k : Nat} {px : List Nat} (h : Lies w (some ⟨b, o, none⟩) px) (hk : k + 4 ≤ px.length) : ∀ j v, (pixL px k)[j]? = some v → w.cell? ((⟨b, o + k, none⟩ : Addr).add j) = some v := fun j v hj => by
  have hl : j < 4 := (List.getElem?_eq_some_iff.1 hj).1
  have e : (pixL px k)[j]? = some (.int .u16 ((px.getD (k + j) 0 : Nat) : Int)) := by
    match j, hl with
    | 0, _ => rfl
    | 1, _ => rfl
    | 2, _ => rfl
    | 3, _ => rfl
  rw [e] at hj
  cases hj
  rw [add_none, Nat.add_assoc]
  exact h.cell (by omega)

set_option maxHeartbeats 100000 in
theorem at_yes (W H x y : Int) (b o : Nat) (px : List Nat) (n c k : Nat) (w : World) (h : inB W H n x y = true) (hk : (k : Int) = 4 * (y * W + x)) (hk4 : k + 4 ≤ n) (hl : Lies w (some ⟨b, o, none⟩) px) (hp : px.length = n) (hc : n ≤ c) :
    Calls Try.prog 19 #[rasV W H (some ⟨b, o, none⟩) n c, .int .i64 x, .int .i64 y] w fun e w' => e = .returned (.tuple #[.agg (pixL px k).toArray, .bool true]) ∧ Fr (fun _ => False) w w' := by
  obtain ⟨hm, hx, hy⟩ := inB_true h
  obtain ⟨hs, hn⟩ := mayB_true hm
  obtain ⟨p0, hp0⟩ : ∃ v, v = ((px.getD k 0 : Nat) : Int) := ⟨_, rfl⟩
  obtain ⟨p1, hp1⟩ : ∃ v, v = ((px.getD (k + 1) 0 : Nat) : Int) := ⟨_, rfl⟩
  obtain ⟨p2, hp2⟩ : ∃ v, v = ((px.getD (k + 2) 0 : Nat) : Int) := ⟨_, rfl⟩
  obtain ⟨p3, hp3⟩ : ∃ v, v = ((px.getD (k + 3) 0 : Nat) : Int) := ⟨_, rfl⟩
  have ep : pixL px k = [.int .u16 p0, .int .u16 p1, .int .u16 p2, .int .u16 p3] := by rw [hp0, hp1, hp2, hp3]; rfl
  obtain ⟨w1, hw1⟩ : ∃ w1, w1 = (w.alloc (.cells #[.int .i64 W, .int .i64 H, .slice (some ⟨b, o, none⟩) n c] 24)).alloc (.cells #[.int .u16 0, .int .u16 0, .int .u16 0, .int .u16 0] 36) := ⟨_, rfl⟩
  have HP := hide (pixel_c W H x y ⟨b, o, none⟩ n c k w1 hs hn hc hx hy hk hk4)
  rw [add_none] at HP
  have hb : w1.heap[w.heap.size + 1]? = some (.cells #[.int .u16 0, .int .u16 0, .int .u16 0, .int .u16 0] 36 (0, 0)) := by rw [hw1]; exact heap_alloc_at (by simp)
  have hF : Fr (fun _ => False) w w1 := by rw [hw1]; exact (Fr.of_alloc _ _).join (Fr.of_alloc _ _)
  have Hb := hide hb
  have HF := hide hF
  have Hw1 := hide hw1
  have HC : Hid (∀ W', Fr (fun _ => False) w W' → W'.cell? ⟨b, o + k, none⟩ = some (.int .u16 p0) ∧ W'.cell? ⟨b, o + k + 1, none⟩ = some (.int .u16 p1) ∧ W'.cell? ⟨b, o + k + 2, none⟩ = some (.int .u16 p2) ∧ W'.cell? ⟨b, o + k + 3, none⟩ = some (.int .u16 p3)) := fun W' f => by
    have hl2 := hl.keep0 f
    rw [hp0, hp1, hp2, hp3]
    exact ⟨hl2.cell (by omega), hl2.cell (j := k + 1) (by omega), hl2.cell (j := k + 2) (by omega), hl2.cell (j := k + 3) (by omega)⟩
  obtain ⟨q, hq⟩ : ∃ q, q = o + k := ⟨_, rfl⟩
  rw [← hq] at HC HP
  rw [ep]
  clear hs hn hx hy hk hb hF hw1 hl hk4 h hm hp hc hp0 hp1 hp2 hp3 ep hq
  go_enter Try.func19, Try.ntmps19
  go_wp2_with fail
  rw [← Hw1.out]
  refine HP.out.mono ?_
  rintro e w2 ⟨rfl, hF2⟩
  have HF2 := hide (HF.out.join hF2)
  have hb2 := cells_at Hb.out hF2 (fun e => e)
  obtain ⟨c0, c1, c2, c3⟩ := HC.out w2 HF2.out
  have d0 := cell_of (o := 0) hb2 rfl
  have f0 := frozen_of (o := 0) hb2
  have d1 := cell_of (o := 1) hb2 rfl
  have f1 := frozen_of (o := 1) hb2
  have d2 := cell_of (o := 2) hb2 rfl
  have f2 := frozen_of (o := 2) hb2
  have d3 := cell_of (o := 3) hb2 rfl
  have f3 := frozen_of (o := 3) hb2
  have HB2 := hide hb2
  clear hF2 hb2
  have hA : ∀ W : World, (Instr.arrayAt 36 (.slice (some ⟨b, q, none⟩) 4 (c - k))).run Try.prog W = .ok (.pointer (some ⟨b, q, none⟩)) W := fun W => run_arrayAt (P := Try.prog) (w := W) 36 29 4 (some ⟨b, q, none⟩) 4 (c - k) (by kernel_rfl) (by decide)
  go_wp2_with fail
  obtain ⟨d, u1, u2, u3⟩ := Try.und36
  obtain ⟨B, hB⟩ : ∃ B, B = w.heap.size + 1 := ⟨_, rfl⟩
  have hb0 := HB2.out
  rw [← hB] at hb0 ⊢
  have e1 := heap_setCell_own (o := 3) (.int .u16 p3) (heap_setCell_own (o := 2) (.int .u16 p2) (heap_setCell_own (o := 1) (.int .u16 p1) (heap_setCell_own (o := 0) (.int .u16 p0) hb0)))
  have hf9 := (((Fr.of_setCell w2 ⟨B, 0, none⟩ (.int .u16 p0)).join (Fr.of_setCell _ ⟨B, 1, none⟩ (.int .u16 p1))).join (Fr.of_setCell _ ⟨B, 2, none⟩ (.int .u16 p2))).join (Fr.of_setCell _ ⟨B, 3, none⟩ (.int .u16 p3))
  obtain ⟨w9, hw9⟩ : ∃ w9, w9 = (((w2.setCell ⟨B, 0, none⟩ (.int .u16 p0)).setCell ⟨B, 1, none⟩ (.int .u16 p1)).setCell ⟨B, 2, none⟩ (.int .u16 p2)).setCell ⟨B, 3, none⟩ (.int .u16 p3) := ⟨_, rfl⟩
  rw [← hw9] at e1 hf9 ⊢
  have hb9 : w9.heap[B]? = some (.cells [.int .u16 p0, .int .u16 p1, .int .u16 p2, .int .u16 p3].toArray 36 (0, 0)) := e1
  have hld := run_loadVar_mid (P := Try.prog) w9 B 0 36 [.int .u16 p0, .int .u16 p1, .int .u16 p2, .int .u16 p3] d (rangeAt_cells hb9) u1 u2 u3
  have hfin : Fr (fun _ => False) w w9 := frJ HF2.out hf9 fun j hj => by
    have e : j = B := hj
    omega
  exact bodyPost_ret (results_two (t := 6) (s := 7) Try.results19 rfl hld rfl) rfl ⟨rfl, hfin⟩

end Go.Proofs.Ythdilabmajaehaa
