/-
  raster: Set.
-/
import Derived.Test.YthdilabmajaehaaRd
import Derived.Laws.CopyOwn
namespace Go.Proofs.Ythdilabmajaehaa
open Go.RowKit

theorem add_none (b o i : Nat) : (⟨b, o, none⟩ : Addr).add i = ⟨b, o + i, none⟩ := by
  unfold Addr.add
  split
  · next h => subst h; rfl
  · rfl

/-- A pixel's four samples. -/
def pixC (p0 p1 p2 p3 : Int) : List Value := [.int .u16 p0, .int .u16 p1, .int .u16 p2, .int .u16 p3]

/-- The samples with a pixel set. -/
def setL (cur : List Value) (k : Nat) (ps : List Value) : List Value := cur.take k ++ (ps ++ cur.drop (k + ps.length))

set_option maxHeartbeats 100000 in
theorem set_c (W H x y : Int) (g : Nat) (cur : List Value) (n k : Nat) (p0 p1 p2 p3 : Int) (w : World) (hs : sizeE W H = 0) (hn : (n : Int) = 4 * W * H) (hx : 0 ≤ x ∧ x < W) (hy : 0 ≤ y ∧ y < H) (hk : (k : Int) = 4 * (y * W + x)) (hk4 : k + 4 ≤ n)
    (hg : w.heap[g]? = some (.cells cur.toArray 29 (0, 0))) (hcur : cur.length = n) :
    Calls Try.prog 18 #[rasV W H (some ⟨g, 0, none⟩) n n, .int .i64 x, .int .i64 y, .agg #[.int .u16 p0, .int .u16 p1, .int .u16 p2, .int .u16 p3]] w fun e w' => e = .returned (.bool true) ∧ Fr (fun j => j = g) w w' ∧
      w'.heap[g]? = some (.cells (setL cur k (pixC p0 p1 p2 p3)).toArray 29 (0, 0)) := by
  obtain ⟨w1, hw1⟩ : ∃ w1, w1 = (w.alloc (.cells #[.int .i64 W, .int .i64 H, .slice (some ⟨g, 0, none⟩) n n] 24)).alloc (.cells #[.int .u16 p0, .int .u16 p1, .int .u16 p2, .int .u16 p3] 36) := ⟨_, rfl⟩
  have HP := hide (pixel_c W H x y ⟨g, 0, none⟩ n n k w1 hs hn (Nat.le_refl _) hx hy hk hk4)
  rw [add_none, Nat.zero_add] at HP
  have hb : w1.heap[w.heap.size + 1]? = some (.cells #[.int .u16 p0, .int .u16 p1, .int .u16 p2, .int .u16 p3] 36 (0, 0)) := by rw [hw1]; exact heap_alloc_at (by simp)
  have hF : Fr (fun _ => False) w w1 := by rw [hw1]; exact (Fr.of_alloc _ _).join (Fr.of_alloc _ _)
  have Hb := hide hb
  have HF := hide hF
  have Hw1 := hide hw1
  have Hg := hide hg
  have Hfit : Hid (k + 4 ≤ cur.length) := by show _ ≤ _; omega
  clear hs hn hx hy hk hb hF hw1 hg hcur hk4
  go_enter Try.func18, Try.ntmps18
  go_wp2_with fail
  rw [← Hw1.out]
  refine HP.out.mono ?_
  rintro e w2 ⟨rfl, hF2⟩
  have HF2 := hide (HF.out.join hF2)
  have Hb2 := hide (cells_at Hb.out hF2 (fun e => e))
  have Hg2 := hide (cells_at Hg.out HF2.out (fun e => e))
  clear hF2
  have hmin : Nat.min 4 4 = 4 := rfl
  have HQ : Hid (∀ w3, w3 = w2.setRow g (setL cur k (pixC p0 p1 p2 p3)).toArray → Fr (fun j => j = g) w w3 ∧ w3.heap[g]? = some (.cells (setL cur k (pixC p0 p1 p2 p3)).toArray 29 (0, 0))) := by
    rintro w3 rfl
    have f : Fr (fun j => j = g) w2 (w2.setRow g (setL cur k (pixC p0 p1 p2 p3)).toArray) := ⟨rfl, rfl, rfl, by simp [World.setRow], fun j _ hj => setRow_other _ _ _ _ hj⟩
    exact ⟨(HF2.out.mono fun _ _ e => e.elim).join f, setRow_heap w2 g _ _ 29 _ Hg2.out⟩
  have HSrc : Hid (∀ j v, (pixC p0 p1 p2 p3)[j]? = some v → w2.cell? ((⟨w.heap.size + 1, 0, none⟩ : Addr).add j) = some v) := fun j v hj => by
    rw [add_none, Nat.zero_add]
    exact cell_of Hb2.out (by rw [← Array.getElem?_toList]; exact hj)
  have HOne : Hid (∀ v ∈ pixC p0 p1 p2 p3, v.oneCell' = true) := fun v hv => by
    simp only [pixC, List.mem_cons, List.not_mem_nil, or_false] at hv
    rcases hv with rfl | rfl | rfl | rfl <;> rfl
  go_wp2_with (refine wpList_copy_own rfl (.tmp 20) (.tmp 21) 22 22 rfl 29 Try.underlying22 (by kernel_rfl) g k 4 (n - k) ⟨w.heap.size + 1, 0, none⟩ 4 4 rfl rfl cur.toArray 29 Hg2.out (pixC p0 p1 p2 p3) rfl HSrc.out (by simpa [pixC] using Hfit.out) HOne.out ?_
               obtain ⟨w3, hw3⟩ : ∃ w3, w3 = w2.setRow g (setL cur k (pixC p0 p1 p2 p3)).toArray := ⟨_, rfl⟩
               have h3 := HQ.out w3 hw3
               have H3 := hide h3
               show wpList _ _ _ _ _ (w2.setRow g (setL cur k (pixC p0 p1 p2 p3)).toArray)
               rw [← hw3]
               clear h3 hw3)
  go_ret
  exact ⟨rfl, H3.out⟩
end Go.Proofs.Ythdilabmajaehaa
