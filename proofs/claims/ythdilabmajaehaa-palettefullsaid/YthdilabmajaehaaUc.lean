/-
  raster: Colours of any raster.
-/
import Derived.Test.YthdilabmajaehaaTh
import Derived.Test.YthdilabmajaehaaSf
import Derived.Test.YthdilabmajaehaaUa
import Derived.Test.YthdilabmajaehaaUb
namespace Go.Proofs.Ythdilabmajaehaa
open Go.RowKit

theorem compact_le (l : Array Int) (n : Nat) : (Go.Lib.compactUpTo l n).length ≤ n := by
  unfold Go.Lib.compactUpTo
  rw [List.length_map]
  exact Nat.le_trans (List.length_filter_le _ _) (by simp)

theorem m_pos {n m : Nat} (h : n = 4 * m) (h0 : 0 < n) : 1 ≤ m := by omega

set_option maxHeartbeats 400000 in
set_option maxRecDepth 100000 in
/-- Colours, at a picture: as many as the keys have unlike members. -/
theorem colours_yes (W H most : Int) (a : Option Addr) (n c m : Nat) (px : List Nat) (w : World) (hl : Lies w a px) (hp : px.length = n) (hmay : mayB W H n = true) (hm : (m : Int) = W * H) :
    Calls Try.prog 14 #[rasV W H a n c, .int .i64 most] w fun e w' => Fr (fun _ => False) w w' ∧ ∃ D : List Int, D.Nodup ∧ (∀ x, x ∈ D ↔ x ∈ keyF m px n) ∧ e = .returned (.tuple (if most < (D.length : Int) then #[.int .i64 0, .bool false] else #[.int .i64 (D.length : Int), .bool true])) := by
  obtain ⟨hs, hn⟩ := mayB_true hmay
  obtain ⟨hnm, hmb, hn5, q1⟩ := nm_arith hs hn hm
  have hn0 := (mayB_pos hmay).1
  obtain ⟨g, o, rfl, hgl⟩ := hl.form (by rw [hp]; exact hn0)
  have Hm1 := hide (m_pos hnm hn0)
  have Hmb := hide hmb
  obtain ⟨w1, hw1⟩ : ∃ w1, w1 = w.alloc (.cells #[.int .i64 W, .int .i64 H, .slice (some ⟨g, o, none⟩) n c] 24) := ⟨_, rfl⟩
  have hb1 : w1.heap[w.heap.size]? = some (.cells #[.int .i64 W, .int .i64 H, .slice (some ⟨g, o, none⟩) n c] 24 (0, 0)) := by rw [hw1]; exact heap_alloc_at rfl
  have hF1 : Fr (fun _ => False) w w1 := by rw [hw1]; exact Fr.of_alloc _ _
  have HM := hide (may_c W H (some ⟨g, o, none⟩) n c w1)
  rw [hmay] at HM
  have Hb1 := hide hb1
  have HF1 := hide hF1
  have Hl := hide hl
  have Hw1 := hide hw1
  have HKK := hide fun (w2 : World) (h1 : Lies w2 (some ⟨g, o, none⟩) px) (h2 : g < w2.heap.size) => keys_any W H g o n c m px w2 hs hn hm h1 h2 hp
  have Hgl := hide hgl
  clear hb1 hF1 hl hw1 hmay hs hn hm hnm hmb hn5 hn0 hgl hp
  go_enter Try.func14, Try.ntmps14
  go_wp2_with fail
  rw [← Hw1.out]
  refine HM.out.mono ?_
  rintro e w2 ⟨rfl, hF2⟩
  have hb2 := cells_at Hb1.out hF2 (fun e => e)
  have HF2 := hide (HF1.out.join hF2)
  have HK := hide (HKK.out w2 (Hl.out.keep0 HF2.out) (Nat.lt_of_lt_of_le Hgl.out HF2.out.size))
  have k0 := cell_of (o := 0) hb2 rfl
  have k1 := cell_of (o := 1) hb2 rfl
  have k2 := cell_of (o := 2) hb2 rfl
  clear hF2 hb2
  go_wp2_with fail
  refine HK.out.mono ?_
  rintro e w3 ⟨h, rfl, hk3, hsz, hF3⟩
  have HS := hide (sort_any h m (keyF m px n) w3 hk3 (keyF_length _ _ _) (Nat.le_trans Hmb.out (by decide)) Hm1.out)
  have HF23 := hide (HF2.out.join hF3)
  have Hhs : Hid (w.heap.size ≤ h) := Nat.le_trans HF2.out.size hsz
  clear hk3 hsz hF3 k0 k1 k2
  go_wp2_with fail
  refine HS.out.mono ?_
  rintro e w4 ⟨rfl, hF4, l', hg4, hperm, hlen, hso⟩
  have HC := hide (compact_c h l' w4 hg4 (by rw [hlen]; exact Nat.le_trans Hmb.out (by decide)))
  have HCS := hide (Go.Proofs.Ythdilabmajaehaa.compact_sorted l' m hlen hso)
  rw [hlen] at HC
  obtain ⟨D, hD⟩ : ∃ D, D = Go.Lib.compactUpTo l'.toArray m := ⟨_, rfl⟩
  have hDl : D.length ≤ m := by rw [hD]; exact compact_le _ _
  rw [← hD] at HC HCS
  obtain ⟨k, hk⟩ : ∃ k, k = D.length := ⟨_, rfl⟩
  rw [← hk] at HC hDl
  have HF4 : Hid (Fr (fun _ => False) w w4) := frJ HF23.out hF4 fun j hj => by
    have e : j = h := hj
    rw [e]
    exact Hhs.out
  have Hpm := hide hperm
  have Hk := hide hk
  have hkb : k ≤ 16384 := Nat.le_trans hDl Hmb.out
  clear hF4 hg4 hperm hlen hso hD hk hDl
  go_wp2_with fail
  refine HC.out.mono ?_
  rintro e w5 ⟨rfl, hF5⟩
  have HF5 : Hid (Fr (fun _ => False) w w5) := frJ HF4.out hF5 fun j hj => by
    have e : j = h := hj
    rw [e]
    exact Hhs.out
  have HR : Hid (D.Nodup ∧ ∀ x, x ∈ D ↔ x ∈ keyF m px n) := ⟨HCS.out.1, fun x => (HCS.out.2 x).trans Hpm.out.mem_iff⟩
  clear hF5
  by_cases hlt : most < (k : Int)
  · go_wp2_with fail
    go_ret2
    exact ⟨HF5.out, D, HR.out.1, HR.out.2, by rw [← Hk.out, if_pos (by omega)]; rfl⟩
  · go_wp2_with fail
    go_ret2
    exact ⟨HF5.out, D, HR.out.1, HR.out.2, by rw [← Hk.out, if_neg (by omega)]; rfl⟩

set_option maxHeartbeats 400000 in
set_option maxRecDepth 100000 in
/-- Colours, at no picture. -/
theorem colours_no (W H most : Int) (a : Option Addr) (n c : Nat) (w : World) (hmay : mayB W H n = false) :
    Calls Try.prog 14 #[rasV W H a n c, .int .i64 most] w fun e w' => Fr (fun _ => False) w w' ∧ e = .returned (.tuple #[.int .i64 0, .bool false]) := by
  obtain ⟨w1, hw1⟩ : ∃ w1, w1 = w.alloc (.cells #[.int .i64 W, .int .i64 H, .slice a n c] 24) := ⟨_, rfl⟩
  have hF1 : Fr (fun _ => False) w w1 := by rw [hw1]; exact Fr.of_alloc _ _
  have HM := hide (may_c W H a n c w1)
  rw [hmay] at HM
  have HF1 := hide hF1
  have Hw1 := hide hw1
  clear hF1 hw1 hmay
  go_enter Try.func14, Try.ntmps14
  go_wp2_with fail
  rw [← Hw1.out]
  refine HM.out.mono ?_
  rintro e w2 ⟨rfl, hF2⟩
  have HF2 := hide (HF1.out.join hF2)
  clear hF2
  go_wp2_with fail
  go_ret2
  exact ⟨HF2.out, rfl⟩
end Go.Proofs.Ythdilabmajaehaa
