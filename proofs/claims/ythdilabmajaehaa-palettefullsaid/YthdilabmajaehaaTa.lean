/-
  sort: a row of numbers under way; its leaves.
-/
import Derived.Test.YthdilabmajaehaaSd
import Derived.Sort.LotA
import Derived.Sort.LotB
import Derived.Sort.LotC
import Derived.Sort.LotD3
import Derived.Deep.CutBlock
namespace Go.Proofs.Ythdilabmajaehaa
open Go.RowKit
open Go.Sort (swp PermIn SortedIn SWO swp_get swp_size swp_permIn permIn_refl permIn_trans permIn_mono permIn_all Ins ltInt swo_ltInt)

/-- A row of numbers in block g. -/
structure Dt (w : World) (g : Nat) (d : Array Int) : Prop where
  obj : w.heap[g]? = some (.cells (d.map fun x => Value.int .u64 x) 65 (0, 0))

theorem Dt.cell {w : World} {g : Nat} {d : Array Int} (h : Dt w g d) {j : Nat} (hj : j < d.size) : w.cell? ⟨g, j, none⟩ = some (.int .u64 d[j]!) := by
  refine cell_of h.obj ?_
  simp [hj]
theorem Dt.frozen {w : World} {g : Nat} {d : Array Int} (h : Dt w g d) (j : Nat) : w.frozen? ⟨g, j, none⟩ = false := frozen_of h.obj
theorem Dt.keep {w w' : World} {g : Nat} {d : Array Int} (h : Dt w g d) {S : Nat → Prop} (f : Fr S w w') (hg : ¬ S g) : Dt w' g d := ⟨cells_at h.obj f hg⟩
theorem Dt.swap {w : World} {g : Nat} {d : Array Int} (h : Dt w g d) {i j q : Nat} : Dt (((w.setCell ⟨g, i, none⟩ (.int .u64 d[j]!)).setCell ⟨g, j, none⟩ (.int .u64 d[i]!)).drewN q) g (swp d i j) := by
  have e : (swp d i j).map (fun x => Value.int .u64 x) = ((d.map fun x => Value.int .u64 x).setIfInBounds i (.int .u64 d[j]!)).setIfInBounds j (.int .u64 d[i]!) := by
    unfold swp
    simp [Array.map_setIfInBounds]
  exact ⟨by rw [e]; exact heap_setCell_own _ (heap_setCell_own _ h.obj)⟩

/-- Sorting under way: only the row has turned. -/
structure St (w wr : World) (g n : Nat) (d : Array Int) : Prop where
  dt : Dt wr g d
  fr : Fr (fun k => k = g) w wr
  sz : d.size = n

theorem St.drewN {w wr : World} {g n : Nat} {d : Array Int} (h : St w wr g n d) (k : Nat) : St w (wr.drewN k) g n d :=
  ⟨h.dt.keep (Fr.of_drewN wr k) (fun h => h), h.fr.join ((Fr.of_drewN wr k).mono fun _ _ h => h.elim), h.sz⟩
theorem St.keep {w wr w2 : World} {g n : Nat} {d : Array Int} (h : St w wr g n d) (f : Fr (fun _ => False) wr w2) : St w w2 g n d :=
  ⟨h.dt.keep f (fun h => h), h.fr.join (f.mono fun _ _ h => h.elim), h.sz⟩
theorem St.swap {w wr : World} {g n : Nat} {d : Array Int} (h : St w wr g n d) {i j : Nat} (q : Nat) (_hi : i < d.size) (_hj : j < d.size) : St w (((wr.setCell ⟨g, i, none⟩ (.int .u64 d[j]!)).setCell ⟨g, j, none⟩ (.int .u64 d[i]!)).drewN q) g n (swp d i j) := by
  have f : Fr (fun k => k = g) wr (((wr.setCell ⟨g, i, none⟩ (.int .u64 d[j]!)).setCell ⟨g, j, none⟩ (.int .u64 d[i]!)).drewN q) :=
    (((Fr.of_setCell wr ⟨g, i, none⟩ _).trans (Fr.of_setCell _ ⟨g, j, none⟩ _)).trans (Fr.of_drewN _ q)).mono fun k _ hk => by simpa using hk
  exact ⟨h.dt.swap, h.fr.join f, by rw [swp_size]; exact h.sz⟩
theorem St.trans {w wr w2 : World} {g n : Nat} {d d' : Array Int} (h : St w wr g n d) (h2 : St wr w2 g n d') : St w w2 g n d' := ⟨h2.dt, h.fr.join h2.fr, h2.sz⟩
theorem St.start {w wr : World} {g n : Nat} {d : Array Int} (h : St w wr g n d) : St wr wr g n d := ⟨h.dt, Fr.refl _ _, h.sz⟩

theorem ltI (x y : Int) : decide (x < y) = ltInt x y := rfl

theorem Ins.begin {a i : Nat} {d : Array Int} (h : SortedIn ltInt a i d) : Ins ltInt a i i d := ⟨fun p q h1 h2 h3 h4 h5 => h p q h1 h2 (by omega), fun q h1 h2 => by omega⟩

set_option maxHeartbeats 1600000 in
set_option maxRecDepth 100000 in
theorem reverse_c (g n a b : Nat) (d : Array Int) (w : World) (h : St w w g n d) (hn : n ≤ 100000) (hab : a < b) (hb : b ≤ n) :
    Calls Try.prog 62 #[.slice (some ⟨g, 0, none⟩) n n, .int .i64 (a : Int), .int .i64 (b : Int)] w fun e w' => e = .returned (.tuple #[]) ∧ St w w' g n (Go.Sort.reverseRange d a b) := by
  have H := hide h
  have hj0 : (b : Int) - 1 = ((b - 1 : Nat) : Int) := by omega
  obtain ⟨R, hR⟩ : ∃ R, R = Go.Sort.reverseRange d a b := ⟨_, rfl⟩
  rw [← hR]
  have HR : Hid (Go.Sort.reverseLoop a (b - 1) d = R) := by rw [hR]; rfl
  obtain ⟨b1, hb1⟩ : ∃ b1, b1 = b - 1 := ⟨_, rfl⟩
  rw [← hb1] at HR hj0
  have hb1n : b1 < n := by omega
  clear h hR hb1
  go_enter Try.func62, Try.ntmps62
  go_wp2_with fail
  go_loopw [6, 7] (fun v6 v7 wr => ∃ (i j : Nat) (d' : Array Int), v6 = .int .i64 (i : Int) ∧ v7 = .int .i64 (j : Int) ∧ i ≤ n ∧ j < n ∧ Hid (St w wr g n d') ∧ Hid (Go.Sort.reverseLoop i j d' = R)) (fun v6 v7 _ => (intOf v7 - intOf v6).toNat)
  case atStart => exact ⟨a, b1, d, rfl, rfl, by omega, hb1n, H.out, HR.out⟩
  case round =>
    obtain ⟨i, j, d', rfl, rfl, hi, hj, HS, HL⟩ := hrel
    by_cases hlt : i < j
    · have hlti : (i : Int) < (j : Int) := by omega
      have hii : (i : Int) < (n : Int) := by omega
      have hji : (j : Int) < (n : Int) := by omega
      have hin : i < n := by omega
      have HL2 : Hid (Go.Sort.reverseLoop (i + 1) (j - 1) (swp d' i j) = R) := by have := HL.out; rw [Go.Sort.reverseLoop, if_pos hlt] at this; exact this
      have hj1 : (j : Int) - 1 = ((j - 1 : Nat) : Int) := by omega
      go_upto_region 3 with fail
      go_cut [] from 11 to 31 (fun wx => St w wx g n (swp d' i j))
      case first =>
        have hDs : d'.size = n := HS.out.sz
        by_cases hxy : i = j
        · have c1 := HS.out.dt.cell (j := i) (by omega)
          have z1 := HS.out.dt.frozen i
          have hS2 := HS.out.swap (i := i) (j := j) 1 (by omega) (by omega)
          rw [← hxy] at hS2
          obtain ⟨vx, hvx⟩ : ∃ v, v = d'[i]! := ⟨_, rfl⟩
          rw [← hvx] at c1 hS2
          have HS2 := hide hS2
          have Hxy := hide hxy
          clear hvx hS2 hDs
          subst hxy
          go_region
          all_goals
            go_wp2_with fail
            go_meet
            case rel => exact HS2.out
        · have c1 := HS.out.dt.cell (j := i) (by omega)
          have c2 := HS.out.dt.cell (j := j) (by omega)
          have z1 := HS.out.dt.frozen i
          have z2 := HS.out.dt.frozen j
          have hyx : ¬ j = i := fun e => hxy e.symm
          have hS2 := HS.out.swap (i := i) (j := j) 1 (by omega) (by omega)
          obtain ⟨vx, hvx⟩ : ∃ v, v = d'[i]! := ⟨_, rfl⟩
          obtain ⟨vy, hvy⟩ : ∃ v, v = d'[j]! := ⟨_, rfl⟩
          rw [← hvx] at c1 hS2
          rw [← hvy] at c2 hS2
          have HS2 := hide hS2
          clear hvx hvy hS2 hDs
          go_region
          all_goals
            go_wp2_with fail
            go_meet
            case rel => exact HS2.out

      case rest =>
        have HS2 := hide hcut
        clear hcut
        go_wp2_with fail
        go_roundw
        case rel => exact ⟨i + 1, j - 1, swp d' i j, by go_num, by go_num, by omega, by omega, HS2.out, HL2.out⟩
        case measure => simp [intOf]; omega
    · have hlti : ¬ (i : Int) < (j : Int) := by omega
      have e : d' = R := by have := HL.out; rw [Go.Sort.reverseLoop, if_neg hlt] at this; exact this
      subst e
      go_wp2_with fail
      go_end0
      exact ⟨rfl, HS.out⟩
end Go.Proofs.Ythdilabmajaehaa
