import Derived.Test.YtkmgpapopgeldaaLb
namespace Go.Proofs.Ytkmgpapopgeldaa
open Go.RowKit

/-- What the round's two new variables leave. -/
theorem low_vars (w : World) (n : Int) : Fr (fun _ => False) w ((w.alloc (.cells #[.int .i64 n] 3)).alloc (.cells #[.int .i64 0] 3)) ∧
    ((w.alloc (.cells #[.int .i64 n] 3)).alloc (.cells #[.int .i64 0] 3)).heap[w.heap.size]? = some (.cells #[.int .i64 n] 3) ∧
    ((w.alloc (.cells #[.int .i64 n] 3)).alloc (.cells #[.int .i64 0] 3)).heap[w.heap.size + 1]? = some (.cells #[.int .i64 0] 3) :=
  ⟨(Fr.of_alloc w _).join (Fr.of_alloc _ _), by rw [Below.heap_alloc _ _ _ (by simp)]; exact heap_alloc_new _ _, heap_alloc_at (by simp only [size_alloc])⟩

theorem low_meas (j L : Nat) (h : j < L) : L - (intOf (.int .i64 ((j : Int) + 1))).toNat < L - (intOf (.int .i64 (j : Int))).toNat := by
  simp [intOf]
  omega

theorem cut_lies (a0 : Option Addr) (c0 : Nat) (bs : List Nat) (q m : Nat) (h : q + m ≤ bs.length) (hc : bs.length ≤ c0) (W : World) (hl : Lies W (.slice a0 bs.length c0) bs) :
    Lies W (.slice (if c0 = q then a0 else Option.map (fun x => x.add q) a0) m (c0 - q)) ((bs.drop q).take m) := by
  have el : ((bs.drop q).take m).length = m := by rw [List.length_take, List.length_drop]; omega
  by_cases hq : c0 = q
  · have hm : m = 0 := by omega
    subst hm
    rw [if_pos hq]
    simp only [List.take_zero, Nat.sub_self, hq]
    cases a0 with
    | none => exact Or.inl ⟨rfl, rfl⟩
    | some ad => exact Or.inr ⟨ad, 0, rfl, fun j u hu => by simp [cellsOf] at hu⟩
  · rw [if_neg hq]
    rcases hl with ⟨e, e2⟩ | ⟨ad, c, e, hc2⟩
    · simp at e
      omega
    · simp at e
      obtain ⟨rfl, rfl⟩ := e
      refine Or.inr ⟨ad.add q, c0 - q, ?_, fun j u hu => ?_⟩
      · rw [el]
        simp
      · rw [Addr.add_add]
        exact hc2 _ _ (cellsOf_cut bs q m j u hu)

set_option maxHeartbeats 1600000 in
set_option maxRecDepth 100000 in
theorem bitsLow_main (a0 a1 : Option Addr) (c0 c1 : Nat) (bs : List Nat) (ds : List (Int × Int)) (w : World) (hb : Lies w (.slice a0 bs.length c0) bs) (hl : LiesD w (.slice a1 ds.length c1) ds) (hlt : ∀ b ∈ bs, b < 256)
    (hbn : (bs.length : Int) ≤ 2000) (hln : (ds.length : Int) ≤ 200) (hcap : bs.length ≤ c0) (hold : bs ≠ [] → ∀ ad, a0 = some ad → ad.block < w.heap.size) :
    Calls Try.prog 3 #[.slice a0 bs.length c0, .slice a1 ds.length c1] w fun e w' => e = .returned (.bool true) ∧ Fr (fun _ => False) w w' := by
  have hmf : ∀ (fn : Fn) (first cap : Array Value) (w : World), (Instr.makeFunc fn first cap).run Try.prog w = .ok (.func fn first cap) w := fun _ _ _ _ => rfl
  have Hb := hide hb
  have Hl := hide hl
  have Hlt := hide hlt
  have Hold := hide hold
  clear hb hl hlt hold
  go_enter Try.func3, Try.ntmps3
  go_wp2_with fail
  refine (awake_c _).mono ?_
  rintro e w1 ⟨rfl, hf1⟩
  have Hfa := hide hf1
  clear hf1
  go_wp2_with fail
  have hL1 : Lies w1 (.slice a0 bs.length c0) bs := Hb.out.keep (fun hne ad n c e => Hfa.out.block _ (by simp at e; exact Hold.out hne _ e.1) (fun h => h))
  refine (newLow_c _ bs _ hL1 Hlt.out (by omega)).mono ?_
  rintro e w2 ⟨X, rfl, hX, hf2⟩
  have HX := hide hX
  clear hX hL1
  go_wp2_with fail
  go_loopw [7] (fun t wr => ∃ (j P : Nat), t = .int .i64 j ∧ j ≤ ds.length ∧ LSt w w1.heap.size w2.heap.size X w2.heap.size (w2.heap.size + 1) (.slice a0 bs.length c0) bs P P wr) (fun t _ => ds.length - (intOf t).toNat)
  case atStart =>
    refine ⟨0, 0, rfl, Nat.zero_le _, ?_⟩
    have f2 := (Fr.of_alloc w2 (.cells #[.slice a0 bs.length c0, .int .i64 0, .bool false, .bool false] 29)).join (Fr.of_alloc _ (.cells #[.pointer (some ⟨X, 0, none⟩)] 25))
    have fb := (Hfa.out.join hf2).join f2
    have s1 := Hfa.out.size
    have s2 := hf2.size
    have hold : bs ≠ [] → ∀ ad n c, (Value.slice a0 bs.length c0) = .slice (some ad) n c → ad.block < w.heap.size := fun hne ad n c e => by simp at e; exact Hold.out hne _ e.1
    refine ⟨HX.out.keep f2 (fun _ _ _ h => h), ⟨⟨false, ?_⟩, Hb.out.keep (fun hne ad n c e => fb.block _ (hold hne ad n c e) (fun h => h)), fun hne ad n c e => by have := hold hne ad n c e; omega, by omega, Hlt.out, by omega⟩, ?_, fb, by omega, hold⟩
    · rw [Below.heap_alloc _ _ _ (by simp only [size_alloc]; omega)]; exact heap_alloc_at rfl
    · exact heap_alloc_at (by simp only [size_alloc])
  case round =>
    obtain ⟨j, P, rfl, hj, hS⟩ := hrel
    have k3 := cell_of (o := 0) hS.cx rfl
    have HS := hide hS
    by_cases hlt : j < ds.length
    · obtain ⟨D, o, c, e, hcell⟩ := Hl.out.at (by omega)
      simp only [Value.slice.injEq, true_and] at e
      obtain ⟨rfl, rfl⟩ := e
      obtain ⟨he1, he2⟩ := hcell j hlt
      obtain ⟨d, hd⟩ : ∃ d, d = (at0 ds j).1 := ⟨_, rfl⟩
      obtain ⟨n, hn⟩ : ∃ n, n = (at0 ds j).2 := ⟨_, rfl⟩
      rw [← hd] at he1
      rw [← hn] at he2
      have q1 : wr.cell? ⟨D, o + j * 2, none⟩ = some (.int .i64 d) := by rw [World.cell?_of_block (w := w) (hS.fr.block D (World.block_lt_of_cell? _ _ he1) (fun h => h))]; exact he1
      have q2 : wr.cell? ⟨D, o + j * 2 + 1, none⟩ = some (.int .i64 n) := by rw [World.cell?_of_block (w := w) (hS.fr.block D (World.block_lt_of_cell? _ _ he1) (fun h => h))]; exact he2
      have Hhe1 := hide he1
      have Hhe2 := hide he2
      have hj0 : (0 : Int) ≤ (j : Int) := by omega
      have hj1 : (j : Int) < (ds.length : Int) := by omega
      have hR : w2.heap.size < w2.heap.size + 1 := by omega
      have hsz : w2.heap.size + 1 < wr.heap.size := lt_of hS.cx
      clear hS hd hn hcell he1 he2
      by_cases hd0 : d = 0
      · subst hd0
        by_cases hok : (0 ≤ n ∧ n ≤ 24) ∧ P + n ≤ (8 * bs.length : Nat)
        · obtain ⟨m, rfl⟩ := Int.eq_ofNat_of_zero_le hok.1.1
          have hm : m ≤ 24 := by omega
          have hmP : P + m ≤ 8 * bs.length := by omega
          clear hok
          obtain ⟨v1, v2, v3⟩ := low_vars wr (m : Int)
          have hG := HS.out.far v1 (fun _ _ h => h)
          have e1 : ((wr.alloc (.cells #[.int .i64 (m : Int)] 3)).alloc (.cells #[.int .i64 0] 3)).cell? ⟨D, o + j * 2, none⟩ = some (.int .i64 0) := by rw [World.cell?_of_block (w := wr) (v1.block D (World.block_lt_of_cell? _ _ q1) (fun h => h))]; exact q1
          have kx : ((wr.alloc (.cells #[.int .i64 (m : Int)] 3)).alloc (.cells #[.int .i64 0] 3)).cell? ⟨w2.heap.size + 1, 0, none⟩ = some (.pointer (some ⟨X, 0, none⟩)) := cell_of (o := 0) hG.cx rfl
          have kn : ((wr.alloc (.cells #[.int .i64 (m : Int)] 3)).alloc (.cells #[.int .i64 0] 3)).cell? ⟨wr.heap.size, 0, none⟩ = some (.int .i64 (m : Int)) := cell_of (o := 0) v2 rfl
          have HG := hide hG
          have V1 := hide v1
          have V2 := hide v2
          have V3 := hide v3
          clear hG v1 v2 v3 q1
          go_wp2_with fail
          refine (lo_take_ok w _ _ X _ _ wr.heap.size (wr.heap.size + 1) _ bs P P m _ HG.out V2.out V3.out hsz (by omega) hm hmP).mono ?_
          rintro e w3 ⟨rfl, h3, hn3, hg3⟩
          have kn3 := cell_of (o := 0) hn3 rfl
          have H3 := hide h3
          have Hg3 := hide hg3
          clear h3 hg3 hn3
          go_wp2_with fail
          refine (ref_take_low w3 w2.heap.size (.slice a0 bs.length c0) bs P m H3.out.rf hm hmP).mono ?_
          rintro e w4 ⟨rfl, r4, f4⟩
          have h4 := H3.out.rtook r4 f4
          have hg4 := (f4.block (wr.heap.size + 1) (lt_of Hg3.out) (by omega)).trans Hg3.out
          have k4 := cell_of (o := 0) hg4 rfl
          have H4 := hide h4
          clear h4 r4 f4 hg4
          have k0 := cell_of (o := 0) H4.out.cx rfl
          go_wp2_with fail
          refine (low_left _ _ _ X bs (P + m) _ _ H4.out.rd).mono ?_
          rintro e w5 ⟨rfl, kd, hw5⟩
          have h5 := hide (H4.out.far (w' := w5) (by rw [hw5]; exact Fr.of_drewN _ _) (fun _ _ h => h))
          clear hw5
          go_wp2_with fail
          refine (ref_left _ w2.heap.size (.slice a0 bs.length c0) bs (P + m) false h5.out.rf).mono ?_
          rintro e w6 ⟨rfl, ke, hw6⟩
          have h6 := hide (h5.out.far (w' := w6) (by rw [hw6]; exact Fr.of_drewN _ _) (fun _ _ h => h))
          clear hw6
          go_wp2
          refine ⟨⟨j + 1, (P + m), by simp, by omega, h6.out⟩, ?_⟩
          exact low_meas j ds.length hlt
        · have hbad : (n < 0 ∨ 24 < n) ∨ ((8 * bs.length : Nat) : Int) < P + n := by omega
          have Hbad := hide hbad
          clear hok hbad
          obtain ⟨v1, v2, v3⟩ := low_vars wr n
          have hG := HS.out.far v1 (fun _ _ h => h)
          have e1 : ((wr.alloc (.cells #[.int .i64 n] 3)).alloc (.cells #[.int .i64 0] 3)).cell? ⟨D, o + j * 2, none⟩ = some (.int .i64 0) := by rw [World.cell?_of_block (w := wr) (v1.block D (World.block_lt_of_cell? _ _ q1) (fun h => h))]; exact q1
          have kx : ((wr.alloc (.cells #[.int .i64 n] 3)).alloc (.cells #[.int .i64 0] 3)).cell? ⟨w2.heap.size + 1, 0, none⟩ = some (.pointer (some ⟨X, 0, none⟩)) := cell_of (o := 0) hG.cx rfl
          have kn : ((wr.alloc (.cells #[.int .i64 n] 3)).alloc (.cells #[.int .i64 0] 3)).cell? ⟨wr.heap.size, 0, none⟩ = some (.int .i64 n) := cell_of (o := 0) v2 rfl
          have HG := hide hG
          have V1 := hide v1
          have V2 := hide v2
          have V3 := hide v3
          clear hG v1 v2 v3 q1
          go_wp2_with fail
          refine (lo_take_no w _ _ X _ _ wr.heap.size (wr.heap.size + 1) _ bs P P n _ HG.out V2.out V3.out Hbad.out).mono ?_
          rintro e w3 ⟨rfl, h3, hn3, hg3⟩
          have kn3 := cell_of (o := 0) hn3 rfl
          have H3 := hide h3
          have Hg3 := hide hg3
          clear h3 hg3 hn3
          go_wp2_with fail
          refine (ref_take_no w3 w2.heap.size (.slice a0 bs.length c0) bs P n false H3.out.rf Hbad.out).mono ?_
          rintro e w4 ⟨rfl, r4, f4⟩
          have h4 := H3.out.rtook r4 f4
          have hg4 := (f4.block (wr.heap.size + 1) (lt_of Hg3.out) (by omega)).trans Hg3.out
          have k4 := cell_of (o := 0) hg4 rfl
          have H4 := hide h4
          clear h4 r4 f4 hg4
          have k0 := cell_of (o := 0) H4.out.cx rfl
          go_wp2_with fail
          refine (low_left _ _ _ X bs P _ _ H4.out.rd).mono ?_
          rintro e w5 ⟨rfl, kd, hw5⟩
          have h5 := hide (H4.out.far (w' := w5) (by rw [hw5]; exact Fr.of_drewN _ _) (fun _ _ h => h))
          clear hw5
          go_wp2_with fail
          refine (ref_left _ w2.heap.size (.slice a0 bs.length c0) bs P false h5.out.rf).mono ?_
          rintro e w6 ⟨rfl, ke, hw6⟩
          have h6 := hide (h5.out.far (w' := w6) (by rw [hw6]; exact Fr.of_drewN _ _) (fun _ _ h => h))
          clear hw6
          go_wp2
          refine ⟨⟨j + 1, P, by simp, by omega, h6.out⟩, ?_⟩
          exact low_meas j ds.length hlt
      by_cases hd1 : d = 1
      · subst hd1
        by_cases hok : (0 ≤ n ∧ n ≤ 24) ∧ P + n ≤ (8 * bs.length : Nat)
        · obtain ⟨m, rfl⟩ := Int.eq_ofNat_of_zero_le hok.1.1
          have hm : m ≤ 24 := by omega
          have hmP : P + m ≤ 8 * bs.length := by omega
          clear hok
          obtain ⟨v1, v2, v3⟩ := low_vars wr (m : Int)
          have hG := HS.out.far v1 (fun _ _ h => h)
          have e1 : ((wr.alloc (.cells #[.int .i64 (m : Int)] 3)).alloc (.cells #[.int .i64 0] 3)).cell? ⟨D, o + j * 2, none⟩ = some (.int .i64 1) := by rw [World.cell?_of_block (w := wr) (v1.block D (World.block_lt_of_cell? _ _ q1) (fun h => h))]; exact q1
          have kx : ((wr.alloc (.cells #[.int .i64 (m : Int)] 3)).alloc (.cells #[.int .i64 0] 3)).cell? ⟨w2.heap.size + 1, 0, none⟩ = some (.pointer (some ⟨X, 0, none⟩)) := cell_of (o := 0) hG.cx rfl
          have kn : ((wr.alloc (.cells #[.int .i64 (m : Int)] 3)).alloc (.cells #[.int .i64 0] 3)).cell? ⟨wr.heap.size, 0, none⟩ = some (.int .i64 (m : Int)) := cell_of (o := 0) v2 rfl
          have HG := hide hG
          have V1 := hide v1
          have V2 := hide v2
          have V3 := hide v3
          clear hG v1 v2 v3 q1
          go_wp2_with fail
          refine (lo_take_ok w _ _ X _ _ wr.heap.size (wr.heap.size + 1) _ bs P P m _ HG.out V2.out V3.out hsz (by omega) hm hmP).mono ?_
          rintro e w3 ⟨rfl, h3, hn3, hg3⟩
          have kn3 := cell_of (o := 0) hn3 rfl
          have H3 := hide h3
          have Hg3 := hide hg3
          clear h3 hg3 hn3
          go_wp2_with fail
          refine (ref_take_low w3 w2.heap.size (.slice a0 bs.length c0) bs P m H3.out.rf hm hmP).mono ?_
          rintro e w4 ⟨rfl, r4, f4⟩
          have h4 := H3.out.rtook r4 f4
          have hg4 := (f4.block (wr.heap.size + 1) (lt_of Hg3.out) (by omega)).trans Hg3.out
          have k4 := cell_of (o := 0) hg4 rfl
          have H4 := hide h4
          clear h4 r4 f4 hg4
          have k0 := cell_of (o := 0) H4.out.cx rfl
          go_wp2_with fail
          refine (low_left _ _ _ X bs (P + m) _ _ H4.out.rd).mono ?_
          rintro e w5 ⟨rfl, kd, hw5⟩
          have h5 := hide (H4.out.far (w' := w5) (by rw [hw5]; exact Fr.of_drewN _ _) (fun _ _ h => h))
          clear hw5
          go_wp2_with fail
          refine (ref_left _ w2.heap.size (.slice a0 bs.length c0) bs (P + m) false h5.out.rf).mono ?_
          rintro e w6 ⟨rfl, ke, hw6⟩
          have h6 := hide (h5.out.far (w' := w6) (by rw [hw6]; exact Fr.of_drewN _ _) (fun _ _ h => h))
          clear hw6
          go_wp2
          refine ⟨⟨j + 1, (P + m), by simp, by omega, h6.out⟩, ?_⟩
          exact low_meas j ds.length hlt
        · have hbad : (n < 0 ∨ 24 < n) ∨ ((8 * bs.length : Nat) : Int) < P + n := by omega
          have Hbad := hide hbad
          clear hok hbad
          obtain ⟨v1, v2, v3⟩ := low_vars wr n
          have hG := HS.out.far v1 (fun _ _ h => h)
          have e1 : ((wr.alloc (.cells #[.int .i64 n] 3)).alloc (.cells #[.int .i64 0] 3)).cell? ⟨D, o + j * 2, none⟩ = some (.int .i64 1) := by rw [World.cell?_of_block (w := wr) (v1.block D (World.block_lt_of_cell? _ _ q1) (fun h => h))]; exact q1
          have kx : ((wr.alloc (.cells #[.int .i64 n] 3)).alloc (.cells #[.int .i64 0] 3)).cell? ⟨w2.heap.size + 1, 0, none⟩ = some (.pointer (some ⟨X, 0, none⟩)) := cell_of (o := 0) hG.cx rfl
          have kn : ((wr.alloc (.cells #[.int .i64 n] 3)).alloc (.cells #[.int .i64 0] 3)).cell? ⟨wr.heap.size, 0, none⟩ = some (.int .i64 n) := cell_of (o := 0) v2 rfl
          have HG := hide hG
          have V1 := hide v1
          have V2 := hide v2
          have V3 := hide v3
          clear hG v1 v2 v3 q1
          go_wp2_with fail
          refine (lo_take_no w _ _ X _ _ wr.heap.size (wr.heap.size + 1) _ bs P P n _ HG.out V2.out V3.out Hbad.out).mono ?_
          rintro e w3 ⟨rfl, h3, hn3, hg3⟩
          have kn3 := cell_of (o := 0) hn3 rfl
          have H3 := hide h3
          have Hg3 := hide hg3
          clear h3 hg3 hn3
          go_wp2_with fail
          refine (ref_take_no w3 w2.heap.size (.slice a0 bs.length c0) bs P n false H3.out.rf Hbad.out).mono ?_
          rintro e w4 ⟨rfl, r4, f4⟩
          have h4 := H3.out.rtook r4 f4
          have hg4 := (f4.block (wr.heap.size + 1) (lt_of Hg3.out) (by omega)).trans Hg3.out
          have k4 := cell_of (o := 0) hg4 rfl
          have H4 := hide h4
          clear h4 r4 f4 hg4
          have k0 := cell_of (o := 0) H4.out.cx rfl
          go_wp2_with fail
          refine (low_left _ _ _ X bs P _ _ H4.out.rd).mono ?_
          rintro e w5 ⟨rfl, kd, hw5⟩
          have h5 := hide (H4.out.far (w' := w5) (by rw [hw5]; exact Fr.of_drewN _ _) (fun _ _ h => h))
          clear hw5
          go_wp2_with fail
          refine (ref_left _ w2.heap.size (.slice a0 bs.length c0) bs P false h5.out.rf).mono ?_
          rintro e w6 ⟨rfl, ke, hw6⟩
          have h6 := hide (h5.out.far (w' := w6) (by rw [hw6]; exact Fr.of_drewN _ _) (fun _ _ h => h))
          clear hw6
          go_wp2
          refine ⟨⟨j + 1, P, by simp, by omega, h6.out⟩, ?_⟩
          exact low_meas j ds.length hlt
      by_cases hd2 : d = 2
      · subst hd2
        obtain ⟨v1, v2, v3⟩ := low_vars wr n
        have hG := HS.out.far v1 (fun _ _ h => h)
        have e1 : ((wr.alloc (.cells #[.int .i64 n] 3)).alloc (.cells #[.int .i64 0] 3)).cell? ⟨D, o + j * 2, none⟩ = some (.int .i64 2) := by rw [World.cell?_of_block (w := wr) (v1.block D (World.block_lt_of_cell? _ _ q1) (fun h => h))]; exact q1
        have kx : ((wr.alloc (.cells #[.int .i64 n] 3)).alloc (.cells #[.int .i64 0] 3)).cell? ⟨w2.heap.size + 1, 0, none⟩ = some (.pointer (some ⟨X, 0, none⟩)) := cell_of (o := 0) hG.cx rfl
        have kn : ((wr.alloc (.cells #[.int .i64 n] 3)).alloc (.cells #[.int .i64 0] 3)).cell? ⟨wr.heap.size, 0, none⟩ = some (.int .i64 n) := cell_of (o := 0) v2 rfl
        have HG := hide hG
        have V1 := hide v1
        have V2 := hide v2
        have V3 := hide v3
        clear hG v1 v2 v3 q1

        go_wp2_with fail
        refine (low_align _ _ _ X bs P _ _ HG.out.rd).mono ?_
        rintro e w3 ⟨rfl, r3, f3⟩
        have H3 := hide (HG.out.took r3 f3)
        clear r3 f3
        go_wp2_with fail
        refine (ref_align w3 w2.heap.size (.slice a0 bs.length c0) bs P false H3.out.rf).mono ?_
        rintro e w4 ⟨rfl, r4, f4⟩
        have H4 := hide (H3.out.rtook r4 f4)
        clear r4 f4

        have k0 := cell_of (o := 0) H4.out.cx rfl
        go_wp2_with fail
        refine (low_left _ _ _ X bs (8 * ((P + 7) / 8)) _ _ H4.out.rd).mono ?_
        rintro e w5 ⟨rfl, kd, hw5⟩
        have h5 := hide (H4.out.far (w' := w5) (by rw [hw5]; exact Fr.of_drewN _ _) (fun _ _ h => h))
        clear hw5
        go_wp2_with fail
        refine (ref_left _ w2.heap.size (.slice a0 bs.length c0) bs (8 * ((P + 7) / 8)) false h5.out.rf).mono ?_
        rintro e w6 ⟨rfl, ke, hw6⟩
        have h6 := hide (h5.out.far (w' := w6) (by rw [hw6]; exact Fr.of_drewN _ _) (fun _ _ h => h))
        clear hw6
        go_wp2
        refine ⟨⟨j + 1, (8 * ((P + 7) / 8)), by simp, by omega, h6.out⟩, ?_⟩
        exact low_meas j ds.length hlt
      by_cases hd3 : d = 3
      · subst hd3
        by_cases hok : 0 ≤ n ∧ ((P + 7) / 8 : Nat) + n ≤ (bs.length : Int)
        · obtain ⟨m, rfl⟩ := Int.eq_ofNat_of_zero_le hok.1
          have hmP : (P + 7) / 8 + m ≤ bs.length := by omega
          clear hok

          obtain ⟨v1, v2, v3⟩ := low_vars wr (m : Int)
          have hG := HS.out.far v1 (fun _ _ h => h)
          have e1 : ((wr.alloc (.cells #[.int .i64 (m : Int)] 3)).alloc (.cells #[.int .i64 0] 3)).cell? ⟨D, o + j * 2, none⟩ = some (.int .i64 3) := by rw [World.cell?_of_block (w := wr) (v1.block D (World.block_lt_of_cell? _ _ q1) (fun h => h))]; exact q1
          have kx : ((wr.alloc (.cells #[.int .i64 (m : Int)] 3)).alloc (.cells #[.int .i64 0] 3)).cell? ⟨w2.heap.size + 1, 0, none⟩ = some (.pointer (some ⟨X, 0, none⟩)) := cell_of (o := 0) hG.cx rfl
          have kn : ((wr.alloc (.cells #[.int .i64 (m : Int)] 3)).alloc (.cells #[.int .i64 0] 3)).cell? ⟨wr.heap.size, 0, none⟩ = some (.int .i64 (m : Int)) := cell_of (o := 0) v2 rfl
          have HG := hide hG
          have V1 := hide v1
          have V2 := hide v2
          have V3 := hide v3
          clear hG v1 v2 v3 q1

          have vp : (((wr.alloc (.cells #[.int .i64 (m : Int)] 3)).alloc (.cells #[.int .i64 0] 3)).alloc (.cells #[.slice none 0 0] 22)).heap[wr.heap.size + 1 + 1]? = some (.cells #[.slice none 0 0] 22) := heap_alloc_at (by simp only [size_alloc])
          have v2' : (((wr.alloc (.cells #[.int .i64 (m : Int)] 3)).alloc (.cells #[.int .i64 0] 3)).alloc (.cells #[.slice none 0 0] 22)).heap[wr.heap.size]? = some (.cells #[.int .i64 (m : Int)] 3) := by rw [Below.heap_alloc _ _ _ (by simp only [size_alloc]; omega)]; exact V2.out
          have HG3 := hide (HG.out.far (Fr.of_alloc _ (.cells #[.slice none 0 0] 22)) (fun _ _ h => h))
          have VP := hide vp
          have V2' := hide v2'
          clear vp v2'
          obtain ⟨q, hq⟩ : ∃ q, q = (P + 7) / 8 := ⟨_, rfl⟩
          have hP := HS.out.rd.epos
          have hP2 : (P : Int) ≤ 16000 := by omega
          have hqP : ((P : Int) + 7) / 8 = (q : Int) := by omega
          have hq2 : (q : Int) ≤ 2000 := by omega

          have hm0 : (0 : Int) ≤ (m : Int) := by omega
          have hm1 : (m : Int) ≤ (bs.length : Int) - (q : Int) := by omega
          have hm2 : (m : Int) ≤ 2000 := by omega
          rw [← hq] at hmP
          have hcl := cut_lies a0 c0 bs q m hmP hcap
          have Hcl := hide hcl
          have hct : ∀ b ∈ (bs.drop q).take m, b < 256 := fun b hb => Hlt.out b (List.mem_of_mem_drop (List.mem_of_mem_take hb))
          have Hct := hide hct
          clear hct hcl hP
          go_wp2_with fail
          have hcall := lo_bytes_ok w _ _ X _ _ wr.heap.size (wr.heap.size + 1 + 1) _ bs P P m _ HG3.out V2'.out VP.out hsz (by omega) (by rw [← hq]; exact hmP)
          rw [← hq] at hcall
          refine hcall.mono ?_
          rintro e w3 ⟨rfl, h3, hn3, a3, c3, hd3, hl3⟩
          have kn3 := cell_of (o := 0) hn3 rfl
          have kd3 := cell_of (o := 0) hd3 rfl
          obtain ⟨sh, ho⟩ := h3.rf.eobj
          have r1 : w3.cell? ⟨w2.heap.size, 1, none⟩ = some (.int .i64 P) := cell_of (o := 1) ho rfl
          have r2 := frozen_of (o := 1) ho
          have x1 : ∀ k, (convert 22 9 (.slice a3 m c3)).run Try.prog (w3.drewN k) = .ok (.string (strOf ((bs.drop q).take m))) (w3.drewN k) := fun k => str_lies (hl3.keep (fun _ _ _ _ _ => rfl)) Hct.out
          have x2 : ∀ k, (convert 22 9 (.slice (if c0 = q then a0 else Option.map (fun x => x.add q) a0) m (c0 - q))).run Try.prog (w3.drewN k) = .ok (.string (strOf ((bs.drop q).take m))) (w3.drewN k) := fun k => str_lies (Hcl.out _ (h3.rf.elies.keep (fun _ _ _ _ _ => rfl))) Hct.out
          generalize strOf ((bs.drop q).take m) = S at x1 x2
          have H3 := hide h3
          have HQ := hide hq
          clear h3 hl3 hn3 hd3 hcall hq ho
          go_wp2_with fail
          go_quiet (fail)
          generalize (if c0 = q then a0 else Option.map (fun x => x.add q) a0) = av
          obtain ⟨w4, hw4⟩ : ∃ w4, w4 = w3.drewN nq := ⟨_, rfl⟩
          rw [← hw4]
          have f4 : Fr (fun _ => False) w3 w4 := by rw [hw4]; exact Fr.of_drewN _ _
          have h4 := H3.out.far f4 (fun _ _ h => h)
          have kn4 : w4.cell? ⟨wr.heap.size, 0, none⟩ = some (.int .i64 (m : Int)) := by rw [hw4]; exact kn3
          obtain ⟨sh4, ho4⟩ := h4.rf.eobj
          have r14 : w4.cell? ⟨w2.heap.size, 1, none⟩ = some (.int .i64 P) := cell_of (o := 1) ho4 rfl
          have r24 := frozen_of (o := 1) ho4
          have kx4 := cell_of (o := 0) h4.cx rfl
          have H4 := hide h4
          clear hw4 x1 x2 f4 h4 ho4 kn3 kd3 r1 r2
          go_wp2_with fail
          have hm : Moved w2.heap.size (8 * (q + m)) w4 (w4.setCell ⟨w2.heap.size, 1, none⟩ (.int .i64 (8 * ((q : Int) + (m : Int))))) := ⟨0, by rw [show ((8 * (q + m) : Nat) : Int) = 8 * ((q : Int) + (m : Int)) by omega]; rfl⟩
          have H5 := hide (H4.out.rtook (H4.out.rf.moved hm (by omega)) (Fr.of_moved hm))
          clear hm
          refine (low_left _ _ _ X bs (8 * (q + m)) _ _ H5.out.rd).mono ?_
          rintro e w5 ⟨rfl, kd, hw5⟩
          have h5 := hide (H5.out.far (w' := w5) (by rw [hw5]; exact Fr.of_drewN _ _) (fun _ _ h => h))
          clear hw5
          go_wp2_with fail
          refine (ref_left _ w2.heap.size (.slice a0 bs.length c0) bs (8 * (q + m)) false h5.out.rf).mono ?_
          rintro e w6 ⟨rfl, ke, hw6⟩
          have h6 := hide (h5.out.far (w' := w6) (by rw [hw6]; exact Fr.of_drewN _ _) (fun _ _ h => h))
          clear hw6
          go_wp2
          refine ⟨⟨j + 1, 8 * (q + m), by simp, by omega, h6.out⟩, ?_⟩
          exact low_meas j ds.length hlt
        · by_cases hneg : n < 0
          · have Hbad := hide (show n < 0 ∨ (bs.length : Int) < ((P + 7) / 8 : Nat) + n from Or.inl hneg)

            obtain ⟨v1, v2, v3⟩ := low_vars wr n
            have hG := HS.out.far v1 (fun _ _ h => h)
            have e1 : ((wr.alloc (.cells #[.int .i64 n] 3)).alloc (.cells #[.int .i64 0] 3)).cell? ⟨D, o + j * 2, none⟩ = some (.int .i64 3) := by rw [World.cell?_of_block (w := wr) (v1.block D (World.block_lt_of_cell? _ _ q1) (fun h => h))]; exact q1
            have kx : ((wr.alloc (.cells #[.int .i64 n] 3)).alloc (.cells #[.int .i64 0] 3)).cell? ⟨w2.heap.size + 1, 0, none⟩ = some (.pointer (some ⟨X, 0, none⟩)) := cell_of (o := 0) hG.cx rfl
            have kn : ((wr.alloc (.cells #[.int .i64 n] 3)).alloc (.cells #[.int .i64 0] 3)).cell? ⟨wr.heap.size, 0, none⟩ = some (.int .i64 n) := cell_of (o := 0) v2 rfl
            have HG := hide hG
            have V1 := hide v1
            have V2 := hide v2
            have V3 := hide v3
            clear hG v1 v2 v3 q1

            have vp : (((wr.alloc (.cells #[.int .i64 n] 3)).alloc (.cells #[.int .i64 0] 3)).alloc (.cells #[.slice none 0 0] 22)).heap[wr.heap.size + 1 + 1]? = some (.cells #[.slice none 0 0] 22) := heap_alloc_at (by simp only [size_alloc])
            have v2' : (((wr.alloc (.cells #[.int .i64 n] 3)).alloc (.cells #[.int .i64 0] 3)).alloc (.cells #[.slice none 0 0] 22)).heap[wr.heap.size]? = some (.cells #[.int .i64 n] 3) := by rw [Below.heap_alloc _ _ _ (by simp only [size_alloc]; omega)]; exact V2.out
            have HG3 := hide (HG.out.far (Fr.of_alloc _ (.cells #[.slice none 0 0] 22)) (fun _ _ h => h))
            have VP := hide vp
            have V2' := hide v2'
            clear vp v2'
            obtain ⟨q, hq⟩ : ∃ q, q = (P + 7) / 8 := ⟨_, rfl⟩
            have hP := HS.out.rd.epos
            have hP2 : (P : Int) ≤ 16000 := by omega
            have hqP : ((P : Int) + 7) / 8 = (q : Int) := by omega
            have hq2 : (q : Int) ≤ 2000 := by omega

            have t0 : decide (0 ≤ n) = false := by simp; omega
            have t1 : ¬ (0 ≤ n) := by omega
            clear hP hok
            go_wp2_with fail
            refine (lo_bytes_no w _ _ X _ _ wr.heap.size (wr.heap.size + 1 + 1) _ bs P P n _ HG3.out V2'.out Hbad.out).mono ?_
            rintro e w3 ⟨rfl, h3, hn3⟩
            have kn3 := cell_of (o := 0) hn3 rfl
            obtain ⟨sh, ho⟩ := h3.rf.eobj
            have r1 : w3.cell? ⟨w2.heap.size, 1, none⟩ = some (.int .i64 P) := cell_of (o := 1) ho rfl
            have H3 := hide h3
            clear h3 hn3 hq ho
            go_wp2_with fail
            go_quiet (fail)
            have H4 := hide (H3.out.far (Fr.of_drewN w3 nq) (fun _ _ h => h))
            obtain ⟨w4, hw4⟩ : ∃ w4, w4 = w3.drewN nq := ⟨_, rfl⟩
            rw [← hw4] at H4
            rw [← hw4]
            clear hw4 t0 t1 hqP

            have k0 := cell_of (o := 0) H4.out.cx rfl
            go_wp2_with fail
            refine (low_left _ _ _ X bs P _ _ H4.out.rd).mono ?_
            rintro e w5 ⟨rfl, kd, hw5⟩
            have h5 := hide (H4.out.far (w' := w5) (by rw [hw5]; exact Fr.of_drewN _ _) (fun _ _ h => h))
            clear hw5
            go_wp2_with fail
            refine (ref_left _ w2.heap.size (.slice a0 bs.length c0) bs P false h5.out.rf).mono ?_
            rintro e w6 ⟨rfl, ke, hw6⟩
            have h6 := hide (h5.out.far (w' := w6) (by rw [hw6]; exact Fr.of_drewN _ _) (fun _ _ h => h))
            clear hw6
            go_wp2
            refine ⟨⟨j + 1, P, by simp, by omega, h6.out⟩, ?_⟩
            exact low_meas j ds.length hlt
          · have Hbad := hide (show n < 0 ∨ (bs.length : Int) < ((P + 7) / 8 : Nat) + n from Or.inr (by omega))
            have hn0 : 0 ≤ n := by omega

            obtain ⟨v1, v2, v3⟩ := low_vars wr n
            have hG := HS.out.far v1 (fun _ _ h => h)
            have e1 : ((wr.alloc (.cells #[.int .i64 n] 3)).alloc (.cells #[.int .i64 0] 3)).cell? ⟨D, o + j * 2, none⟩ = some (.int .i64 3) := by rw [World.cell?_of_block (w := wr) (v1.block D (World.block_lt_of_cell? _ _ q1) (fun h => h))]; exact q1
            have kx : ((wr.alloc (.cells #[.int .i64 n] 3)).alloc (.cells #[.int .i64 0] 3)).cell? ⟨w2.heap.size + 1, 0, none⟩ = some (.pointer (some ⟨X, 0, none⟩)) := cell_of (o := 0) hG.cx rfl
            have kn : ((wr.alloc (.cells #[.int .i64 n] 3)).alloc (.cells #[.int .i64 0] 3)).cell? ⟨wr.heap.size, 0, none⟩ = some (.int .i64 n) := cell_of (o := 0) v2 rfl
            have HG := hide hG
            have V1 := hide v1
            have V2 := hide v2
            have V3 := hide v3
            clear hG v1 v2 v3 q1

            have vp : (((wr.alloc (.cells #[.int .i64 n] 3)).alloc (.cells #[.int .i64 0] 3)).alloc (.cells #[.slice none 0 0] 22)).heap[wr.heap.size + 1 + 1]? = some (.cells #[.slice none 0 0] 22) := heap_alloc_at (by simp only [size_alloc])
            have v2' : (((wr.alloc (.cells #[.int .i64 n] 3)).alloc (.cells #[.int .i64 0] 3)).alloc (.cells #[.slice none 0 0] 22)).heap[wr.heap.size]? = some (.cells #[.int .i64 n] 3) := by rw [Below.heap_alloc _ _ _ (by simp only [size_alloc]; omega)]; exact V2.out
            have HG3 := hide (HG.out.far (Fr.of_alloc _ (.cells #[.slice none 0 0] 22)) (fun _ _ h => h))
            have VP := hide vp
            have V2' := hide v2'
            clear vp v2'
            obtain ⟨q, hq⟩ : ∃ q, q = (P + 7) / 8 := ⟨_, rfl⟩
            have hP := HS.out.rd.epos
            have hP2 : (P : Int) ≤ 16000 := by omega
            have hqP : ((P : Int) + 7) / 8 = (q : Int) := by omega
            have hq2 : (q : Int) ≤ 2000 := by omega

            have t1 : ¬ (n ≤ (bs.length : Int) - (q : Int)) := by omega
            have t0 : decide (n ≤ (bs.length : Int) - (q : Int)) = false := decide_eq_false (by omega)
            clear hP hok
            go_wp2_with fail
            refine (lo_bytes_no w _ _ X _ _ wr.heap.size (wr.heap.size + 1 + 1) _ bs P P n _ HG3.out V2'.out Hbad.out).mono ?_
            rintro e w3 ⟨rfl, h3, hn3⟩
            have kn3 := cell_of (o := 0) hn3 rfl
            obtain ⟨sh, ho⟩ := h3.rf.eobj
            have r1 : w3.cell? ⟨w2.heap.size, 1, none⟩ = some (.int .i64 P) := cell_of (o := 1) ho rfl
            have H3 := hide h3
            clear h3 hn3 hq ho
            go_wp2_with fail
            go_quiet (fail)
            have H4 := hide (H3.out.far (Fr.of_drewN w3 nq) (fun _ _ h => h))
            obtain ⟨w4, hw4⟩ : ∃ w4, w4 = w3.drewN nq := ⟨_, rfl⟩
            rw [← hw4] at H4
            rw [← hw4]
            clear hw4 t0 t1 hqP

            have k0 := cell_of (o := 0) H4.out.cx rfl
            go_wp2_with fail
            refine (low_left _ _ _ X bs P _ _ H4.out.rd).mono ?_
            rintro e w5 ⟨rfl, kd, hw5⟩
            have h5 := hide (H4.out.far (w' := w5) (by rw [hw5]; exact Fr.of_drewN _ _) (fun _ _ h => h))
            clear hw5
            go_wp2_with fail
            refine (ref_left _ w2.heap.size (.slice a0 bs.length c0) bs P false h5.out.rf).mono ?_
            rintro e w6 ⟨rfl, ke, hw6⟩
            have h6 := hide (h5.out.far (w' := w6) (by rw [hw6]; exact Fr.of_drewN _ _) (fun _ _ h => h))
            clear hw6
            go_wp2
            refine ⟨⟨j + 1, P, by simp, by omega, h6.out⟩, ?_⟩
            exact low_meas j ds.length hlt

      have d0 : (d == 0) = false := by simp; omega
      have d1 : (d == 1) = false := by simp; omega
      have d2 : (d == 2) = false := by simp; omega
      have d3 : (d == 3) = false := by simp; omega
      clear hd0 hd1 hd2 hd3

      obtain ⟨v1, v2, v3⟩ := low_vars wr n
      have hG := HS.out.far v1 (fun _ _ h => h)
      have e1 : ((wr.alloc (.cells #[.int .i64 n] 3)).alloc (.cells #[.int .i64 0] 3)).cell? ⟨D, o + j * 2, none⟩ = some (.int .i64 d) := by rw [World.cell?_of_block (w := wr) (v1.block D (World.block_lt_of_cell? _ _ q1) (fun h => h))]; exact q1
      have kx : ((wr.alloc (.cells #[.int .i64 n] 3)).alloc (.cells #[.int .i64 0] 3)).cell? ⟨w2.heap.size + 1, 0, none⟩ = some (.pointer (some ⟨X, 0, none⟩)) := cell_of (o := 0) hG.cx rfl
      have kn : ((wr.alloc (.cells #[.int .i64 n] 3)).alloc (.cells #[.int .i64 0] 3)).cell? ⟨wr.heap.size, 0, none⟩ = some (.int .i64 n) := cell_of (o := 0) v2 rfl
      have HG := hide hG
      have V1 := hide v1
      have V2 := hide v2
      have V3 := hide v3
      clear hG v1 v2 v3 q1

      have k0 := cell_of (o := 0) HG.out.cx rfl
      go_wp2_with fail
      refine (low_left _ _ _ X bs P _ _ HG.out.rd).mono ?_
      rintro e w5 ⟨rfl, kd, hw5⟩
      have h5 := hide (HG.out.far (w' := w5) (by rw [hw5]; exact Fr.of_drewN _ _) (fun _ _ h => h))
      clear hw5
      go_wp2_with fail
      refine (ref_left _ w2.heap.size (.slice a0 bs.length c0) bs P false h5.out.rf).mono ?_
      rintro e w6 ⟨rfl, ke, hw6⟩
      have h6 := hide (h5.out.far (w' := w6) (by rw [hw6]; exact Fr.of_drewN _ _) (fun _ _ h => h))
      clear hw6
      go_wp2
      refine ⟨⟨j + 1, P, by simp, by omega, h6.out⟩, ?_⟩
      exact low_meas j ds.length hlt
    · clear hS
      go_wp2
      go_ret
      exact ⟨rfl, HS.out.fr⟩
end Go.Proofs.Ytkmgpapopgeldaa
