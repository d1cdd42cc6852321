import Derived.Test.YtkmgpapopgeldaaI
namespace Go.Proofs.Ytkmgpapopgeldaa
open Go.RowKit

/-- The number in the variable to which a slot points: a loop's measure. -/
def ctr (t : Value) (w : World) : Nat :=
  match t with
  | .pointer (some a) => match w.cell? a with
    | some v => (intOf v).toNat
    | none => 0
  | _ => 0

theorem ctr_of {w : World} {b : Nat} {n : Nat} {T : TypeId} (h : w.heap[b]? = some (.cells #[.int .i64 (n : Int)] T)) : ctr (.pointer (some ⟨b, 0, none⟩)) w = n := by
  simp [ctr, cell_of (o := 0) h rfl, intOf]

theorem HSt.next {w0 : World} {lo hi X R px pl pi : Nat} {sv lv : Value} {bs : List Nat} {P Q j : Nat} {w : World} (h : HSt w0 lo hi X R px pl pi sv lv bs P Q j w) :
    HSt w0 lo hi X R px pl w.heap.size sv lv bs P Q (j + 1) (w.alloc (.cells #[.int .i64 ((j : Int) + 1)] 3)) := by
  have h1 := h.far (Fr.of_alloc w (.cells #[.int .i64 ((j : Int) + 1)] 3)) (fun _ _ h => h)
  have a := h.ord
  have b := lt_of h.ci
  exact ⟨h1.rd, h1.rf, h1.cx, h1.cl, heap_alloc_new _ _, h1.fr, by omega, h.old⟩

set_option maxHeartbeats 1600000 in
theorem bitsHigh_main (a0 a1 : Option Addr) (c0 c1 : Nat) (bs : List Nat) (xs : List Int) (w : World) (hb : Lies w (.slice a0 bs.length c0) bs) (hl : LiesI w (.slice a1 xs.length c1) xs) (hlt : ∀ b ∈ bs, b < 256)
    (hbn : (bs.length : Int) ≤ 2000) (hln : (xs.length : Int) ≤ 200) (hold : bs ≠ [] → ∀ ad, a0 = some ad → ad.block < w.heap.size) :
    Calls Try.prog 4 #[.slice a0 bs.length c0, .slice a1 xs.length c1] w fun e w' => e = .returned (.bool true) ∧ Fr (fun _ => False) w w' := by
  have hmf : ∀ (fn : Fn) (first cap : Array Value) (w : World), (Instr.makeFunc fn first cap).run Try.prog w = .ok (.func fn first cap) w := fun _ _ _ _ => rfl
  have Hb := hide hb
  have Hl := hide hl
  have Hlt := hide hlt
  have Hold := hide hold
  clear hb hl hlt hold
  go_enter Try.func4, Try.ntmps4
  go_wp2_with fail
  refine (awake_c _).mono ?_
  rintro e w1 ⟨rfl, hf1⟩
  have fa := (Fr.of_alloc w (.cells #[.slice a1 xs.length c1] 39)).join hf1
  have hcl : w1.heap[w.heap.size]? = some (.cells #[.slice a1 xs.length c1] 39) := by rw [hf1.block _ (by simp) (fun h => h)]; exact heap_alloc_new _ _
  have k0 := cell_of (o := 0) hcl rfl
  have Hcl := hide hcl
  have Hfa := hide fa
  clear hf1 fa hcl
  go_wp2_with fail
  have hL1 : Lies w1 (.slice a0 bs.length c0) bs := Hb.out.keep (fun hne ad n c e => Hfa.out.block _ (by simp at e; exact Hold.out hne _ e.1) (fun h => h))
  refine (newHigh_c _ bs _ hL1 Hlt.out (by omega)).mono ?_
  rintro e w2 ⟨X, rfl, hX, hf2⟩
  have HX := hide hX
  clear hX hL1
  go_wp2_with fail
  go_loopw [7] (fun t wr => ∃ pi j P, t = .pointer (some ⟨pi, 0, none⟩) ∧ j ≤ xs.length ∧ HSt w w1.heap.size w2.heap.size X w2.heap.size (w2.heap.size + 1) w.heap.size pi (.slice a0 bs.length c0) (.slice a1 xs.length c1) bs P P j wr) (fun t wr => xs.length - ctr t wr)
  case atStart =>
    refine ⟨w2.heap.size + 1 + 1, 0, 0, rfl, Nat.zero_le _, ?_⟩
    have fb := (((Hfa.out.join hf2).join (Fr.of_alloc w2 (.cells #[.slice a0 bs.length c0, .int .i64 0, .bool true, .bool false] 29))).join (Fr.of_alloc _ (.cells #[.pointer (some ⟨X, 0, none⟩)] 40))).join (Fr.of_alloc _ (.cells #[.int .i64 0] 3))
    have f2 := ((Fr.of_alloc w2 (.cells #[.slice a0 bs.length c0, .int .i64 0, .bool true, .bool false] 29)).join (Fr.of_alloc _ (.cells #[.pointer (some ⟨X, 0, none⟩)] 40))).join (Fr.of_alloc _ (.cells #[.int .i64 0] 3))
    have s1 := Hfa.out.size
    have s2 := hf2.size
    have s3 := lt_of Hcl.out
    have hold : bs ≠ [] → ∀ ad n c, (Value.slice a0 bs.length c0) = .slice (some ad) n c → ad.block < w.heap.size := fun hne ad n c e => by simp at e; exact Hold.out hne _ e.1
    refine ⟨HX.out.keep f2 (fun _ _ _ h => h), ⟨⟨false, ?_⟩, Hb.out.keep (fun hne ad n c e => fb.block _ (hold hne ad n c e) (fun h => h)), fun hne ad n c e => by have := hold hne ad n c e; omega, by omega, Hlt.out, by omega⟩, ?_, ?_, ?_, fb, by omega, hold⟩
    · rw [Below.heap_alloc _ _ _ (by simp only [size_alloc]; omega), Below.heap_alloc _ _ _ (by simp only [size_alloc]; omega)]; exact heap_alloc_at rfl
    · rw [Below.heap_alloc _ _ _ (by simp only [size_alloc]; omega)]; exact heap_alloc_at (by simp only [size_alloc])
    · rw [f2.block _ (by omega) (fun h => h), hf2.block _ s3 (fun h => h)]; exact Hcl.out
    · exact heap_alloc_at (by simp only [size_alloc])
  case round =>
    obtain ⟨pi, j, P, rfl, hj, hS⟩ := hrel
    have k1 := cell_of (o := 0) hS.cl rfl
    have k2 := cell_of (o := 0) hS.ci rfl
    have k3 := cell_of (o := 0) hS.cx rfl
    have HS := hide hS
    by_cases hlt : j < xs.length
    · obtain ⟨D, o, c, e, hcell⟩ := Hl.out.at (by omega)
      simp only [Value.slice.injEq, true_and] at e
      obtain ⟨rfl, rfl⟩ := e
      have he := hcell j hlt
      obtain ⟨n, hn⟩ : ∃ n, n = xs.getD j 0 := ⟨_, rfl⟩
      rw [← hn] at he
      have hsz := lt_of hS.ci
      have hG : HSt w w1.heap.size w2.heap.size X w2.heap.size (w2.heap.size + 1) w.heap.size pi (.slice a0 bs.length c0) (.slice (some ⟨D, o, none⟩) xs.length c1) bs P P j (wr.alloc (.cells #[.int .i64 0] 3)) := hS.far (Fr.of_alloc wr _) (fun _ _ h => h)
      have HG := hide hG
      have Hn := hide hn
      have hj0 : (0 : Int) ≤ (j : Int) := by omega
      have hj1 : (j : Int) < (xs.length : Int) := by omega
      clear hS hG hn hcell
      by_cases hok : (0 ≤ n ∧ n ≤ 24) ∧ P + n ≤ (8 * bs.length : Nat)
      · obtain ⟨m, rfl⟩ := Int.eq_ofNat_of_zero_le hok.1.1
        have hm : m ≤ 24 := by omega
        have hmP : P + m ≤ 8 * bs.length := by omega
        clear hok
        go_wp2_with fail
        refine (hi_guard_ok w w1.heap.size w2.heap.size X w2.heap.size (w2.heap.size + 1) w.heap.size pi wr.heap.size D o c1 xs.length (.slice a0 bs.length c0) bs P P j m _ HG.out (heap_alloc_new _ _) hsz he hj1 hm hmP).mono ?_
        rintro e w3 ⟨rfl, h3, hg3, hs3⟩
        have k1 := cell_of (o := 0) h3.cl rfl
        have k2 := cell_of (o := 0) h3.ci rfl
        have e3 : w3.cell? ⟨D, o + j, none⟩ = some (.int .i64 (m : Int)) := by rw [World.cell?_of_block (w := w) (h3.fr.block D (World.block_lt_of_cell? _ _ he) (fun h => h))]; exact he
        have H3 := hide h3
        have Hg3 := hide hg3
        clear h3 hg3
        go_wp2_with fail
        refine (ref_take_high w3 w2.heap.size (.slice a0 bs.length c0) bs P m H3.out.rf hm hmP).mono ?_
        rintro e w4 ⟨rfl, r4, f4⟩
        have h4 := H3.out.rtook r4 f4
        have hps : w2.heap.size < pi := by have := HS.out.ord; omega
        have hg4 := (f4.block wr.heap.size (lt_of Hg3.out) (by omega)).trans Hg3.out
        have k0 := cell_of (o := 0) h4.cx rfl
        have k1 := cell_of (o := 0) h4.cl rfl
        have k2 := cell_of (o := 0) h4.ci rfl
        have k4 := cell_of (o := 0) hg4 rfl
        have hs4 := f4.size
        have H4 := hide h4
        clear h4 r4 hg4 hps
        go_wp2_with fail
        refine (high_left _ _ _ X bs (P + m) _ _ H4.out.rd).mono ?_
        rintro e w5 ⟨rfl, kd, hw5⟩
        have h5 := hide (H4.out.far (w' := w5) (by rw [hw5]; exact Fr.of_drewN _ _) (fun _ _ h => h))
        have k1 := cell_of (o := 0) h5.out.cl rfl
        have k2 := cell_of (o := 0) h5.out.ci rfl
        clear hw5
        go_wp2_with fail
        refine (ref_left _ w2.heap.size (.slice a0 bs.length c0) bs (P + m) true h5.out.rf).mono ?_
        rintro e w6 ⟨rfl, ke, hw6⟩
        have h6 := hide (h5.out.far (w' := w6) (by rw [hw6]; exact Fr.of_drewN _ _) (fun _ _ h => h))
        have k1 := cell_of (o := 0) h6.out.cl rfl
        have k2 := cell_of (o := 0) h6.out.ci rfl
        clear hw6
        go_wp2
        refine ⟨⟨_, j + 1, P + m, rfl, by omega, h6.out.next⟩, ?_⟩
        rw [ctr_of HS.out.ci, ctr_of h6.out.next.ci]
        omega
      · have hbad : (n < 0 ∨ 24 < n) ∨ ((8 * bs.length : Nat) : Int) < P + n := by omega
        have Hbad := hide hbad
        clear hok hbad
        go_wp2_with fail
        refine (hi_guard_no w w1.heap.size w2.heap.size X w2.heap.size (w2.heap.size + 1) w.heap.size pi wr.heap.size D o c1 xs.length (.slice a0 bs.length c0) bs P P j n _ HG.out (heap_alloc_new _ _) hsz he hj1 Hbad.out).mono ?_
        rintro e w3 ⟨rfl, h3, hg3, hs3⟩
        have k1 := cell_of (o := 0) h3.cl rfl
        have k2 := cell_of (o := 0) h3.ci rfl
        have e3 : w3.cell? ⟨D, o + j, none⟩ = some (.int .i64 n) := by rw [World.cell?_of_block (w := w) (h3.fr.block D (World.block_lt_of_cell? _ _ he) (fun h => h))]; exact he
        have H3 := hide h3
        have Hg3 := hide hg3
        clear h3 hg3
        go_wp2_with fail
        refine (ref_take_no w3 w2.heap.size (.slice a0 bs.length c0) bs P n true H3.out.rf Hbad.out).mono ?_
        rintro e w4 ⟨rfl, r4, f4⟩
        have h4 := H3.out.rtook r4 f4
        have hps : w2.heap.size < pi := by have := HS.out.ord; omega
        have hg4 := (f4.block wr.heap.size (lt_of Hg3.out) (by omega)).trans Hg3.out
        have k0 := cell_of (o := 0) h4.cx rfl
        have k1 := cell_of (o := 0) h4.cl rfl
        have k2 := cell_of (o := 0) h4.ci rfl
        have k4 := cell_of (o := 0) hg4 rfl
        have hs4 := f4.size
        have H4 := hide h4
        clear h4 r4 hg4 hps
        go_wp2_with fail
        refine (high_left _ _ _ X bs P _ _ H4.out.rd).mono ?_
        rintro e w5 ⟨rfl, kd, hw5⟩
        have h5 := hide (H4.out.far (w' := w5) (by rw [hw5]; exact Fr.of_drewN _ _) (fun _ _ h => h))
        have k1 := cell_of (o := 0) h5.out.cl rfl
        have k2 := cell_of (o := 0) h5.out.ci rfl
        clear hw5
        go_wp2_with fail
        refine (ref_left _ w2.heap.size (.slice a0 bs.length c0) bs P true h5.out.rf).mono ?_
        rintro e w6 ⟨rfl, ke, hw6⟩
        have h6 := hide (h5.out.far (w' := w6) (by rw [hw6]; exact Fr.of_drewN _ _) (fun _ _ h => h))
        have k1 := cell_of (o := 0) h6.out.cl rfl
        have k2 := cell_of (o := 0) h6.out.ci rfl
        clear hw6
        go_wp2
        refine ⟨⟨_, j + 1, P, rfl, by omega, h6.out.next⟩, ?_⟩
        rw [ctr_of HS.out.ci, ctr_of h6.out.next.ci]
        omega
    · clear hS
      go_wp2
      go_ret
      exact ⟨rfl, HS.out.fr⟩
end Go.Proofs.Ytkmgpapopgeldaa
