/-
  lzw: Read.
-/
import Derived.Test.YtdbgolklgiadeaaYb
namespace Go.Proofs.Ytdbgolklgiadeaa
open Go.RowKit

set_option maxRecDepth 100000 in
theorem sizeMay_no (s : Int) (hs : s < 2 ∨ 8 < s) (w : World) : Calls Try.prog 29 #[.int .i64 s] w fun e w' => e = .returned (.bool false) ∧ w = w' := by
  rcases hs with hs | hs
  · have h1 : ¬ (2 : Int) ≤ s := by omega
    go_enter Try.func29, Try.ntmps29
    go_wp2
    go_ret
    exact ⟨rfl, rfl⟩
  · have h1 : (2 : Int) ≤ s := by omega
    have h2 : ¬ s ≤ 8 := by omega
    go_enter Try.func29, Try.ntmps29
    go_wp2
    go_ret
    exact ⟨rfl, rfl⟩

set_option maxHeartbeats 800000 in
set_option maxRecDepth 100000 in
theorem newReader_no (sv : Value) (s m : Int) (w : World) (hs : ∃ a n c, sv = .slice a n c) (h : s < 2 ∨ 8 < s ∨ m < 0) :
    Calls Try.prog 14 #[sv, .int .i64 s, .int .i64 m] w fun e w' => ∃ M, e = .returned (.pointer (some ⟨M, 0, none⟩)) ∧ Rdn w' M (.error 1) ∧ M < w'.heap.size ∧ Fr (fun _ => False) w w' := by
  obtain ⟨a, n, c, rfl⟩ := hs
  by_cases h1 : s < 2 ∨ 8 < s
  · have Hs := hide (sizeMay_no s h1 w)
    clear h h1
    go_enter Try.func14, Try.ntmps14
    go_wp2_with fail
    refine Hs.out.mono ?_
    rintro e w1 ⟨rfl, rfl⟩
    go_wp2
    go_ret
    exact ⟨_, rfl, ⟨_, heap_alloc_new _ _, World.ownsRow_nil _ _ _ _⟩, by simp, Fr.of_alloc _ _⟩
  · obtain ⟨k, rfl⟩ : ∃ k : Nat, s = (k : Int) := ⟨s.toNat, by omega⟩
    have Hs := hide (sizeMay_ok k (by omega) w)
    have hm : m < 0 := by omega
    clear h h1
    go_enter Try.func14, Try.ntmps14
    go_wp2_with fail
    refine Hs.out.mono ?_
    rintro e w1 ⟨rfl, rfl⟩
    go_wp2
    go_ret
    exact ⟨_, rfl, ⟨_, heap_alloc_new _ _, World.ownsRow_nil _ _ _ _⟩, by simp, Fr.of_alloc _ _⟩

theorem Rdn.keep {w w' : World} {M : Nat} {r : Except Nat (List Nat)} (h : Rdn w M r) {S : Nat → Prop} (hF : Fr S w w') (hS : ∀ j, M ≤ j → ¬ S j) : Rdn w' M r := by
  obtain ⟨ov, h1, h2⟩ := h.obj
  exact ⟨ov, by rw [hF.block M (lt_of h1) (hS M (Nat.le_refl _))]; exact h1, ownsRow_fr h2 fun j hj => hF.block j (h2.lt j hj).2 (hS j (by have := (h2.lt j hj).1; omega))⟩

theorem ZRuns.len {V L k most : Nat} {s : Zs} {r : Except Nat (List Nat)} (h : ZRuns V L k most s r) (hs : s.out.length ≤ most) : (outZ r).length ≤ most := by
  induction h with
  | short h => exact Nat.zero_le _
  | clear h hc hr ih => exact ih hs
  | fin h hc => exact hs
  | form h h1 h2 hr => exact Nat.zero_le _
  | full h h1 h2 hx hm => exact Nat.zero_le _
  | row h h1 h2 hx hm hr ih => exact ih (by simp [onward]; omega)

theorem ReadOk.len {bs : List Nat} {size most : Int} {r : Except Nat (List Nat)} (h : ReadOk bs size most r) (hm : most ≤ 999990) : (outZ r).length ≤ 999990 := by
  rcases h with ⟨_, rfl⟩ | ⟨h1, h2, h3, h4⟩
  · exact Nat.zero_le _
  · have := h4.len (Nat.zero_le _)
    omega

theorem lies_ownB {w : World} {lo : Nat} {v : Value} {bs : List Nat} (h : OwnB w lo v bs) : Lies w v bs := by
  rcases h.2 with ⟨rfl, hn⟩ | ⟨g, cap, cur, hv, hg⟩
  · exact Or.inl ⟨rfl, List.eq_nil_of_length_eq_zero hn⟩
  · exact Or.inr ⟨_, _, hv, fun j u hu => World.ownsRow.cells h (g := g) (by rw [hv]; rfl) j u hu⟩

set_option maxRecDepth 100000 in
/-- What a done Reader puts out. -/
theorem outDn_c (M : Nat) (r : Except Nat (List Nat)) (w : World) (h : Rdn w M r) (hlen : (outZ r).length ≤ 2147483648) : Calls Try.prog 17 #[.pointer (some ⟨M, 0, none⟩)] w fun e w' => ∃ a c, e = .returned (.slice a (outZ r).length c) ∧ OwnB w' w.heap.size (.slice a (outZ r).length c) (outZ r) ∧ Fr (fun _ => False) w w' := by
  obtain ⟨ov, h1, h2⟩ := h.obj
  obtain ⟨oa, oc, rfl⟩ := ownsRow_shape h2
  exact outR_c M oa oc (outZ r) w (cell_of h1 rfl) (cell_of h1 rfl) (lies_ownB h2) hlen

set_option maxHeartbeats 1600000 in
set_option maxRecDepth 100000 in
/-- The contract of Read. -/
theorem read_c (sv : Value) (bs : List Nat) (size most : Int) (w : World) (h : Lies w sv bs) (hlt : ∀ b ∈ bs, b < 256) (hlen : bs.length ≤ 2147483648) (hm : most ≤ 999990) :
    Calls Try.prog 12 #[sv, .int .i64 size, .int .i64 most] w fun e w' => ∃ r a c, ReadOk bs size most r ∧ e = .returned (.tuple #[.slice a (outZ r).length c, .int .i64 ((errZ r : Nat) : Int)]) ∧
      OwnB w' w.heap.size (.slice a (outZ r).length c) (outZ r) ∧ Fr (fun _ => False) w w' := by
  have key : Calls Try.prog 14 #[sv, .int .i64 size, .int .i64 most] w fun e w1 => ∃ M, e = .returned (.pointer (some ⟨M, 0, none⟩)) ∧ Fr (fun _ => False) w w1 ∧
      Calls Try.prog 16 #[.pointer (some ⟨M, 0, none⟩), .int .i64 9223372036854775807] w1 fun e w2 => e = .returned (.bool true) ∧ Fr (fun _ => False) w w2 ∧ ∃ r, ReadOk bs size most r ∧ Rdn w2 M r := by
    by_cases hneg : size < 2 ∨ 8 < size ∨ most < 0
    · have hs : ∃ a n c, sv = .slice a n c := by
        rcases h with ⟨rfl, _⟩ | ⟨ad, c, rfl, _⟩
        · exact ⟨none, 0, 0, rfl⟩
        · exact ⟨some ad, _, c, rfl⟩
      refine (newReader_no sv size most w hs hneg).mono ?_
      rintro e w1 ⟨M, rfl, hM, _, hF⟩
      refine ⟨M, rfl, hF, (step_done M _ w1 hM.cells.1).mono ?_⟩
      rintro e w2 ⟨rfl, rfl⟩
      exact ⟨rfl, hF, .error 1, Or.inl ⟨hneg, rfl⟩, hM⟩
    · obtain ⟨m, rfl⟩ : ∃ m : Nat, most = (m : Int) := ⟨most.toNat, by omega⟩
      obtain ⟨k, rfl⟩ : ∃ k : Nat, size = (k : Int) := ⟨size.toNat, by omega⟩
      have hk : 2 ≤ k ∧ k ≤ 8 := by omega
      obtain ⟨r, hr, hz⟩ := read_mruns bs k m hk
      refine (newReader_ok sv bs k m w h hlt hlen hk (by omega)).mono ?_
      rintro e w1 ⟨M, B, rfl, hX, hF⟩
      refine ⟨M, rfl, hF, (step_c w1 w.heap.size M B bs k m rq0 none 0 none 0 r hk (by omega) hX (rq0_ok k m hk) hr 9223372036854775807 (by omega) (by omega)).mono ?_⟩
      rintro e w2 ⟨b, n, rfl, hb, hbn, hS⟩
      have hBM : w.heap.size ≤ B ∧ B < M := ⟨hX.rd.elo, hX.rd.ehi⟩
      have hSm : ∀ j, j < w.heap.size → ¬ (j = B ∨ Rmine M (.slice none rq0.rs.length 0) (.slice none rq0.out.length 0) j) := by
        intro j hj e
        rcases e with e | e | e | e
        · omega
        · omega
        · cases e
        · cases e
      cases hS with
      | on q ra rc oa oc hx2 hok2 hr2 g1 g2 F hn hn2 hle hs =>
        exfalso
        have h13 : w2.cell? ⟨M, 13, none⟩ = some (.bool false) := cell_of hx2.obj rfl
        rw [hb] at h13
        have hbf : b = false := by simpa using h13
        have hn0 := hbn hbf
        have := hx2.len
        have e0 : (rq0.out.length : Int) = 0 := rfl
        omega
      | fin hD F hn0 =>
        have := hD.cells.1
        rw [hb] at this
        have hbt : b = true := by simpa using this
        rw [hbt]
        refine ⟨rfl, (hF.trans F).mono fun j hj e => e.elim id fun e => hSm j hj e, r, Or.inr ⟨by omega, by omega, by omega, ?_⟩, hD⟩
        have e1 : (k : Int).toNat = k := by omega
        have e2 : (m : Int).toNat = m := by omega
        rw [e1, e2]
        exact hz
  have Hkey := hide key
  have hsv : ∃ a n c, sv = .slice a n c := by
    rcases h with ⟨rfl, _⟩ | ⟨ad, c, rfl, _⟩
    · exact ⟨none, 0, 0, rfl⟩
    · exact ⟨some ad, _, c, rfl⟩
  clear key h hlt
  obtain ⟨a0, n0, c0, rfl⟩ := hsv
  go_enter Try.func12, Try.ntmps12
  go_wp2_with fail
  refine Hkey.out.mono ?_
  rintro e w1 ⟨M, rfl, hF1, hst⟩
  have HF1 := hide hF1
  have Hst := hide hst
  clear hF1 hst
  go_wp2
  go_loopw [] (fun wr => Hid (w1 = wr)) (fun _ => 0)
  case atStart => exact rfl
  case round =>
    obtain rfl := hrel.out
    clear hrel
    go_wp2_with fail
    refine Hst.out.mono ?_
    rintro e w2 ⟨rfl, hF2, r, hA, hM⟩
    have HF2 := hide hF2
    have HA := hide hA
    have HM := hide hM
    clear hF2 hA hM
    go_wp2_with fail
    refine (outDn_c M r w2 HM.out (by have := HA.out.len hm; omega)).mono ?_
    rintro e w3 ⟨a, c, rfl, hown, hF3⟩
    have hM3 := HM.out.keep hF3 (fun _ _ h => h)
    have q12 := hM3.cells.2
    have Hown := hide hown
    have HF3 := hide (HF2.out.join hF3)
    have Hs2 := HF2.out.size
    clear hown hF3 hM3
    go_wp2_with fail
    refine (errR_c M _ w3 q12).mono ?_
    rintro e w4 ⟨rfl, rfl⟩
    go_wp2
    go_ret2
    exact ⟨r, a, c, HA.out, rfl, own_monoZ Hown.out Hs2, HF3.out⟩
end Go.Proofs.Ytdbgolklgiadeaa
