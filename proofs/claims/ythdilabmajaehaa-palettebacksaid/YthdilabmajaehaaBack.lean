/-
  PaletteBack: a picture that has a palette is drawn again from it; each colour is used, each once.
  Conditions: none.
-/
import Derived.Test.YthdilabmajaehaaRp
import Derived.Test.YthdilabmajaehaaZc
namespace Go.Proofs.Ythdilabmajaehaa
open Go.ChangeShapes Go.WideShapes Go.ChangeAt Go.RowKit
open Go.ChangeMaps (open_string shut_string)
set_option linter.unusedVariables false

/-- The place of the i-th pixel. -/
def placeAt (px : List Nat) (i : Nat) : Nat := (uniq px (i + 1)).idxOf (pix px i)

theorem uniq_pre (px : List Nat) (i : Nat) : ∀ j, ∃ t, uniq px (i + j) = uniq px i ++ t
  | 0 => ⟨[], by simp⟩
  | j + 1 => by
    obtain ⟨t, ht⟩ := uniq_pre px i j
    have e : uniq px (i + (j + 1)) = if pix px (i + j) ∈ uniq px (i + j) then uniq px (i + j) else uniq px (i + j) ++ [pix px (i + j)] := rfl
    rw [e, ht]
    split
    · exact ⟨t, rfl⟩
    · exact ⟨t ++ [pix px (i + j)], by rw [List.append_assoc]⟩

theorem places_get (px : List Nat) : ∀ m i, i < m → (places px m).getD i 0 = placeAt px i
  | 0, i, h => absurd h (Nat.not_lt_zero i)
  | m + 1, i, h => by
    have e : places px (m + 1) = places px m ++ [placeAt px m] := rfl
    have hl := places_length px m
    rw [e]
    by_cases hi : i < m
    · rw [List.getD_eq_getElem?_getD, List.getElem?_append_left (by omega), ← List.getD_eq_getElem?_getD]
      exact places_get px m i hi
    · obtain rfl : i = m := by omega
      rw [List.getD_eq_getElem?_getD, List.getElem?_append_right (by omega), hl, Nat.sub_self]
      rfl

theorem placeAt_lt (px : List Nat) (i : Nat) : placeAt px i < (uniq px (i + 1)).length :=
  List.idxOf_lt_length_of_mem ((mem_uniq px _ (i + 1)).2 ⟨i, by omega, rfl⟩)

/-- The colour at a pixel's place is the pixel's. -/
theorem place_color (px : List Nat) {i m : Nat} (h : i < m) : (uniq px m).getD (placeAt px i) [] = pix px i := by
  obtain ⟨t, ht⟩ := uniq_pre px (i + 1) (m - (i + 1))
  rw [show i + 1 + (m - (i + 1)) = m by omega] at ht
  have hl := placeAt_lt px i
  rw [ht, List.getD_eq_getElem?_getD, List.getElem?_append_left hl, List.getElem?_eq_getElem hl]
  exact List.getElem_idxOf hl

/-- A place is one of the colours seen, or the next. -/
theorem place_step (px : List Nat) (i : Nat) : placeAt px i ≤ (uniq px i).length ∧ (uniq px (i + 1)).length = if placeAt px i = (uniq px i).length then (uniq px i).length + 1 else (uniq px i).length := by
  have e : uniq px (i + 1) = if pix px i ∈ uniq px i then uniq px i else uniq px i ++ [pix px i] := rfl
  have hl := placeAt_lt px i
  by_cases hm : pix px i ∈ uniq px i
  · rw [if_pos hm] at e
    rw [e] at hl ⊢
    rw [if_neg (by omega)]
    exact ⟨by omega, rfl⟩
  · rw [if_neg hm] at e
    have hp : placeAt px i = (uniq px i).length := by
      unfold placeAt
      rw [e, List.idxOf_append, if_neg hm]
      simp
    rw [e, if_pos hp, hp]
    exact ⟨Nat.le_refl _, by simp⟩

theorem drawn_back {px : List Nat} {m : Nat} (h : px.length = 4 * m) : ∀ i, i ≤ m → drawn (uniq px m) (places px i) = px.take (4 * i)
  | 0, _ => by simp [drawn, places]
  | i + 1, hi => by
    have ih := drawn_back h i (by omega)
    have e : places px (i + 1) = places px i ++ [placeAt px i] := rfl
    have hc := place_color px (show i < m by omega)
    unfold drawn at ih ⊢
    rw [e, List.map_append, List.flatten_append, ih]
    simp only [List.map_cons, List.map_nil, List.flatten_cons, List.flatten_nil, List.append_nil, hc]
    have d0 := List.getElem?_eq_getElem (l := px) (i := 4 * i) (by omega)
    have d1 := List.getElem?_eq_getElem (l := px) (i := 4 * i + 1) (by omega)
    have d2 := List.getElem?_eq_getElem (l := px) (i := 4 * i + 2) (by omega)
    have d3 := List.getElem?_eq_getElem (l := px) (i := 4 * i + 3) (by omega)
    rw [show 4 * (i + 1) = 4 * i + 1 + 1 + 1 + 1 by omega, List.take_add_one, List.take_add_one, List.take_add_one, List.take_add_one]
    simp only [pix, List.getD_eq_getElem?_getD, d0, d1, d2, d3, Option.getD_some, Option.toList_some, List.append_assoc, List.cons_append, List.nil_append]

theorem drawn_all {px : List Nat} {m : Nat} (h : px.length = 4 * m) : drawn (uniq px m) (places px m) = px := by
  rw [drawn_back h m (Nat.le_refl _), ← h, List.take_length]

/-- It can be drawn. -/
theorem drawE_back {W H : Int} {px : List Nat} {m : Nat} (hs : sizeE W H = 0) (hm : (m : Int) = W * H) : drawE W H (uniq px m).length (places px m) = 0 := by
  have hl := places_length px m
  unfold drawE
  rw [if_neg (fun h => h hs), if_neg (by omega), if_neg (by omega), if_pos]
  rw [List.all_eq_true]
  intro b hb
  obtain ⟨k, hk, rfl⟩ := List.mem_iff_getElem.1 hb
  have hg := places_get px m k (by omega)
  rw [List.getD_eq_getElem?_getD, List.getElem?_eq_getElem hk] at hg
  simp only [Option.getD_some] at hg
  rw [hg, decide_eq_true_eq]
  have h1 := placeAt_lt px k
  have h2 := uniq_mono px (k + 1) (m - (k + 1))
  rw [show k + 1 + (m - (k + 1)) = m by omega] at h2
  omega

theorem opqAll_at {m : Nat} {px : List Nat} (h : opqAll m px = true) {q : Nat} (hq : q < m) : opq px (4 * q) = true := by
  unfold opqAll at h
  exact List.all_eq_true.1 h q (List.mem_range.2 hq)

/-- The colour whose last sample is zero is the clear one. -/
theorem clear_iff {px : List Nat} {m : Nat} (hf : fitsG px m = true) {k : Nat} (hk : k < (uniq px m).length) : (((uniq px m).getD k []).getD 3 0 = 0 ↔ (k : Int) = clearV (uniq px m)) := by
  have hg : (uniq px m).getD k [] = (uniq px m)[k] := by rw [List.getD_eq_getElem?_getD, List.getElem?_eq_getElem hk]; rfl
  constructor
  · intro h
    obtain ⟨j, hj, e⟩ := (mem_uniq px _ m).1 (List.getElem_mem hk)
    unfold fitsG at hf
    simp only [Bool.and_eq_true] at hf
    have ho := opqAll_at hf.2.1 hj
    have h3 : px.getD (4 * j + 3) 0 = 0 := by
      rw [hg, ← e] at h
      exact h
    unfold opq at ho
    rw [Bool.or_eq_true, decide_eq_true_eq, decide_eq_true_eq] at ho
    have hz : (uniq px m).getD k [] = [0, 0, 0, 0] := by
      rw [hg, ← e]
      rcases ho with ho | ho
      · omega
      · exact ho
    refine (clear_at hk hz fun j hj he => ?_).symm
    have hj2 : j < (uniq px m).length := by omega
    have hn := List.pairwise_iff_getElem.1 (uniq_nodup px m) j k hj2 hk hj
    rw [List.getD_eq_getElem?_getD, List.getElem?_eq_getElem hj2] at he
    simp only [Option.getD_some] at he
    exact hn (he.trans (hz.symm.trans hg))
  · intro h
    unfold clearV at h
    by_cases hm : [0, 0, 0, 0] ∈ uniq px m
    · rw [if_pos hm] at h
      have hl := List.idxOf_lt_length_of_mem hm
      have he : k = (uniq px m).idxOf [0, 0, 0, 0] := by omega
      have hz : (uniq px m)[(uniq px m).idxOf [0, 0, 0, 0]] = [0, 0, 0, 0] := List.getElem_idxOf hl
      rw [hg]
      have : (uniq px m)[k] = [0, 0, 0, 0] := by
        subst he
        exact hz
      rw [this]
      rfl
    · rw [if_neg hm] at h
      omega

/-- Two colours at unlike places are unlike. -/
theorem uniq_apart (px : List Nat) (m : Nat) {j k : Nat} (hj : j < k) (hk : k < (uniq px m).length) : (uniq px m).getD k [] ≠ (uniq px m).getD j [] := fun he => by
  have hj2 : j < (uniq px m).length := by omega
  have hn := List.pairwise_iff_getElem.1 (uniq_nodup px m) j k hj2 hk hj
  rw [List.getD_eq_getElem?_getD, List.getD_eq_getElem?_getD, List.getElem?_eq_getElem hj2, List.getElem?_eq_getElem hk] at he
  simp only [Option.getD_some] at he
  exact hn he.symm

set_option maxHeartbeats 1000000 in
set_option maxRecDepth 100000 in
theorem back_law (W H : Int) (a : Option Addr) (n c : Nat) (px : List Nat) (w : World) (hl : Lies w a px) (hp : px.length = n) (hc : n ≤ c) :
    Calls Try.prog 9 #[rasV W H a n c] w fun e w' => e = .returned (.bool true) ∧ Fr (fun _ => False) w w' := by
  have hcs := make_cases W H a n c px hp hc
  obtain ⟨w1, hw1⟩ : ∃ w1, w1 = w.alloc (.cells #[.int .i64 W, .int .i64 H, .slice a n c] 24) := ⟨_, rfl⟩
  obtain ⟨R, hR⟩ : ∃ R, R = w.heap.size := ⟨_, rfl⟩
  have hb1 : w1.heap[R]? = some (.cells #[.int .i64 W, .int .i64 H, .slice a n c] 24 (0, 0)) := by rw [hw1]; exact heap_alloc_at hR
  have hF1 : Fr (fun _ => False) w w1 := by rw [hw1]; exact Fr.of_alloc _ _
  have HA := hide (awake10_c w1)
  have HL := hide (hl.keep0 hF1)
  have Hb1 := hide hb1
  have HF1 := hide hF1
  have Hw1 := hide hw1
  have HR := hide hR
  have Hcs := hide hcs
  have Hsm := hide hl.1
  have Hp := hide hp
  clear hl hp hc hb1 hF1 hw1 hR hcs
  go_enter Try.func9, Try.ntmps9
  go_wp2_with fail
  rw [← Hw1.out, ← HR.out]
  refine HA.out.mono ?_
  rintro e w2 ⟨rfl, hF2⟩
  have hb2 := cells_at Hb1.out hF2 (fun e => e)
  have HF2 := hide (HF1.out.join hF2)
  have HL2 := hide (HL.out.keep0 hF2)
  have Hb2 := hide hb2
  have k0 := cell_of (o := 0) hb2 rfl
  have k1 := cell_of (o := 1) hb2 rfl
  have k2 := cell_of (o := 2) hb2 rfl
  clear hF2 hb2
  by_cases hbig : (8000 : Int) < (n : Int)
  · go_wp2_with fail
    go_ret
    exact ⟨rfl, HF2.out⟩
  rcases Hcs.out with ⟨h1, _⟩ | ⟨m, g1, g2, g3, hmb, hm1, hfit, h1, _⟩
  · have H1 := hide (h1 w2 HL2.out)
    clear h1
    go_wp2_with fail
    refine H1.out.mono ?_
    rintro e w3 ⟨hF3, rfl⟩
    obtain ⟨w4, hw4⟩ : ∃ w4, w4 = w3.alloc (.cells #[.slice none 0 0, .int .i64 0] 44) := ⟨_, rfl⟩
    obtain ⟨PB, hPB⟩ : ∃ P, P = w3.heap.size := ⟨_, rfl⟩
    have hF34 : Fr (fun _ => False) w3 w4 := by rw [hw4]; exact Fr.of_alloc _ _
    have hP4 : w4.heap[PB]? = some (.cells #[.slice none 0 0, .int .i64 0] 44 (0, 0)) := by rw [hw4]; exact heap_alloc_at hPB
    have HF4 := hide (HF2.out.join (hF3.join hF34))
    clear k0 k1 k2
    have p0 := cell_of (o := 0) hP4 rfl
    have Hw4 := hide hw4
    rw [hw4, hPB] at p0
    clear hF3 hF34 hP4 hw4 hPB
    go_wp2_with fail
    go_ret
    rw [← Hw4.out]
    exact ⟨by simp, HF4.out⟩
  · have H1 := hide (h1 w2 HL2.out)
    clear h1
    have hu256 : (uniq px m).length ≤ 256 := by
      unfold fitsG at hfit
      simp only [Bool.and_eq_true, decide_eq_true_eq] at hfit
      exact hfit.2.2
    have Hu := hide hu256
    have Hm1 := hide hm1
    have Hmb := hide hmb
    have Hfit := hide hfit
    have Hmay := hide g1
    have Hg2 := hide g2
    have Hg3 := hide g3
    clear hu256 hm1 hmb hfit g1 g2 g3
    go_wp2_with fail
    refine H1.out.mono ?_
    rintro e w3 ⟨hF3, v1, v2, rfl, o1, o2⟩
    obtain ⟨a7, c7, rfl⟩ := ownsRow_shape o1.own
    obtain ⟨a8, c8, rfl⟩ := ownsRow_shape o2
    obtain ⟨L, hL⟩ : ∃ L, L = (uniq px m).length := ⟨_, rfl⟩
    obtain ⟨Z, hZ⟩ : ∃ Z, Z = clearV (uniq px m) := ⟨_, rfl⟩
    rw [← hL] at o1 ⊢
    rw [places_length] at o2 ⊢
    rw [← hZ]
    have hpl : ∀ b ∈ places px m, b < 256 := fun b hb => by have h1 := places_lt px m b hb; have h2 := Hu.out; omega
    have hcol := o1.cols (uniq_good Hsm.out m)
    have hbys := o2.bys hpl
    obtain ⟨w4, hw4⟩ : ∃ w4, w4 = w3.alloc (.cells #[.slice a7 L c7, .int .i64 Z] 44) := ⟨_, rfl⟩
    obtain ⟨PB, hPB⟩ : ∃ P, P = w3.heap.size := ⟨_, rfl⟩
    have hF34 : Fr (fun _ => False) w3 w4 := by rw [hw4]; exact Fr.of_alloc _ _
    have hP4 : w4.heap[PB]? = some (.cells #[.slice a7 L c7, .int .i64 Z] 44 (0, 0)) := by rw [hw4]; exact heap_alloc_at hPB
    have hF24 := hF3.join hF34
    have HF4 := hide (HF2.out.join hF24)
    have HP4 := hide hP4
    have hC4 := Cols.fr hcol hF34 (fun _ _ _ h => h)
    have hB4 := Bys.fr hbys hF34 (fun _ _ _ h => h)
    have HD4 := hide (draw_c W H Z a7 L c7 (uniq px m) a8 m c8 (places px m) w4 hC4 hB4 (by have := Hmb.out; omega))
    have HC4 := hide hC4
    have HB4 := hide hB4
    have HL4 := hide (HL2.out.keep0 hF24)
    have hb4 := cells_at Hb2.out hF24 (fun e => e)
    have Hb4 := hide hb4
    clear k0 k1 k2
    have k0 := cell_of (o := 0) hb4 rfl
    have k1 := cell_of (o := 1) hb4 rfl
    have p0 := cell_of (o := 0) hP4 rfl
    have p1 := cell_of (o := 1) hP4 rfl
    have Hw4 := hide hw4
    have HPB := hide hPB
    have HL3 := hide hL
    have HZ := hide hZ
    rw [hw4] at k0 k1
    rw [hw4, hPB] at p0 p1
    clear hF3 hF34 hP4 hF24 hb4 hw4 hPB o1 o2 hcol hbys hL hZ hpl hC4 hB4
    go_wp2_with fail
    rw [← Hw4.out, ← HPB.out]
    refine HD4.out.mono ?_
    rintro e w5 ⟨hF5, ⟨h, _⟩ | ⟨_, g, rfl, hO⟩⟩
    · exact absurd (by rw [HL3.out]; exact drawE_back (mayB_true Hmay.out).1 Hg2.out) h
    rw [places_length, drawn_all (by rw [Hp.out]; exact Hg3.out)] at hO
    rw [places_length]
    obtain ⟨w6, hw6⟩ : ∃ w6, w6 = w5.alloc (.cells #[.int .i64 W, .int .i64 H, .slice (some ⟨g, 0, none⟩) (4 * m) (4 * m)] 24) := ⟨_, rfl⟩
    obtain ⟨QB, hQB⟩ : ∃ P, P = w5.heap.size := ⟨_, rfl⟩
    have hF56 : Fr (fun _ => False) w5 w6 := by rw [hw6]; exact Fr.of_alloc _ _
    have hQ6 : w6.heap[QB]? = some (.cells #[.int .i64 W, .int .i64 H, .slice (some ⟨g, 0, none⟩) (4 * m) (4 * m)] 24 (0, 0)) := by rw [hw6]; exact heap_alloc_at hQB
    have hF46 := hF5.join hF56
    have HF6 := hide (HF4.out.join hF46)
    have HP6 := hide (cells_at HP4.out hF46 (fun e => e))
    have Hb6 := hide (cells_at Hb4.out hF46 (fun e => e))
    have HQ6 := hide hQ6
    have HC6 := hide (HC4.out.fr hF46 fun _ _ _ h => h)
    have HB6 := hide (HB4.out.fr hF46 fun _ _ _ h => h)
    have HL6 := hide (HL4.out.keep0 hF46)
    have HO6 := hide (hO.keep hF56 fun _ _ h => h)
    have Hw6 := hide hw6
    have HQB := hide hQB
    clear k0 k1 p0 p1 hF5 hF56 hQ6 hF46 hO hw6 hQB
    go_wp2_with fail
    rw [← Hw6.out, ← HQB.out]
    obtain ⟨g8, o8, rfl, hx8⟩ := HB6.out.at_ (by have := Hm1.out; omega)
    have HX8 := hide hx8
    have hm9 : (m : Int) ≤ 65536 := by have := Hmb.out; omega
    clear hx8
    go_loopw [8, 9] (fun v8 v9 wr => ∃ i S : Nat, v9 = .int .i64 (i : Int) ∧ v8 = .int .i64 (S : Int) ∧ i ≤ m ∧ Hid (S = (uniq px i).length) ∧ wr = w6) (fun _ v9 _ => m - (intOf v9).toNat)
    case atStart => exact ⟨0, 0, rfl, rfl, Nat.zero_le _, rfl, rfl⟩
    case round =>
      obtain ⟨i, S, rfl, rfl, hi, HS, rfl⟩ := hrel
      by_cases hlt : i < m
      · have hlti : (i : Int) < (m : Int) := by omega
        have c1 := HX8.out i hlt
        rw [places_get px m i hlt] at c1
        obtain ⟨P, hP⟩ : ∃ P, P = placeAt px i := ⟨_, rfl⟩
        have hst := place_step px i
        rw [← HS.out, ← hP] at hst
        rw [← hP] at c1
        have hu1 := uniq_le px i
        rw [← HS.out] at hu1
        have hP256 : P < 256 := by
          have h1 := placeAt_lt px i
          have h2 := uniq_mono px (i + 1) (m - (i + 1))
          rw [show i + 1 + (m - (i + 1)) = m by omega] at h2
          have h3 := Hu.out
          omega
        have hPS : ¬ (S : Int) < (P : Int) := by have := hst.1; omega
        have hPi : (P : Int) < 256 := by omega
        have hSi : (S : Int) ≤ 65536 := by omega
        have HSt := hide hst.2
        clear hst hP hu1
        by_cases he : P = S
        · have hei : (P : Int) = (S : Int) := by omega
          go_wp2_with fail
          go_roundw
          case rel =>
            have hS2 := HSt.out
            rw [if_pos he] at hS2
            exact ⟨i + 1, S + 1, by go_num, by go_num, by omega, hS2.symm, trivial⟩
          case measure => simp [intOf]; omega
        · have hei : ¬ (P : Int) = (S : Int) := by omega
          go_wp2_with fail
          go_roundw
          case rel =>
            have hS2 := HSt.out
            rw [if_neg he] at hS2
            exact ⟨i + 1, S, by go_num, rfl, by omega, hS2.symm, trivial⟩
          case measure => simp [intOf]; omega
      · have hlti : ¬ (i : Int) < (m : Int) := by omega
        have hSL : S = L := by rw [HS.out, HL3.out, show i = m by omega]
        subst hSL
        obtain ⟨w10, rfl⟩ : ∃ x, x = wr := ⟨_, rfl⟩
        have HU := hide Hu.out
        rw [← HL3.out] at HU
        go_wp2_with fail
        go_loopw [10, 11] (fun v10 _ wr => ∃ k : Nat, v10 = .int .i64 (k : Int) ∧ k ≤ S ∧ Hid (Fr (fun _ => False) w10 wr)) (fun v10 _ _ => S - (intOf v10).toNat)
        case atStart => exact ⟨0, rfl, Nat.zero_le _, Fr.refl _ _⟩
        case round =>
          obtain ⟨k, rfl, hk, HF⟩ := hrel
          have hU9 := HU.out
          have hP7 := cells_at HP6.out HF.out (fun e => e)
          have p0 := cell_of (o := 0) hP7 rfl
          clear hP7
          by_cases hkl : k < S
          · have hki : (k : Int) < (S : Int) := by omega
            go_wp2_with fail
            obtain ⟨w11, rfl⟩ : ∃ x, x = wr := ⟨_, rfl⟩
            clear p0
            go_loopw [11] (fun v11 wr => ∃ j : Nat, v11 = .int .i64 (j : Int) ∧ j ≤ k ∧ Hid (Fr (fun _ => False) w10 wr)) (fun v11 _ => k - (intOf v11).toNat)
            case atStart => exact ⟨0, rfl, Nat.zero_le _, HF.out⟩
            case round =>
              obtain ⟨j, rfl, hj, HF3⟩ := hrel
              have hP8 := cells_at HP6.out HF3.out (fun e => e)
              have p0 := cell_of (o := 0) hP8 rfl
              have p1 := cell_of (o := 1) hP8 rfl
              clear hP8
              obtain ⟨g1, o1, rfl, hc1⟩ := (HC6.out.fr HF3.out (fun _ _ _ h => h)).at_ (by omega)
              obtain ⟨s3, hs3⟩ : ∃ s, s = ((uniq px m).getD k []).getD 3 0 := ⟨_, rfl⟩
              have hgk := getD_good HC6.out.good (k := k) (by rw [HC6.out.len]; exact hkl)
              have c3 := hc1 k 3 hkl (by decide)
              rw [← hs3] at c3
              by_cases hjk : j < k
              · have hji : (j : Int) < (k : Int) := by omega
                have hjl : j < S := by omega
                obtain ⟨s0, hs0⟩ : ∃ s, s = ((uniq px m).getD k []).getD 0 0 := ⟨_, rfl⟩
                obtain ⟨s1, hs1⟩ : ∃ s, s = ((uniq px m).getD k []).getD 1 0 := ⟨_, rfl⟩
                obtain ⟨s2, hs2⟩ : ∃ s, s = ((uniq px m).getD k []).getD 2 0 := ⟨_, rfl⟩
                obtain ⟨t0, ht0⟩ : ∃ s, s = ((uniq px m).getD j []).getD 0 0 := ⟨_, rfl⟩
                obtain ⟨t1, ht1⟩ : ∃ s, s = ((uniq px m).getD j []).getD 1 0 := ⟨_, rfl⟩
                obtain ⟨t2, ht2⟩ : ∃ s, s = ((uniq px m).getD j []).getD 2 0 := ⟨_, rfl⟩
                obtain ⟨t3, ht3⟩ : ∃ s, s = ((uniq px m).getD j []).getD 3 0 := ⟨_, rfl⟩
                have hgj := getD_good HC6.out.good (k := j) (by rw [HC6.out.len]; exact hjl)
                have h4 := four_list hgk.1
                rw [← hs0, ← hs1, ← hs2, ← hs3] at h4
                have h5 := four_list hgj.1
                rw [← ht0, ← ht1, ← ht2, ← ht3] at h5
                have hap := uniq_apart px m hjk (by rw [HC6.out.len]; exact hkl)
                rw [h4, h5] at hap
                have hE : ∀ w : World, (Op.equalIn 10000 36 (.agg #[.int .u16 (s0 : Int), .int .u16 (s1 : Int), .int .u16 (s2 : Int), .int .u16 (s3 : Int)]) (.agg #[.int .u16 (t0 : Int), .int .u16 (t1 : Int), .int .u16 (t2 : Int), .int .u16 (t3 : Int)])).run Try.prog w = .ok false w := fun w => by
                  have h := eq_four s0 s1 s2 s3 t0 t1 t2 t3 (by rw [← h4]; exact hgk.2) (by rw [← h5]; exact hgj.2) w
                  rw [decide_eq_false hap] at h
                  exact h
                have c0 := hc1 k 0 hkl (by decide)
                have c1 := hc1 k 1 hkl (by decide)
                have c2 := hc1 k 2 hkl (by decide)
                have d0 := hc1 j 0 hjl (by decide)
                have d1 := hc1 j 1 hjl (by decide)
                have d2 := hc1 j 2 hjl (by decide)
                have d3 := hc1 j 3 hjl (by decide)
                rw [← hs0, Nat.add_zero] at c0
                rw [← ht0, Nat.add_zero] at d0
                rw [← hs1] at c1
                rw [← hs2] at c2
                rw [← ht1] at d1
                rw [← ht2] at d2
                rw [← ht3] at d3
                clear hs0 hs1 hs2 hs3 ht0 ht1 ht2 ht3 hgk hgj h4 h5 hap hc1
                go_upto_region 23 with fail
                refine wp_region_held_drew (S := fun W' => Fr (fun _ => False) wr W') (by kernel_rfl) (by exact Fr.drew1 _ wr) (fun hHeld => ?_)
                refine wpAnyH_take (i := 0) (v := ?v0) rfl (by kernel_rfl) (by kernel_rfl) (by kernel_rfl) (fun _ _ _ h => h) (Or.inl ⟨by rfl, ?hy0⟩) hHeld ?rest0
                case hy0 => (intro W hSw; (try dsimp only at hSw); have x0 := hSw.cell0 c0; have x1 := hSw.cell0 c1; have x2 := hSw.cell0 c2; have x3 := hSw.cell0 c3; have y0 := hSw.cell0 d0; have y1 := hSw.cell0 d1; have y2 := hSw.cell0 d2; have y3 := hSw.cell0 d3; have z0 := hSw.cell0 p0; go_simp; all_goals (with_reducible rfl))
                change wpAnyH _ _ _ _ _ _ _ (Act.put _ (some 79) _) _
                simp only [Act.put, List.setIfInBounds_toArray, List.set_cons_zero, List.set_cons_succ]
                refine wpAnyH_take (i := 2) (v := ?v2) rfl (by kernel_rfl) (by kernel_rfl) (by kernel_rfl) (fun _ _ _ h => h) (Or.inl ⟨by rfl, ?hy2⟩) hHeld ?rest2
                case hy2 => (intro W hSw; (try dsimp only at hSw); have x0 := hSw.cell0 c0; have x1 := hSw.cell0 c1; have x2 := hSw.cell0 c2; have x3 := hSw.cell0 c3; have y0 := hSw.cell0 d0; have y1 := hSw.cell0 d1; have y2 := hSw.cell0 d2; have y3 := hSw.cell0 d3; have z0 := hSw.cell0 p0; go_simp; all_goals (with_reducible rfl))
                change wpAnyH _ _ _ _ _ _ _ (Act.put _ (some 81) _) _
                simp only [Act.put, List.setIfInBounds_toArray, List.set_cons_zero, List.set_cons_succ]
                refine wpAnyH_take (i := 5) (v := ?v5) rfl (by kernel_rfl) (by kernel_rfl) (by kernel_rfl) (fun _ _ _ h => h) (Or.inl ⟨by rfl, ?hy5⟩) hHeld ?rest5
                case hy5 => (intro W hSw; (try dsimp only at hSw); have x0 := hSw.cell0 c0; have x1 := hSw.cell0 c1; have x2 := hSw.cell0 c2; have x3 := hSw.cell0 c3; have y0 := hSw.cell0 d0; have y1 := hSw.cell0 d1; have y2 := hSw.cell0 d2; have y3 := hSw.cell0 d3; have z0 := hSw.cell0 p0; go_simp; all_goals (with_reducible rfl))
                change wpAnyH _ _ _ _ _ _ _ (Act.put _ (some 84) _) _
                simp only [Act.put, List.setIfInBounds_toArray, List.set_cons_zero, List.set_cons_succ]
                refine wpAnyH_take (i := 7) (v := ?v7) rfl (by kernel_rfl) (by kernel_rfl) (by kernel_rfl) (fun _ _ _ h => h) (Or.inl ⟨by rfl, ?hy7⟩) hHeld ?rest7
                case hy7 => (intro W hSw; (try dsimp only at hSw); have x0 := hSw.cell0 c0; have x1 := hSw.cell0 c1; have x2 := hSw.cell0 c2; have x3 := hSw.cell0 c3; have y0 := hSw.cell0 d0; have y1 := hSw.cell0 d1; have y2 := hSw.cell0 d2; have y3 := hSw.cell0 d3; have z0 := hSw.cell0 p0; go_simp; all_goals (with_reducible rfl))
                change wpAnyH _ _ _ _ _ _ _ (Act.put _ (some 86) _) _
                simp only [Act.put, List.setIfInBounds_toArray, List.set_cons_zero, List.set_cons_succ]
                refine wpAnyH_take (i := 1) (v := ?v1) rfl (by kernel_rfl) (by kernel_rfl) (by kernel_rfl) (fun _ _ _ h => h) (Or.inl ⟨by rfl, ?hy1⟩) hHeld ?rest1
                case hy1 => (intro W hSw; (try dsimp only at hSw); have x0 := hSw.cell0 c0; have x1 := hSw.cell0 c1; have x2 := hSw.cell0 c2; have x3 := hSw.cell0 c3; have y0 := hSw.cell0 d0; have y1 := hSw.cell0 d1; have y2 := hSw.cell0 d2; have y3 := hSw.cell0 d3; have z0 := hSw.cell0 p0; go_simp; all_goals (with_reducible rfl))
                change wpAnyH _ _ _ _ _ _ _ (Act.put _ (some 80) _) _
                simp only [Act.put, List.setIfInBounds_toArray, List.set_cons_zero, List.set_cons_succ]
                refine wpAnyH_take (i := 6) (v := ?v6) rfl (by kernel_rfl) (by kernel_rfl) (by kernel_rfl) (fun _ _ _ h => h) (Or.inl ⟨by rfl, ?hy6⟩) hHeld ?rest6
                case hy6 => (intro W hSw; (try dsimp only at hSw); have x0 := hSw.cell0 c0; have x1 := hSw.cell0 c1; have x2 := hSw.cell0 c2; have x3 := hSw.cell0 c3; have y0 := hSw.cell0 d0; have y1 := hSw.cell0 d1; have y2 := hSw.cell0 d2; have y3 := hSw.cell0 d3; have z0 := hSw.cell0 p0; go_simp; all_goals (with_reducible rfl))
                change wpAnyH _ _ _ _ _ _ _ (Act.put _ (some 85) _) _
                simp only [Act.put, List.setIfInBounds_toArray, List.set_cons_zero, List.set_cons_succ]
                refine wpAnyH_take (i := 3) (v := ?v3) rfl (by kernel_rfl) (by kernel_rfl) (by kernel_rfl) (fun _ _ _ h => h) (Or.inl ⟨by rfl, ?hy3⟩) hHeld ?rest3
                case hy3 => (intro W hSw; (try dsimp only at hSw); have x0 := hSw.cell0 c0; have x1 := hSw.cell0 c1; have x2 := hSw.cell0 c2; have x3 := hSw.cell0 c3; have y0 := hSw.cell0 d0; have y1 := hSw.cell0 d1; have y2 := hSw.cell0 d2; have y3 := hSw.cell0 d3; have z0 := hSw.cell0 p0; go_simp; all_goals (with_reducible rfl))
                change wpAnyH _ _ _ _ _ _ _ (Act.put _ (some 82) _) _
                simp only [Act.put, List.setIfInBounds_toArray, List.set_cons_zero, List.set_cons_succ]
                refine wpAnyH_take (i := 8) (v := ?v8) rfl (by kernel_rfl) (by kernel_rfl) (by kernel_rfl) (fun _ _ _ h => h) (Or.inl ⟨by rfl, ?hy8⟩) hHeld ?rest8
                case hy8 => (intro W hSw; (try dsimp only at hSw); have x0 := hSw.cell0 c0; have x1 := hSw.cell0 c1; have x2 := hSw.cell0 c2; have x3 := hSw.cell0 c3; have y0 := hSw.cell0 d0; have y1 := hSw.cell0 d1; have y2 := hSw.cell0 d2; have y3 := hSw.cell0 d3; have z0 := hSw.cell0 p0; go_simp; all_goals (with_reducible rfl))
                change wpAnyH _ _ _ _ _ _ _ (Act.put _ (some 87) _) _
                simp only [Act.put, List.setIfInBounds_toArray, List.set_cons_zero, List.set_cons_succ]
                refine wpAnyH_take (i := 4) (v := ?v4) rfl (by kernel_rfl) (by kernel_rfl) (by kernel_rfl) (fun _ _ _ h => h) (Or.inl ⟨by rfl, ?hy4⟩) hHeld ?rest4
                case hy4 => (intro W hSw; (try dsimp only at hSw); have x0 := hSw.cell0 c0; have x1 := hSw.cell0 c1; have x2 := hSw.cell0 c2; have x3 := hSw.cell0 c3; have y0 := hSw.cell0 d0; have y1 := hSw.cell0 d1; have y2 := hSw.cell0 d2; have y3 := hSw.cell0 d3; have z0 := hSw.cell0 p0; go_simp; all_goals (with_reducible rfl))
                change wpAnyH _ _ _ _ _ _ _ (Act.put _ (some 83) _) _
                simp only [Act.put, List.setIfInBounds_toArray, List.set_cons_zero, List.set_cons_succ]
                refine wpAnyH_take (i := 9) (v := ?v9) rfl (by kernel_rfl) (by kernel_rfl) (by kernel_rfl) (fun _ _ _ h => h) (Or.inl ⟨by rfl, ?hy9⟩) hHeld ?rest9
                case hy9 => (intro W hSw; (try dsimp only at hSw); have x0 := hSw.cell0 c0; have x1 := hSw.cell0 c1; have x2 := hSw.cell0 c2; have x3 := hSw.cell0 c3; have y0 := hSw.cell0 d0; have y1 := hSw.cell0 d1; have y2 := hSw.cell0 d2; have y3 := hSw.cell0 d3; have z0 := hSw.cell0 p0; go_simp; all_goals (with_reducible rfl))
                change wpAnyH _ _ _ _ _ _ _ (Act.put _ (some 88) _) _
                simp only [Act.put, List.setIfInBounds_toArray, List.set_cons_zero, List.set_cons_succ]
                refine wpAnyH_take (i := 10) (v := ?v10) rfl (by kernel_rfl) (by kernel_rfl) (by kernel_rfl) (fun _ _ _ h => h) (Or.inl ⟨by rfl, ?hy10⟩) hHeld ?rest10
                case hy10 => (intro W hSw; (try dsimp only at hSw); have x0 := hSw.cell0 c0; have x1 := hSw.cell0 c1; have x2 := hSw.cell0 c2; have x3 := hSw.cell0 c3; have y0 := hSw.cell0 d0; have y1 := hSw.cell0 d1; have y2 := hSw.cell0 d2; have y3 := hSw.cell0 d3; have z0 := hSw.cell0 p0; go_simp; all_goals (with_reducible rfl))
                change wpAnyH _ _ _ _ _ _ _ (Act.put _ (some 89) _) _
                simp only [Act.put, List.setIfInBounds_toArray, List.set_cons_zero, List.set_cons_succ]
                refine wpAnyH_done (by kernel_rfl) ?_ _
                clear c0 c1 c2 c3 d0 d1 d2 d3 hE p0 p1
                go_wp2_with fail
                exact ⟨⟨j + 1, by go_num, by omega, HF3.out.join hHeld⟩, by simp [intOf]; omega⟩
              · have hji : ¬ (j : Int) < (k : Int) := by omega
                have hcl := clear_iff Hfit.out (k := k) (by rw [HC6.out.len]; exact hkl)
                rw [← hs3, ← HZ.out] at hcl
                clear hs3 hgk hc1
                by_cases hz : s3 = 0
                · have e1 : (s3 : Int) = 0 := by omega
                  have e2 : Z = (k : Int) := (hcl.1 hz).symm
                  have e3 : ((s3 : Int) == 0) = true := by rw [e1]; rfl
                  have e4 : ((k : Int) == Z) = true := by rw [e2]; exact beq_self_eq_true _
                  clear hcl
                  go_upto_region 25 with fail
                  refine wp_region_held_drew (S := fun W' => Fr (fun _ => False) wr W') (by kernel_rfl) (by exact Fr.drew1 _ wr) (fun hHeld => ?_)
                  refine wpAnyH_take (i := 0) (v := ?v0b) rfl (by kernel_rfl) (by kernel_rfl) (by kernel_rfl) (fun _ _ _ h => h) (Or.inl ⟨by rfl, ?hy0b⟩) hHeld ?rest0b
                  case hy0b => (intro W hSw; (try dsimp only at hSw); have x3 := hSw.cell0 c3; have z0 := hSw.cell0 p0; have z1 := hSw.cell0 p1; go_simp; all_goals (with_reducible rfl))
                  change wpAnyH _ _ _ _ _ _ _ (Act.put _ (some 90) _) _
                  simp only [Act.put, List.setIfInBounds_toArray, List.set_cons_zero, List.set_cons_succ]
                  refine wpAnyH_take (i := 2) (v := ?v2b) rfl (by kernel_rfl) (by kernel_rfl) (by kernel_rfl) (fun _ _ _ h => h) (Or.inl ⟨by rfl, ?hy2b⟩) hHeld ?rest2b
                  case hy2b => (intro W hSw; (try dsimp only at hSw); have x3 := hSw.cell0 c3; have z0 := hSw.cell0 p0; have z1 := hSw.cell0 p1; go_simp; all_goals (with_reducible rfl))
                  change wpAnyH _ _ _ _ _ _ _ (Act.put _ (some 92) _) _
                  simp only [Act.put, List.setIfInBounds_toArray, List.set_cons_zero, List.set_cons_succ]
                  refine wpAnyH_take (i := 7) (v := ?v7b) rfl (by kernel_rfl) (by kernel_rfl) (by kernel_rfl) (fun _ _ _ h => h) (Or.inl ⟨by rfl, ?hy7b⟩) hHeld ?rest7b
                  case hy7b => (intro W hSw; (try dsimp only at hSw); have x3 := hSw.cell0 c3; have z0 := hSw.cell0 p0; have z1 := hSw.cell0 p1; go_simp; all_goals (with_reducible rfl))
                  change wpAnyH _ _ _ _ _ _ _ (Act.put _ (some 97) _) _
                  simp only [Act.put, List.setIfInBounds_toArray, List.set_cons_zero, List.set_cons_succ]
                  refine wpAnyH_take (i := 8) (v := ?v8b) rfl (by kernel_rfl) (by kernel_rfl) (by kernel_rfl) (fun _ _ _ h => h) (Or.inl ⟨by rfl, ?hy8b⟩) hHeld ?rest8b
                  case hy8b => (intro W hSw; (try dsimp only at hSw); have x3 := hSw.cell0 c3; have z0 := hSw.cell0 p0; have z1 := hSw.cell0 p1; go_simp; all_goals (with_reducible rfl))
                  change wpAnyH _ _ _ _ _ _ _ (Act.put _ (some 98) _) _
                  simp only [Act.put, List.setIfInBounds_toArray, List.set_cons_zero, List.set_cons_succ]
                  refine wpAnyH_take (i := 1) (v := ?v1b) rfl (by kernel_rfl) (by kernel_rfl) (by kernel_rfl) (fun _ _ _ h => h) (Or.inl ⟨by rfl, ?hy1b⟩) hHeld ?rest1b
                  case hy1b => (intro W hSw; (try dsimp only at hSw); have x3 := hSw.cell0 c3; have z0 := hSw.cell0 p0; have z1 := hSw.cell0 p1; go_simp; all_goals (with_reducible rfl))
                  change wpAnyH _ _ _ _ _ _ _ (Act.put _ (some 91) _) _
                  simp only [Act.put, List.setIfInBounds_toArray, List.set_cons_zero, List.set_cons_succ]
                  refine wpAnyH_take (i := 9) (v := ?v9b) rfl (by kernel_rfl) (by kernel_rfl) (by kernel_rfl) (fun _ _ _ h => h) (Or.inl ⟨by rfl, ?hy9b⟩) hHeld ?rest9b
                  case hy9b => (intro W hSw; (try dsimp only at hSw); have x3 := hSw.cell0 c3; have z0 := hSw.cell0 p0; have z1 := hSw.cell0 p1; go_simp; all_goals (with_reducible rfl))
                  change wpAnyH _ _ _ _ _ _ _ (Act.put _ (some 99) _) _
                  simp only [Act.put, List.setIfInBounds_toArray, List.set_cons_zero, List.set_cons_succ]
                  refine wpAnyH_take (i := 3) (v := ?v3b) rfl (by kernel_rfl) (by kernel_rfl) (by kernel_rfl) (fun _ _ _ h => h) (Or.inl ⟨by rfl, ?hy3b⟩) hHeld ?rest3b
                  case hy3b => (intro W hSw; (try dsimp only at hSw); have x3 := hSw.cell0 c3; have z0 := hSw.cell0 p0; have z1 := hSw.cell0 p1; go_simp; all_goals (with_reducible rfl))
                  change wpAnyH _ _ _ _ _ _ _ (Act.put _ (some 93) _) _
                  simp only [Act.put, List.setIfInBounds_toArray, List.set_cons_zero, List.set_cons_succ]
                  refine wpAnyH_take (i := 10) (v := ?v10b) rfl (by kernel_rfl) (by kernel_rfl) (by kernel_rfl) (fun _ _ _ h => h) (Or.inl ⟨by rfl, ?hy10b⟩) hHeld ?rest10b
                  case hy10b => (intro W hSw; (try dsimp only at hSw); have x3 := hSw.cell0 c3; have z0 := hSw.cell0 p0; have z1 := hSw.cell0 p1; go_simp; all_goals (with_reducible rfl))
                  change wpAnyH _ _ _ _ _ _ _ (Act.put _ (some 100) _) _
                  simp only [Act.put, List.setIfInBounds_toArray, List.set_cons_zero, List.set_cons_succ]
                  refine wpAnyH_take (i := 4) (v := ?v4b) rfl (by kernel_rfl) (by kernel_rfl) (by kernel_rfl) (fun _ _ _ h => h) (Or.inl ⟨by rfl, ?hy4b⟩) hHeld ?rest4b
                  case hy4b => (intro W hSw; (try dsimp only at hSw); have x3 := hSw.cell0 c3; have z0 := hSw.cell0 p0; have z1 := hSw.cell0 p1; go_simp; all_goals (with_reducible rfl))
                  change wpAnyH _ _ _ _ _ _ _ (Act.put _ (some 94) _) _
                  simp only [Act.put, List.setIfInBounds_toArray, List.set_cons_zero, List.set_cons_succ]
                  refine wpAnyH_take (i := 5) (v := ?v5b) rfl (by kernel_rfl) (by kernel_rfl) (by kernel_rfl) (fun _ _ _ h => h) (Or.inl ⟨by rfl, ?hy5b⟩) hHeld ?rest5b
                  case hy5b => (intro W hSw; (try dsimp only at hSw); have x3 := hSw.cell0 c3; have z0 := hSw.cell0 p0; have z1 := hSw.cell0 p1; go_simp; all_goals (with_reducible rfl))
                  change wpAnyH _ _ _ _ _ _ _ (Act.put _ (some 95) _) _
                  simp only [Act.put, List.setIfInBounds_toArray, List.set_cons_zero, List.set_cons_succ]
                  refine wpAnyH_take (i := 6) (v := ?v6b) rfl (by kernel_rfl) (by kernel_rfl) (by kernel_rfl) (fun _ _ _ h => h) (Or.inl ⟨by rfl, ?hy6b⟩) hHeld ?rest6b
                  case hy6b => (intro W hSw; (try dsimp only at hSw); have x3 := hSw.cell0 c3; have z0 := hSw.cell0 p0; have z1 := hSw.cell0 p1; go_simp; all_goals (with_reducible rfl))
                  change wpAnyH _ _ _ _ _ _ _ (Act.put _ (some 96) _) _
                  simp only [Act.put, List.setIfInBounds_toArray, List.set_cons_zero, List.set_cons_succ]
                  refine wpAnyH_take (i := 11) (v := ?v11b) rfl (by kernel_rfl) (by kernel_rfl) (by kernel_rfl) (fun _ _ _ h => h) (Or.inl ⟨by rfl, ?hy11b⟩) hHeld ?rest11b
                  case hy11b => (intro W hSw; (try dsimp only at hSw); have x3 := hSw.cell0 c3; have z0 := hSw.cell0 p0; have z1 := hSw.cell0 p1; go_simp; all_goals (with_reducible rfl))
                  change wpAnyH _ _ _ _ _ _ _ (Act.put _ (some 101) _) _
                  simp only [Act.put, List.setIfInBounds_toArray, List.set_cons_zero, List.set_cons_succ]
                  refine wpAnyH_done (by kernel_rfl) ?_ _
                  clear c3 p0 p1
                  go_wp2_with fail
                  exact ⟨⟨k + 1, by go_num, by omega, HF3.out.join hHeld⟩, by simp [intOf]; omega⟩
                · have e1 : ¬ (s3 : Int) = 0 := by omega
                  have e2 : ¬ (k : Int) = Z := fun h => hz (hcl.2 h)
                  have e3 : ((s3 : Int) == 0) = false := beq_false_of_ne e1
                  have e4 : ((k : Int) == Z) = false := beq_false_of_ne e2
                  clear hcl
                  go_upto_region 25 with fail
                  refine wp_region_held_drew (S := fun W' => Fr (fun _ => False) wr W') (by kernel_rfl) (by exact Fr.drew1 _ wr) (fun hHeld => ?_)
                  refine wpAnyH_take (i := 0) (v := ?v0c) rfl (by kernel_rfl) (by kernel_rfl) (by kernel_rfl) (fun _ _ _ h => h) (Or.inl ⟨by rfl, ?hy0c⟩) hHeld ?rest0c
                  case hy0c => (intro W hSw; (try dsimp only at hSw); have x3 := hSw.cell0 c3; have z0 := hSw.cell0 p0; have z1 := hSw.cell0 p1; go_simp; all_goals (with_reducible rfl))
                  change wpAnyH _ _ _ _ _ _ _ (Act.put _ (some 90) _) _
                  simp only [Act.put, List.setIfInBounds_toArray, List.set_cons_zero, List.set_cons_succ]
                  refine wpAnyH_take (i := 2) (v := ?v2c) rfl (by kernel_rfl) (by kernel_rfl) (by kernel_rfl) (fun _ _ _ h => h) (Or.inl ⟨by rfl, ?hy2c⟩) hHeld ?rest2c
                  case hy2c => (intro W hSw; (try dsimp only at hSw); have x3 := hSw.cell0 c3; have z0 := hSw.cell0 p0; have z1 := hSw.cell0 p1; go_simp; all_goals (with_reducible rfl))
                  change wpAnyH _ _ _ _ _ _ _ (Act.put _ (some 92) _) _
                  simp only [Act.put, List.setIfInBounds_toArray, List.set_cons_zero, List.set_cons_succ]
                  refine wpAnyH_take (i := 7) (v := ?v7c) rfl (by kernel_rfl) (by kernel_rfl) (by kernel_rfl) (fun _ _ _ h => h) (Or.inl ⟨by rfl, ?hy7c⟩) hHeld ?rest7c
                  case hy7c => (intro W hSw; (try dsimp only at hSw); have x3 := hSw.cell0 c3; have z0 := hSw.cell0 p0; have z1 := hSw.cell0 p1; go_simp; all_goals (with_reducible rfl))
                  change wpAnyH _ _ _ _ _ _ _ (Act.put _ (some 97) _) _
                  simp only [Act.put, List.setIfInBounds_toArray, List.set_cons_zero, List.set_cons_succ]
                  refine wpAnyH_take (i := 8) (v := ?v8c) rfl (by kernel_rfl) (by kernel_rfl) (by kernel_rfl) (fun _ _ _ h => h) (Or.inl ⟨by rfl, ?hy8c⟩) hHeld ?rest8c
                  case hy8c => (intro W hSw; (try dsimp only at hSw); have x3 := hSw.cell0 c3; have z0 := hSw.cell0 p0; have z1 := hSw.cell0 p1; go_simp; all_goals (with_reducible rfl))
                  change wpAnyH _ _ _ _ _ _ _ (Act.put _ (some 98) _) _
                  simp only [Act.put, List.setIfInBounds_toArray, List.set_cons_zero, List.set_cons_succ]
                  refine wpAnyH_take (i := 1) (v := ?v1c) rfl (by kernel_rfl) (by kernel_rfl) (by kernel_rfl) (fun _ _ _ h => h) (Or.inl ⟨by rfl, ?hy1c⟩) hHeld ?rest1c
                  case hy1c => (intro W hSw; (try dsimp only at hSw); have x3 := hSw.cell0 c3; have z0 := hSw.cell0 p0; have z1 := hSw.cell0 p1; go_simp; all_goals (with_reducible rfl))
                  change wpAnyH _ _ _ _ _ _ _ (Act.put _ (some 91) _) _
                  simp only [Act.put, List.setIfInBounds_toArray, List.set_cons_zero, List.set_cons_succ]
                  refine wpAnyH_take (i := 9) (v := ?v9c) rfl (by kernel_rfl) (by kernel_rfl) (by kernel_rfl) (fun _ _ _ h => h) (Or.inl ⟨by rfl, ?hy9c⟩) hHeld ?rest9c
                  case hy9c => (intro W hSw; (try dsimp only at hSw); have x3 := hSw.cell0 c3; have z0 := hSw.cell0 p0; have z1 := hSw.cell0 p1; go_simp; all_goals (with_reducible rfl))
                  change wpAnyH _ _ _ _ _ _ _ (Act.put _ (some 99) _) _
                  simp only [Act.put, List.setIfInBounds_toArray, List.set_cons_zero, List.set_cons_succ]
                  refine wpAnyH_take (i := 3) (v := ?v3c) rfl (by kernel_rfl) (by kernel_rfl) (by kernel_rfl) (fun _ _ _ h => h) (Or.inl ⟨by rfl, ?hy3c⟩) hHeld ?rest3c
                  case hy3c => (intro W hSw; (try dsimp only at hSw); have x3 := hSw.cell0 c3; have z0 := hSw.cell0 p0; have z1 := hSw.cell0 p1; go_simp; all_goals (with_reducible rfl))
                  change wpAnyH _ _ _ _ _ _ _ (Act.put _ (some 93) _) _
                  simp only [Act.put, List.setIfInBounds_toArray, List.set_cons_zero, List.set_cons_succ]
                  refine wpAnyH_take (i := 10) (v := ?v10c) rfl (by kernel_rfl) (by kernel_rfl) (by kernel_rfl) (fun _ _ _ h => h) (Or.inl ⟨by rfl, ?hy10c⟩) hHeld ?rest10c
                  case hy10c => (intro W hSw; (try dsimp only at hSw); have x3 := hSw.cell0 c3; have z0 := hSw.cell0 p0; have z1 := hSw.cell0 p1; go_simp; all_goals (with_reducible rfl))
                  change wpAnyH _ _ _ _ _ _ _ (Act.put _ (some 100) _) _
                  simp only [Act.put, List.setIfInBounds_toArray, List.set_cons_zero, List.set_cons_succ]
                  refine wpAnyH_take (i := 4) (v := ?v4c) rfl (by kernel_rfl) (by kernel_rfl) (by kernel_rfl) (fun _ _ _ h => h) (Or.inl ⟨by rfl, ?hy4c⟩) hHeld ?rest4c
                  case hy4c => (intro W hSw; (try dsimp only at hSw); have x3 := hSw.cell0 c3; have z0 := hSw.cell0 p0; have z1 := hSw.cell0 p1; go_simp; all_goals (with_reducible rfl))
                  change wpAnyH _ _ _ _ _ _ _ (Act.put _ (some 94) _) _
                  simp only [Act.put, List.setIfInBounds_toArray, List.set_cons_zero, List.set_cons_succ]
                  refine wpAnyH_take (i := 5) (v := ?v5c) rfl (by kernel_rfl) (by kernel_rfl) (by kernel_rfl) (fun _ _ _ h => h) (Or.inl ⟨by rfl, ?hy5c⟩) hHeld ?rest5c
                  case hy5c => (intro W hSw; (try dsimp only at hSw); have x3 := hSw.cell0 c3; have z0 := hSw.cell0 p0; have z1 := hSw.cell0 p1; go_simp; all_goals (with_reducible rfl))
                  change wpAnyH _ _ _ _ _ _ _ (Act.put _ (some 95) _) _
                  simp only [Act.put, List.setIfInBounds_toArray, List.set_cons_zero, List.set_cons_succ]
                  refine wpAnyH_take (i := 6) (v := ?v6c) rfl (by kernel_rfl) (by kernel_rfl) (by kernel_rfl) (fun _ _ _ h => h) (Or.inl ⟨by rfl, ?hy6c⟩) hHeld ?rest6c
                  case hy6c => (intro W hSw; (try dsimp only at hSw); have x3 := hSw.cell0 c3; have z0 := hSw.cell0 p0; have z1 := hSw.cell0 p1; go_simp; all_goals (with_reducible rfl))
                  change wpAnyH _ _ _ _ _ _ _ (Act.put _ (some 96) _) _
                  simp only [Act.put, List.setIfInBounds_toArray, List.set_cons_zero, List.set_cons_succ]
                  refine wpAnyH_take (i := 11) (v := ?v11c) rfl (by kernel_rfl) (by kernel_rfl) (by kernel_rfl) (fun _ _ _ h => h) (Or.inl ⟨by rfl, ?hy11c⟩) hHeld ?rest11c
                  case hy11c => (intro W hSw; (try dsimp only at hSw); have x3 := hSw.cell0 c3; have z0 := hSw.cell0 p0; have z1 := hSw.cell0 p1; go_simp; all_goals (with_reducible rfl))
                  change wpAnyH _ _ _ _ _ _ _ (Act.put _ (some 101) _) _
                  simp only [Act.put, List.setIfInBounds_toArray, List.set_cons_zero, List.set_cons_succ]
                  refine wpAnyH_done (by kernel_rfl) ?_ _
                  clear c3 p0 p1
                  go_wp2_with fail
                  exact ⟨⟨k + 1, by go_num, by omega, HF3.out.join hHeld⟩, by simp [intOf]; omega⟩
          · have hki : ¬ (k : Int) < (S : Int) := by omega
            have HS9 := hide (rsame_c W H (some ⟨g, 0, none⟩) (4 * m) (4 * m) px W H a n c px wr (HO6.out.keep HF.out fun _ _ h => h).lies HO6.out.len (HL6.out.keep0 HF.out) Hp.out)
            have hsb : sameB W H (4 * m) px W H n px = true := by
              unfold sameB
              rw [← Hg3.out]
              simp [Hmay.out]
            rw [hsb] at HS9
            have hq7 := cells_at HQ6.out HF.out (fun e => e)
            have hb7 := cells_at Hb6.out HF.out (fun e => e)
            have q0 := cell_of (o := 0) hq7 rfl
            have q1 := cell_of (o := 1) hq7 rfl
            have q2 := cell_of (o := 2) hq7 rfl
            have k0 := cell_of (o := 0) hb7 rfl
            have k1 := cell_of (o := 1) hb7 rfl
            have k2 := cell_of (o := 2) hb7 rfl
            clear hq7 hb7 hsb
            have hke : k = S := by omega
            go_wp2_with fail
            refine HS9.out.mono ?_
            rintro e w9 ⟨rfl, hF9⟩
            have hP9 := cells_at HP6.out (HF.out.join hF9) (fun e => e)
            clear p0 q0 q1 q2 k0 k1 k2
            have p0 := cell_of (o := 0) hP9 rfl
            clear hP9
            go_wp2_with fail
            go_ret
            exact ⟨by simp, HF6.out.join (HF.out.join hF9)⟩

theorem paletteBack_walk (wd ht : Int) (a : Option Addr) (n c : Nat) (px : List Nat) (w : World) (hp : px.length = n) (hl : Lies w a px) (hc : n ≤ c) :
    Calls Try.prog 9 #[rasV wd ht a n c] w fun e w' => e = .returned (.bool true) ∧ Below w.heap.size w w' :=
  (back_law wd ht a n c px w hl hp hc).mono fun e w' ⟨he, f⟩ => ⟨he, f.below (Nat.le_refl _) (fun k h => h.elim)⟩


set_option maxRecDepth 100000 in
theorem paletteBack_lifted (os : Os) (started : os.Started) (H : Type) (enc : TypeId × Value → H) :
    ReturnsInHanded {} Try.checked os 9 .any (Rows.paletteBackSpec.pre6 enc Try.prog Try.f9 Rows.paletteBackRow.domain false) (Rows.paletteBackSpec.post enc Try.prog Try.f9 false true false false) := by
  refine returnsInHanded_of_change (C := Try.checked) own started (by kernel_rfl) Try.func9
    (ChangeSpec.witness6 (enc := enc) (C := Try.checked) false ⟨#[], #[.agg #[.int .i64 0, .int .i64 0, .slice none 0 0]], []⟩ 8 (by kernel_rfl) (by kernel_rfl) (by kernel_rfl) (by kernel_rfl)) ?_
  intro W base args ds gs before hval0 hW hcnd _
  have hval : ∀ (j : Nat) t v, Try.f9.params[j]? = some t → args[j]? = some v → Value.okWide Try.prog W .any base t v := hval0
  have hW' := hW
  obtain ⟨p, q, hA0, hV, rfl, hfz, hnd⟩ := hW
  have hA : DataW.TrodAll enc Try.prog W 0 (fun _ => true) true Try.f9.params.toList args.toList ds p := hA0
  rw [Try.params9] at hA hval
  obtain ⟨v0, vs0, d0, ds0, p0, q0, hargs, rfl, rfl, h0, r0⟩ := trodAll_cons hA
  obtain ⟨rfl, rfl, rfl⟩ := trodAll_nil r0
  obtain rfl : args = #[v0] := by cases args; simp_all
  obtain ⟨rfl, rfl⟩ := trodVars_none hV
  have k0 := h0
  have lt0 : ∀ x ∈ p0, x.block < W.heap.size := by obtain ⟨m, hm⟩ := k0; exact DataW.trod_lt m _ _ _ hm
  obtain ⟨wd0, ht0, a0, n0, c0, px0, rfl, l0, w0, x0, y0, z0, s0, u0⟩ := open_ras (hval 0 24 v0 rfl rfl) h0
  clear hA0 hval0
  refine (paletteBack_walk wd0 ht0 a0 n0 c0 px0 W l0 w0 x0).mono fun e W' ⟨he, bel⟩ => ?_
  subst he
  exact ⟨_, rfl, _, _, _, [], _, [], hW', trodAll_mk1 (shut_bool Try.underlying4 _), (trodAll_cons_mk (Below.trod laidOut (by kernel_rfl) (of_decide_eq_true (by kernel_rfl)) k0 bel lt0) trodAll_mk0), rfl, bel.frame _, fun h => by cases h⟩

theorem paletteBack_over : Rows.paletteBackRow.holds Try.pinned (OpenSpec.ofChange Rows.paletteBackSpec) :=
  OpenClaim.holds_of_wide 9 Try.f9 rfl rfl rfl rfl rfl rfl rfl ⟨rfl, rfl, rfl, rfl, rfl⟩ rfl rfl rfl rfl rfl (by kernel_rfl) Try.func9 (by kernel_rfl)
    (of_decide_eq_true (by kernel_rfl)) (by unfold Func.isWrapper; first | (rw [if_pos (by decide +kernel)]; kernel_rfl) | (rw [if_neg (by decide +kernel)]; exact ⟨rfl, rfl⟩))
    (fun os started H enc _ => paletteBack_lifted os started H enc)

/-- The statement. -/
theorem paletteBack_holds : Rows.PaletteBackSaid := paletteBack_over
#print axioms paletteBack_holds
end Go.Proofs.Ythdilabmajaehaa
