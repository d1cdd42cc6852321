/-
  PaletteFull: a picture of 256 colours has a palette, one of 257 has none.
  Conditions: none.
-/
import Derived.Test.YthdilabmajaehaaRp
import Derived.Test.YthdilabmajaehaaZc
import Derived.Test.YthdilabmajaehaaXd
namespace Go.Proofs.Ythdilabmajaehaa
open Go.ChangeShapes Go.WideShapes Go.ChangeAt Go.RowKit
open Go.ChangeMaps (open_string shut_string)
set_option linter.unusedVariables false


def fullF (i : Nat) : List Nat := [min i 255 * 257, 257, 0, 65535]

theorem fullF_inj {i j : Nat} (hi : i < 256) (hj : j < 256) (h : fullF i = fullF j) : i = j := by
  have := (List.cons.inj h).1
  omega
theorem fullF_last {i : Nat} (hi : 255 ≤ i) : fullF i = fullF 255 := by
  unfold fullF
  rw [show min i 255 = 255 by omega]
  rfl

theorem uniq_full {px : List Nat} {K : Nat} (h : ∀ i, i < K → pix px i = fullF i) : ∀ k, k ≤ K → uniq px k = (List.range (min k 256)).map fullF
  | 0, _ => rfl
  | k + 1, hk => by
    have ih := uniq_full h k (by omega)
    simp only [uniq]
    rw [ih, h k (by omega)]
    by_cases hk2 : k < 256
    · rw [if_neg (fun hh => by
        obtain ⟨j, hj, e⟩ := List.mem_map.1 hh
        have hj2 := List.mem_range.1 hj
        have := fullF_inj (by omega) (by omega) e
        omega), show min k 256 = k by omega, show min (k + 1) 256 = k + 1 by omega, List.range_succ, List.map_append]
      rfl
    · rw [if_pos (List.mem_map.2 ⟨255, List.mem_range.2 (by omega), (fullF_last (by omega)).symm⟩), show min k 256 = min (k + 1) 256 by omega]

theorem full_fits {px : List Nat} (hp : px.length = 1088) (h : ∀ i, i < 272 → pix px i = fullF i) : fitsG px 272 = true ∧ (uniq px 272).length = 256 ∧ clearV (uniq px 272) = -1 := by
  have hu := uniq_full h 272 (Nat.le_refl _)
  have hl : (uniq px 272).length = 256 := by rw [hu, List.length_map, List.length_range]; rfl
  refine ⟨?_, hl, ?_⟩
  · unfold fitsG
    simp only [Bool.and_eq_true, decide_eq_true_eq]
    refine ⟨?_, ?_, by rw [hl]; exact Nat.le_refl _⟩
    · unfold allE
      rw [List.all_eq_true]
      intro b hb
      obtain ⟨p, hp2, rfl⟩ := List.mem_iff_getElem.1 hb
      refine decide_eq_true ?_
      obtain ⟨i, r, hr, rfl⟩ : ∃ i r, r < 4 ∧ p = 4 * i + r := ⟨p / 4, p % 4, Nat.mod_lt _ (by decide), by omega⟩
      have hi := h i (by omega)
      unfold pix fullF at hi
      have l1 := List.cons.inj hi
      have l2 := List.cons.inj l1.2
      have l3 := List.cons.inj l2.2
      have l4 := List.cons.inj l3.2
      have e : px[4 * i + r] = px.getD (4 * i + r) 0 := by rw [List.getD_eq_getElem?_getD, List.getElem?_eq_getElem hp2]; rfl
      rw [e]
      match r, hr with
      | 0, _ => rw [Nat.add_zero, l1.1]; omega
      | 1, _ => rw [l2.1]
      | 2, _ => rw [l3.1]
      | 3, _ => rw [l4.1]
    · unfold opqAll
      rw [List.all_eq_true]
      intro q hq
      have e : (pix px q).getD 3 0 = 65535 := by rw [h q (List.mem_range.1 hq)]; rfl
      show (decide ((pix px q).getD 3 0 = 65535) || decide (pix px q = [0, 0, 0, 0])) = true
      rw [decide_eq_true e]; rfl
  · unfold clearV
    rw [hu, if_neg (fun hh => by
      obtain ⟨j, _, e⟩ := List.mem_map.1 hh
      have := (List.cons.inj (List.cons.inj e).2).1
      omega)]

theorem full_more {px : List Nat} (h : ∀ i, i < 260 → pix px i = fullF i) (h2 : pix px 260 = [65535, 514, 0, 65535]) : fitsG px 272 = false := by
  have hu := uniq_full h 260 (Nat.le_refl _)
  have h1 : uniq px 261 = uniq px 260 ++ [pix px 260] := by
    show (if pix px 260 ∈ uniq px 260 then _ else _) = _
    rw [if_neg]
    rw [hu, h2]
    intro hh
    obtain ⟨j, _, e⟩ := List.mem_map.1 hh
    have := (List.cons.inj (List.cons.inj e).2).1
    omega
  have hl : (uniq px 261).length = 257 := by rw [h1, hu, List.length_append, List.length_map, List.length_range]; rfl
  have hm := uniq_mono px 261 11
  have hn : ¬ (uniq px 272).length ≤ 256 := by
    have e : uniq px (261 + 11) = uniq px 272 := rfl
    rw [e, hl] at hm
    omega
  unfold fitsG
  rw [decide_eq_false hn, Bool.and_false, Bool.and_false]

theorem pix_set {px : List Nat} {i k r v : Nat} (hr : r < 4) (hne : i ≠ k) : pix (px.set (4 * k + r) v) i = pix px i := by
  unfold pix
  simp only [List.getD_eq_getElem?_getD, List.getElem?_set_ne (show 4 * k + r ≠ 4 * i by omega), List.getElem?_set_ne (show 4 * k + r ≠ 4 * i + 1 by omega), List.getElem?_set_ne (show 4 * k + r ≠ 4 * i + 2 by omega), List.getElem?_set_ne (show 4 * k + r ≠ 4 * i + 3 by omega)]


theorem setP_at {px : List Nat} {k : Nat} {q : List Nat} (hk : k + q.length ≤ px.length) (j : Nat) : (setP px k q).getD j 0 = if k ≤ j ∧ j < k + q.length then q.getD (j - k) 0 else px.getD j 0 := by
  have hl : (px.take k).length = k := by simp; omega
  simp only [setP, List.getD_eq_getElem?_getD]
  by_cases h1 : j < k
  · rw [List.getElem?_append_left (by omega), List.getElem?_take_of_lt h1, if_neg (by omega)]
  · rw [List.getElem?_append_right (by omega), hl]
    by_cases h2 : j < k + q.length
    · rw [List.getElem?_append_left (by omega), if_pos (by omega)]
    · rw [List.getElem?_append_right (by omega), List.getElem?_drop, if_neg (by omega)]
      rw [show k + q.length + (j - k - q.length) = j by omega]

set_option maxHeartbeats 1000000 in
set_option maxRecDepth 100000 in
theorem full_law (w : World) : Calls Try.prog 10 #[] w fun e w' => e = .returned (.bool true) ∧ Fr (fun _ => False) w w' := by
  have HA := hide (awake10_c w)
  have HN := hide fun w : World => rnew_c 17 16 w
  go_enter Try.func10, Try.ntmps10
  go_wp2_with fail
  refine HA.out.mono ?_
  rintro e w1 ⟨rfl, hF1⟩
  have HF1 := hide hF1
  clear hF1
  go_wp2_with fail
  refine (HN.out w1).mono ?_
  rintro e w2 ⟨v, er, rfl, hF2, hnew⟩
  rcases hnew with ⟨h, _⟩ | ⟨_, rfl, n, g, hn, rfl, hg, hh⟩
  · exact absurd rfl h
  have Hn : Hid (n = 1088) := by show n = 1088; omega
  have HF2 := hide (HF1.out.join hF2)
  have HO2 : Hid (Own w2 w1.heap.size (some ⟨g, 0, none⟩) n n (List.replicate n 0)) :=
    ⟨⟨by simp [cellsU], .inr ⟨g, n, _, rfl, hg, hh, Nat.le_refl _, by rw [Hn.out]; decide, by simp [cellsU], by simp [cellsU]⟩⟩, fun b hb => by rw [List.eq_of_mem_replicate hb]; decide⟩
  have Hg1 : Hid (w1.heap.size ≤ g) := hg
  have Hg2 : Hid (g < w2.heap.size) := lt_of hh
  clear hn hF2 hh hg HN HA
  obtain ⟨w3, hw3⟩ : ∃ w3, w3 = w2.alloc (.cells #[.int .i64 17, .int .i64 16, .slice (some ⟨g, 0, none⟩) n n] 24) := ⟨_, rfl⟩
  obtain ⟨Q, hQ⟩ : ∃ Q, Q = w2.heap.size := ⟨_, rfl⟩
  have hF : Fr (fun _ => False) w2 w3 := by rw [hw3]; exact Fr.of_alloc _ _
  have HQ3 : Hid (w3.heap[Q]? = some (.cells #[.int .i64 17, .int .i64 16, .slice (some ⟨g, 0, none⟩) n n] 24 (0, 0))) := by rw [hw3]; exact heap_alloc_at hQ
  have HO3 := hide (HO2.out.keep hF fun _ _ h => h)
  have HF3 := hide (HF2.out.join hF)
  have HgQ : Hid (g < Q) := by rw [hQ]; exact Hg2.out
  have Hw3 := hide hw3
  have HQe := hide hQ
  clear hF hw3 hQ
  go_wp2_with fail
  rw [← Hw3.out, ← HQe.out]
  go_loopw [3] (fun v3 wr => ∃ (i : Nat) (p : List Nat), v3 = .int .i64 (i : Int) ∧ i ≤ 272 ∧ Hid (Own wr w1.heap.size (some ⟨g, 0, none⟩) n n p) ∧ Hid (∀ j, j < i → pix p j = fullF j) ∧ Hid (Fr (fun j => j = g) w3 wr)) (fun v3 _ => 272 - (intOf v3).toNat)
  case atStart => exact ⟨0, _, rfl, Nat.zero_le _, HO3.out, fun j hj => absurd hj (Nat.not_lt_zero j), Fr.refl _ _⟩
  case round =>
    obtain ⟨i, p, rfl, hi, HO, HP, HF⟩ := hrel
    have HbQ := hide (cells_at HQ3.out HF.out (fun e => by have e2 : Q = g := e; have := HgQ.out; omega))
    have hQlt : Hid (Q < wr.heap.size) := lt_of HbQ.out
    by_cases hlt : i < 272
    · obtain ⟨K, hK⟩ : ∃ K, K = min i 255 := ⟨_, rfl⟩
      obtain ⟨J, hJ⟩ : ∃ J, J = 4 * i := ⟨_, rfl⟩
      obtain ⟨g', cur, eg, hglo, hgc, hcn, hcs, _⟩ := HO.out.form (by have := Hn.out; omega)
      cases eg
      have HJ := hide hJ
      have HK := hide hK
      have Hcur := hide hgc
      have Hcs := hide hcs
      have i1 : (i : Int) < 272 := by omega
      have i2 : min (i : Int) 255 = (K : Int) := by omega
      clear hJ hK hgc hcs hcn hglo
      go_upto_region 8 with fail
      obtain ⟨R1, hR1⟩ : ∃ R1, R1 = K * 257 := ⟨_, rfl⟩
      obtain ⟨J4, hJ4⟩ : ∃ J4, J4 = J + 4 := ⟨_, rfl⟩
      have hKb : K ≤ 255 := by have := HK.out; omega
      have hJb : J + 4 ≤ n := by have := HJ.out; have := Hn.out; omega
      have i3 : (4 : Int) * (i : Int) = (J : Int) := by have := HJ.out; omega
      have i4 : (J : Int) + 4 = (J4 : Int) := by omega
      have i5 : IntKind.u16.wrap (K : Int) = (K : Int) := by rw [IntKind.wrap_u16]; omega
      have i6 : IntKind.u16.wrap ((K : Int) * 257) = (R1 : Int) := by rw [IntKind.wrap_u16]; omega
      have i7 : (J : Int) ≤ (J4 : Int) := by omega
      have i8 : (J4 : Int) ≤ (n : Int) := by omega
      have l4 : J4 - J = 4 := by omega
      have hck : ¬ n = J := by omega
      have he := add_none g 0 J
      have q2 := cell_of (o := 2) HbQ.out rfl
      have hfx : fullF i = [R1, 257, 0, 65535] := by
        unfold fullF
        rw [← HK.out, ← hR1]
      have HX := hide hfx
      have hFa := Fr.of_alloc wr (.cells #[.int .u16 (R1 : Int), .int .u16 257, .int .u16 0, .int .u16 65535] 29)
      have HFa := hide hFa
      have HcurA : Hid ((wr.alloc (.cells #[.int .u16 (R1 : Int), .int .u16 257, .int .u16 0, .int .u16 65535] 29)).heap[g]? = some (.cells cur 29 (0, 0))) := (hFa.block g (lt_of Hcur.out) (fun h => h)).trans Hcur.out
      have HSrc : Hid (∀ j v, (cellsU [R1, 257, 0, 65535])[j]? = some v → (wr.alloc (.cells #[.int .u16 (R1 : Int), .int .u16 257, .int .u16 0, .int .u16 65535] 29)).cell? ((⟨wr.heap.size, 0, none⟩ : Addr).add j) = some v) := fun j v hj => by
        rw [add_none, Nat.zero_add]
        simp only [World.cell?]
        rw [heap_alloc_new]
        show (#[Value.int IntKind.u16 (R1 : Int), Value.int IntKind.u16 257, Value.int IntKind.u16 0, Value.int IntKind.u16 65535] : Array Value)[j]? = some v
        rw [show (#[Value.int IntKind.u16 (R1 : Int), Value.int IntKind.u16 257, Value.int IntKind.u16 0, Value.int IntKind.u16 65535] : Array Value) = (cellsU [R1, 257, 0, 65535]).toArray from rfl, List.getElem?_toArray]
        exact hj
      have HJ4 := hide hJ4
      have HJb := hide hJb
      have hfit : J + (cellsU [R1, 257, 0, 65535]).length ≤ cur.size := by
        rw [cellsU_length, Hcs.out]
        simp only [List.length_cons, List.length_nil]
        omega
      have hrun := run_copy_row (P := Try.prog) (wr.alloc (.cells #[.int .u16 (R1 : Int), .int .u16 257, .int .u16 0, .int .u16 65535] 29)) 22 22 3 29 g J 4 (n - J) ⟨wr.heap.size, 0, none⟩ 4 4 cur 29 (cellsU [R1, 257, 0, 65535]) Try.underlying22 (by kernel_rfl) HcurA.out rfl HSrc.out hfit (cellsU_one _)
      have hset := Own.set (q := [R1, 257, 0, 65535]) (HO.out.keep hFa (fun _ _ h => h)) HcurA.out (by simp only [List.length_cons, List.length_nil]; omega) (fun b hb => by
        simp only [List.mem_cons, List.not_mem_nil, or_false] at hb
        omega) (by have := Hn.out; omega)
      have hfr := setRow_fr (wr.alloc (.cells #[.int .u16 (R1 : Int), .int .u16 257, .int .u16 0, .int .u16 65535] 29)) g (cur.toList.take J ++ (cellsU [R1, 257, 0, 65535] ++ cur.toList.drop (J + (cellsU [R1, 257, 0, 65535]).length))).toArray
      obtain ⟨w5, hw5⟩ : ∃ w5, w5 = (wr.alloc (.cells #[.int .u16 (R1 : Int), .int .u16 257, .int .u16 0, .int .u16 65535] 29)).setRow g (cur.toList.take J ++ (cellsU [R1, 257, 0, 65535] ++ cur.toList.drop (J + (cellsU [R1, 257, 0, 65535]).length))).toArray := ⟨_, rfl⟩
      have HO5 : Hid (Own w5 w1.heap.size (some ⟨g, 0, none⟩) n n (setP p J [R1, 257, 0, 65535])) := by rw [hw5]; exact hset
      have HF5 : Hid (Fr (fun j => j = g) w3 w5) := by
        rw [hw5]
        exact HF.out.join ((hFa.mono fun _ _ h => h.elim).join hfr)
      have hrun2 : Sem.run Try.prog (Builtin.copy_ #[22, 22] 3 #[Value.slice (some ⟨g, J, none⟩) 4 (n - J), Value.slice (some ⟨wr.heap.size, 0, none⟩) 4 4]) (wr.alloc (.cells #[.int .u16 (R1 : Int), .int .u16 257, .int .u16 0, .int .u16 65535] 29)) = .ok (.int .i64 4) w5 := by
        rw [hw5, ← List.append_assoc]; exact hrun
      clear hrun
      have HP5 : Hid (∀ j, j < i + 1 → pix (setP p J [R1, 257, 0, 65535]) j = fullF j) := fun j hj => by
        have hl : J + [R1, 257, 0, 65535].length ≤ p.length := by rw [HO.out.len]; exact HJb.out
        have hJe := HJ.out
        unfold pix
        rw [setP_at hl, setP_at hl, setP_at hl, setP_at hl]
        simp only [List.length_cons, List.length_nil]
        by_cases e : j = i
        · rw [if_pos (by omega), if_pos (by omega), if_pos (by omega), if_pos (by omega), show 4 * j - J = 0 by omega, show 4 * j + 1 - J = 1 by omega, show 4 * j + 2 - J = 2 by omega, show 4 * j + 3 - J = 3 by omega, e, hfx]
          rfl
        · rw [if_neg (by omega), if_neg (by omega), if_neg (by omega), if_neg (by omega)]
          exact HP.out j (by omega)
      clear hR1 hJ4 hfx hFa hJb hset hfr hfit hw5
      go_wp2
      go_roundw
      case rel => exact ⟨i + 1, _, by go_num, by omega, HO5, HP5, HF5⟩
      case measure => simp [intOf]; omega
    · have hie : i = 272 := by omega
      rw [hie] at HP
      have HFr := hide (frJ HF3.out HF.out fun j e => by
        have e2 : j = g := e
        have := Hg1.out
        have := HF1.out.size
        omega)
      have hpl : p.length = n := HO.out.len
      have hff := full_fits (by rw [hpl]; exact Hn.out) HP.out
      have HFF := hide hff
      have H1 := hide (make_yes 17 16 g 0 n n 272 p wr HO.out.lies hpl (Nat.le_refl _) (by rw [Hn.out]; rfl) (by decide) hff.1 HO.out.lt.2)
      have hq : (p.set 1041 514).length = n := by rw [List.length_set]; exact hpl
      have hno : fitsG (p.set 1041 514) 272 = false := by
        refine full_more (fun j hj => ?_) ?_
        · rw [show 1041 = 4 * 260 + 1 from rfl, pix_set (by decide) (by omega)]
          exact HP.out j (by omega)
        · have h := HP.out 260 (by omega)
          unfold pix fullF at h
          have l1 := List.cons.inj h
          have l2 := List.cons.inj l1.2
          have l3 := List.cons.inj l2.2
          have l4 := List.cons.inj l3.2
          have hlt : 1041 < p.length := by rw [hpl, Hn.out]; decide
          unfold pix
          simp only [List.getD_eq_getElem?_getD] at l1 l3 l4 ⊢
          rw [List.getElem?_set_ne (by decide), List.getElem?_set_self hlt, List.getElem?_set_ne (by decide), List.getElem?_set_ne (by decide), l1.1, l3.1, l4.1]
          rfl
      have HNo : Hid (∀ w, Lies w (some ⟨g, 0, none⟩) (p.set 1041 514) → Calls Try.prog 26 #[rasV 17 16 (some ⟨g, 0, none⟩) n n] w fun e w' => Fr (fun _ => False) w w' ∧ e = .returned noneV) := by
        rcases make_cases 17 16 (some ⟨g, 0, none⟩) n n (p.set 1041 514) hq (Nat.le_refl _) with ⟨h, _⟩ | ⟨m', _, hm', _, _, _, hf, _⟩
        · exact h
        · obtain rfl : m' = 272 := by omega
          rw [hno] at hf
          cases hf
      have n1 : (1041 : Int) < (n : Int) := by have := Hn.out; omega
      have HB := hide fun (k : Int) (w : World) => bits_c k w
      have q0 := cell_of (o := 0) HbQ.out rfl
      have q1 := cell_of (o := 1) HbQ.out rfl
      have q2 := cell_of (o := 2) HbQ.out rfl
      clear hff hq hno hpl HF
      go_wp2_with fail
      refine H1.out.mono ?_
      rintro e w6 ⟨hF6, v1, v2, rfl, o1, o2⟩
      obtain ⟨a7, c7, rfl⟩ := ownsRow_shape o1.own
      obtain ⟨a8, c8, rfl⟩ := ownsRow_shape o2
      rw [HFF.out.2.1, HFF.out.2.2]
      obtain ⟨PL, hPL⟩ : ∃ PL, PL = (places p 272).length := ⟨_, rfl⟩
      rw [← hPL]
      obtain ⟨w7, hw7⟩ : ∃ w7, w7 = w6.alloc (.cells #[.slice a7 256 c7, .int .i64 (-1)] 44) := ⟨_, rfl⟩
      obtain ⟨PB, hPB⟩ : ∃ P, P = w6.heap.size := ⟨_, rfl⟩
      have hF67 : Fr (fun _ => False) w6 w7 := by rw [hw7]; exact Fr.of_alloc _ _
      have hP7 : w7.heap[PB]? = some (.cells #[.slice a7 256 c7, .int .i64 (-1)] 44 (0, 0)) := by rw [hw7]; exact heap_alloc_at hPB
      have hFr7 := hF6.join hF67
      have HF7 := hide (HFr.out.join hFr7)
      have HO7 := hide (HO.out.keep hFr7 fun _ _ h => h)
      have HQ7 := hide (cells_at HbQ.out hFr7 (fun e => e))
      have HgP : Hid (g < PB) := by rw [hPB]; exact Nat.lt_of_lt_of_le HO.out.lt.2 hF6.size
      obtain ⟨w8, hw8⟩ : ∃ w8, w8 = w7.setCell ⟨g, 1041, none⟩ (.int .u16 514) := ⟨_, rfl⟩
      have HO8 : Hid (Own w8 w1.heap.size (some ⟨g, 0, none⟩) n n (p.set 1041 514)) := by rw [hw8]; exact HO7.out.set1 (k := 1041) (v := 514) (by decide)
      have hG : Fr (fun j => j = g) w7 w8 := by rw [hw8]; exact Fr.of_setCell w7 ⟨g, 1041, none⟩ _
      have HF8 := hide (frJ HF7.out hG fun j e => by
        have e2 : j = g := e
        have := Hg1.out
        have := HF1.out.size
        omega)
      have HQ8 := hide (cells_at HQ7.out hG (fun e => by have e2 : Q = g := e; have := HgQ.out; omega))
      have HP8 := hide (cells_at hP7 hG (fun e => by have e2 : PB = g := e; have := HgP.out; omega))
      have z0 := HO7.out.lies.cell (j := 1041) (by rw [HO7.out.len]; omega)
      rw [Nat.zero_add] at z0
      obtain ⟨g', cur5, e5, _, hg5, _, _, _⟩ := HO7.out.form (by have := Hn.out; omega)
      cases e5
      have z1 : w7.frozen? ⟨g, 1041, none⟩ = false := frozen_of hg5
      clear q0 q1 q2
      have q2 := cell_of (o := 2) HQ7.out rfl
      have r0 := cell_of (o := 0) HQ8.out rfl
      have r1 := cell_of (o := 1) HQ8.out rfl
      have r2 := cell_of (o := 2) HQ8.out rfl
      have H2 := hide (HNo.out w8 HO8.out.lies)
      have HPB := hide hPB
      have Hw7 := hide hw7
      have Hw8 := hide hw8
      rw [hw8] at r0 r1 r2
      rw [hw7] at q2 z0 z1 r0 r1 r2
      clear hF6 hF67 hP7 hFr7 hG hg5 o1 o2 hPL hw7 hw8 hPB
      go_wp2_with fail
      rw [← HPB.out, ← Hw7.out, ← Hw8.out]
      refine H2.out.mono ?_
      rintro e w9 ⟨hF9, rfl⟩
      obtain ⟨wa, hwa⟩ : ∃ wa, wa = w9.alloc (.cells #[.slice none 0 0, .int .i64 0] 44) := ⟨_, rfl⟩
      have hFa : Fr (fun _ => False) w9 wa := by rw [hwa]; exact Fr.of_alloc _ _
      have hPa := cells_at HP8.out (hF9.join hFa) (fun e => e)
      have HFa := hide (HF8.out.join (hF9.join hFa))
      clear q2 z0 z1 r0 r1 r2
      have p0 := cell_of (o := 0) hPa rfl
      have p1 := cell_of (o := 1) hPa rfl
      have Hwa := hide hwa
      rw [hwa] at p0 p1
      clear hF9 hFa hPa hwa
      go_wp2_with fail
      rw [← Hwa.out]
      refine (HB.out _ _).mono ?_
      rintro e wb ⟨rfl, rfl⟩
      go_wp2_with fail
      refine (HB.out _ _).mono ?_
      rintro e wb ⟨rfl, rfl⟩
      go_wp2_with fail
      refine (HB.out _ _).mono ?_
      rintro e wb ⟨rfl, rfl⟩
      go_wp2_with fail
      go_ret
      exact ⟨by first | rfl | decide | simp [bitsV], HFa.out⟩

theorem paletteFull_walk (w : World) :
    Calls Try.prog 10 #[] w fun e w' => e = .returned (.bool true) ∧ Below w.heap.size w w' :=
  (full_law w).mono fun e w' ⟨he, f⟩ => ⟨he, f.below (Nat.le_refl _) (fun k h => h.elim)⟩

set_option maxRecDepth 100000 in
theorem paletteFull_lifted (os : Os) (started : os.Started) (H : Type) (enc : TypeId × Value → H) :
    ReturnsInHanded {} Try.checked os 10 .any (Rows.paletteFullSpec.pre6 enc Try.prog Try.f10 Rows.paletteFullRow.domain false) (Rows.paletteFullSpec.post enc Try.prog Try.f10 false true false false) := by
  refine returnsInHanded_of_change (C := Try.checked) own started (by kernel_rfl) Try.func10
    (ChangeSpec.witness6 (enc := enc) (C := Try.checked) false ⟨#[], #[], []⟩ 8 (by kernel_rfl) (by kernel_rfl) (by kernel_rfl) (by kernel_rfl)) ?_
  intro W base args ds gs before hval0 hW hcnd _
  have hval : ∀ (j : Nat) t v, Try.f10.params[j]? = some t → args[j]? = some v → Value.okWide Try.prog W .any base t v := hval0
  have hW' := hW
  obtain ⟨p, q, hA0, hV, rfl, hfz, hnd⟩ := hW
  have hA : DataW.TrodAll enc Try.prog W 0 (fun _ => true) true Try.f10.params.toList args.toList ds p := hA0
  rw [Try.params10] at hA hval
  obtain ⟨hargs, rfl, rfl⟩ := trodAll_nil hA
  obtain rfl : args = #[] := by cases args; simp_all
  obtain ⟨rfl, rfl⟩ := trodVars_none hV
  clear hA0 hval0
  refine (paletteFull_walk W).mono fun e W' ⟨he, bel⟩ => ?_
  subst he
  exact ⟨_, rfl, _, _, _, [], _, [], hW', trodAll_mk1 (shut_bool Try.underlying4 _), trodAll_mk0, rfl, bel.frame _, fun h => by cases h⟩

theorem paletteFull_over : Rows.paletteFullRow.holds Try.pinned (OpenSpec.ofChange Rows.paletteFullSpec) :=
  OpenClaim.holds_of_wide 10 Try.f10 rfl rfl rfl rfl rfl rfl rfl ⟨rfl, rfl, rfl, rfl, rfl⟩ rfl rfl rfl rfl rfl (by kernel_rfl) Try.func10 (by kernel_rfl)
    (of_decide_eq_true (by kernel_rfl)) (by unfold Func.isWrapper; first | (rw [if_pos (by decide +kernel)]; kernel_rfl) | (rw [if_neg (by decide +kernel)]; exact ⟨rfl, rfl⟩))
    (fun os started H enc _ => paletteFull_lifted os started H enc)

/-- The statement. -/
theorem paletteFull_holds : Rows.PaletteFullSaid := paletteFull_over
#print axioms paletteFull_holds
end Go.Proofs.Ythdilabmajaehaa
