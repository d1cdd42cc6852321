/-
  PaletteOrder: a picture whose colours are named anew, each by another, has the same places.
  Conditions: none.
-/
import Derived.Test.YthdilabmajaehaaRp
import Derived.Test.YthdilabmajaehaaZc
import Derived.Test.YthdilabmajaehaaXd
namespace Go.Proofs.Ythdilabmajaehaa
open Go.ChangeShapes Go.WideShapes Go.ChangeAt Go.RowKit
open Go.ChangeMaps (open_string shut_string)
set_option linter.unusedVariables false


/-- A pixel named anew. -/
def renX (add : Nat) (x : List Nat) : List Nat := if x.getD 3 0 = 65535 then [(x.getD 0 0 / 257 + add) % 256 * 257, x.getD 1 0, x.getD 2 0, x.getD 3 0] else x
/-- The first k pixels named anew. -/
def renP (add : Nat) (px : List Nat) : Nat → List Nat
  | 0 => px
  | k + 1 => if (renP add px k).getD (4 * k + 3) 0 = 65535 then (renP add px k).set (4 * k) (((renP add px k).getD (4 * k) 0 / 257 + add) % 256 * 257) else renP add px k

theorem renP_length (add : Nat) (px : List Nat) : ∀ k, (renP add px k).length = px.length
  | 0 => rfl
  | k + 1 => by
    simp only [renP]
    split
    · rw [List.length_set, renP_length add px k]
    · exact renP_length add px k

theorem getD_set (l : List Nat) (i j v : Nat) (hi : i < l.length) : (l.set i v).getD j 0 = if i = j then v else l.getD j 0 := by
  simp only [List.getD_eq_getElem?_getD, List.getElem?_set]
  split
  · rename_i h; subst h; first | rfl | (rw [if_pos hi]; rfl)
  · rfl

theorem renP_pix (add : Nat) (px : List Nat) (m : Nat) (hp : px.length = 4 * m) : ∀ k, k ≤ m → ∀ i, pix (renP add px k) i = if i < k then renX add (pix px i) else pix px i
  | 0, _, i => by simp [renP]
  | k + 1, hk, i => by
    have ih := renP_pix add px m hp k (by omega)
    have hk4 : 4 * k < (renP add px k).length := by rw [renP_length, hp]; omega
    have ihk := ih k
    rw [if_neg (Nat.lt_irrefl _)] at ihk
    have e0 : (renP add px k).getD (4 * k) 0 = (pix px k).getD 0 0 := by rw [← ihk]; rfl
    have e3 : (renP add px k).getD (4 * k + 3) 0 = (pix px k).getD 3 0 := by rw [← ihk]; rfl
    simp only [renP]
    by_cases h3 : (renP add px k).getD (4 * k + 3) 0 = 65535
    · rw [if_pos h3]
      by_cases hik : i = k
      · rw [hik, if_pos (Nat.lt_succ_self k)]
        unfold renX
        rw [if_pos (by rw [← e3]; exact h3), ← e0]
        unfold pix at ihk ⊢
        have l1 := List.cons.inj ihk
        have l2 := List.cons.inj l1.2
        have l3 := List.cons.inj l2.2
        have l4 := List.cons.inj l3.2
        rw [getD_set _ _ _ _ hk4, getD_set _ _ _ _ hk4, getD_set _ _ _ _ hk4, getD_set _ _ _ _ hk4, if_pos rfl, if_neg (by omega), if_neg (by omega), if_neg (by omega), l2.1, l3.1, l4.1]
        rfl
      · have e : pix ((renP add px k).set (4 * k) (((renP add px k).getD (4 * k) 0 / 257 + add) % 256 * 257)) i = pix (renP add px k) i := by
          unfold pix
          rw [getD_set _ _ _ _ hk4, getD_set _ _ _ _ hk4, getD_set _ _ _ _ hk4, getD_set _ _ _ _ hk4, if_neg (by omega), if_neg (by omega), if_neg (by omega), if_neg (by omega)]
        rw [e, ih i]
        by_cases h : i < k
        · rw [if_pos h, if_pos (by omega)]
        · rw [if_neg h, if_neg (by omega)]
    · rw [if_neg h3, ih i]
      by_cases hik : i = k
      · rw [hik, if_neg (Nat.lt_irrefl _), if_pos (Nat.lt_succ_self k)]
        unfold renX
        rw [if_neg (by rw [← e3]; exact h3)]
      · by_cases h : i < k
        · rw [if_pos h, if_pos (by omega)]
        · rw [if_neg h, if_neg (by omega)]

/-- A renaming that is one to one keeps the order of the unlike ones. -/
theorem uniq_map {px px' : List Nat} {f : List Nat → List Nat} {m : Nat} (h : ∀ i, i < m → pix px' i = f (pix px i)) (hinj : ∀ i j, i < m → j < m → f (pix px i) = f (pix px j) → pix px i = pix px j) : ∀ k, k ≤ m → uniq px' k = (uniq px k).map f
  | 0, _ => rfl
  | k + 1, hk => by
    have ih := uniq_map h hinj k (by omega)
    simp only [uniq]
    rw [ih, h k (by omega)]
    have hm : f (pix px k) ∈ (uniq px k).map f ↔ pix px k ∈ uniq px k := by
      constructor
      · intro hh
        obtain ⟨y, hy, e⟩ := List.mem_map.1 hh
        obtain ⟨j, hj, rfl⟩ := (mem_uniq px y k).1 hy
        rw [← hinj j k (by omega) (by omega) e]
        exact hy
      · exact fun hh => List.mem_map.2 ⟨_, hh, rfl⟩
    by_cases hh : pix px k ∈ uniq px k
    · rw [if_pos hh, if_pos (hm.2 hh)]
    · rw [if_neg hh, if_neg (fun x => hh (hm.1 x)), List.map_append]
      rfl

theorem idxOf_map (f : List Nat → List Nat) (x : List Nat) : ∀ l : List (List Nat), (∀ y ∈ l, f y = f x → y = x) → (l.map f).idxOf (f x) = l.idxOf x
  | [], _ => rfl
  | y :: t, h => by
    rw [List.map_cons, List.idxOf_cons, List.idxOf_cons, idxOf_map f x t (fun z hz => h z (List.mem_cons_of_mem _ hz))]
    by_cases e : y = x
    · subst e; simp
    · have e2 : ¬ f y = f x := fun he => e (h y List.mem_cons_self he)
      have b1 : (y == x) = false := beq_false_of_ne e
      have b2 : (f y == f x) = false := beq_false_of_ne e2
      rw [b1, b2]

theorem places_map {px px' : List Nat} {f : List Nat → List Nat} {m : Nat} (h : ∀ i, i < m → pix px' i = f (pix px i)) (hinj : ∀ i j, i < m → j < m → f (pix px i) = f (pix px j) → pix px i = pix px j) : ∀ k, k ≤ m → places px' k = places px k
  | 0, _ => rfl
  | k + 1, hk => by
    have ih := places_map h hinj k (by omega)
    simp only [places]
    rw [ih, uniq_map h hinj (k + 1) hk, h k (by omega), idxOf_map]
    intro y hy e
    obtain ⟨j, hj, rfl⟩ := (mem_uniq px y (k + 1)).1 hy
    exact hinj j k (by omega) (by omega) e

theorem renX_zero (add : Nat) : renX add [0, 0, 0, 0] = [0, 0, 0, 0] := rfl
theorem renX_inj {add a0 a1 a2 a3 b0 b1 b2 b3 : Nat} (ha : a0 % 257 = 0) (hb : b0 % 257 = 0) (ha2 : a0 < 65536) (hb2 : b0 < 65536) (h : renX add [a0, a1, a2, a3] = renX add [b0, b1, b2, b3]) : [a0, a1, a2, a3] = [b0, b1, b2, b3] := by
  have h2 : (if a3 = 65535 then [(a0 / 257 + add) % 256 * 257, a1, a2, a3] else [a0, a1, a2, a3]) = (if b3 = 65535 then [(b0 / 257 + add) % 256 * 257, b1, b2, b3] else [b0, b1, b2, b3]) := h
  by_cases h3 : a3 = 65535
  · rw [if_pos h3] at h2
    by_cases h4 : b3 = 65535
    · rw [if_pos h4] at h2
      injection h2 with e0 h2
      injection h2 with e1 h2
      injection h2 with e2 h2
      have : a0 = b0 := by omega
      rw [this, e1, e2, h3, h4]
    · rw [if_neg h4] at h2
      injection h2 with e0 h2
      injection h2 with e1 h2
      injection h2 with e2 h2
      injection h2 with e3 h2
      omega
  · rw [if_neg h3] at h2
    by_cases h4 : b3 = 65535
    · rw [if_pos h4] at h2
      injection h2 with e0 h2
      injection h2 with e1 h2
      injection h2 with e2 h2
      injection h2 with e3 h2
      omega
    · rw [if_neg h4] at h2
      exact h2

theorem renP_all {add : Nat} {px : List Nat} (h : ∀ b ∈ px, b < 65536 ∧ b % 257 = 0) : ∀ k, ∀ b ∈ renP add px k, b < 65536 ∧ b % 257 = 0
  | 0, b, hb => h b hb
  | k + 1, b, hb => by
    have ih := renP_all (add := add) h k
    simp only [renP] at hb
    split at hb
    · rcases List.mem_or_eq_of_mem_set hb with hb | hb
      · exact ih b hb
      · rw [hb]; omega
    · exact ih b hb

theorem getD_all {px : List Nat} (h : ∀ b ∈ px, b < 65536 ∧ b % 257 = 0) (p : Nat) : px.getD p 0 < 65536 ∧ px.getD p 0 % 257 = 0 := by
  rw [List.getD_eq_getElem?_getD]
  rcases Nat.lt_or_ge p px.length with hp | hp
  · rw [List.getElem?_eq_getElem hp]
    exact h _ (List.getElem_mem hp)
  · rw [List.getElem?_eq_none hp]
    exact ⟨by decide, by decide⟩

/-- A picture whose colours are named anew: it fits still, and has the same places. -/
theorem ren_facts {px : List Nat} {m add : Nat} (hp : px.length = 4 * m) (hs : ∀ b ∈ px, b < 65536) (hfit : fitsG px m = true) :
    fitsG (renP add px m) m = true ∧ (uniq (renP add px m) m).length = (uniq px m).length ∧ places (renP add px m) m = places px m ∧ clearV (uniq (renP add px m) m) = clearV (uniq px m) := by
  unfold fitsG at hfit
  simp only [Bool.and_eq_true, decide_eq_true_eq] at hfit
  obtain ⟨h1, h2, h3⟩ := hfit
  have hall : ∀ b ∈ px, b < 65536 ∧ b % 257 = 0 := fun b hb => ⟨hs b hb, by
    unfold allE at h1
    rw [List.all_eq_true] at h1
    have := h1 b hb
    unfold eightOk at this
    exact of_decide_eq_true this⟩
  have hg := getD_all hall
  have hpix : ∀ i, i < m → pix (renP add px m) i = renX add (pix px i) := fun i hi => by rw [renP_pix add px m hp m (Nat.le_refl _) i, if_pos hi]
  have hinj : ∀ i j, i < m → j < m → renX add (pix px i) = renX add (pix px j) → pix px i = pix px j := fun i j _ _ h => renX_inj (hg _).2 (hg _).2 (hg _).1 (hg _).1 h
  have hu := uniq_map hpix hinj m (Nat.le_refl _)
  refine ⟨?_, by rw [hu, List.length_map], places_map hpix hinj m (Nat.le_refl _), ?_⟩
  · unfold fitsG
    simp only [Bool.and_eq_true, decide_eq_true_eq]
    refine ⟨?_, ?_, by rw [hu, List.length_map]; exact h3⟩
    · unfold allE
      rw [List.all_eq_true]
      intro b hb
      exact decide_eq_true (renP_all hall m b hb).2
    · unfold opqAll at h2 ⊢
      rw [List.all_eq_true] at h2 ⊢
      intro q hq
      have hqm := List.mem_range.1 hq
      have hq2 : (decide ((pix px q).getD 3 0 = 65535) || decide (pix px q = [0, 0, 0, 0])) = true := h2 q hq
      show (decide ((pix (renP add px m) q).getD 3 0 = 65535) || decide (pix (renP add px m) q = [0, 0, 0, 0])) = true
      rw [hpix q hqm]
      by_cases h65 : (pix px q).getD 3 0 = 65535
      · unfold renX
        rw [if_pos h65]
        have e : ([((pix px q).getD 0 0 / 257 + add) % 256 * 257, (pix px q).getD 1 0, (pix px q).getD 2 0, (pix px q).getD 3 0] : List Nat).getD 3 0 = 65535 := h65
        rw [decide_eq_true e]; rfl
      · unfold renX
        rw [if_neg h65]
        exact hq2
  · rw [hu]
    have hz : ∀ y ∈ uniq px m, renX add y = renX add [0, 0, 0, 0] → y = [0, 0, 0, 0] := fun y hy e => by
      obtain ⟨j, _, rfl⟩ := (mem_uniq px y m).1 hy
      exact renX_inj (hg _).2 (by decide) (hg _).1 (by decide) e
    have hm : [0, 0, 0, 0] ∈ (uniq px m).map (renX add) ↔ [0, 0, 0, 0] ∈ uniq px m := by
      constructor
      · intro hh
        obtain ⟨y, hy, e⟩ := List.mem_map.1 hh
        rw [← hz y hy e]; exact hy
      · exact fun hh => List.mem_map.2 ⟨_, hh, renX_zero add⟩
    unfold clearV
    by_cases hh : [0, 0, 0, 0] ∈ uniq px m
    · rw [if_pos hh, if_pos (hm.2 hh)]
      have := idxOf_map (renX add) [0, 0, 0, 0] (uniq px m) hz
      rw [renX_zero] at this
      rw [this]
    · rw [if_neg hh, if_neg (fun x => hh (hm.1 x))]


set_option maxHeartbeats 1000000 in
set_option maxRecDepth 100000 in
theorem order_law (W H : Int) (a : Option Addr) (n c : Nat) (px : List Nat) (add : Nat) (w : World) (hl : Lies w a px) (hp : px.length = n) (hc : n ≤ c) (hnil : a = none → n = 0 ∧ c = 0) (hadd : add < 256) :
    Calls Try.prog 12 #[rasV W H a n c, .int .u8 (add : Int)] w fun e w' => e = .returned (.bool true) ∧ Fr (fun _ => False) w w' := by
  obtain ⟨w1, hw1⟩ : ∃ w1, w1 = w.alloc (.cells #[.int .i64 W, .int .i64 H, .slice a n c] 24) := ⟨_, rfl⟩
  obtain ⟨R, hR⟩ : ∃ R, R = w.heap.size := ⟨_, rfl⟩
  have hb1 : w1.heap[R]? = some (.cells #[.int .i64 W, .int .i64 H, .slice a n c] 24 (0, 0)) := by rw [hw1]; exact heap_alloc_at hR
  have hF1 : Fr (fun _ => False) w w1 := by rw [hw1]; exact Fr.of_alloc _ _
  have HA := hide (awake10_c w1)
  have HL := hide (hl.keep0 hF1)
  have Hb1 := hide hb1
  have HF1 := hide hF1
  have Hw1 := hide hw1
  have HR := hide hR
  have Hp := hide hp
  have Hnil := hide hnil
  have Hsm := hide hl.1
  clear hl hb1 hF1 hw1 hR hnil
  go_enter Try.func12, Try.ntmps12
  go_wp2_with fail
  rw [← Hw1.out, ← HR.out]
  refine HA.out.mono ?_
  rintro e w2 ⟨rfl, hF2⟩
  have hb2 := cells_at Hb1.out hF2 (fun e => e)
  have HF2 := hide (HF1.out.join hF2)
  have HL2 := hide (HL.out.keep0 hF2)
  have Hb2 := hide hb2
  have HRw : Hid (R < w2.heap.size) := lt_of hb2
  have k0 := cell_of (o := 0) hb2 rfl
  have k1 := cell_of (o := 1) hb2 rfl
  have k2 := cell_of (o := 2) hb2 rfl
  clear hF2 hb2
  by_cases hbig : (6000 : Int) < (n : Int)
  · go_wp2_with fail
    go_ret
    exact ⟨rfl, HF2.out⟩
  have hn6 : n ≤ 6000 := by omega
  cases hmay : mayB W H n with
  | false =>
    have HV := hide (rfits_out W H 2 a n c w2 (Or.inl hmay))
    go_wp2_with fail
    refine HV.out.mono ?_
    rintro e w3 ⟨hF3, rfl⟩
    go_wp2_with fail
    go_ret
    exact ⟨rfl, HF2.out.join hF3⟩
  | true =>
  obtain ⟨m, hm, hnm, hmb, hm1⟩ := may_nums hmay
  have hn0 : 0 < n := by omega
  obtain ⟨g, o, rfl, hgl⟩ := HL2.out.form (by rw [Hp.out]; exact hn0)
  have hV := rfits_yes W H 2 (some ⟨g, o, none⟩) n c m px w2 HL2.out hp hc hmay hm (by decide) (by decide)
  rw [show fitsV 2 px m = fitsG px m by unfold fitsV; rw [if_neg (by decide), if_pos rfl]] at hV
  have Hnm := hide hnm
  have Hm1 := hide hm1
  have Hmb := hide hmb
  have Hm := hide hm
  have Hmay := hide hmay
  clear hnm hm1 hmb hm hmay
  cases hfit : fitsG px m with
  | false =>
    rw [hfit] at hV
    have HV := hide hV
    clear hV hfit
    go_wp2_with fail
    refine HV.out.mono ?_
    rintro e w3 ⟨hF3, rfl⟩
    go_wp2_with fail
    go_ret
    exact ⟨rfl, HF2.out.join hF3⟩
  | true =>
  rw [hfit] at hV
  have HV := hide hV
  have HMk := hide fun (b o cc : Nat) (q : List Nat) (hq : q.length = n) (hcc : n ≤ cc) (hf : fitsG q m = true) (w : World) (h : Lies w (some ⟨b, o, none⟩) q) (hlt : b < w.heap.size) => make_yes W H b o n cc m q w h hq hcc Hmay.out Hm.out hf hlt
  have Hfit := hide hfit
  have Hren := hide (ren_facts (add := add) (by rw [hp]; exact Hnm.out) Hsm.out hfit)
  have Hgl := hide hgl
  clear hV hfit hgl
  go_wp2_with fail
  refine HV.out.mono ?_
  rintro e w3 ⟨hF3, rfl⟩
  have HF3 := hide (HF2.out.join hF3)
  have HL3 := hide (HL2.out.keep0 hF3)
  have HC := hide (rcopy_c W H (some ⟨g, o, none⟩) n c px w3 HL3.out Hp.out Hnil.out (by omega))
  have Hb3 := hide (cells_at Hb2.out hF3 (fun e => e))
  have HR3 : Hid (R < w3.heap.size) := lt_of Hb3.out
  clear k0 k1 k2 hF3 HV
  have k0 := cell_of (o := 0) Hb3.out rfl
  have k1 := cell_of (o := 1) Hb3.out rfl
  have k2 := cell_of (o := 2) Hb3.out rfl
  go_wp2_with fail
  refine HC.out.mono ?_
  rintro e w4 ⟨a4, c4, rfl, ho, hF⟩
  obtain ⟨g4, cur, rfl, _, _, hc4, _⟩ := ho.form hn0
  have Hc4 := hide hc4
  have HO4 := hide ho
  have HF4 := hide (HF3.out.join hF)
  have Hb4 := hide (cells_at Hb3.out hF (fun e => e))
  have HL4 := hide (HL3.out.keep0 hF)
  have HF34 := hide hF
  clear k0 k1 k2 hF ho hc4 HC
  obtain ⟨w5, hw5⟩ : ∃ w5, w5 = w4.alloc (.cells #[.int .i64 W, .int .i64 H, .slice (some ⟨g4, 0, none⟩) n c4] 24) := ⟨_, rfl⟩
  obtain ⟨Q, hQ⟩ : ∃ Q, Q = w4.heap.size := ⟨_, rfl⟩
  have hF : Fr (fun _ => False) w4 w5 := by rw [hw5]; exact Fr.of_alloc _ _
  have HQ5 : Hid (w5.heap[Q]? = some (.cells #[.int .i64 W, .int .i64 H, .slice (some ⟨g4, 0, none⟩) n c4] 24 (0, 0))) := by rw [hw5]; exact heap_alloc_at hQ
  have HO5 := hide (HO4.out.keep hF fun _ _ h => h)
  have HF5 := hide (HF4.out.join hF)
  have Hb5 := hide (cells_at Hb4.out hF (fun e => e))
  have HL5 := hide (HL4.out.keep0 hF)
  have HF35 := hide (HF34.out.join hF)
  have Hw5 := hide hw5
  have HgQ : Hid (g4 < Q) := by rw [hQ]; exact HO4.out.lt.2
  have Hg3 : Hid (w3.heap.size ≤ g4) := HO4.out.lt.1
  have HQe := hide hQ
  clear hF hw5 hQ
  go_wp2_with fail
  rw [← Hw5.out, ← HQe.out]
  go_loopw [6] (fun v6 wr => ∃ k J : Nat, v6 = .int .i64 (J : Int) ∧ Hid (J = 4 * k) ∧ J ≤ n ∧ k ≤ m ∧ Hid (Own wr w3.heap.size (some ⟨g4, 0, none⟩) n c4 (renP add px k)) ∧ Hid (Fr (fun j => j = g4) w5 wr)) (fun v6 _ => n - (intOf v6).toNat)
  case atStart => exact ⟨0, 0, rfl, rfl, by omega, by omega, HO5.out, Fr.refl _ _⟩
  case round =>
    obtain ⟨k, J, rfl, HJ, hJn, hkm, HO, HF⟩ := hrel
    have HbQ := hide (cells_at HQ5.out HF.out (fun e => by have e2 : Q = g4 := e; have := HgQ.out; omega))
    have q2 := cell_of (o := 2) HbQ.out rfl
    by_cases hlt : J < n
    · have hkm2 : k < m := by have := HJ.out; have := Hnm.out; omega
      have hJ3 : J + 3 < n := by have := HJ.out; have := Hnm.out; omega
      have hplen : (renP add px k).length = n := by rw [renP_length]; exact Hp.out
      have z0 := HO.out.lies.cell (j := J) (by rw [hplen]; exact hlt)
      have z3 := HO.out.lies.cell (j := J + 3) (by rw [hplen]; exact hJ3)
      rw [Nat.zero_add] at z0 z3
      have hsm0 : (renP add px k).getD J 0 < 65536 := HO.out.lies.1 _ (by rw [List.getD_eq_getElem?_getD, List.getElem?_eq_getElem (by rw [hplen]; exact hlt)]; exact List.getElem_mem _)
      have HRK : Hid (renP add px (k + 1) = if (renP add px k).getD (J + 3) 0 = 65535 then (renP add px k).set J (((renP add px k).getD J 0 / 257 + add) % 256 * 257) else renP add px k) := by
        show _ = _
        rw [HJ.out]; rfl
      obtain ⟨g', cur5, e5, _, hg5, _, hcs5, _⟩ := HO.out.form hn0
      cases e5
      have z1 : wr.frozen? ⟨g4, J, none⟩ = false := frozen_of hg5
      clear hplen hg5 hcs5
      generalize hq0 : (renP add px k).getD J 0 = p0 at *
      generalize hq3 : (renP add px k).getD (J + 3) 0 = p3 at *
      clear hq0 hq3
      by_cases h3 : p3 = 65535
      · subst h3
        obtain ⟨v, hv⟩ : ∃ v, p0 / 257 = v := ⟨_, rfl⟩
        obtain ⟨s, hs⟩ : ∃ s, v + add = s := ⟨_, rfl⟩
        obtain ⟨t, ht⟩ : ∃ t, s % 256 = t := ⟨_, rfl⟩
        obtain ⟨r, hr⟩ : ∃ r, t * 257 = r := ⟨_, rfl⟩
        have f1 : (p0 : Int) / 257 = (v : Int) := by rw [← hv]; rfl
        have f2 : (p0 : Int).tdiv 257 = (v : Int) := by rw [← hv]; rfl
        have hv256 : v < 256 := by omega
        have f3 : IntKind.u16.wrap ((v : Int) + (add : Int)) = (s : Int) := by rw [← hs, IntKind.wrap_u16]; omega
        have f4 : (s : Int) % 256 = (t : Int) := by rw [← ht]; rfl
        have f5 : (s : Int).tmod 256 = (t : Int) := by rw [← ht]; rfl
        have ht256 : t < 256 := by omega
        have f6 : IntKind.u16.wrap ((t : Int) * 257) = (r : Int) := by rw [← hr, IntKind.wrap_u16]; omega
        have f7 : IntKind.u16.wrap (add : Int) = (add : Int) := by rw [IntKind.wrap_u16]; omega
        have hr16 : r < 65536 := by omega
        have HRS : Hid (renP add px (k + 1) = (renP add px k).set J r) := by show _ = _; rw [HRK.out, if_pos rfl, hv, hs, ht, hr]
        have HO9 : Hid (Own (wr.setCell ⟨g4, J, none⟩ (.int .u16 (r : Int))) w3.heap.size (some ⟨g4, 0, none⟩) n c4 (renP add px (k + 1))) := by show Own _ _ _ _ _ _; rw [HRS.out]; exact HO.out.set1 hr16
        have HF9 := hide (HF.out.join (Fr.of_setCell wr ⟨g4, J, none⟩ (.int .u16 (r : Int))))
        clear hv hs ht hr HRK hsm0
        go_upto_region 10 with fail
        go_region
        have HO10 := hide (HO9.out.keep (Fr.drew1 (fun _ => False) _) (fun _ _ h => h))
        have HF10 := hide (HF9.out.join (Fr.drew1 _ _))
        clear HO9 HF9 z0 z1 z3 f1 f2 f3 f4 f5 f6 f7 q2 HO HF HbQ
        generalize (wr.setCell ⟨g4, J, none⟩ (.int .u16 (r : Int))).drew = wn at *
        go_wp2
        go_roundw
        case rel => exact ⟨k + 1, J + 4, by go_num, (by show _ = _; have := HJ.out; omega), by omega, by omega, HO10, HF10⟩
        case measure => simp [intOf]; omega
      · have HRS : Hid (renP add px (k + 1) = renP add px k) := by show _ = _; rw [HRK.out, if_neg h3]
        clear HRK hsm0 z0 z1
        go_wp2
        go_roundw
        case rel => exact ⟨k + 1, J + 4, by go_num, (by show _ = _; have := HJ.out; omega), by omega, by omega, by rw [HRS.out]; exact HO, HF⟩
        case measure => simp [intOf]; omega
    · have hJe : J = n := by omega
      have hke : k = m := by have := HJ.out; have := Hnm.out; omega
      rw [hke] at HO
      have hF3r := frJ HF35.out HF.out fun i e => by
        have e2 : i = g4 := e
        have := Hg3.out
        omega
      have HLr := hide (HL3.out.keep0 hF3r)
      have HFr := hide (HF3.out.join hF3r)
      have Hbr := hide (cells_at Hb5.out HF.out (fun e => by have e2 : R = g4 := e; have := Hg3.out; have := HR3.out; omega))
      have Hq := hide (show (renP add px m).length = n by rw [renP_length]; exact Hp.out)
      have H1 := hide (HMk.out g o c px Hp.out hc Hfit.out wr HLr.out (by have := Hgl.out; have := HF3.out.size; have := hF3r.size; have := HL3.out.cell (j := 0) (by rw [Hp.out]; omega); have := World.block_lt_of_cell? _ _ this; simp only [] at this; omega))
      have HO4r := hide HO.out
      clear hF3r HF HO HJ hke hkm hlt q2
      have q2 := cell_of (o := 2) HbQ.out rfl
      have k0 := cell_of (o := 0) Hbr.out rfl
      have k1 := cell_of (o := 1) Hbr.out rfl
      have k2 := cell_of (o := 2) Hbr.out rfl
      have hJlt : (J : Int) = (n : Int) := by omega
      subst hJe
      go_wp2_with fail
      refine H1.out.mono ?_
      rintro e w6 ⟨hF6, v1, v2, rfl, o1, o2⟩
      obtain ⟨a7, c7, rfl⟩ := ownsRow_shape o1.own
      obtain ⟨a8, c8, rfl⟩ := ownsRow_shape o2
      obtain ⟨L, hL⟩ : ∃ L, L = (uniq px m).length := ⟨_, rfl⟩
      obtain ⟨Z, hZ⟩ : ∃ Z, Z = clearV (uniq px m) := ⟨_, rfl⟩
      rw [← hL] at o1 ⊢
      rw [places_length] at o2 ⊢
      rw [← hZ]
      have hpl : ∀ b ∈ places px m, b < 256 := fun b hb => by
        have h1 := places_lt px m b hb
        have h2 := Hfit.out
        unfold fitsG at h2
        simp only [Bool.and_eq_true, decide_eq_true_eq] at h2
        omega
      have hbys := o2.bys hpl
      obtain ⟨w7, hw7⟩ : ∃ w7, w7 = w6.alloc (.cells #[.slice a7 L c7, .int .i64 Z] 44) := ⟨_, rfl⟩
      obtain ⟨PB, hPB⟩ : ∃ P, P = w6.heap.size := ⟨_, rfl⟩
      have hF67 : Fr (fun _ => False) w6 w7 := by rw [hw7]; exact Fr.of_alloc _ _
      have hP7 : w7.heap[PB]? = some (.cells #[.slice a7 L c7, .int .i64 Z] 44 (0, 0)) := by rw [hw7]; exact heap_alloc_at hPB
      have hFr7 := hF6.join hF67
      have HF7 := hide (HFr.out.join hFr7)
      have HO7 := hide (HO4r.out.keep hFr7 fun _ _ h => h)
      have hc4n : J ≤ c4 := by
        obtain ⟨_, _, _, _, _, h, _⟩ := HO4r.out.form hn0
        exact h
      have H2 := hide (HMk.out g4 0 c4 (renP add px m) Hq.out hc4n Hren.out.1 w7 HO7.out.lies HO7.out.lt.2)
      have HP7 := hide hP7
      have HB7 := hide (Bys.fr hbys hF67 (fun _ _ _ h => h))
      have hbq := cells_at HbQ.out hFr7 (fun e => e)
      clear k0 k1 k2 q2
      have q0 := cell_of (o := 0) hbq rfl
      have q1 := cell_of (o := 1) hbq rfl
      have q2 := cell_of (o := 2) hbq rfl
      have Hw7 := hide hw7
      have HPB := hide hPB
      have HLL := hide hL
      have HZ := hide hZ
      have Hpl := hide hpl
      rw [hw7] at q0 q1 q2
      clear hF6 hF67 hP7 hFr7 hbq hw7 hPB o1 o2 hbys hL hZ hpl hc4n
      go_wp2_with fail
      rw [← Hw7.out, ← HPB.out]
      refine H2.out.mono ?_
      rintro e w8 ⟨hF8, v3, v4, rfl, o3, o4⟩
      rw [Hren.out.2.2.1] at o4
      obtain ⟨a5, c5, rfl⟩ := ownsRow_shape o3.own
      obtain ⟨a6, c6, rfl⟩ := ownsRow_shape o4
      rw [places_length] at o4 ⊢
      rw [Hren.out.2.1, ← HLL.out, Hren.out.2.2.2, ← HZ.out]
      have hbys2 := o4.bys Hpl.out
      obtain ⟨w9, hw9⟩ : ∃ w9, w9 = w8.alloc (.cells #[.slice a5 L c5, .int .i64 Z] 44) := ⟨_, rfl⟩
      obtain ⟨QB, hQB⟩ : ∃ P, P = w8.heap.size := ⟨_, rfl⟩
      have hF89 : Fr (fun _ => False) w8 w9 := by rw [hw9]; exact Fr.of_alloc _ _
      have hQ9 : w9.heap[QB]? = some (.cells #[.slice a5 L c5, .int .i64 Z] 44 (0, 0)) := by rw [hw9]; exact heap_alloc_at hQB
      have hF79 := hF8.join hF89
      have HF9 := hide (HF7.out.join hF79)
      have hP9 := cells_at HP7.out hF79 (fun e => e)
      have hcv1 := str_bys (c := c8) (Bys.fr HB7.out hF79 (fun _ _ _ h => h)) (by have := Hm1.out; omega)
      have hcv2 := str_bys (c := c6) (Bys.fr hbys2 hF89 (fun _ _ _ h => h)) (by have := Hm1.out; omega)
      clear q0 q1 q2
      have p0 := cell_of (o := 0) hP9 rfl
      have p1 := cell_of (o := 1) hP9 rfl
      have q0 := cell_of (o := 0) hQ9 rfl
      have q1 := cell_of (o := 1) hQ9 rfl
      rw [hw9] at hcv1 hcv2 p0 p1
      rw [hw9, hQB] at q0 q1
      clear hF8 hF89 hQ9 hF79 hP9 hbys2 o3 o4
      go_wp2_with fail
      go_ret
      rw [← hw9]
      exact ⟨by simp, HF9.out⟩

theorem paletteOrder_walk (wd ht : Int) (a : Option Addr) (n c : Nat) (px : List Nat) (x : Int) (w : World) (hp : px.length = n) (hl : Lies w a px) (hc : n ≤ c) (hnil : a = none → n = 0 ∧ c = 0) (hx : (Lit.int .u8 x).wf = true) :
    Calls Try.prog 12 #[rasV wd ht a n c, .int .u8 x] w fun e w' => e = .returned (.bool true) ∧ Below w.heap.size w w' := by
  have b1 : 0 ≤ x ∧ x < 256 := by
    simp [Lit.wf, IntKind.min, IntKind.max, IntKind.signed, IntKind.bits] at hx
    omega
  obtain ⟨X, rfl⟩ := Int.eq_ofNat_of_zero_le b1.1
  exact (order_law wd ht a n c px X w hl hp hc hnil (by omega)).mono fun e w' ⟨he, f⟩ => ⟨he, f.below (Nat.le_refl _) (fun k h => h.elim)⟩

set_option maxRecDepth 100000 in
theorem paletteOrder_lifted (os : Os) (started : os.Started) (H : Type) (enc : TypeId × Value → H) :
    ReturnsInHanded {} Try.checked os 12 .any (Rows.paletteOrderSpec.pre6 enc Try.prog Try.f12 Rows.paletteOrderRow.domain false) (Rows.paletteOrderSpec.post enc Try.prog Try.f12 false true false false) := by
  refine returnsInHanded_of_change (C := Try.checked) own started (by kernel_rfl) Try.func12
    (ChangeSpec.witness6 (enc := enc) (C := Try.checked) false ⟨#[], #[.agg #[.int .i64 0, .int .i64 0, .slice none 0 0], .int .u8 0], []⟩ 8 (by kernel_rfl) (by kernel_rfl) (by kernel_rfl) (by kernel_rfl)) ?_
  intro W base args ds gs before hval0 hW hcnd _
  have hval : ∀ (j : Nat) t v, Try.f12.params[j]? = some t → args[j]? = some v → Value.okWide Try.prog W .any base t v := hval0
  have hW' := hW
  obtain ⟨p, q, hA0, hV, rfl, hfz, hnd⟩ := hW
  have hA : DataW.TrodAll enc Try.prog W 0 (fun _ => true) true Try.f12.params.toList args.toList ds p := hA0
  rw [Try.params12] at hA hval
  obtain ⟨v0, vs0, d0, ds0, p0, q0, hargs, rfl, rfl, h0, r0⟩ := trodAll_cons hA
  obtain ⟨v1, vs1, d1, ds1, p1, q1, rfl, rfl, rfl, h1, r1⟩ := trodAll_cons r0
  obtain ⟨rfl, rfl, rfl⟩ := trodAll_nil r1
  obtain rfl : args = #[v0, v1] := by cases args; simp_all
  obtain ⟨rfl, rfl⟩ := trodVars_none hV
  have k0 := h0
  have lt0 : ∀ x ∈ p0, x.block < W.heap.size := by obtain ⟨m, hm⟩ := k0; exact DataW.trod_lt m _ _ _ hm
  obtain ⟨wd0, ht0, a0, n0, c0, px0, rfl, l0, w0, x0, y0, z0, s0, u0⟩ := open_ras (hval 0 24 v0 rfl rfl) h0
  obtain ⟨a1, rfl, rfl, rfl, w1⟩ := open_int Try.underlying5 (hval 1 5 v1 rfl rfl) h1
  clear hA0 hval0
  refine (paletteOrder_walk wd0 ht0 a0 n0 c0 px0 a1 W l0 w0 x0 y0 w1).mono fun e W' ⟨he, bel⟩ => ?_
  subst he
  exact ⟨_, rfl, _, _, _, [], _, [], hW', trodAll_mk1 (shut_bool Try.underlying4 _), (trodAll_cons_mk (Below.trod laidOut (by kernel_rfl) (of_decide_eq_true (by kernel_rfl)) k0 bel lt0) (trodAll_cons_mk (shut_int Try.underlying5 w1) trodAll_mk0)), rfl, bel.frame _, fun h => by cases h⟩

theorem paletteOrder_over : Rows.paletteOrderRow.holds Try.pinned (OpenSpec.ofChange Rows.paletteOrderSpec) :=
  OpenClaim.holds_of_wide 12 Try.f12 rfl rfl rfl rfl rfl rfl rfl ⟨rfl, rfl, rfl, rfl, rfl⟩ rfl rfl rfl rfl rfl (by kernel_rfl) Try.func12 (by kernel_rfl)
    (of_decide_eq_true (by kernel_rfl)) (by unfold Func.isWrapper; first | (rw [if_pos (by decide +kernel)]; kernel_rfl) | (rw [if_neg (by decide +kernel)]; exact ⟨rfl, rfl⟩))
    (fun os started H enc _ => paletteOrder_lifted os started H enc)

/-- The statement. -/
theorem paletteOrder_holds : Rows.PaletteOrderSaid := paletteOrder_over
#print axioms paletteOrder_holds
end Go.Proofs.Ythdilabmajaehaa
