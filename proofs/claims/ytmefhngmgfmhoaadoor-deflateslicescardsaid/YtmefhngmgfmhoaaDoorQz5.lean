/-
  Deflate: part 5 of what its laws need: Kc Ph Kn Hl Tb Kd Fa Fb Fc Fd Ja Jg Lc.
-/
import Derived.Test.YtmefhngmgfmhoaaDoorQz4
import Derived.Test.YtmefhngmgfmhoaaDoorQz3
import Derived.Test.YtmefhngmgfmhoaaDoorQz2
import Derived.Test.YtmefhngmgfmhoaaDoorQz1
import Derived.Deep.RegionHeld3
import Derived.Laws.Tables
import Derived.Deep.MidRow
import Derived.Deep.CutRange
/-
  Pens: a block's own codes are told.
-/
namespace Go.Proofs.YtmefhngmgfmhoaaDoor
open Go.RowKit

def two {α : Type} (a b : α) : Nat → α
  | 0 => a
  | _ => b

theorem cat_two (ll dl : List Int) : catTo (two ll dl) 2 = ll ++ dl := rfl

/-- Marks lie in block G. -/
def LiesMk (w : World) (G : Nat) (ms : List Mk) : Prop := ∀ i, i < ms.length → ∃ m, m = ms.getD i ⟨0, 0, 0⟩ ∧ w.cell? ⟨G, i * 3, none⟩ = some (.int .i64 (m.sym : Int)) ∧ w.cell? ⟨G, i * 3 + 1, none⟩ = some (.int .i64 (m.further : Int)) ∧ w.cell? ⟨G, i * 3 + 2, none⟩ = some (.int .i64 (m.size : Int))

theorem LiesMk.fr {w w' : World} {S : Nat → Prop} {G : Nat} {ms : List Mk} (h : LiesMk w G ms) (f : Fr S w w') (hn : ¬ S G) : LiesMk w' G ms := fun i hi => by
  obtain ⟨m, e, a, b, c⟩ := h i hi
  exact ⟨m, e, (cell_blk (a := ⟨G, i * 3, none⟩) (f.block G (cell_lt a) hn)).trans a, (cell_blk (a := ⟨G, i * 3 + 1, none⟩) (f.block G (cell_lt b) hn)).trans b, (cell_blk (a := ⟨G, i * 3 + 2, none⟩) (f.block G (cell_lt c) hn)).trans c⟩

theorem cellsM_get : ∀ (ms : List Mk) (i : Nat), i < ms.length → (cellsM ms)[i * 3]? = some (.int .i64 ((ms.getD i ⟨0, 0, 0⟩).sym : Int)) ∧ (cellsM ms)[i * 3 + 1]? = some (.int .i64 ((ms.getD i ⟨0, 0, 0⟩).further : Int)) ∧ (cellsM ms)[i * 3 + 2]? = some (.int .i64 ((ms.getD i ⟨0, 0, 0⟩).size : Int)) := by
  intro ms
  induction ms with
  | nil => intro i h; cases h
  | cons m ms ih =>
    intro i h
    cases i with
    | zero => exact ⟨rfl, rfl, rfl⟩
    | succ i =>
      have := ih i (by simpa using h)
      rw [show (i + 1) * 3 = i * 3 + 1 + 1 + 1 by omega]
      simpa [cellsM] using this

theorem own_marks {w : World} {lo n c : Nat} {a : Option Addr} {ms : List Mk} (h : w.ownsRow lo 122 3 (.slice a n c) n (cellsM ms)) (hne : 0 < ms.length) (hn : n = ms.length) : ∃ G, a = some ⟨G, 0, none⟩ ∧ lo ≤ G ∧ G < w.heap.size ∧ LiesMk w G ms := by
  rcases h.2 with ⟨hv, e0⟩ | ⟨g, cap, cur, hv, hg, hh, hr⟩
  · omega
  · cases hv
    refine ⟨g, rfl, hg, lt_of hh, fun i hi => ⟨_, rfl, ?_⟩⟩
    obtain ⟨k1, k2, k3⟩ := cellsM_get ms i hi
    have e : ∀ j, (⟨g, 0, none⟩ : Addr).add j = ⟨g, j, none⟩ := fun j => by rw [add_none, Nat.zero_add]
    have q1 := h.cells (g := g) rfl _ _ k1
    have q2 := h.cells (g := g) rfl _ _ k2
    have q3 := h.cells (g := g) rfl _ _ k3
    rw [e] at q1 q2 q3
    exact ⟨q1, q2, q3⟩

theorem not_pen {w : World} {B x : Nat} {g : Option Nat} (h : (∀ k, g = some k → k < w.heap.size) ∧ B < w.heap.size) (hx : w.heap.size ≤ x) : ¬ (x = B ∨ g = some x) := by
  rintro (e | e)
  · have := h.2; omega
  · have := h.1 x e; omega

theorem Tryd.zero120 (w : World) : (zeroValue 120).run Tryd.prog w = .ok (.agg (cellsZ zero19).toArray) w := by kernel_rfl

theorem liesI_cells {w : World} {b : Nat} {zs : List Int} {T : TypeId} (h : w.heap[b]? = some (.cells (cellsZ zs).toArray T (0, 0))) : LiesI w (some ⟨b, 0, none⟩) zs := fun j hj => by
  refine ⟨_, rfl, ?_⟩
  rw [add_none, Nat.zero_add]
  exact cell_of h (by simp [cellsZ, at0, List.getElem?_eq_getElem hj])

theorem take_mk (ms : List Mk) (i : Nat) (h : i < ms.length) : ms.take (i + 1) = ms.take i ++ [ms.getD i ⟨0, 0, 0⟩] := by
  rw [List.take_succ_eq_append_getElem h]
  simp [List.getElem?_eq_getElem h]

theorem marks_ne {ll dl : List Int} (gl : good ll) (gd : good dl) (h : 1 ≤ ll.length) : 0 < (marksOf ll dl).length := by
  have := marks_reps gl gd
  cases e : marksOf ll dl with
  | nil =>
    rw [e] at this
    have h2 : 0 = (ll ++ dl).length := this
    rw [List.length_append] at h2
    omega
  | cons _ _ => simp

theorem pput_n (T : TypeId) (B o : Nat) (cs : Array Value) (g : Option Nat) (t : Bt) (n x : Nat) (w : World) (h : Pn T w B o cs g t) (hp : t.p ≤ 2147480000) (hn : n ≤ 24) (hx : x < 2 ^ n) :
    Calls Tryd.prog 58 #[.pointer (some ⟨B, o, none⟩), .int .i64 (x : Int), .int .i64 (n : Int)] w fun e w' => e = .returned (.tuple #[]) ∧ ∃ cs' g', PGo T w w' B o cs cs' g g' (t.put x n) := by
  have h1 := pput_c T B o cs g t n (x : Int) w h hp hn
  have hx2 : x < 2 ^ 24 := Nat.lt_of_lt_of_le hx (Nat.pow_le_pow_right (by decide) hn)
  rw [num_nat x 0 n (by omega), Nat.pow_zero, Nat.div_one, Nat.mod_eq_of_lt hx] at h1
  exact h1

theorem putMarks_snoc (cl : List Int) (ms : List Mk) (m : Mk) (t : Bt) : putMarks cl (ms ++ [m]) t = putM (putMarks cl ms t) cl m := by
  induction ms generalizing t with
  | nil => rfl
  | cons q ms ih => exact ih _

theorem putMarks_p {cl : List Int} (hc : good cl) : ∀ (ms : List Mk), (∀ m ∈ ms, m.size ≤ 13) → ∀ t, (putMarks cl ms t).p ≤ t.p + 28 * ms.length := by
  intro ms
  induction ms with
  | nil => intro _ t; exact Nat.le_refl _
  | cons m ms ih =>
    intro h t
    have h1 := ih (fun q hq => h q (by simp [hq])) (putM t cl m)
    have h2 := putM_p t cl m
    have h3 := wn_le hc m.sym
    have h4 := h m (by simp)
    simp only [putMarks, List.length_cons]
    omega

theorem putTold_p : ∀ (xs : List Nat) (t : Bt), (putTold xs t).p = t.p + 3 * xs.length := by
  intro xs
  induction xs with
  | nil => intro t; rfl
  | cons x xs ih =>
    intro t
    simp only [putTold, List.length_cons]
    rw [ih]
    show t.p + 3 + 3 * xs.length = _
    omega

theorem take_x (xs : List Nat) (i : Nat) (h : i < xs.length) : xs.take (i + 1) = xs.take i ++ [xs.getD i 0] := by
  rw [List.take_succ_eq_append_getElem h]
  simp [List.getElem?_eq_getElem h]

set_option maxHeartbeats 3200000 in
set_option maxRecDepth 100000 in
theorem putCodes_c (T : TypeId) (B o : Nat) (cs : Array Value) (g : Option Nat) (t : Bt) (gL cL C1 gD cD C2 : Nat) (ll dl : List Int) (w : World) (h : Pn T w B o cs g t) (hp : t.p ≤ 2000000000)
    (hL : LiesI w (some ⟨gL, 0, none⟩) ll) (hD : LiesI w (some ⟨gD, 0, none⟩) dl) (kl : Cok ll) (kd : Cok dl) (l1 : 257 ≤ ll.length) (l2 : ll.length ≤ 286) (d1 : 1 ≤ dl.length) (d2 : dl.length ≤ 30) (fin : 1 ≤ at0 ll 256) (hG : Gl w) :
    Calls Tryd.prog 43 #[.pointer (some ⟨B, o, none⟩), codesV (some ⟨gL, 0, none⟩) ll.length cL C1 (some ⟨gD, 0, none⟩) dl.length cD C2] w fun e w' => e = .returned (.tuple #[]) ∧ ∃ oC cs' g', LenOk (freqOf ll dl) 7 oC ∧ PGo T w w' B o cs cs' g g' (putCodes ll dl oC (xsOf oC) (marksOf ll dl) t) := by
  obtain ⟨K, hK⟩ : ∃ K, K = w.heap.size := ⟨_, rfl⟩
  obtain ⟨N1, hN1⟩ : ∃ N1, N1 = ll.length := ⟨_, rfl⟩
  obtain ⟨N2, hN2⟩ : ∃ N2, N2 = dl.length := ⟨_, rfl⟩
  rw [← hN1, ← hN2]
  obtain ⟨w0, hw0⟩ : ∃ w0, w0 = w.alloc (.cells #[.slice (some ⟨gL, 0, none⟩) N1 cL, .pointer (some ⟨C1, 0, none⟩), .slice (some ⟨gD, 0, none⟩) N2 cD, .pointer (some ⟨C2, 0, none⟩)] 100) := ⟨_, rfl⟩
  obtain ⟨w1, hw1⟩ : ∃ w1, w1 = w0.alloc (.cells #[.slice (some ⟨gL, 0, none⟩) N1 cL, .slice (some ⟨gD, 0, none⟩) N2 cD] 34) := ⟨_, rfl⟩
  have hF0 : Fr (fun _ => False) w w0 := by rw [hw0]; exact Fr.of_alloc _ _
  have hF01 : Fr (fun _ => False) w0 w1 := by rw [hw1]; exact Fr.of_alloc _ _
  have hK0 : w0.heap.size = K + 1 := by rw [hw0, hK]; simp
  have hb1 : w1.heap[K]? = some (.cells #[.slice (some ⟨gL, 0, none⟩) N1 cL, .pointer (some ⟨C1, 0, none⟩), .slice (some ⟨gD, 0, none⟩) N2 cD, .pointer (some ⟨C2, 0, none⟩)] 100 (0, 0)) := cells_at (by rw [hw0]; exact heap_alloc_at hK) hF01 (fun e => e)
  have hz1 : w1.heap[K + 1]? = some (.cells #[.slice (some ⟨gL, 0, none⟩) N1 cL, .slice (some ⟨gD, 0, none⟩) N2 cD] 34 (0, 0)) := by rw [hw1]; exact heap_alloc_at hK0.symm
  have hF1 := hF0.join hF01
  have hcat := concat_any (K + 1) 2 (two gL gD) (two cL cD) (two ll dl) w1 (fun i hi => by
      rcases (by omega : i = 0 ∨ i = 1) with rfl | rfl
      · exact cell_of (o := 0) hz1 (by rw [hN1]; rfl)
      · exact cell_of (o := 1) hz1 (by rw [hN2]; rfl)) (fun i hi => by
      rcases (by omega : i = 0 ∨ i = 1) with rfl | rfl
      · exact hL.fr hF1
      · exact hD.fr hF1) (fun i hi => by
      rcases (by omega : i = 0 ∨ i = 1) with rfl | rfl
      · show 0 < ll.length; omega
      · show 0 < dl.length; omega) (by omega) (fun i hi => by
      rcases (by omega : i = 0 ∨ i = 1 ∨ i = 2) with rfl | rfl | rfl
      · show 0 ≤ 1000; omega
      · show ([] ++ ll).length ≤ 1000; simp; omega
      · rw [cat_two, List.length_append]; omega)
  rw [cat_two] at hcat
  have Hcat := hide hcat
  have HK := hide hK
  have Hw0 := hide hw0
  have Hw1 := hide hw1
  have Hb1 := hide hb1
  have HF1 := hide hF1
  have HN1 := hide hN1
  have HN2 := hide hN2
  have Hkl := hide kl
  have Hkd := hide kd
  have Hfin := hide fin
  have Hd1 := hide d1
  have Hd2 := hide d2
  have Hl1 := hide l1
  have Hl2 := hide l2
  have H := hide h
  have HG := hide hG
  have Hlts := hide h.wt.lts
  clear hcat hK hw0 hw1 hb1 hz1 hF1 hF0 hF01 hN1 hN2 kl kd fin d1 d2 l1 l2 h hG hL hD hK0
  have hz := Tryd.zero120
  obtain ⟨zs, hzs⟩ : ∃ zs, zs = (cellsZ zero19).toArray := ⟨_, rfl⟩
  rw [← hzs] at hz
  have Hzs := hide hzs
  clear hzs
  go_enter Tryd.func43, Tryd.ntmps43
  go_wp2_with fail
  rw [← Hw0.out, ← Hw1.out, ← HK.out]
  refine (calls_args Hcat.out (by rfl)).mono ?_
  rintro e w2 ⟨a2, c2, rfl, hown2, hF2⟩
  obtain ⟨N3, hN3⟩ : ∃ N3, N3 = (ll ++ dl).length := ⟨_, rfl⟩
  rw [← hN3] at hown2 ⊢
  have HN3 := hide hN3
  have Hown2 := hide hown2
  have HF2 := hide (HF1.out.join hF2)
  have Hb2 := hide (cells_at Hb1.out hF2 (fun e => e))
  have hlen : N3 ≤ 320 := by rw [hN3, List.length_append]; have := Hl2.out; have := Hd2.out; omega
  have Hag := hide (app_good Hkl.out.good Hkd.out.good)
  clear hown2 hF2 hN3
  go_wp2_with fail
  refine (calls_args (lengthMarks_c a2 N3 c2 (ll ++ dl) w2 HN3.out (own_lies Hown2.out) hlen Hag.out) (by rfl)).mono ?_
  rintro e w3 ⟨a3, c3, rfl, hown3, hF3⟩
  have em : lmarks (ll ++ dl) N3 0 = marksOf ll dl := by rw [HN3.out]; rfl
  rw [em] at hown3 ⊢
  obtain ⟨G, rfl, hG1, hG2, hLM⟩ := own_marks hown3 (marks_ne Hkl.out.good Hkd.out.good (by have := Hl1.out; omega)) rfl
  obtain ⟨hms1, hms2⟩ := reps_all _ _ (marks_reps Hkl.out.good Hkd.out.good)
  obtain ⟨ms, hms⟩ : ∃ ms, ms = marksOf ll dl := ⟨_, rfl⟩
  rw [← hms] at hLM hms1 hms2 ⊢
  obtain ⟨M, hM⟩ : ∃ M, M = ms.length := ⟨_, rfl⟩
  rw [← hM] at hms1 ⊢
  have hM3 : M ≤ 320 := by have := HN3.out; omega
  have hMi : (M : Int) ≤ 320 := by omega
  obtain ⟨A, hA⟩ : ∃ A, A = w3.heap.size := ⟨_, rfl⟩
  obtain ⟨w4, hw4⟩ : ∃ w4, w4 = w3.alloc (.cells zs 120) := ⟨_, rfl⟩
  have hF4 : Fr (fun _ => False) w3 w4 := by rw [hw4]; exact Fr.of_alloc _ _
  have hbA : w4.heap[A]? = some (.cells (cellsZ zero19).toArray 120 (0, 0)) := by rw [hw4, ← Hzs.out]; exact heap_alloc_at hA
  have hwG : w.heap.size ≤ G := by have := HF2.out.size; omega
  have hGA : G < A := by omega
  have hKA : K < A := by have := lt_of Hb2.out; have := hF3.size; omega
  have hwA : w.heap.size ≤ A := by omega
  have HbA := hide hbA
  have HLM := hide (hLM.fr hF4 (fun e => e))
  have HF4 := hide ((HF2.out.join hF3).join hF4)
  have Hb4 := hide (cells_at Hb2.out (hF3.join hF4) (fun e => e))
  have Hms := hide hms
  have Hms2 := hide hms2
  have HM := hide hM
  have HA := hide hA
  have Hw4 := hide hw4
  clear hown3 em hF3 hLM hms1 hms2 hms hM hA hw4 hF4 hbA hlen Hown2 Hcat Hag
  go_wp2_with fail
  rw [← Hw4.out, ← HA.out]
  clear hz
  go_loopw [7, 25] (fun _ ti wr => ∃ i : Nat, ti = .int .i64 (i : Int) ∧ i ≤ M ∧ wr.heap[A]? = some (.cells (cellsZ (cntM (ms.take i) zero19)).toArray 120 (0, 0)) ∧ Fr (fun k => k = A) w4 wr) (fun _ ti _ => M - (intOf ti).toNat)
  case atStart => exact ⟨0, rfl, by omega, HbA.out, Fr.refl _ _⟩
  case round =>
    obtain ⟨i, rfl, hi, hT, hF⟩ := hrel
    by_cases hlt : i < M
    · have hlti : (i : Int) < (M : Int) := by omega
      have hil : i < ms.length := by have := HM.out; omega
      obtain ⟨m, hmv, m0, m1, m2⟩ := (HLM.out.fr hF (by omega)) i hil
      have hmem : m ∈ ms := by rw [hmv]; rw [List.getD_eq_getElem?_getD, List.getElem?_eq_getElem hil]; exact List.getElem_mem hil
      have hm19 := (Hms2.out m hmem).1
      have hnext : cntM (ms.take (i + 1)) zero19 = inc (cntM (ms.take i) zero19) m.sym 1 := by rw [take_mk ms i hil, cntM_snoc, ← hmv]
      obtain ⟨Z, hZ⟩ : ∃ Z, Z = cntM (ms.take i) zero19 := ⟨_, rfl⟩
      have hZl : Z.length = 19 := by rw [hZ, cntM_len, zero19_len]
      have hZb := cntM_bd (ms.take i) zero19 0 zero19_len (fun q hq => (Hms2.out q (List.mem_of_mem_take hq)).1) (fun j => by rw [at_zero19]; omega) m.sym
      have htk : (ms.take i).length ≤ i := List.length_take_le _ _
      rw [← hZ] at hT hnext hZb
      obtain ⟨sy, fu, sz⟩ := m
      simp only at m0 m1 m2 hm19 hnext hZb
      have cx : wr.cell? ⟨A, sy, none⟩ = some (.int .i64 (at0 Z sy)) := cell_of (o := sy) hT (by
        have : sy < Z.length := by omega
        simp [cellsZ, List.getElem?_map, List.getElem?_eq_getElem this, at0])
      have cf := frozen_of (o := sy) hT
      obtain ⟨x, hx⟩ : ∃ x, x = at0 Z sy := ⟨_, rfl⟩
      rw [← hx] at cx hZb
      have hx0 : 0 ≤ x := hZb.1
      have hx1 : x ≤ 320 := by have := hZb.2; omega
      have hsyi : (sy : Int) < 19 := by omega
      have hlA : A < wr.heap.size := lt_of hT
      have HT := hide hT
      have HF := hide hF
      have Hnext := hide hnext
      have Hx := hide hx
      clear hZb htk hT hF hnext hmv hmem hZ hx
      go_wp2_with fail
      go_roundw
      case rel =>
        have q := heap_setCell_own (o := sy) (.int .i64 (x + 1)) HT.out
        have e : (cellsZ Z).toArray.setIfInBounds sy (.int .i64 (x + 1)) = (cellsZ (inc Z sy 1)).toArray := by rw [Hx.out]; simp [cellsZ, inc, List.map_set]
        rw [e] at q
        refine ⟨i + 1, by go_num, by omega, ?_, ?_⟩
        · rw [Hnext.out]
          exact cells_at q (Fr.of_alloc _ _) (fun e => e)
        · exact (HF.out.join (Fr.of_setCell _ ⟨A, sy, none⟩ _)).trans (Fr.of_alloc _ _) |>.mono fun _ _ e => e.elim id (fun e => e.elim)
      case measure => simp [intOf]; omega
    · obtain rfl : i = M := by omega
      have e : ms.take i = ms := by rw [HM.out, List.take_length]
      rw [e] at hT
      have efq : cntM ms zero19 = freqOf ll dl := by unfold freqOf; rw [Hms.out]
      rw [efq] at hT
      obtain ⟨fq, hfq⟩ : ∃ fq, fq = freqOf ll dl := ⟨_, rfl⟩
      have hfl : fq.length = 19 := by rw [hfq, freq_len]
      have hfg : goodF fq := by rw [hfq]; exact freq_good Hkl.out.good Hkd.out.good (by have := Hl2.out; have := Hd2.out; omega)
      rw [← hfq] at hT
      have hS := shortestCode_c (some ⟨A, 0, none⟩) 19 19 fq 7 19 wr hfl.symm (liesI_cells hT) hfg (Nat.le_trans (posL_le fq fq.length) (by rw [hfl]; decide)) (by omega) (by omega) (by omega)
      have HS := hide hS
      have HFr := hide hF
      have Hfq := hide hfq
      clear e efq hT hF hS hfg hfq
      go_wp2_with fail
      refine (calls_args HS.out (by rfl)).mono ?_
      rintro e w6 ⟨oC, gC, C, lo, hi', hLen, rfl, hLC, hgC1, hgC2, hCd, hlo, hhi, hF6⟩
      have eT : trim oC 19 = oC := trim_all (by rw [hLen.len, hfl]; exact Nat.le_refl _)
      rw [eT] at hLC hCd ⊢
      have hol : oC.length = 19 := by rw [hLen.len, hfl]
      rw [hol]
      have hFw6 := (fr_false_new HF4.out HFr.out (fun i e => by omega)).join hF6
      obtain ⟨Q, hQ⟩ : ∃ Q, Q = w6.heap.size := ⟨_, rfl⟩
      obtain ⟨w7, hw7⟩ : ∃ w7, w7 = w6.alloc (.cells #[.slice (some ⟨gC, 0, none⟩) 19 19, .pointer (some ⟨C, 0, none⟩)] 98) := ⟨_, rfl⟩
      have hF7 : Fr (fun _ => False) w6 w7 := by rw [hw7]; exact Fr.of_alloc _ _
      have hb7 : w7.heap[Q]? = some (.cells #[.slice (some ⟨gC, 0, none⟩) 19 19, .pointer (some ⟨C, 0, none⟩)] 98 (0, 0)) := by rw [hw7]; exact heap_alloc_at hQ
      have hwr : w.heap.size ≤ wr.heap.size := Nat.le_trans HF4.out.size HFr.out.size
      have hwQ : w.heap.size ≤ Q := by rw [hQ]; exact hFw6.size
      have hwlo : w.heap.size ≤ lo := by omega
      have HFw7 := hide (hFw6.join hF7)
      have HO := hide (inOrder_c (some ⟨gC, 0, none⟩) 19 oC w7 (hLC.fr hF7) hol (HG.out.keep (hFw6.join hF7) (fun e => e)))
      have Hb7 := hide hb7
      have HCd := hide (hCd.keep hF7 (fun _ _ _ e => e))
      have Hlo := hide hwlo
      have HLen := hide hLen
      have HQ := hide hQ
      have Hw7 := hide hw7
      have HwQ := hide hwQ
      have Hkb := hide (cells_at (cells_at Hb4.out HFr.out (by omega)) (hF6.join hF7) (fun e => e))
      have HLM7 := hide ((HLM.out.fr HFr.out (by omega)).fr (hF6.join hF7) (fun e => e))
      have Hhi : Hid (hi' ≤ w7.heap.size) := by show _ ≤ _; have := hF7.size; omega
      clear hFw6 hF7 hb7 hwr hwQ hwlo hLen hQ hw7 hF6 hLC hCd hgC1 hgC2 hlo hhi eT HS HbA Hb4 HLM
      go_wp2_with fail
      rw [← Hw7.out, ← HQ.out]
      refine (calls_args HO.out (by rfl)).mono ?_
      rintro e w8 ⟨g2, rfl, hL8, hg2, hF8⟩
      obtain ⟨X, hX⟩ : ∃ X, X = (trim (ordL oC) 4).length := ⟨_, rfl⟩
      rw [← hX]
      have hxl := xs_len oC
      have hXx : X = (xsOf oC).length := by rw [hX]; unfold xsOf; rw [List.length_map]
      rw [← hXx] at hxl
      have hwg2 : w.heap.size ≤ g2 := Nat.le_trans HFw7.out.size hg2
      obtain ⟨n1, hn1⟩ : ∃ n1, n1 = N1 - 257 := ⟨_, rfl⟩
      obtain ⟨n2, hn2⟩ : ∃ n2, n2 = N2 - 1 := ⟨_, rfl⟩
      obtain ⟨n3, hn3⟩ : ∃ n3, n3 = X - 4 := ⟨_, rfl⟩
      have en1 : (N1 : Int) - 257 = (n1 : Int) := by have := Hl1.out; have := HN1.out; omega
      have en2 : (N2 : Int) - 1 = (n2 : Int) := by have := Hd1.out; have := HN2.out; omega
      have en3 : (X : Int) - 4 = (n3 : Int) := by omega
      have b1 : n1 < 32 := by have := Hl2.out; have := HN1.out; omega
      have b2 : n2 < 32 := by have := Hd2.out; have := HN2.out; omega
      have b3 : n3 < 16 := by omega
      have hX19 : X ≤ 19 := hxl.2
      have hXi : (X : Int) ≤ 19 := by omega
      have b1i : (n1 : Int) ≤ 32 := by omega
      have b2i : (n2 : Int) ≤ 32 := by omega
      have b3i : (n3 : Int) ≤ 16 := by omega
      have HL8 := hide hL8
      have HF8 := hide (HFw7.out.join hF8)
      have Hkb8 := hide (cells_at Hkb.out hF8 (fun e => e))
      have Hb8 := hide (cells_at Hb7.out hF8 (fun e => e))
      have HLM8 := hide (HLM7.out.fr hF8 (fun e => e))
      have HCd8 := hide (HCd.out.keep hF8 (fun _ _ _ e => e))
      have HP8 := hide (PGo.start H.out HF8.out)
      have HXx := hide hXx
      have Hwg2 := hide hwg2
      have Hn1 := hide hn1
      have Hn2 := hide hn2
      have Hn3 := hide hn3
      have k0 := cell_of (o := 0) Hkb8.out rfl
      clear hL8 hF8 hX hXx hxl hwg2 hn1 hn2 hn3 HO HLM7 Hkb hg2
      go_wp2_with fail
      have hK8 : w.heap.size ≤ K := Nat.le_of_eq HK.out.symm
      refine (calls_args (pput_n T B o cs g t 5 n1 w8 HP8.out.pn (by omega) (by omega) (by omega)) (by rfl)).mono ?_
      rintro e wa ⟨rfl, csa, ga, hPa⟩
      have HPa := hide hPa
      have ka := cell_of (o := 2) (cells_at Hkb8.out hPa.fr (not_pen Hlts.out hK8)) rfl
      have hpa : (t.put n1 5).p = t.p + 5 := rfl
      clear hPa k0
      go_wp2_with fail
      refine (calls_args (pput_n T B o csa ga (t.put n1 5) 5 n2 wa HPa.out.pn (by omega) (by omega) (by omega)) (by rfl)).mono ?_
      rintro e wb ⟨rfl, csb, gb, hPb⟩
      have HPb := hide (HPa.out.trans hPb)
      have hpb : ((t.put n1 5).put n2 5).p = t.p + 5 + 5 := rfl
      clear hPb ka hpa
      go_wp2_with fail
      refine (calls_args (pput_n T B o csb gb ((t.put n1 5).put n2 5) 4 n3 wb HPb.out.pn (by omega) (by omega) (by omega)) (by rfl)).mono ?_
      rintro e w9 ⟨rfl, cs9, g9, hP9⟩
      obtain ⟨t3, ht3⟩ : ∃ t3, t3 = ((t.put n1 5).put n2 5).put n3 4 := ⟨_, rfl⟩
      rw [← ht3] at hP9
      have hpt3 : t3.p = t.p + 14 := by rw [ht3]; rfl
      have HP9 := hide (HPb.out.trans hP9)
      have Ht3 := hide ht3
      have hXl : X = (xsOf oC).length := HXx.out
      have Hown := hide (own_of Hkl.out Hkd.out Hl1.out Hl2.out Hd1.out Hd2.out Hfin.out (by rw [← Hfq.out]; exact HLen.out))
      obtain ⟨xs, hxs⟩ : ∃ xs, xs = xsOf oC := ⟨_, rfl⟩
      rw [← hxs] at hXl
      have Hxs := hide hxs
      have HXl := hide hXl
      clear hP9 ht3 hpb hxs hXl
      go_wp2_with fail
      go_loopw [11, 62] (fun _ ti wr => ∃ (j : Nat) (cs' : Array Value) (g' : Option Nat), ti = .int .i64 (j : Int) ∧ j ≤ X ∧ PGo T w8 wr B o cs cs' g g' (putTold (xs.take j) t3)) (fun _ ti _ => X - (intOf ti).toNat)
      case atStart => exact ⟨0, cs9, g9, rfl, by omega, HP9.out⟩
      case round =>
        obtain ⟨j, csj, gj, rfl, hj, hP⟩ := hrel
        by_cases hlt : j < X
        · have hlti : (j : Int) < (X : Int) := by omega
          have hjl : j < xs.length := by have := HXl.out; omega
          obtain ⟨ad, ead, cz⟩ := (HL8.out.frS hP.fr (fun ad e => by cases e; exact not_pen Hlts.out Hwg2.out)) j (by have := HXx.out; unfold xsOf at this; rw [List.length_map] at this; omega)
          cases ead
          obtain ⟨x, hx⟩ : ∃ x, x = xs.getD j 0 := ⟨_, rfl⟩
          have hx8 : x < 8 := Hown.out.x8 x (by rw [hx, Hxs.out, List.getD_eq_getElem?_getD, List.getElem?_eq_getElem (by rw [← Hxs.out]; exact hjl)]; exact List.getElem_mem _)
          have ez : at0 (trim (ordL oC) 4) j = (x : Int) := by
            have e1 := xs_at oC j
            rw [← Hxs.out, ← hx] at e1
            have e2 : 0 ≤ at0 (ordL oC) j := by rw [ordL_at oC j (by omega)]; exact (at_all (Own.cok Hown.out).good _).1
            rw [trim_at]
            omega
          rw [ez, add_none, Nat.zero_add] at cz
          have hnext : putTold (xs.take (j + 1)) t3 = (putTold (xs.take j) t3).put x 3 := by rw [take_x xs j hjl, putTold_snoc, ← hx]
          have hpp : (putTold (xs.take j) t3).p ≤ t3.p + 3 * j := by rw [putTold_p]; have : (xs.take j).length ≤ j := List.length_take_le _ _; omega
          have Hnext := hide hnext
          have HP := hide hP
          clear hnext hP hx ez
          go_wp2_with fail
          refine (calls_args (pput_n T B o csj gj (putTold (xs.take j) t3) 3 x wr HP.out.pn (by omega) (by omega) (by omega)) (by rfl)).mono ?_
          rintro e wc ⟨rfl, csc, gc, hPc⟩
          have HPc := hide (HP.out.trans hPc)
          clear hPc
          go_wp2_with fail
          go_roundw
          case rel =>
            refine ⟨j + 1, csc, gc, by go_num, by omega, ?_⟩
            rw [Hnext.out]
            exact HPc.out
          case measure => simp [intOf]; omega
        · obtain rfl : j = X := by omega
          have e : xs.take j = xs := by rw [HXl.out, List.take_length]
          rw [e] at hP
          obtain ⟨t4, ht4⟩ : ∃ t4, t4 = putTold xs t3 := ⟨_, rfl⟩
          have hpt4 : t4.p ≤ t3.p + 57 := by rw [ht4, putTold_p, ← HXl.out]; omega
          rw [← ht4] at hP
          have HP4 := hide hP
          have Ht4 := hide ht4
          clear e hP ht4
          go_wp2_with fail
          go_loopw [13, 72] (fun _ ti wr => ∃ (k : Nat) (cs' : Array Value) (g' : Option Nat), ti = .int .i64 (k : Int) ∧ k ≤ i ∧ PGo T w8 wr B o cs cs' g g' (putMarks oC (ms.take k) t4)) (fun _ ti _ => i - (intOf ti).toNat)
          case atStart => exact ⟨0, _, _, rfl, by omega, HP4.out⟩
          case round =>
            obtain ⟨k, csk, gk, rfl, hk, hP⟩ := hrel
            by_cases hlt : k < i
            · have hlti : (k : Int) < (i : Int) := by omega
              have hkl : k < ms.length := by have := HM.out; omega
              have hwGw : ¬ (G = B ∨ g = some G) := not_pen Hlts.out (by omega)
              obtain ⟨m, hmv, m0, m1, m2⟩ := (HLM8.out.fr hP.fr hwGw) k hkl
              have hmem : m ∈ ms := by rw [hmv]; rw [List.getD_eq_getElem?_getD, List.getElem?_eq_getElem hkl]; exact List.getElem_mem hkl
              have hm3 := Hms2.out m hmem
              have hword : 1 ≤ at0 oC m.sym := Hown.out.word m (by rw [← Hms.out]; exact hmem)
              have hnext : putMarks oC (ms.take (k + 1)) t4 = putM (putMarks oC (ms.take k) t4) oC m := by rw [take_mk ms k hkl, putMarks_snoc, ← hmv]
              have hpp := putMarks_p (cl := oC) Hown.out.cok.good (ms.take k) (fun q hq => (Hms2.out q (List.mem_of_mem_take hq)).2.2) t4
              have htk : (ms.take k).length ≤ k := List.length_take_le _ _
              have hbQ := cells_at Hb8.out hP.fr (not_pen Hlts.out HwQ.out)
              have q0 := cell_of (o := 0) hbQ rfl
              have q1 := cell_of (o := 1) hbQ rfl
              have HCk := hide (Cd.go (o := o) HCd8.out (⟨by have := Hlts.out.2; have := Hlo.out; omega, fun z hz => by have := Hlts.out.1 z hz; have := Hlo.out; omega⟩ : Clear lo hi' B g) hP)
              obtain ⟨t5, ht5⟩ : ∃ t5, t5 = putMarks oC (ms.take k) t4 := ⟨_, rfl⟩
              rw [← ht5] at hP hnext hpp
              have hp5 : t5.p ≤ 2147460000 := by omega
              have HP := hide hP
              have Hnext := hide hnext
              have Hword := hide hword
              have Hm3 := hide hm3
              have hlQ : Q < wr.heap.size := lt_of hbQ
              clear hP hnext hword hm3 hmem hmv hpp htk hbQ ht5 hwGw
              obtain ⟨sy, fu, sz⟩ := m
              simp only at m0 m1 m2
              go_wp2_with fail
              obtain ⟨wd, hwd⟩ : ∃ wd, wd = wr.alloc (.cells #[.int .i64 (sy : Int), .int .i64 (fu : Int), .int .i64 (sz : Int)] 122) := ⟨_, rfl⟩
              have hFd : Fr (fun _ => False) wr wd := by rw [hwd]; exact Fr.of_alloc _ _
              rw [← hwd]
              have HFd := hide hFd
              clear hwd hFd
              refine (calls_args (putMark_c T lo hi' C B o csk oC gk t5 ⟨sy, fu, sz⟩ (some ⟨gC, 0, none⟩) 19 19 wd (HCk.out.keep HFd.out (fun _ _ _ e => e)) (HP.out.then HFd.out).pn hp5 (by have := Hm3.out.1; show sy < _; omega) Hword.out Hm3.out.2.2 Hm3.out.2.1) (by rfl)).mono ?_
              rintro e we ⟨rfl, cse, ge, hPe⟩
              have HPe := hide ((HP.out.then HFd.out).trans hPe)
              clear hPe
              go_wp2_with fail
              go_roundw
              case rel =>
                refine ⟨k + 1, cse, ge, by go_num, by omega, ?_⟩
                rw [Hnext.out]
                exact HPe.out
              case measure => simp [intOf]; omega
            · obtain rfl : k = i := by omega
              have e : ms.take k = ms := by rw [HM.out, List.take_length]
              rw [e] at hP
              have hfin : putMarks oC ms t4 = putCodes ll dl oC (xsOf oC) (marksOf ll dl) t := by
                unfold putCodes
                rw [Ht4.out, Ht3.out, Hn1.out, Hn2.out, Hn3.out, HN1.out, HN2.out, Hxs.out, Hms.out, HXx.out]
              rw [hfin] at hP
              have HP5 := hide (HP8.out.trans hP)
              clear hP e hfin
              go_wp2
              go_end0
              exact ⟨rfl, oC, csk, gk, by rw [← Hfq.out]; exact HLen.out, HP5.out⟩
end Go.Proofs.YtmefhngmgfmhoaaDoor

/-
  The lengths that Lengths answers are a function of the frequencies and the limit.
-/
namespace Go.Proofs.YtmefhngmgfmhoaaDoor
open Go.Sort (SortedIn)

theorem perm_sorted_eq {R : Nat → Nat → Prop} (anti : ∀ x y, R x y → R y x → x = y) : ∀ (l1 l2 : List Nat), l1.Perm l2 → l1.Pairwise R → l2.Pairwise R → l1 = l2 := by
  intro l1
  induction l1 with
  | nil => intro l2 hp _ _; exact hp.nil_eq
  | cons a t1 ih =>
    intro l2 hp h1 h2
    cases l2 with
    | nil => exact absurd hp.symm.nil_eq (by simp)
    | cons b t2 =>
      have hab : a = b := by
        have ha : a ∈ b :: t2 := hp.mem_iff.1 (by simp)
        have hb : b ∈ a :: t1 := hp.mem_iff.2 (by simp)
        rcases List.mem_cons.1 ha with e | e
        · exact e
        · rcases List.mem_cons.1 hb with e2 | e2
          · exact e2.symm
          · exact anti a b ((List.pairwise_cons.1 h1).1 b e2) ((List.pairwise_cons.1 h2).1 a e)
      subst hab
      rw [ih t2 (List.Perm.cons_inv hp) (List.pairwise_cons.1 h1).2 (List.pairwise_cons.1 h2).2]

theorem sorted_unique {fq : List Int} {d d' : Array Nat} {l : List Nat} (h1 : d.toList.Perm l) (h2 : d'.toList.Perm l) (s1 : SortedIn (ltF fq) 0 d.size d) (s2 : SortedIn (ltF fq) 0 d'.size d') : d = d' := by
  have key : ∀ e : Array Nat, SortedIn (ltF fq) 0 e.size e → e.toList.Pairwise (fun x y => ltF fq y x = false) := fun e s => by
    rw [List.pairwise_iff_getElem]
    intro i j hi hj hij
    have hj' : j < e.size := by simpa using hj
    have := s i j (Nat.zero_le _) hij hj'
    have hi' : i < e.size := by omega
    simpa [hi', hj'] using this
  have := perm_sorted_eq (R := fun x y => ltF fq y x = false) (fun x y a b => by rw [ltF_false] at a b; omega) d.toList d'.toList (h1.trans h2.symm) (key d s1) (key d' s2)
  exact Array.toList_inj.1 this

/-- There is but one answer. -/
theorem LenOk.det {fq : List Int} {L : Nat} {o o' : List Int} (h : LenOk fq L o) (h' : LenOk fq L o') : o = o' := by
  have hat : ∀ k, k < fq.length → at0 o k = at0 o' k := fun k hk => by
    by_cases hp : 0 < at0 fq k
    · have hmem := (posL_mem fq fq.length k).2 ⟨hk, hp⟩
      rcases (by omega : (posL fq fq.length).length = 0 ∨ (posL fq fq.length).length = 1 ∨ 2 ≤ (posL fq fq.length).length) with e | e | e
      · rw [List.length_eq_zero_iff.1 e] at hmem; cases hmem
      · have a := h.pos k hk hp
        have b := h'.pos k hk hp
        have c := h.one e k hk
        have d := h'.one e k hk
        omega
      · obtain ⟨d, p1, s1, v1⟩ := h.sor e
        obtain ⟨d', p2, s2, v2⟩ := h'.sor e
        obtain rfl := sorted_unique p1 p2 s1 s2
        have hm : k ∈ d.toList := p1.mem_iff.2 hmem
        obtain ⟨i, hi, e⟩ := List.mem_iff_getElem.1 hm
        have hi' : i < d.size := by simpa using hi
        have ek : d[i]! = k := by simp [hi'] at e ⊢; exact e
        rw [← ek, v1 i hi', v2 i hi']
    · rw [h.zero k hk hp, h'.zero k hk hp]
  apply List.ext_getElem (by rw [h.len, h'.len])
  intro i h1 h2
  have := hat i (by rw [← h.len]; exact h1)
  unfold at0 at this
  rw [List.getD_eq_getElem?_getD, List.getD_eq_getElem?_getD, List.getElem?_eq_getElem h1, List.getElem?_eq_getElem h2] at this
  exact this
end Go.Proofs.YtmefhngmgfmhoaaDoor

/-
  A block of the kind that has the fewest bits, as mathematics.
-/
namespace Go.Proofs.YtmefhngmgfmhoaaDoor
open Go.RowKit

def t0 : Bt := ⟨0, 0⟩

/-- Codes of counts. -/
structure Cds (ps : List Pc) (oL oD oC : List Int) : Prop where
  lL : LenOk (fL (tally ps)) 15 oL
  lD : LenOk (fD (tally ps)) 15 oD
  lC : LenOk (freqOf (trim oL 257) (trim oD 1)) 7 oC

/-- How many bits the codes have. -/
def codesP (oL oD oC : List Int) : Nat := (putCodes (trim oL 257) (trim oD 1) oC (xsOf oC) (marksOf (trim oL 257) (trim oD 1)) t0).p

def storedB (t : Bt) (raw : List Nat) : Int := ((padTo (t.p + 3) + 32 + 8 * raw.length : Nat) : Int)
def fixedB (ps : List Pc) : Int := allB fixL fixD (tally ps)
def ownB' (ps : List Pc) (oL oD oC : List Int) : Int := (codesP oL oD oC : Int) + allB (trim oL 257) (trim oD 1) (tally ps)

/-- The block that is put. -/
def blockF (t : Bt) (last : Bool) (raw : List Nat) (ps : List Pc) (oL oD oC : List Int) : Bt :=
  if storedB t raw ≤ fixedB ps ∧ storedB t raw ≤ ownB' ps oL oD oC then putStored t last raw
  else if fixedB ps ≤ ownB' ps oL oD oC then putFixed t last ps
  else putOwn t last (trim oL 257) (trim oD 1) oC (xsOf oC) (marksOf (trim oL 257) (trim oD 1)) ps

theorem putMarks_shift (cl : List Int) : ∀ (ms : List Mk) (t u : Bt), (putMarks cl ms t).p + u.p = (putMarks cl ms u).p + t.p := by
  intro ms
  induction ms with
  | nil => intro t u; show t.p + u.p = u.p + t.p; omega
  | cons m ms ih =>
    intro t u
    have := ih (putM t cl m) (putM u cl m)
    rw [putM_p, putM_p] at this
    simp only [putMarks]
    omega

theorem putCodes_shift (ll dl cl : List Int) (xs : List Nat) (ms : List Mk) (t : Bt) : (putCodes ll dl cl xs ms t).p = t.p + (putCodes ll dl cl xs ms t0).p := by
  unfold putCodes
  have h := putMarks_shift cl ms (putTold xs (((t.put (ll.length - 257) 5).put (dl.length - 1) 5).put (xs.length - 4) 4)) (putTold xs (((t0.put (ll.length - 257) 5).put (dl.length - 1) 5).put (xs.length - 4) 4))
  rw [putTold_p, putTold_p] at h
  have e1 : (((t.put (ll.length - 257) 5).put (dl.length - 1) 5).put (xs.length - 4) 4).p = t.p + 14 := rfl
  have e2 : (((t0.put (ll.length - 257) 5).put (dl.length - 1) 5).put (xs.length - 4) 4).p = 14 := rfl
  rw [e1, e2] at h
  omega

section
variable {ps : List Pc} {oL oD oC : List Int} {out : List Nat}

theorem Cds.len (h : Cds ps oL oD oC) : oL.length = 286 ∧ oD.length = 30 := ⟨by rw [h.lL.len, fL_len (tally_len ps)], by rw [h.lD.len, fD_len (tally_len ps)]⟩

theorem Cds.ll (h : Cds ps oL oD oC) : 257 ≤ (trim oL 257).length ∧ (trim oL 257).length ≤ 286 := by
  obtain ⟨a, b, _⟩ := trimN_ok oL 257 oL.length (at0_end oL)
  rw [trim_len]
  rw [h.len.1] at *
  exact ⟨b (by decide), a⟩

theorem Cds.dl (h : Cds ps oL oD oC) : 1 ≤ (trim oD 1).length ∧ (trim oD 1).length ≤ 30 := by
  obtain ⟨a, b, _⟩ := trimN_ok oD 1 oD.length (at0_end oD)
  rw [trim_len]
  rw [h.len.2] at *
  exact ⟨b (by decide), a⟩

theorem Cds.kl (h : Cds ps oL oD oC) : Cok (trim oL 257) := trim_cok 257 (lenOk_cok h.lL (by omega) (by rw [fL_len (tally_len ps)]; omega))
theorem Cds.kd (h : Cds ps oL oD oC) : Cok (trim oD 1) := trim_cok 1 (lenOk_cok h.lD (by omega) (by rw [fD_len (tally_len ps)]; omega))

theorem Cds.fin (h : Cds ps oL oD oC) (hm : mays ps out) : 1 ≤ at0 (trim oL 257) 256 := by
  rw [trim_at]
  exact (h.lL.pos 256 (by rw [fL_len (tally_len ps)]; omega) (by rw [fL_at _ (by omega)]; have := tally_end hm; omega)).1

theorem Cds.own (h : Cds ps oL oD oC) (hm : mays ps out) : Own (trim oL 257) (trim oD 1) oC (xsOf oC) (marksOf (trim oL 257) (trim oD 1)) :=
  own_of h.kl h.kd h.ll.1 h.ll.2 h.dl.1 h.dl.2 (h.fin hm) h.lC

/-- A block is read as what its pieces play, and ends no farther than a stored one would. -/
theorem block_leads {t : Bt} (ht : t.ok) (last : Bool) {raw : List Nat} (hr : raw.length ≤ 65535) (hb : ∀ b ∈ raw, b < 256) (hm : mays ps out) (hp : plays ps out = out ++ raw) (h : Cds ps oL oD oC) :
    (blockF t last raw ps oL oD oC).ok ∧ t.le (blockF t last raw ps oL oD oC) ∧ Leads (blockF t last raw ps oL oD oC) ⟨t.p, false, out, .ahead⟩ ⟨(blockF t last raw ps oL oD oC).p, last, out ++ raw, .ahead⟩ ∧
      (blockF t last raw ps oL oD oC).p ≤ t.p + 3 + padTo (t.p + 3) + 32 + 8 * raw.length := by
  obtain ⟨s1, s2, s3⟩ := putStored_ok ht last hr hb
  unfold blockF
  split
  · exact ⟨s1, s2, stored_leads ht last hr hb out, Nat.le_of_eq s3⟩
  · next hn =>
    split
    · next hf =>
      obtain ⟨a, b, c⟩ := fixed_leads ht last hm
      rw [hp] at c
      refine ⟨a, b, c, ?_⟩
      have e := tally_cost (ll := fixL) (dl := fixD) fixL_cok.good fixD_cok.good hm (putHead t last 1)
      have e2 := putHead_p t last 1
      have e3 : (putFixed t last ps).p = (putP fixL fixD ps (putHead t last 1)).p := rfl
      unfold storedB fixedB at *
      omega
    · next hf =>
      obtain ⟨a, b, c⟩ := own_leads ht last (h.own hm) hm (tally_told hm h.lL h.lD)
      rw [hp] at c
      refine ⟨a, b, c, ?_⟩
      have e := tally_cost (ll := trim oL 257) (dl := trim oD 1) h.kl.good h.kd.good hm (putCodes (trim oL 257) (trim oD 1) oC (xsOf oC) (marksOf (trim oL 257) (trim oD 1)) (putHead t last 2))
      have e1 := putCodes_shift (trim oL 257) (trim oD 1) oC (xsOf oC) (marksOf (trim oL 257) (trim oD 1)) (putHead t last 2)
      have e2 := putHead_p t last 2
      have e3 : (putOwn t last (trim oL 257) (trim oD 1) oC (xsOf oC) (marksOf (trim oL 257) (trim oD 1)) ps).p = (putP (trim oL 257) (trim oD 1) ps (putCodes (trim oL 257) (trim oD 1) oC (xsOf oC) (marksOf (trim oL 257) (trim oD 1)) (putHead t last 2))).p := rfl
      unfold storedB fixedB ownB' codesP at *
      omega

/-- Nor farther than one of the fixed code. -/
theorem block_fixed {t : Bt} (ht : t.ok) (last : Bool) {raw : List Nat} (hr : raw.length ≤ 65535) (hb : ∀ b ∈ raw, b < 256) (hm : mays ps out) (h : Cds ps oL oD oC) :
    (blockF t last raw ps oL oD oC).p ≤ (putFixed t last ps).p := by
  obtain ⟨s1, s2, s3⟩ := putStored_ok ht last hr hb
  have f := tally_cost (ll := fixL) (dl := fixD) fixL_cok.good fixD_cok.good hm (putHead t last 1)
  have f2 := putHead_p t last 1
  have f3 : (putFixed t last ps).p = (putP fixL fixD ps (putHead t last 1)).p := rfl
  unfold blockF
  split
  · next hn =>
    unfold storedB fixedB at *
    omega
  · next hn =>
    split
    · exact Nat.le_refl _
    · next hf =>
      have e := tally_cost (ll := trim oL 257) (dl := trim oD 1) h.kl.good h.kd.good hm (putCodes (trim oL 257) (trim oD 1) oC (xsOf oC) (marksOf (trim oL 257) (trim oD 1)) (putHead t last 2))
      have e1 := putCodes_shift (trim oL 257) (trim oD 1) oC (xsOf oC) (marksOf (trim oL 257) (trim oD 1)) (putHead t last 2)
      have e2 := putHead_p t last 2
      have e3 : (putOwn t last (trim oL 257) (trim oD 1) oC (xsOf oC) (marksOf (trim oL 257) (trim oD 1)) ps).p = (putP (trim oL 257) (trim oD 1) ps (putCodes (trim oL 257) (trim oD 1) oC (xsOf oC) (marksOf (trim oL 257) (trim oD 1)) (putHead t last 2))).p := rfl
      unfold storedB fixedB ownB' codesP at *
      omega
end
end Go.Proofs.YtmefhngmgfmhoaaDoor

/-
  A region that draws its order, of which one operation L comes behind all that reads: what is held need not hold behind L.
  (After the library's law on held regions; here L alone is exempt.)
-/
namespace Go.Proofs.YtmefhngmgfmhoaaDoor
open Go Go.RowKit

section
variable {P : Program} {ops : Array Oper} {Q : Exit → Act → World → Prop} {md : Region.Mode} {S : World → Prop} {L : Nat}

def wpAnyL (P : Program) (md : Region.Mode) (ops : Array Oper) (Q : Exit → Act → World → Prop) (S : World → Prop) (L : Nat) : Nat → Array Bool → Act → World → Prop
  | 0, listed, a, w => Region.ready md ops listed = [] ∧ Q .normal a w
  | fuel + 1, listed, a, w =>
    (Region.ready md ops listed = [] → Q .normal a w) ∧
    ∀ i ∈ Region.ready md ops listed, wpOp P ops Q i (fun a' w' => (i ≠ L → S w') ∧ wpAnyL P md ops Q S L fuel (listed.setIfInBounds i true) a' w') a w

theorem wpAny_of_L : ∀ (fuel : Nat) (listed : Array Bool) (a : Act) (w : World), wpAnyL P md ops Q S L fuel listed a w → wpAny P md ops Q fuel listed a w
  | 0, _, _, _, h => h
  | fuel + 1, _, _, _, h => ⟨h.1, fun i hi => wpOp_mono (fun a' w' h' => wpAny_of_L fuel _ a' w' h'.2) (h.2 i hi)⟩

/-- The operations of bl wait for number i, and have not come up. -/
def blocked (md : Region.Mode) (ops : Array Oper) (listed : Array Bool) (i L : Nat) (bl : List Nat) : Bool :=
  bl.contains L && !bl.contains i && bl.all fun j => !listed.getD j true && (match ops[j]? with
    | some oj => oj.after.any fun e => Region.binds md e && (e.on == i || bl.contains e.on)
    | none => false)

theorem not_ready {listed : Array Bool} {i : Nat} {bl : List Nat} (hi : listed.getD i true = false) (hb : blocked md ops listed i L bl = true) : ∀ j ∈ bl, j ∉ Region.ready md ops listed := by
  intro j hj hr
  simp only [blocked, Bool.and_eq_true, List.all_eq_true] at hb
  obtain ⟨_, oj, hoj, hall⟩ := mem_ready.1 hr
  have h1 := (hb.2 j hj).2
  simp only [hoj] at h1
  obtain ⟨e, he, h2⟩ := Array.any_eq_true'.1 h1
  simp only [Bool.and_eq_true, Bool.or_eq_true, beq_iff_eq, List.contains_iff_mem] at h2
  have h3 := hall e he h2.1
  have key : ∀ k, listed.getD k true = false → listed.getD k false = true → False := by
    intro k a b
    rw [Array.getD_eq_getD_getElem?] at a b
    cases h : listed[k]? with
    | none => rw [h] at a; cases a
    | some x => rw [h] at a b; simp only [Option.getD_some] at a b; rw [a] at b; cases b
  rcases h2.2 with h4 | h4
  · rw [h4] at h3; exact key i hi h3
  · have h5 := (hb.2 e.on h4).1
    exact key e.on (by simpa using h5) h3

theorem blocked_set {listed : Array Bool} {i j : Nat} {bl : List Nat} (hj : j ∉ bl) (hb : blocked md ops listed i L bl = true) : blocked md ops (listed.setIfInBounds j true) i L bl = true := by
  simp only [blocked, Bool.and_eq_true, List.all_eq_true] at hb ⊢
  refine ⟨hb.1, fun k hk => ⟨?_, (hb.2 k hk).2⟩⟩
  rw [getD_set_ne true (fun e => hj (by rw [e]; exact hk))]
  exact (hb.2 k hk).1

theorem wpAnyL_first {i : Nat} {oi : Oper} {v : Value} {bl : List Nat} (hi : ops[i]? = some oi) (hsel : ∀ (j : Nat) (o : Oper) cs b, ops[j]? = some o → o.op ≠ .select cs b)
    (hQ : ∀ c a w, Q (.panic c) (a.put oi.dst v) w → Q (.panic c) a w) :
    ∀ (fuel : Nat) (listed : Array Bool) (a : Act) (w : World),
      (∀ j oj, ops[j]? = some oj → j ≠ i → listed.getD j true = false → (∀ e ∈ oj.after, Region.binds md e = true → e.on ≠ i) → oi.apart ops oj = true) →
      i ∈ Region.ready md ops listed → blocked md ops listed i L bl = true → YieldsIf P ops S oi v a → S w →
      wpAnyL P md ops Q S L fuel (listed.setIfInBounds i true) (a.put oi.dst v) w → wpAnyL P md ops Q S L (fuel + 1) listed a w := by
  intro fuel
  induction fuel with
  | zero =>
    intro listed a w _ hr _ hy hS H
    refine ⟨fun h => (by rw [h] at hr; cases hr), fun j hj => ?_⟩
    by_cases hji : j = i
    · subst hji; exact hy.wpOp hi hS ⟨fun _ => hS, H⟩
    · have := ready_mono hj hji
      rw [H.1] at this
      cases this
  | succ fuel ih =>
    intro listed a w hfree hr hb hy hS H
    refine ⟨fun h => (by rw [h] at hr; cases hr), fun j hj => ?_⟩
    by_cases hji : j = i
    · subst hji; exact hy.wpOp hi hS ⟨fun _ => hS, H⟩
    · have h1 := H.2 j (ready_mono hj hji)
      obtain ⟨hjun, oj, hoj, hall⟩ := mem_ready.1 hj
      have hiun := (mem_ready.1 hr).1
      have hjbl : j ∉ bl := fun h => not_ready hiun hb j h hj
      have hLbl : L ∈ bl := by
        simp only [blocked, Bool.and_eq_true, List.contains_iff_mem] at hb
        exact hb.1.1
      have hjL : j ≠ L := fun e => hjbl (by rw [e]; exact hLbl)
      have hnot : ∀ e ∈ oj.after, Region.binds md e = true → e.on ≠ i := fun e he hb heq => by
        have h1 := hall e he hb
        have h0 := (mem_ready.1 hr).1
        rw [heq] at h1
        rcases Nat.lt_or_ge i listed.size with h' | h'
        · simp [h'] at h0 h1; rw [h0] at h1; cases h1
        · simp [Array.getElem?_eq_none h'] at h1
      have h2 := wpOp_putIf hoj (hfree j oj hoj hji hjun hnot) (fun cs b => hsel i oi cs b hi) (fun cs b => hsel j oj cs b hoj) hQ hy h1
      have hfree' : ∀ k ok, ops[k]? = some ok → k ≠ i → (listed.setIfInBounds j true).getD k true = false →
          (∀ e ∈ ok.after, Region.binds md e = true → e.on ≠ i) → oi.apart ops ok = true := fun k ok hk hki hun hno => by
        refine hfree k ok hk hki ?_ hno
        by_cases hjk : j = k
        · subst hjk; exact hjun
        · rw [getD_set_ne true hjk] at hun; exact hun
      refine wpOp_mono (fun a' w' h3 => ⟨fun _ => h3.2.1 hjL, ih (listed.setIfInBounds j true) a' w' hfree' (ready_mono hr (Ne.symm hji)) (blocked_set hjbl hb) h3.1 (h3.2.1 hjL) ?_⟩) h2
      rw [Array.setIfInBounds_comm _ _ hji]
      exact h3.2.2

/-- Take number i first. -/
theorem wpAnyL_take {i : Nat} {oi : Oper} {v : Value} {fuel : Nat} {listed : Array Bool} {a : Act} {w : World} (bl : List Nat) (hi : ops[i]? = some oi)
    (hs : Region.noSelect ops = true) (hf : Region.free md ops listed i = true) (hr : (Region.ready md ops listed).contains i = true) (hb : blocked md ops listed i L bl = true)
    (hQ : ∀ c a w, Q (.panic c) (a.put oi.dst v) w → Q (.panic c) a w) (hy : YieldsIf P ops S oi v a) (hS : S w)
    (h : wpAnyL P md ops Q S L fuel (listed.setIfInBounds i true) (a.put oi.dst v) w) : wpAnyL P md ops Q S L (fuel + 1) listed a w :=
  wpAnyL_first hi (Region.noSelect_spec hs) hQ fuel listed a w (Region.free_spec hi hf) (by simpa using hr) hb hy hS h

/-- Number i alone can come up. -/
theorem wpAnyL_one {i : Nat} {o : Oper} {fuel : Nat} {listed : Array Bool} {a : Act} {w : World} (hr : Region.ready md ops listed = [i]) (ho : ops[i]? = some o)
    (h : ∀ K' : Act → World → Prop, Shut (∀ a w, (i ≠ L → S w) → ((i ≠ L → S w) → wpAnyL P md ops Q S L fuel (listed.setIfInBounds i true) a w) → K' a w) → if Region.wanted o (yielded ops a.tmps) = true then Oper.wp P o a w K' Q else K' (a.put o.dst undef) w) :
    wpAnyL P md ops Q S L (fuel + 1) listed a w :=
  ⟨fun h0 => absurd (hr ▸ h0) (by simp), by
    rw [hr]
    intro j hj
    rcases List.mem_singleton.1 hj with rfl
    exact wpOp_step ho (fun K' hK => h K' (fun a w hS hW => hK a w ⟨hS, hW hS⟩))⟩

theorem wpAnyL_done {listed : Array Bool} {a : Act} {w : World} (hr : Region.ready md ops listed = []) (h : Q .normal a w) :
    ∀ fuel, wpAnyL P md ops Q S L fuel listed a w
  | 0 => ⟨hr, h⟩
  | _ + 1 => ⟨fun _ => h, by rw [hr]; simp⟩

theorem wp_region_L {id : Nat} {a : Act} {w : World} (L : Nat) (hm : P.follows .mixedOrders = true) (hS : S w.drew)
    (h : S w.drew → wpAnyL P .any ops Q S L ops.size (Array.replicate ops.size false) a w.drew) : (Code.region id ops true).wp P Q a w :=
  wp_region_any hm (wpAny_of_L _ _ _ _ (h hS))

/-- A whole object is stored. -/
theorem wp_store_row {op : Oper} {a : Act} {w : World} {K : Act → World → Prop} (ty : TypeId) (x y : Operand) (ho : op.op = .store ty x y) (g : Nat) (t : TypeId) (old cells : Array Value)
    (hx : a.eval x = .pointer (some ⟨g, 0, none⟩)) (hy : a.eval y = .agg cells) (hg : w.heap[g]? = some (.cells old t (0, 0))) (hi : (P.info? ty).map (·.size) = some cells.size)
    (hz : old.size = cells.size) (h1 : cells.all (·.oneCell') = true) (h : K (a.put op.dst undef) (w.setRow g cells)) : op.wp P a w K Q := by
  unfold Oper.wp execOp
  simp only [ho, hx, hy, Instr.storeAt, Instr.sureAddr, Sem.run_bind, Sem.run_pure, Result.andThen_ok, run_storeVar_row w g t ty old cells hg hi hz h1]
  exact h
end
end Go.Proofs.YtmefhngmgfmhoaaDoor

/-
  What all of a block's pieces count.
-/
namespace Go.Proofs.YtmefhngmgfmhoaaDoor
open Go.RowKit

theorem Tryd.zero94 (w : World) : (zeroValue 94).run Tryd.prog w = .ok (.agg (cellsZ zero317).toArray) w := by kernel_rfl

theorem results_cell {fn : Func} {tmps : Array Value} {P : Program} {w : World} {t : Nat} {ty : TypeId} {a : Addr} {v : Value} (hf : fn.results = #[.cell t ty]) (ht : tmps[t]? = some (.pointer (some a))) (hl : (loadVar ty a).run P w = .ok v w) :
    (results fn tmps).run P w = .ok v w := by
  simp [results, hf, asAddr, ht, hl]

theorem row_of {P : Program} {ty : TypeId} (h : (P.underlying ty).map TypeDesc.isRow = some true) : ∃ d, P.underlying ty = some d ∧ d.isRow = true := by
  cases e : P.underlying ty with
  | none => rw [e] at h; cases h
  | some d => rw [e] at h; exact ⟨d, rfl, by simpa using h⟩

theorem Tryd.und94 : ∃ d, Tryd.prog.underlying 94 = some d ∧ d.isRow = true ∧ (Tryd.prog.info? 94).map (·.size) = some 317 := by
  obtain ⟨d, h1, h2⟩ := row_of (P := Tryd.prog) (ty := 94) (by kernel_rfl)
  exact ⟨d, h1, h2, by kernel_rfl⟩

theorem cntZ_zn {ps : List Pc} {out : List Nat} (hm : mays ps out) (i : Nat) : Zn (cntZ (ps.take i) zero317) (ps.take i).length := by
  have := Zn.cnt (ps.take i) out zero317 0 Zn.zero (mays_take hm i)
  rwa [Nat.zero_add] at this

theorem rangeAt_cells {w : World} {b : Nat} {cs : List Value} {T : TypeId} (h : w.heap[b]? = some (.cells cs.toArray T (0, 0))) : w.rangeAt b 0 cs := fun j v hv => by
  rw [Nat.zero_add]
  exact cell_of h (by simpa using hv)

theorem there_cells {w : World} {b n : Nat} {cs : Array Value} {T : TypeId} (h : w.heap[b]? = some (.cells cs T (0, 0))) (hn : n ≤ cs.size) : w.there b 0 n := fun j hj => by
  rw [Nat.zero_add]
  exact ⟨by rw [cell_of h (Array.getElem?_eq_getElem (show j < cs.size by omega))]; rfl, frozen_of h⟩

set_option maxHeartbeats 1600000 in
set_option maxRecDepth 100000 in
theorem count_c (a : Option Addr) (D f n c : Nat) (ps : List Pc) (out : List Nat) (w : World) (ha : 0 < n → a = some ⟨D, f, none⟩) (hP : LiesP w D f ps) (hn : n = ps.length) (hn6 : n ≤ 65535) (hm : mays ps out) :
    Calls Tryd.prog 40 #[.slice a n c] w fun e w' => e = .returned (.agg (cellsZ (tally ps)).toArray) ∧ Fr (fun _ => False) w w' := by
  have hz := Tryd.zero94
  obtain ⟨zs, hzs⟩ : ∃ zs, zs = (cellsZ zero317).toArray := ⟨_, rfl⟩
  rw [← hzs] at hz
  obtain ⟨R, hR⟩ : ∃ R, R = w.heap.size := ⟨_, rfl⟩
  obtain ⟨w1, hw1⟩ : ∃ w1, w1 = w.alloc (.cells zs 94) := ⟨_, rfl⟩
  obtain ⟨A, hA⟩ : ∃ A, A = w1.heap.size := ⟨_, rfl⟩
  obtain ⟨w2, hw2⟩ : ∃ w2, w2 = w1.alloc (.cells zs 94) := ⟨_, rfl⟩
  have hF1 : Fr (fun _ => False) w w1 := by rw [hw1]; exact Fr.of_alloc _ _
  have hF2 : Fr (fun _ => False) w1 w2 := by rw [hw2]; exact Fr.of_alloc _ _
  have hbR : w2.heap[R]? = some (.cells zs 94 (0, 0)) := cells_at (by rw [hw1]; exact heap_alloc_at hR) hF2 (fun e => e)
  have hbA : w2.heap[A]? = some (.cells zs 94 (0, 0)) := by rw [hw2]; exact heap_alloc_at hA
  have hTA : Tl w2 A zero317 := ⟨by rw [← hzs]; exact hbA, zero317_len⟩
  have hRA : R < A := by rw [hR, hA, hw1]; simp
  have HA' : Hid (A = w.heap.size + 1) := by show _ = _; rw [hA, hw1]; simp
  have hwR : w.heap.size ≤ R := by omega
  have hDl : ∀ v j, w.cell? ⟨D, j, none⟩ = some v → D < R := fun v j hv => by rw [hR]; exact cell_lt hv
  have HDl := hide hDl
  have HP := hide hP
  have Ha := hide ha
  have Hn := hide hn
  have Hm := hide hm
  have HTA := hide hTA
  have HbR := hide hbR
  have HF2 := hide (hF1.join hF2)
  have Hw1 := hide hw1
  have Hw2 := hide hw2
  have HR := hide hR
  have HA := hide hA
  have Hzs := hide hzs
  have hni : (n : Int) ≤ 65535 := by omega
  clear hDl hP ha hn hm hTA hbR hbA hF1 hF2 hw1 hw2 hR hA hzs
  go_enter Tryd.func40, Tryd.ntmps40
  go_wp2_with fail
  rw [← Hw1.out, ← Hw2.out, ← HA'.out, ← HR.out]
  go_loopw [5, 8] (fun _ ti wr => ∃ i : Nat, ti = .int .i64 i ∧ i ≤ n ∧ Tl wr A (cntZ (ps.take i) zero317) ∧ Fr (fun k => k = A) w2 wr) (fun _ ti _ => n - (intOf ti).toNat)
  case atStart => exact ⟨0, rfl, by omega, HTA.out, Fr.refl _ _⟩
  case round =>
    obtain ⟨i, rfl, hi, hT, hF⟩ := hrel
    by_cases hlt : i < n
    · obtain rfl := Ha.out (by omega)
      have hlti : (i : Int) < (n : Int) := by omega
      have hil : i < ps.length := by have := Hn.out; omega
      obtain ⟨p, hpv⟩ : ∃ p, p = ps.getD i ⟨0, 0, 0⟩ := ⟨_, rfl⟩
      have hcell : ∀ k, k < 3 → wr.cell? ⟨D, f + i * 3 + k, none⟩ = (pcCells p)[k]? := by
        intro k hk
        have h1 := HP.out i hil k hk
        rw [← hpv] at h1
        rw [← h1]
        have hk' : k < (pcCells p).length := hk
        have hv : w.cell? ⟨D, f + i * 3 + k, none⟩ = some ((pcCells p)[k]) := by rw [h1]; exact List.getElem?_eq_getElem hk'
        have hlD := HDl.out _ _ hv
        exact (cell_blk (hF.block D (Nat.lt_of_lt_of_le (cell_lt hv) HF2.out.size) (by omega))).trans (cell_blk (HF2.out.block D (cell_lt hv) (fun e => e)))
      have d0 : wr.cell? ⟨D, f + i * 3, none⟩ = some (.int .u8 (p.lit : Int)) := hcell 0 (by omega)
      have d1 : wr.cell? ⟨D, f + i * 3 + 1, none⟩ = some (.int .u16 (p.len : Int)) := hcell 1 (by omega)
      have d2 : wr.cell? ⟨D, f + i * 3 + 2, none⟩ = some (.int .u16 (p.back : Int)) := hcell 2 (by omega)
      have hmay := mays_at Hm.out hil
      rw [← hpv] at hmay
      have hnext : cntZ (ps.take (i + 1)) zero317 = addZ (cntZ (ps.take i) zero317) p := by rw [take_pc ps i hil, cntZ_snoc, ← hpv]
      have Hnext := hide hnext
      have hZ := cntZ_zn Hm.out i
      have hZb : ∀ j, 0 ≤ at0 (cntZ (ps.take i) zero317) j ∧ at0 (cntZ (ps.take i) zero317) j ≤ 10000000 := fun j => by
        have := hZ.all j
        have hl : (ps.take i).length ≤ i := List.length_take_le _ _
        exact ⟨this.1, by omega⟩
      have HZb := hide hZb
      have Hmay := hide hmay
      have HT := hide hT
      have HF := hide hF
      clear hcell hmay hnext hZ hZb hT hF hpv
      obtain ⟨lt, l, b⟩ := p
      simp only at d0 d1 d2
      go_wp2_with fail
      obtain ⟨w3, hw3⟩ : ∃ w3, w3 = wr.alloc (.cells #[.int .u8 (lt : Int), .int .u16 (l : Int), .int .u16 (b : Int)] 88) := ⟨_, rfl⟩
      have hF3 : Fr (fun _ => False) wr w3 := by rw [hw3]; exact Fr.of_alloc _ _
      rw [← hw3]
      have HF3 := hide hF3
      clear hw3 hF3
      refine (calls_args (tallyAdd_c A ⟨lt, l, b⟩ _ _ w3 (HT.out.fr HF3.out (fun e => e)) Hmay.out HZb.out) (by rfl)).mono ?_
      rintro e w4 ⟨rfl, hT4, hF4⟩
      have HT4 := hide hT4
      have HF4 := hide ((HF.out.trans (HF3.out.trans hF4)).mono (S' := fun k => k = A) fun _ _ e => by
        rcases e with e | e | e
        · exact e
        · exact e.elim
        · exact e)
      clear hT4 hF4
      go_wp2_with fail
      go_roundw
      case rel =>
        refine ⟨i + 1, by go_num, by omega, ?_, HF4.out⟩
        rw [Hnext.out]
        exact HT4.out
      case measure => simp [intOf]; omega
    · obtain rfl : i = n := by omega
      have e : ps.take i = ps := by rw [Hn.out, List.take_length]
      rw [e] at hT
      have hZ := cntZ_zn Hm.out ps.length
      rw [List.take_length] at hZ
      have t1 := hT.cell (i := 256) (by omega)
      have t2 := frozen_of (o := 256) hT.blk
      have z1 := hZ.low 256
      have z2 := hZ.high 256 (by omega)
      have z3 : at0 (cntZ ps zero317) 256 ≤ 65535 := by have := Hn.out; omega
      obtain ⟨x, hx⟩ : ∃ x, x = at0 (cntZ ps zero317) 256 := ⟨_, rfl⟩
      rw [← hx] at t1 z1 z3
      have hT5 := hT.set 256 1
      rw [← hx] at hT5
      have HT5 := hide hT5
      have HF := hide hF
      clear hT hF hZ z2 hx hT5 e hz
      go_upto_region 8 with fail
      obtain ⟨w5, hw5⟩ : ∃ w5, w5 = wr.setCell ⟨A, 256, none⟩ (.int .i64 (x + 1)) := ⟨_, rfl⟩
      have HT6 : Hid (Tl w5 A (tally ps)) := by show Tl _ _ _; rw [hw5]; exact HT5.out
      have HG5 : Hid (Fr (fun k => k = A) w2 w5) := by show Fr _ _ _; rw [hw5]; exact HF.out.join (Fr.of_setCell _ ⟨A, 256, none⟩ _)
      rw [← hw5]
      clear hw5 t1 t2
      obtain ⟨L, hL⟩ : ∃ L, L = cellsZ (tally ps) := ⟨_, rfl⟩
      have hsz : L.length = 317 := by rw [hL]; simp [cellsZ, tally_len]
      have hone : L.toArray.all (·.oneCell') = true := by rw [hL]; exact all_oneCell_toArray cellsZ_one
      have hblk : w5.heap[A]? = some (.cells L.toArray 94 (0, 0)) := by rw [hL]; exact HT6.out.blk
      have hblR : w5.heap[R]? = some (.cells zs 94 (0, 0)) := cells_at HbR.out HG5.out (by omega)
      have hzsz : zs.size = L.toArray.size := by rw [Hzs.out]; simp [cellsZ, zero317_len, hsz]
      obtain ⟨d, u1, u2, u3⟩ := Tryd.und94
      rw [← hsz] at u3
      have HL := hide hL
      have HbR5 := hide hblR
      have Hblk := hide hblk
      have U1 := hide u1
      have U3 := hide u3
      have Hone := hide hone
      clear hL u1 u3 hblR hblk hone
      apply wp_region_lit
      refine wpList_load_mid rfl 94 (.tmp 3) rfl A 0 rfl L d (rangeAt_cells Hblk.out) U1.out u2 U3.out ?_
      refine wpList_plain rfl fun K hK => wp_store_row 94 (.tmp 2) (.tmp 21) rfl R 94 zs L.toArray rfl rfl HbR5.out (by rw [List.size_toArray]; exact U3.out) hzsz Hone.out ?_
      refine hK _ _ (wpList_nil ?_)
      have hfin := setRow_heap w5 R zs L.toArray 94 (0, 0) HbR5.out
      have hfr : Fr (fun k => k = R) w5 (w5.setRow R L.toArray) := ⟨rfl, rfl, rfl, by simp, fun j _ hj => setRow_other _ _ _ _ hj⟩
      generalize w5.setRow R L.toArray = w6 at *
      have Hfin := hide hfin
      have HFr : Hid (Fr (fun _ => False) w w6) := ((HF2.out.trans HG5.out).trans hfr).mono fun j hj e => by
        rcases e with (e | e) | e
        · exact e
        · omega
        · omega
      clear hK K hfin hfr
      go_wp2
      refine bodyPost_ret (v := .agg L.toArray) ?_ rfl ⟨by rw [HL.out], HFr.out⟩
      have hld := run_loadVar_mid w6 R 0 94 L d (rangeAt_cells Hfin.out) U1.out u2 U3.out
      exact results_cell (t := 2) Tryd.results40 rfl hld
end Go.Proofs.YtmefhngmgfmhoaaDoor

/-
  Pens: a block of the kind that has the fewest bits.
-/
namespace Go.Proofs.YtmefhngmgfmhoaaDoor
open Go.RowKit

theorem Tryd.zero71 (w : World) : (zeroValue 71).run Tryd.prog w = .ok (.agg #[.slice none 0 0, .int .i64 0, .slice none 0 0, .int .i64 0, .int .i64 0]) w := by kernel_rfl

theorem Tl.liesL {w : World} {A : Nat} {Z : List Int} (h : Tl w A Z) : LiesI w (some ⟨A, 0, none⟩) (fL Z) := fun j hj => by
  have hj' : j < 286 := by rw [fL_len h.len] at hj; exact hj
  refine ⟨_, rfl, ?_⟩
  rw [add_none, Nat.zero_add, fL_at _ hj']
  exact h.cell (by omega)

theorem Tl.liesD {w : World} {A : Nat} {Z : List Int} (h : Tl w A Z) : LiesI w (some ⟨A, 286, none⟩) (fD Z) := fun j hj => by
  have hj' : j < 30 := by rw [fD_len h.len] at hj; exact hj
  refine ⟨_, rfl, ?_⟩
  rw [add_none, fD_at _ hj']
  exact h.cell (by omega)

/-- What a block's sizes are reckoned of. -/
structure St9 (W : World) (P1 : Nat) (cp : Int) (gL N1 C1 gD N2 C2 : Nat) (a1 : Option Addr) (c1 X1 : Nat) (a2 : Option Addr) (c2 X2 : Nat) : Prop where
  p : W.cell? ⟨P1 + 1 + 1, 4, none⟩ = some (.int .i64 cp)
  o0 : W.cell? ⟨P1, 0, none⟩ = some (.slice (some ⟨gL, 0, none⟩) N1 286)
  o1 : W.cell? ⟨P1, 1, none⟩ = some (.pointer (some ⟨C1, 0, none⟩))
  o2 : W.cell? ⟨P1, 2, none⟩ = some (.slice (some ⟨gD, 0, none⟩) N2 30)
  o3 : W.cell? ⟨P1, 3, none⟩ = some (.pointer (some ⟨C2, 0, none⟩))
  f0 : W.cell? ⟨P1 + 1, 0, none⟩ = some (.slice a1 288 c1)
  f1 : W.cell? ⟨P1 + 1, 1, none⟩ = some (.pointer (some ⟨X1, 0, none⟩))
  f2 : W.cell? ⟨P1 + 1, 2, none⟩ = some (.slice a2 32 c2)
  f3 : W.cell? ⟨P1 + 1, 3, none⟩ = some (.pointer (some ⟨X2, 0, none⟩))

theorem St9.fr {w w' : World} {P1 : Nat} {cp : Int} {gL N1 C1 gD N2 C2 : Nat} {a1 : Option Addr} {c1 X1 : Nat} {a2 : Option Addr} {c2 X2 : Nat} (h : St9 w P1 cp gL N1 C1 gD N2 C2 a1 c1 X1 a2 c2 X2) {S : Nat → Prop} (f : Fr S w w') (h1 : ¬ S P1) (h2 : ¬ S (P1 + 1)) (h3 : ¬ S (P1 + 1 + 1)) : St9 w' P1 cp gL N1 C1 gD N2 C2 a1 c1 X1 a2 c2 X2 := by
  have k : ∀ (b i : Nat) (v : Value), ¬ S b → w.cell? ⟨b, i, none⟩ = some v → w'.cell? ⟨b, i, none⟩ = some v := fun b i v hb hc => (cell_blk (a := ⟨b, i, none⟩) (f.block b (cell_lt hc) hb)).trans hc
  exact ⟨k _ _ _ h3 h.p, k _ _ _ h1 h.o0, k _ _ _ h1 h.o1, k _ _ _ h1 h.o2, k _ _ _ h1 h.o3, k _ _ _ h2 h.f0, k _ _ _ h2 h.f1, k _ _ _ h2 h.f2, k _ _ _ h2 h.f3⟩

theorem three_new (w4 : World) (P1 : Nat) (hP1 : P1 = w4.heap.size) (x y z : Array Value) (T1 T2 T3 : TypeId) {w5 : World} (hw5 : w5 = ((w4.alloc (.cells x T1)).alloc (.cells y T2)).alloc (.cells z T3)) :
    w5.heap[P1]? = some (.cells x T1 (0, 0)) ∧ w5.heap[P1 + 1]? = some (.cells y T2 (0, 0)) ∧ w5.heap[P1 + 1 + 1]? = some (.cells z T3 (0, 0)) ∧ Fr (fun _ => False) w4 w5 := by
  have f1 := Fr.of_alloc w4 (.cells x T1)
  have f2 := Fr.of_alloc (w4.alloc (.cells x T1)) (.cells y T2)
  have f3 := Fr.of_alloc ((w4.alloc (.cells x T1)).alloc (.cells y T2)) (.cells z T3)
  rw [hw5]
  exact ⟨cells_at (heap_alloc_at hP1) (f2.join f3) (fun e => e), cells_at (heap_alloc_at (by rw [hP1]; simp)) f3 (fun e => e), heap_alloc_at (by rw [hP1]; simp), (f1.join f2).join f3⟩

theorem codes_facts {ps : List Pc} {out : List Nat} (hm : mays ps out) {oL oD : List Int} (hL : LenOk (fL (tally ps)) 15 oL) (hD : LenOk (fD (tally ps)) 15 oD) : 257 ≤ (trim oL 257).length ∧ (trim oL 257).length ≤ 286 ∧ 1 ≤ (trim oD 1).length ∧ (trim oD 1).length ≤ 30 ∧ Cok (trim oL 257) ∧ Cok (trim oD 1) ∧ 1 ≤ at0 (trim oL 257) 256 := by
  have e1 : oL.length = 286 := by rw [hL.len, fL_len (tally_len ps)]
  have e2 : oD.length = 30 := by rw [hD.len, fD_len (tally_len ps)]
  obtain ⟨a, b, _⟩ := trimN_ok oL 257 oL.length (at0_end oL)
  obtain ⟨a', b', _⟩ := trimN_ok oD 1 oD.length (at0_end oD)
  refine ⟨?_, ?_, ?_, ?_, trim_cok 257 (lenOk_cok hL (by omega) (by rw [fL_len (tally_len ps)]; omega)), trim_cok 1 (lenOk_cok hD (by omega) (by rw [fD_len (tally_len ps)]; omega)), ?_⟩
  · rw [trim_len]; exact b (by omega)
  · rw [trim_len]; omega
  · rw [trim_len]; exact b' (by omega)
  · rw [trim_len]; omega
  · rw [trim_at]
    exact (hL.pos 256 (by rw [fL_len (tally_len ps)]; omega) (by rw [fL_at _ (by omega)]; have := tally_end hm; omega)).1

theorem codesP_le {ps : List Pc} {oL oD oC : List Int} {out : List Nat} (h : Cds ps oL oD oC) (hm : mays ps out) : codesP oL oD oC ≤ 10000 := by
  have ho := h.own hm
  obtain ⟨h1, h2⟩ := reps_all _ _ (marks_reps h.kl.good h.kd.good)
  have h3 := putMarks_p ho.cok.good (marksOf (trim oL 257) (trim oD 1)) (fun m hm => (h2 m hm).2.2) (putTold (xsOf oC) (((t0.put ((trim oL 257).length - 257) 5).put ((trim oD 1).length - 1) 5).put ((xsOf oC).length - 4) 4))
  rw [putTold_p] at h3
  have e2 : (((t0.put ((trim oL 257).length - 257) 5).put ((trim oD 1).length - 1) 5).put ((xsOf oC).length - 4) 4).p = 14 := rfl
  have h4 := (xs_len oC).2
  have h5 := h.ll.2
  have h6 := h.dl.2
  rw [List.length_append] at h1
  unfold codesP putCodes
  omega

theorem lt_of9 {w : World} {b i : Nat} {v : Value} (h : w.cell? ⟨b, i, none⟩ = some v) : b < w.heap.size := cell_lt h

/-- A new pen. -/
theorem pen_new {w : World} {B : Nat} (h : w.heap[B]? = some (.cells #[.slice none 0 0, .int .i64 0, .slice none 0 0, .int .i64 0, .int .i64 0] 71 (0, 0))) : Pn 71 w B 0 #[.slice none 0 0, .int .i64 0, .slice none 0 0, .int .i64 0, .int .i64 0] none t0 :=
  ⟨⟨[], ⟨⟨.slice none 0 0, h, rfl, rfl, World.ownsRow_nil _ _ _ _, rfl⟩, fun k hk => by cases hk⟩, ⟨rfl, fun b hb => absurd hb (by simp), by decide⟩, rfl⟩, rfl⟩

theorem stored_eq (t : Bt) (last : Bool) (raw : List Nat) : putRaw (putHead t last 0) raw = putStored t last raw := by
  unfold putRaw putStored
  rw [putHead_p]

theorem fix_256 : 1 ≤ at0 fixL 256 ∧ 256 < fixL.length := by decide +kernel

theorem liesP_fr {w w' : World} {S : Nat → Prop} {D f : Nat} {ps : List Pc} (h : LiesP w D f ps) (F : Fr S w w') (hn : 0 < ps.length → ¬ S D) : LiesP w' D f ps := fun i hi k hk => by
  have := h i hi k hk
  rw [← this]
  have hk' : k < (pcCells (ps.getD i ⟨0, 0, 0⟩)).length := hk
  have hv : w.cell? ⟨D, f + i * 3 + k, none⟩ = some ((pcCells (ps.getD i ⟨0, 0, 0⟩))[k]) := by rw [this]; exact List.getElem?_eq_getElem hk'
  exact cell_blk (F.block D (cell_lt hv) (hn (by omega)))

theorem liesP_lt {w : World} {D f : Nat} {ps : List Pc} (h : LiesP w D f ps) (hn : 0 < ps.length) : D < w.heap.size := by
  have := h 0 hn 0 (by omega)
  exact cell_lt (v := (.int .u8 ((ps.getD 0 ⟨0, 0, 0⟩).lit : Int))) this

set_option maxHeartbeats 3200000 in
set_option maxRecDepth 100000 in
theorem putBlock_c (T : TypeId) (B o : Nat) (cs : Array Value) (g : Option Nat) (t : Bt) (ra : Option Addr) (rn rc : Nat) (raw : List Nat) (a : Option Addr) (D f n c : Nat) (ps : List Pc) (last : Bool) (out : List Nat) (w : World)
    (h : Pn T w B o cs g t) (hp : t.p ≤ 1000000000) (hR : Lies w (.slice ra rn rc) raw) (hrn : rn = raw.length) (hr : rn ≤ 65535) (hb : ∀ b ∈ raw, b < 256) (hf : Far ra w B g)
    (ha : 0 < n → a = some ⟨D, f, none⟩) (hP : LiesP w D f ps) (hn : n = ps.length) (hn6 : n ≤ 65535) (hD : 0 < n → D ≠ B ∧ g ≠ some D) (hm : mays ps out) (hG : Gl w) (hnp : ¬ (0 = B ∨ g = some 0)) :
    Calls Tryd.prog 36 #[.pointer (some ⟨B, o, none⟩), .slice ra rn rc, .slice a n c, .bool last] w fun e w' => e = .returned (.tuple #[]) ∧ ∃ oL oD oC cs' g', Cds ps oL oD oC ∧ PGo T w w' B o cs cs' g g' (blockF t last raw ps oL oD oC) := by
  have hz := Tryd.zero94
  obtain ⟨zs, hzs⟩ : ∃ zs, zs = (cellsZ zero317).toArray := ⟨_, rfl⟩
  rw [← hzs] at hz
  have Hzs := hide hzs
  have Hcnt := hide (count_c a D f n c ps out w ha hP hn hn6 hm)
  have H := hide h
  have HR := hide hR
  have Hrn := hide hrn
  have Hb := hide hb
  have Hf := hide hf
  have Ha := hide ha
  have HP := hide hP
  have Hn := hide hn
  have HD := hide hD
  have Hm := hide hm
  have HG := hide hG
  have Hlts := hide h.wt.lts
  have Hnp0 := hide hnp
  have hni : (n : Int) ≤ 65535 := by omega
  have hri : (rn : Int) ≤ 65535 := by omega
  clear hzs h hR hrn hb hf ha hP hn hD hm hG hnp
  go_enter Tryd.func36, Tryd.ntmps36
  go_wp2_with fail
  refine (calls_args Hcnt.out (by rfl)).mono ?_
  rintro e w1 ⟨rfl, hF1⟩
  obtain ⟨L, hL⟩ : ∃ L, L = cellsZ (tally ps) := ⟨_, rfl⟩
  rw [← hL]
  have hsz : L.length = 317 := by rw [hL]; simp [cellsZ, tally_len]
  have hst := run_storeCells_from (P := Tryd.prog) w1.heap.size 94 L 0 zs (w1.alloc (.cells zs 94)) (heap_alloc_at rfl) (by rw [hsz, Hzs.out]; simp [cellsZ, zero317_len]) (by rw [hL]; exact cellsZ_one)
  simp only [List.take_zero, List.nil_append] at hst
  obtain ⟨w2, hw2⟩ : ∃ w2, w2 = (w1.alloc (.cells zs 94)).setRow w1.heap.size L.toArray := ⟨_, rfl⟩
  rw [← hw2] at hst
  have hb2 : w2.heap[w1.heap.size]? = some (.cells L.toArray 94 (0, 0)) := by rw [hw2]; exact setRow_heap _ _ _ _ _ _ (heap_alloc_at rfl)
  have hF2 : Fr (fun _ => False) w1 w2 := by
    rw [hw2]
    have f1 := Fr.of_alloc w1 (.cells zs 94)
    have f2 : Fr (fun k => k = w1.heap.size) (w1.alloc (.cells zs 94)) ((w1.alloc (.cells zs 94)).setRow w1.heap.size L.toArray) := ⟨rfl, rfl, rfl, by simp, fun j _ hj => setRow_other _ _ _ _ hj⟩
    exact fr_false_new f1 f2 (fun i e => Nat.le_of_eq e.symm)
  have hT2 : Tl w2 w1.heap.size (tally ps) := ⟨by rw [← hL]; exact hb2, tally_len ps⟩
  obtain ⟨A, hA⟩ : ∃ A, A = w1.heap.size := ⟨_, rfl⟩
  rw [← hA] at hT2
  have hwA : w.heap.size ≤ A := by rw [hA]; exact hF1.size
  have HA := hide hA
  have HT2 := hide hT2
  have HF2 := hide (hF1.join hF2)
  have HL := hide hL
  clear hL hF1 hw2 hb2 hF2 hT2 hA
  go_wp2_with fail
  rw [← HA.out]
  obtain ⟨g1, g2⟩ := tally_good Hm.out (by rw [← Hn.out]; exact hn6)
  refine (calls_args (ownCodes_c A (fL (tally ps)) (fD (tally ps)) w2 HT2.out.liesL HT2.out.liesD (fL_len (tally_len ps)) (fD_len (tally_len ps)) g1 g2) (by rfl)).mono ?_
  rintro e w3 ⟨oL, oD, gL, gD, C1, C2, hlL, hlD, rfl, hLL, hLD, hgL1, hgL2, hgD1, hgD2, hC1, hC2, hF3⟩
  have HlL := hide hlL
  have HlD := hide hlD
  have HLL := hide hLL
  have HLD := hide hLD
  have HC1 := hide hC1
  have HC2 := hide hC2
  have HF3 := hide (HF2.out.join hF3)
  have HT3 := hide (HT2.out.fr hF3 (fun e => e))
  have Hs2 := hide HF2.out.size
  obtain ⟨N1, hN1⟩ : ∃ N1, N1 = (trim oL 257).length := ⟨_, rfl⟩
  obtain ⟨N2, hN2⟩ : ∃ N2, N2 = (trim oD 1).length := ⟨_, rfl⟩
  rw [← hN1, ← hN2]
  have hs23 := hF3.size
  have HN1 := hide hN1
  have HN2 := hide hN2
  have Hg1 := hide g1
  have Hg2 := hide g2
  clear hlL hlD hLL hLD hC1 hC2 hF3 hN1 hN2 hst hsz g1 g2 hz
  go_wp2_with fail
  refine (calls_args (fixedCodes_c w3) (by rfl)).mono ?_
  rintro e w4 ⟨a1, c1, X1, a2, c2, X2, rfl, hX1, hX2, hF4⟩
  have HX1 := hide hX1
  have HX2 := hide hX2
  have Hs3 := hide HF3.out.size
  have HF4 := hide (HF3.out.join hF4)
  have HT4 := hide (HT3.out.fr hF4 (fun e => e))
  have HC1b := hide (HC1.out.keep hF4 (fun _ _ _ e => e))
  have HC2b := hide (HC2.out.keep hF4 (fun _ _ _ e => e))
  have HLL4 := hide (HLL.out.fr hF4)
  have HLD4 := hide (HLD.out.fr hF4)
  have hs34 := hF4.size
  clear hX1 hX2 hF4 HC1 HC2 HLL HLD
  go_wp2_with fail
  obtain ⟨P1, hP1⟩ : ∃ P1, P1 = w4.heap.size := ⟨_, rfl⟩
  obtain ⟨w5, hw5⟩ : ∃ w5, w5 = ((w4.alloc (.cells #[.slice (some ⟨gL, 0, none⟩) N1 286, .pointer (some ⟨C1, 0, none⟩), .slice (some ⟨gD, 0, none⟩) N2 30, .pointer (some ⟨C2, 0, none⟩)] 100)).alloc (.cells #[.slice a1 288 c1, .pointer (some ⟨X1, 0, none⟩), .slice a2 32 c2, .pointer (some ⟨X2, 0, none⟩)] 100)).alloc (.cells #[.slice none 0 0, .int .i64 0, .slice none 0 0, .int .i64 0, .int .i64 0] 71) := ⟨_, rfl⟩
  rw [← hw5, ← hP1]
  obtain ⟨q1, q2, q3, hF5⟩ := three_new w4 P1 hP1 _ _ _ _ _ _ hw5
  have HF5 := hide (HF4.out.join hF5)
  have HT5 := hide (HT4.out.fr hF5 (fun e => e))
  have HC1c := hide (HC1b.out.keep hF5 (fun _ _ _ e => e))
  have HC2c := hide (HC2b.out.keep hF5 (fun _ _ _ e => e))
  have HX1c := hide (HX1.out.keep hF5 (fun _ _ _ e => e))
  have HX2c := hide (HX2.out.keep hF5 (fun _ _ _ e => e))
  have hwP : w.heap.size ≤ P1 := by rw [hP1]; exact HF4.out.size
  have Hq1 := hide q1
  have Hq2 := hide q2
  have Hpn := hide (pen_new q3)
  have hcl : 257 ≤ (trim oL 257).length ∧ (trim oL 257).length ≤ 286 ∧ 1 ≤ (trim oD 1).length ∧ (trim oD 1).length ≤ 30 ∧ Cok (trim oL 257) ∧ Cok (trim oD 1) ∧ 1 ≤ at0 (trim oL 257) 256 := codes_facts Hm.out HlL.out HlD.out
  have Hcl := hide hcl
  have HPC := hide (putCodes_c 71 (P1 + 1 + 1) 0 _ none t0 gL 286 C1 gD 30 C2 (trim oL 257) (trim oD 1) w5 Hpn.out (by simp [t0]) (HLL4.out.fr hF5) (HLD4.out.fr hF5) hcl.2.2.2.2.1 hcl.2.2.2.2.2.1 hcl.1 hcl.2.1 hcl.2.2.1 hcl.2.2.2.1 hcl.2.2.2.2.2.2 (HG.out.keep HF5.out (fun e => e)))
  have HLL5 := hide (HLL4.out.fr hF5)
  have HLD5 := hide (HLD4.out.fr hF5)
  have HP1 := hide hP1
  clear hw5 q1 q2 q3 hF5 hcl hP1 HLL4 HLD4 HC1b HC2b HX1 HX2
  rw [← HN1.out, ← HN2.out] at HPC
  refine (calls_args HPC.out (by rfl)).mono ?_
  rintro e w6 ⟨rfl, oC, cs6, g6, hlC, hP6⟩
  have hCds : Cds ps oL oD oC := ⟨HlL.out, HlD.out, hlC⟩
  have HCds := hide hCds
  obtain ⟨cp, hcp⟩ : ∃ cp, cp = codesP oL oD oC := ⟨_, rfl⟩
  have hcw : w6.cell? ⟨P1 + 1 + 1, 4, none⟩ = some (.int .i64 (cp : Int)) := by rw [hcp]; exact cell_of (o := 4) hP6.pn.wt.blk.1 hP6.pn.wr
  have hcpb : cp ≤ 10000 := by rw [hcp]; exact codesP_le hCds Hm.out
  have hF6 : Fr (fun i => i = P1 + 1 + 1) w5 w6 := hP6.fr.mono fun i _ e => e.elim id (fun e => by cases e)
  have hFw6 : Fr (fun _ => False) w w6 := fr_false_new HF5.out hF6 (fun i e => by omega)
  have k1 := cells_at Hq1.out hF6 (by omega)
  have k2 := cells_at Hq2.out hF6 (by omega)
  have hS0 : St9 w6 P1 (cp : Int) gL N1 C1 gD N2 C2 a1 c1 X1 a2 c2 X2 := ⟨hcw, cell_of (o := 0) k1 rfl, cell_of (o := 1) k1 rfl, cell_of (o := 2) k1 rfl, cell_of (o := 3) k1 rfl, cell_of (o := 0) k2 rfl, cell_of (o := 1) k2 rfl, cell_of (o := 2) k2 rfl, cell_of (o := 3) k2 rfl⟩
  have hP13 : P1 + 1 + 1 ≠ A := by have := HP1.out; have := lt_of HT4.out.blk; omega
  have HT6 := hide (HT5.out.fr hF6 (by omega))
  have hloA : w.heap.size ≤ w2.heap.size := HF2.out.size
  have hP1e := HP1.out
  have HC1d := hide (HC1c.out.keep hF6 (fun i z1 z2 e => by omega))
  have HC2d := hide (HC2c.out.keep hF6 (fun i z1 z2 e => by omega))
  have HX1d := hide (HX1c.out.keep hF6 (fun i z1 z2 e => by omega))
  have HX2d := hide (HX2c.out.keep hF6 (fun i z1 z2 e => by omega))
  have HLL6 := hide (HLL5.out.frS hF6 (fun ad e => by cases e; show ¬ gL = P1 + 1 + 1; omega))
  have HLD6 := hide (HLD5.out.frS hF6 (fun ad e => by cases e; show ¬ gD = P1 + 1 + 1; omega))
  have hZn := tally_zn Hm.out
  obtain ⟨fu, hfu⟩ : ∃ fu : Nat, at0 (tally ps) 316 = (fu : Int) := ⟨(at0 (tally ps) 316).toNat, by have := hZn.low 316; omega⟩
  have hfu2 : fu ≤ 100000000 := by have := hZn.far; have := Hn.out; omega
  have hcz := HT6.out.cell (i := 316) (by omega)
  rw [hfu] at hcz
  have TB1 := hide (fun (W : World) (hF : Fr (fun _ => False) w6 W) => tallyBits_c A w2.heap.size w3.heap.size w2.heap.size w3.heap.size C1 C2 fu (trim oL 257) (trim oD 1) (fL (tally ps)) (fD (tally ps)) (some ⟨gL, 0, none⟩) N1 286 (some ⟨gD, 0, none⟩) N2 30 W (HC1d.out.keep hF (fun _ _ _ e => e)) (HC2d.out.keep hF (fun _ _ _ e => e)) (HT6.out.fr hF (fun e => e)).liesL (HT6.out.fr hF (fun e => e)).liesD ((cell_blk (a := ⟨A, 316, none⟩) (hF.block A (cell_lt hcz) (fun e => e))).trans hcz) (fL_len (tally_len ps)) (fD_len (tally_len ps)) Hg1.out Hg2.out hfu2)
  have TB2 := hide (fun (W : World) (hF : Fr (fun _ => False) w6 W) => tallyBits_c A w3.heap.size w4.heap.size w3.heap.size w4.heap.size X1 X2 fu fixL fixD (fL (tally ps)) (fD (tally ps)) a1 288 c1 a2 32 c2 W (HX1d.out.keep hF (fun _ _ _ e => e)) (HX2d.out.keep hF (fun _ _ _ e => e)) (HT6.out.fr hF (fun e => e)).liesL (HT6.out.fr hF (fun e => e)).liesD ((cell_blk (a := ⟨A, 316, none⟩) (hF.block A (cell_lt hcz) (fun e => e))).trans hcz) (fL_len (tally_len ps)) (fD_len (tally_len ps)) Hg1.out Hg2.out hfu2)
  have bO1 := bitsF_bd (at_all HC1d.out.egood) (atF_all Hg1.out) 286
  have bO2 := bitsF_bd (at_all HC2d.out.egood) (atF_all Hg2.out) 30
  have bX1 := bitsF_bd (at_all HX1d.out.egood) (atF_all Hg1.out) 286
  have bX2 := bitsF_bd (at_all HX2d.out.egood) (atF_all Hg2.out) 30
  obtain ⟨V1, hV1⟩ : ∃ V1, V1 = bitsF (trim oL 257) (fL (tally ps)) 286 + bitsF (trim oD 1) (fD (tally ps)) 30 + (fu : Int) := ⟨_, rfl⟩
  obtain ⟨V2, hV2⟩ : ∃ V2, V2 = bitsF fixL (fL (tally ps)) 286 + bitsF fixD (fD (tally ps)) 30 + (fu : Int) := ⟨_, rfl⟩
  rw [← hV1] at TB1
  rw [← hV2] at TB2
  have v1 : 0 ≤ V1 ∧ V1 ≤ 6000000000 := by omega
  have v2 : 0 ≤ V2 ∧ V2 ≤ 6000000000 := by omega
  obtain ⟨v1a, v1b⟩ := v1
  obtain ⟨v2a, v2b⟩ := v2
  have HV1 : Hid (V1 = allB (trim oL 257) (trim oD 1) (tally ps)) := by show _ = _; unfold allB; rw [hV1, hfu]
  have HV2 : Hid (V2 = allB fixL fixD (tally ps)) := by show _ = _; unfold allB; rw [hV2, hfu]
  have HFw6 := hide hFw6
  have Hcp := hide hcp
  have hcpi : (cp : Int) ≤ 10000 := by omega
  have hnA : ¬ A = P1 ∧ ¬ A = P1 + 1 := by have := lt_of HT4.out.blk; omega
  clear hP1e hcz bO1 bO2 bX1 bX2 hV1 hV2 hfu hZn hCds hcp hP6 hlC hFw6 hF6 k1 k2 hcw
  have hS0d : St9 w6.drew P1 (cp : Int) gL N1 C1 gD N2 C2 a1 c1 X1 a2 c2 X2 := hS0.fr (Fr.of_drewN w6 1) (fun e => e) (fun e => e) (fun e => e)
  go_wp2_with fail
  refine wp_region_held_drew (S := fun W' => St9 W' P1 (cp : Int) gL N1 C1 gD N2 C2 a1 c1 X1 a2 c2 X2) (by kernel_rfl) hS0d (fun hHeld => ?_)
  refine wpAnyH_take (i := 0) (v := ?v0) rfl (by kernel_rfl) (by kernel_rfl) (by kernel_rfl) (fun _ _ _ h => h) (Or.inl ⟨by rfl, ?hy0⟩) hHeld ?rest0
  case hy0 => (intro W hSw; (try dsimp only at hSw); obtain ⟨s0, s1, s2, s3, s4, s5, s6, s7, s8⟩ := hSw; go_simp; all_goals (with_reducible rfl))
  change wpAnyH _ _ _ _ _ _ _ (Act.put _ (some 21) _) _
  simp only [Act.put, List.setIfInBounds_toArray, List.set_cons_zero, List.set_cons_succ]
  refine wpAnyH_take (i := 2) (v := ?v2) rfl (by kernel_rfl) (by kernel_rfl) (by kernel_rfl) (fun _ _ _ h => h) (Or.inl ⟨by rfl, ?hy2⟩) hHeld ?rest2
  case hy2 => (intro W hSw; (try dsimp only at hSw); obtain ⟨s0, s1, s2, s3, s4, s5, s6, s7, s8⟩ := hSw; go_simp; all_goals (with_reducible rfl))
  change wpAnyH _ _ _ _ _ _ _ (Act.put _ (some 23) _) _
  simp only [Act.put, List.setIfInBounds_toArray, List.set_cons_zero, List.set_cons_succ]
  refine wpAnyH_take (i := 5) (v := ?v5) rfl (by kernel_rfl) (by kernel_rfl) (by kernel_rfl) (fun _ _ _ h => h) (Or.inl ⟨by rfl, ?hy5⟩) hHeld ?rest5
  case hy5 => (intro W hSw; (try dsimp only at hSw); obtain ⟨s0, s1, s2, s3, s4, s5, s6, s7, s8⟩ := hSw; go_simp; all_goals (with_reducible rfl))
  change wpAnyH _ _ _ _ _ _ _ (Act.put _ (some 26) _) _
  simp only [Act.put, List.setIfInBounds_toArray, List.set_cons_zero, List.set_cons_succ]
  refine wpAnyH_take (i := 1) (v := ?v1) rfl (by kernel_rfl) (by kernel_rfl) (by kernel_rfl) (fun _ _ _ h => h) (Or.inl ⟨by rfl, ?hy1⟩) hHeld ?rest1
  case hy1 => (intro W hSw; (try dsimp only at hSw); obtain ⟨s0, s1, s2, s3, s4, s5, s6, s7, s8⟩ := hSw; go_simp; all_goals (with_reducible rfl))
  change wpAnyH _ _ _ _ _ _ _ (Act.put _ (some 22) _) _
  simp only [Act.put, List.setIfInBounds_toArray, List.set_cons_zero, List.set_cons_succ]
  refine wpAnyH_ready (rs := [3]) (by kernel_rfl) (by simp) ?_
  refine AllReadyH.cons rfl (fun K hK => ?_) AllReadyH.nil
  try simp only [List.getElem_toArray, List.getElem_cons_succ, List.getElem_cons_zero]
  go_simp
  refine (calls_args (TB1.out w6.drew (Fr.of_drewN w6 1)) (by rfl)).mono ?_
  rintro e w7 ⟨rfl, hF7⟩
  have HF7 := hide ((Fr.of_drewN w6 1).join hF7)
  have hS7 := hS0d.fr hF7 (fun e => e) (fun e => e) (fun e => e)
  clear hF7
  refine hK.out _ _ hS7 (fun hHeld => ?_)
  clear hK K
  refine wpAnyH_take (i := 4) (v := ?v4) rfl (by kernel_rfl) (by kernel_rfl) (by kernel_rfl) (fun _ _ _ h => h) (Or.inl ⟨by rfl, ?hy4⟩) hHeld ?rest4
  case hy4 => (intro W hSw; (try dsimp only at hSw); obtain ⟨s0, s1, s2, s3, s4, s5, s6, s7, s8⟩ := hSw; go_simp; all_goals (with_reducible rfl))
  change wpAnyH _ _ _ _ _ _ _ (Act.put _ (some 25) _) _
  simp only [Act.put, List.setIfInBounds_toArray, List.set_cons_zero, List.set_cons_succ]
  refine wpAnyH_ready (rs := [6]) (by kernel_rfl) (by simp) ?_
  refine AllReadyH.cons rfl (fun K hK => ?_) AllReadyH.nil
  try simp only [List.getElem_toArray, List.getElem_cons_succ, List.getElem_cons_zero]
  go_simp
  refine (calls_args (TB2.out w7 HF7.out) (by rfl)).mono ?_
  rintro e w8 ⟨rfl, hF8⟩
  have HF8 := hide (HF7.out.join hF8)
  have hS8 := hS7.fr hF8 (fun e => e) (fun e => e) (fun e => e)
  clear hF8
  refine hK.out _ _ hS8 (fun hHeld => ?_)
  clear hK K
  refine wpAnyH_take (i := 7) (v := ?v7) rfl (by kernel_rfl) (by kernel_rfl) (by kernel_rfl) (fun _ _ _ h => h) (Or.inl ⟨by rfl, ?hy7⟩) hHeld ?rest7
  case hy7 => (intro W hSw; (try dsimp only at hSw); obtain ⟨s0, s1, s2, s3, s4, s5, s6, s7, s8⟩ := hSw; go_simp; all_goals (with_reducible rfl))
  change wpAnyH _ _ _ _ _ _ _ (Act.put _ (some 12) _) _
  simp only [Act.put, List.setIfInBounds_toArray, List.set_cons_zero, List.set_cons_succ]
  refine wpAnyH_take (i := 8) (v := ?v8) rfl (by kernel_rfl) (by kernel_rfl) (by kernel_rfl) (fun _ _ _ h => h) (Or.inl ⟨by rfl, ?hy8⟩) hHeld ?rest8
  case hy8 => (intro W hSw; (try dsimp only at hSw); obtain ⟨s0, s1, s2, s3, s4, s5, s6, s7, s8⟩ := hSw; go_simp; all_goals (with_reducible rfl))
  change wpAnyH _ _ _ _ _ _ _ (Act.put _ (some 13) _) _
  simp only [Act.put, List.setIfInBounds_toArray, List.set_cons_zero, List.set_cons_succ]
  refine wpAnyH_done (by kernel_rfl) ?_ _
  have e1 : IntKind.i64.wrap ((cp : Int) + V1) = (cp : Int) + V1 := wrap_i64_id _ (by omega) (by omega)
  rw [e1]
  clear e1
  have HFw8 := hide (HFw6.out.join HF8.out)
  have HP8 := hide (PGo.start H.out HFw8.out)
  have hpt : t.p ≤ 2147480000 := by omega
  have hS8 := hHeld
  have HS8 := hide hS8
  clear hHeld hS8 hS0 hS0d hS7
  go_wp2_with fail
  refine (calls_args (toByte_c T B o cs g t 3 w8 HP8.out.pn hpt (by omega)) (by rfl)).mono ?_
  rintro e w9 ⟨rfl, rfl⟩
  obtain ⟨pd, hpd⟩ : ∃ pd, pd = padTo (t.p + 3) := ⟨_, rfl⟩
  rw [← hpd]
  have hpd8 : pd < 8 := by rw [hpd]; unfold padTo; omega
  have hpdi : (pd : Int) < 8 := by omega
  obtain ⟨sB, hsB⟩ : ∃ sB, sB = (pd : Int) + 32 + 8 * (rn : Int) := ⟨_, rfl⟩
  have hsBe : (pd : Int) + 32 + 8 * (rn : Int) = sB := hsB.symm
  obtain ⟨oB, hoB⟩ : ∃ oB, oB = (cp : Int) + V1 := ⟨_, rfl⟩
  rw [← hoB]
  have HsB : Hid (sB = storedB t raw) := by show _ = _; unfold storedB; rw [hsB, ← hpd, ← Hrn.out]; omega
  have HoB : Hid (oB = ownB' ps oL oD oC) := by show _ = _; unfold ownB'; rw [hoB, ← HV1.out, ← Hcp.out]
  have Hpd := hide hpd
  clear hpd hoB hsB
  have hbF : blockF t last raw ps oL oD oC = if sB ≤ V2 ∧ sB ≤ oB then putStored t last raw else if V2 ≤ oB then putFixed t last ps else putOwn t last (trim oL 257) (trim oD 1) oC (xsOf oC) (marksOf (trim oL 257) (trim oD 1)) ps := by
    unfold blockF fixedB
    rw [← HsB.out, ← HoB.out, ← HV2.out]
  have HbF := hide hbF
  clear hbF
  have HPn8 := hide HP8.out.pn
  have Hw68 := hide HFw8.out.size
  have hB0 : 0 < w.heap.size := by have := cell_lt (HG.out 0 (by omega)); exact this
  have hw28 : w3.heap.size ≤ w8.heap.size := by have := HF8.out.size; have := HP1.out; have := lt_of9 HS8.out.o0; omega
  have hw48 : w4.heap.size ≤ w8.heap.size := by have := HP1.out; have := lt_of9 HS8.out.o0; omega
  have HLP8 := hide (liesP_fr HP.out HFw8.out (fun _ e => e))
  have HR8 := hide (lies_frS HR.out HFw8.out fun _ _ _ _ _ hS => hS)
  have HClr1 : ∀ g', (g' = g ∨ ∃ k, g' = some k ∧ w8.heap.size ≤ k) → Clear w2.heap.size w3.heap.size B g' := fun g' hg => ⟨by have := Hlts.out.2; omega, fun k hk => by
    rcases hg with rfl | ⟨j, rfl, hj⟩
    · have := Hlts.out.1 k hk; omega
    · cases hk; omega⟩
  have HClr2 : ∀ g', (g' = g ∨ ∃ k, g' = some k ∧ w8.heap.size ≤ k) → Clear w3.heap.size w4.heap.size B g' := fun g' hg => ⟨by have := Hlts.out.2; omega, fun k hk => by
    rcases hg with rfl | ⟨j, rfl, hj⟩
    · have := Hlts.out.1 k hk; omega
    · cases hk; omega⟩
  have HDg : ∀ g', (g' = g ∨ ∃ k, g' = some k ∧ w8.heap.size ≤ k) → 0 < n → D ≠ B ∧ g' ≠ some D := fun g' hg hn0 => ⟨(HD.out hn0).1, fun e => by
    have hlt := liesP_lt HP.out (by have := Hn.out; omega)
    rcases hg with rfl | ⟨j, rfl, hj⟩
    · exact (HD.out hn0).2 e
    · cases e; have := Hw68.out; omega⟩
  have HK1 := hide HClr1
  have HK2 := hide HClr2
  have HK3 := hide HDg
  clear HClr1 HClr2 HDg
  have HB0 : Hid (¬ (0 = B ∨ g = some 0)) := Hnp0.out
  rcases (show (sB ≤ V2 ∧ sB ≤ oB) ∨ (V2 < sB ∧ V2 ≤ oB) ∨ (oB < V2 ∧ oB < sB ∧ V2 < sB) ∨ (oB < V2 ∧ oB < sB ∧ sB ≤ V2) by omega) with ⟨z1, z2⟩ | ⟨z1, z2⟩ | ⟨z1, z2, z3⟩ | ⟨z1, z2, z3⟩
  · have y1 : ¬ V2 < sB := by omega
    have y2 : ¬ oB < sB := by omega
    rw [if_pos ⟨z1, z2⟩] at HbF
    clear z1 z2
    go_wp2_with fail
    refine (calls_args (putHead_c T B o cs g t last 0 w8 HPn8.out (by omega) (by omega)) (by rfl)).mono ?_
    rintro e wa ⟨rfl, csa, ga, hPa⟩
    have HPa := hide hPa
    have hpa : (putHead t last 0).p = t.p + 3 := putHead_p t last 0
    have hFar8 : Far ra w8 B g := fun ad e => by
      obtain ⟨f1, f2, f3⟩ := Hf.out ad e
      exact ⟨f1, f2, by have := Hw68.out; omega⟩
    have HZ := hide (putRaw_c T B o csa ga (putHead t last 0) ra rn rc raw wa hPa.pn (by omega) (lies_go HR8.out hFar8 hPa) Hrn.out hr Hb.out (hFar8.go hPa))
    clear hPa hFar8
    go_wp2_with fail
    refine (calls_args HZ.out (by rfl)).mono ?_
    rintro e wb ⟨rfl, csb, gb, hPb⟩
    have HPb := hide (HP8.out.trans (HPa.out.trans hPb))
    clear hPb
    go_wp2
    go_end0
    refine ⟨rfl, oL, oD, oC, csb, gb, HCds.out, ?_⟩
    rw [HbF.out, ← stored_eq]
    exact HPb.out
  · have y2 : ¬ oB < V2 := by omega
    have y3 : (V2 == sB) = false := beq_false_of_ne (by omega)
    rw [if_neg (by omega), if_pos z2] at HbF
    clear z2
    go_wp2_with fail
    refine (calls_args (putHead_c T B o cs g t last 1 w8 HPn8.out (by omega) (by omega)) (by rfl)).mono ?_
    rintro e wa ⟨rfl, csa, ga, hPa⟩
    have HPa := hide hPa
    obtain ⟨s0, s1, s2, s3, s4, s5, s6, s7, s8⟩ := HS8.out.fr hPa.fr (not_pen Hlts.out (by omega)) (not_pen Hlts.out (by omega)) (not_pen Hlts.out (by omega))
    have hpa : (putHead t last 1).p = t.p + 3 := putHead_p t last 1
    have HZ := hide (putPieces_c T w3.heap.size w4.heap.size X1 X2 B o csa fixL fixD ga (putHead t last 1) a1 288 c1 a2 32 c2 a D f n c ps out wa (Cd.go (o := o) (HX1d.out.keep HF8.out (fun _ _ _ e => e)) (HK2.out g (Or.inl rfl)) hPa) (Cd.go (o := o) (HX2d.out.keep HF8.out (fun _ _ _ e => e)) (HK2.out g (Or.inl rfl)) hPa) (HK2.out ga hPa.own) hPa.pn (by omega) Ha.out (liesP_fr HLP8.out hPa.fr (fun h0 => by rintro (e | e); exact (HD.out (by have := Hn.out; omega)).1 e; exact (HD.out (by have := Hn.out; omega)).2 e)) Hn.out hn6 (HK3.out ga hPa.own) Hm.out (fun p hp => by obtain ⟨o', ho'⟩ := mays_mem Hm.out p hp; exact fix_told ho') fix_256.1 fix_256.2)
    clear hPa
    go_wp2_with fail
    refine (calls_args HZ.out (by rfl)).mono ?_
    rintro e wb ⟨rfl, csb, gb, hPb⟩
    have HPb := hide (HP8.out.trans (HPa.out.trans hPb))
    clear hPb
    go_wp2
    go_end0
    refine ⟨rfl, oL, oD, oC, csb, gb, HCds.out, ?_⟩
    rw [HbF.out]
    exact HPb.out
  · have y3 : (oB == sB) = false := beq_false_of_ne (by omega)
    have y4 : (oB == V2) = false := beq_false_of_ne (by omega)
    rw [if_neg (by omega), if_neg (by omega)] at HbF
    go_wp2_with fail
    refine (calls_args (putHead_c T B o cs g t last 2 w8 HPn8.out (by omega) (by omega)) (by rfl)).mono ?_
    rintro e wa ⟨rfl, csa, ga, hPa⟩
    have HPa := hide hPa
    obtain ⟨s0, s1, s2, s3, s4, s5, s6, s7, s8⟩ := HS8.out.fr hPa.fr (not_pen Hlts.out (by omega)) (not_pen Hlts.out (by omega)) (not_pen Hlts.out (by omega))
    have hpa : (putHead t last 2).p = t.p + 3 := putHead_p t last 2
    have HQ := hide (putCodes_c T B o csa ga (putHead t last 2) gL 286 C1 gD 30 C2 (trim oL 257) (trim oD 1) wa HPa.out.pn (by omega) ((HLL6.out.fr HF8.out).frS hPa.fr (fun ad e => by cases e; exact not_pen Hlts.out (show w.heap.size ≤ gL by omega))) ((HLD6.out.fr HF8.out).frS hPa.fr (fun ad e => by cases e; exact not_pen Hlts.out (show w.heap.size ≤ gD by omega))) Hcl.out.2.2.2.2.1 Hcl.out.2.2.2.2.2.1 Hcl.out.1 Hcl.out.2.1 Hcl.out.2.2.1 Hcl.out.2.2.2.1 Hcl.out.2.2.2.2.2.2 ((HG.out.keep HFw8.out (fun e => e)).keep hPa.fr HB0.out))
    rw [← HN1.out, ← HN2.out] at HQ
    clear hPa
    go_wp2_with fail
    refine (calls_args HQ.out (by rfl)).mono ?_
    rintro e wb ⟨rfl, oC', csb, gb, hlC', hPb⟩
    obtain rfl := hlC'.det HCds.out.lC
    have HPb := hide (HPa.out.trans hPb)
    have hpb : (putCodes (trim oL 257) (trim oD 1) oC' (xsOf oC') (marksOf (trim oL 257) (trim oD 1)) (putHead t last 2)).p ≤ t.p + 3 + 10000 := by
      rw [putCodes_shift, hpa]
      have := Hcp.out
      unfold codesP at this
      omega
    clear s0 s1 s2 s3 s4 s5 s6 s7 s8 hPb hlC'
    obtain ⟨s0, s1, s2, s3, s4, s5, s6, s7, s8⟩ := HS8.out.fr HPb.out.fr (not_pen Hlts.out (by omega)) (not_pen Hlts.out (by omega)) (not_pen Hlts.out (by omega))
    obtain ⟨tb, htb⟩ : ∃ tb, tb = putCodes (trim oL 257) (trim oD 1) oC' (xsOf oC') (marksOf (trim oL 257) (trim oD 1)) (putHead t last 2) := ⟨_, rfl⟩
    rw [← htb] at HPb hpb
    have Htb := hide htb
    have HZ := hide (putPieces_c T w2.heap.size w3.heap.size C1 C2 B o csb (trim oL 257) (trim oD 1) gb tb (some ⟨gL, 0, none⟩) N1 286 (some ⟨gD, 0, none⟩) N2 30 a D f n c ps out wb (Cd.go (o := o) (HC1d.out.keep HF8.out (fun _ _ _ e => e)) (HK1.out g (Or.inl rfl)) HPb.out) (Cd.go (o := o) (HC2d.out.keep HF8.out (fun _ _ _ e => e)) (HK1.out g (Or.inl rfl)) HPb.out) (HK1.out gb HPb.out.own) HPb.out.pn (by omega) Ha.out (liesP_fr HLP8.out HPb.out.fr (fun h0 => by rintro (e | e); exact (HD.out (by have := Hn.out; omega)).1 e; exact (HD.out (by have := Hn.out; omega)).2 e)) Hn.out hn6 (HK3.out gb HPb.out.own) Hm.out (tally_told Hm.out HlL.out HlD.out) Hcl.out.2.2.2.2.2.2 (by have := Hcl.out.1; omega))
    clear htb
    go_wp2_with fail
    refine (calls_args HZ.out (by rfl)).mono ?_
    rintro e wc ⟨rfl, csc, gc, hPc⟩
    have HPc := hide (HP8.out.trans (HPb.out.trans hPc))
    clear hPc
    go_wp2
    go_end0
    refine ⟨rfl, oL, oD, oC', csc, gc, HCds.out, ?_⟩
    rw [HbF.out]
    unfold putOwn
    rw [← Htb.out]
    exact HPc.out
  · have y3 : (oB == sB) = false := beq_false_of_ne (by omega)
    have y4 : (oB == V2) = false := beq_false_of_ne (by omega)
    have y5 : ¬ V2 < sB := by omega
    rw [if_neg (by omega), if_neg (by omega)] at HbF
    go_wp2_with fail
    refine (calls_args (putHead_c T B o cs g t last 2 w8 HPn8.out (by omega) (by omega)) (by rfl)).mono ?_
    rintro e wa ⟨rfl, csa, ga, hPa⟩
    have HPa := hide hPa
    obtain ⟨s0, s1, s2, s3, s4, s5, s6, s7, s8⟩ := HS8.out.fr hPa.fr (not_pen Hlts.out (by omega)) (not_pen Hlts.out (by omega)) (not_pen Hlts.out (by omega))
    have hpa : (putHead t last 2).p = t.p + 3 := putHead_p t last 2
    have HQ := hide (putCodes_c T B o csa ga (putHead t last 2) gL 286 C1 gD 30 C2 (trim oL 257) (trim oD 1) wa HPa.out.pn (by omega) ((HLL6.out.fr HF8.out).frS hPa.fr (fun ad e => by cases e; exact not_pen Hlts.out (show w.heap.size ≤ gL by omega))) ((HLD6.out.fr HF8.out).frS hPa.fr (fun ad e => by cases e; exact not_pen Hlts.out (show w.heap.size ≤ gD by omega))) Hcl.out.2.2.2.2.1 Hcl.out.2.2.2.2.2.1 Hcl.out.1 Hcl.out.2.1 Hcl.out.2.2.1 Hcl.out.2.2.2.1 Hcl.out.2.2.2.2.2.2 ((HG.out.keep HFw8.out (fun e => e)).keep hPa.fr HB0.out))
    rw [← HN1.out, ← HN2.out] at HQ
    clear hPa
    go_wp2_with fail
    refine (calls_args HQ.out (by rfl)).mono ?_
    rintro e wb ⟨rfl, oC', csb, gb, hlC', hPb⟩
    obtain rfl := hlC'.det HCds.out.lC
    have HPb := hide (HPa.out.trans hPb)
    have hpb : (putCodes (trim oL 257) (trim oD 1) oC' (xsOf oC') (marksOf (trim oL 257) (trim oD 1)) (putHead t last 2)).p ≤ t.p + 3 + 10000 := by
      rw [putCodes_shift, hpa]
      have := Hcp.out
      unfold codesP at this
      omega
    clear s0 s1 s2 s3 s4 s5 s6 s7 s8 hPb hlC'
    obtain ⟨s0, s1, s2, s3, s4, s5, s6, s7, s8⟩ := HS8.out.fr HPb.out.fr (not_pen Hlts.out (by omega)) (not_pen Hlts.out (by omega)) (not_pen Hlts.out (by omega))
    obtain ⟨tb, htb⟩ : ∃ tb, tb = putCodes (trim oL 257) (trim oD 1) oC' (xsOf oC') (marksOf (trim oL 257) (trim oD 1)) (putHead t last 2) := ⟨_, rfl⟩
    rw [← htb] at HPb hpb
    have Htb := hide htb
    have HZ := hide (putPieces_c T w2.heap.size w3.heap.size C1 C2 B o csb (trim oL 257) (trim oD 1) gb tb (some ⟨gL, 0, none⟩) N1 286 (some ⟨gD, 0, none⟩) N2 30 a D f n c ps out wb (Cd.go (o := o) (HC1d.out.keep HF8.out (fun _ _ _ e => e)) (HK1.out g (Or.inl rfl)) HPb.out) (Cd.go (o := o) (HC2d.out.keep HF8.out (fun _ _ _ e => e)) (HK1.out g (Or.inl rfl)) HPb.out) (HK1.out gb HPb.out.own) HPb.out.pn (by omega) Ha.out (liesP_fr HLP8.out HPb.out.fr (fun h0 => by rintro (e | e); exact (HD.out (by have := Hn.out; omega)).1 e; exact (HD.out (by have := Hn.out; omega)).2 e)) Hn.out hn6 (HK3.out gb HPb.out.own) Hm.out (tally_told Hm.out HlL.out HlD.out) Hcl.out.2.2.2.2.2.2 (by have := Hcl.out.1; omega))
    clear htb
    go_wp2_with fail
    refine (calls_args HZ.out (by rfl)).mono ?_
    rintro e wc ⟨rfl, csc, gc, hPc⟩
    have HPc := hide (HP8.out.trans (HPb.out.trans hPc))
    clear hPc
    go_wp2
    go_end0
    refine ⟨rfl, oL, oD, oC', csc, gc, HCds.out, ?_⟩
    rw [HbF.out]
    unfold putOwn
    rw [← Htb.out]
    exact HPc.out
end Go.Proofs.YtmefhngmgfmhoaaDoor

/-
  Rows that are found again: keys, alike bytes.
-/
namespace Go.Proofs.YtmefhngmgfmhoaaDoor
open Go.RowKit

/-- Three bytes as one number, as the program has it. -/
def three (b0 b1 b2 : Nat) : Int := bits BinOp.or IntKind.u32 (bits BinOp.or IntKind.u32 (b0 : Int) ((b1 : Int) * 256)) ((b2 : Int) * 65536)

/-- The key of three bytes, of 2^k keys. -/
def keyf (k b0 b1 b2 : Nat) : Nat := ((three b0 b1 b2) * 2654435761 % 4294967296 / 65536 % 2 ^ k).toNat

theorem keyf_lt (k b0 b1 b2 : Nat) : keyf k b0 b1 b2 < 2 ^ k := by
  unfold keyf
  have e : (2 : Int) ^ k = ((2 ^ k : Nat) : Int) := by simp
  have h := Int.emod_lt_of_pos (three b0 b1 b2 * 2654435761 % 4294967296 / 65536) (b := (2 : Int) ^ k) (by rw [e]; have := pow_pos2 k; omega)
  have h0 := Int.emod_nonneg (three b0 b1 b2 * 2654435761 % 4294967296 / 65536) (b := (2 : Int) ^ k) (by rw [e]; have := pow_pos2 k; omega)
  rw [e] at h h0 ⊢
  omega

theorem key_and (k b0 b1 b2 sz : Nat) (hk : k ≤ 15) (hs : sz = 2 ^ k) : bits .and .i64 (three b0 b1 b2 * 2654435761 % 4294967296 / 65536) ((sz : Int) - 1) = (keyf k b0 b1 b2 : Int) := by
  have e : (2 : Int) ^ k = ((2 ^ k : Nat) : Int) := by simp
  have h := mask_i64 (three b0 b1 b2 * 2654435761 % 4294967296 / 65536) k (by omega)
  have e2 : (sz : Int) - 1 = 2 ^ k - 1 := by rw [e, hs]
  rw [e2, h]
  unfold keyf
  have h0 := Int.emod_nonneg (three b0 b1 b2 * 2654435761 % 4294967296 / 65536) (b := (2 : Int) ^ k) (by rw [e]; have := pow_pos2 k; omega)
  omega

set_option maxHeartbeats 800000 in
set_option maxRecDepth 100000 in
theorem key_c (M o k sz at0 b0 b1 b2 : Nat) (v : Option Addr) (D f n c : Nat) (w : World) (hs : w.cell? ⟨M, o, none⟩ = some (.slice v sz sz)) (hsz : sz = 2 ^ k) (hk : k ≤ 15) (hn : n ≤ 2147483648) (hat : at0 + 2 < n)
    (h0 : w.cell? ⟨D, f + at0, none⟩ = some (.int .u8 (b0 : Int))) (h1 : w.cell? ⟨D, f + (at0 + 1), none⟩ = some (.int .u8 (b1 : Int))) (h2 : w.cell? ⟨D, f + (at0 + 2), none⟩ = some (.int .u8 (b2 : Int))) (l0 : b0 < 256) (l1 : b1 < 256) (l2 : b2 < 256) :
    Calls Tryd.prog 49 #[.pointer (some ⟨M, o, none⟩), .slice (some ⟨D, f, none⟩) n c, .int .i64 (at0 : Int)] w fun e w' => e = .returned (.int .i64 (keyf k b0 b1 b2 : Int)) ∧ Fr (fun _ => False) w w' := by
  have i0 : (at0 : Int) < (n : Int) := by omega
  have i1 : (at0 : Int) + 1 < (n : Int) := by omega
  have i2 : (at0 : Int) + 2 < (n : Int) := by omega
  have ai : (at0 : Int) ≤ 2147483648 := by omega
  have t1 : ((at0 : Int) + 1).toNat = at0 + 1 := by omega
  have t2 : ((at0 : Int) + 2).toNat = at0 + 2 := by omega
  have hand := key_and k b0 b1 b2 sz hk hsz
  have hszi : (sz : Int) ≤ 32768 := by
    have : (2 : Nat) ^ k ≤ 2 ^ 15 := Nat.pow_le_pow_right (by decide) hk
    omega
  have hsz0 : (1 : Int) ≤ (sz : Int) := by have := pow_pos2 k; omega
  have Hand := hide hand
  clear hand hsz
  go_enter Tryd.func49, Tryd.ntmps49
  go_wp2
  go_region
  all_goals
    obtain ⟨X, hX⟩ : ∃ X, X = three b0 b1 b2 := ⟨_, rfl⟩
    have hX' : bits BinOp.or IntKind.u32 (bits BinOp.or IntKind.u32 (b0 : Int) ((b1 : Int) * 256)) ((b2 : Int) * 65536) = X := hX.symm
    rw [hX']
    have hs' : w.drew.cell? ⟨M, o, none⟩ = some (.slice v sz sz) := hs
    have hand := Hand.out
    rw [← hX] at hand
    have HX := hide hX
    clear hX hX'
    go_wp2
    go_ret
    exact ⟨rfl, Fr.of_drewN w 1⟩

/-- Bytes lie from cell f of block D on. -/
def LiesB (w : World) (D f : Nat) (bs : List Nat) : Prop := ∀ i, i < bs.length → w.cell? ⟨D, f + i, none⟩ = some (.int .u8 ((bs.getD i 0 : Nat) : Int))

theorem LiesB.fr {w w' : World} {S : Nat → Prop} {D f : Nat} {bs : List Nat} (h : LiesB w D f bs) (F : Fr S w w') (hD : ¬ S D) : LiesB w' D f bs := fun i hi => by
  have := h i hi
  rw [cell_blk (F.block D (cell_lt this) hD)]
  exact this

/-- How many bytes are alike from both places on. -/
structure Alike (bs : List Nat) (one other most n : Nat) : Prop where
  le : n ≤ most
  eq : ∀ k, k < n → bs.getD (one + k) 0 = bs.getD (other + k) 0
  stop : n = most ∨ bs.getD (one + n) 0 ≠ bs.getD (other + n) 0

set_option maxHeartbeats 800000 in
set_option maxRecDepth 100000 in
theorem alike_c (D f n c one other most : Nat) (bs : List Nat) (w : World) (hL : LiesB w D f bs) (hn : n ≤ bs.length) (hn2 : n ≤ 2147483648) (h1 : one + most ≤ n) (h2 : other + most ≤ n) :
    Calls Tryd.prog 50 #[.slice (some ⟨D, f, none⟩) n c, .int .i64 (one : Int), .int .i64 (other : Int), .int .i64 (most : Int)] w fun e w' => ∃ m : Nat, e = .returned (.int .i64 (m : Int)) ∧ Alike bs one other most m ∧ Fr (fun _ => False) w w' := by
  have HL := hide hL
  clear hL
  go_enter Tryd.func50, Tryd.ntmps50
  go_wp2_with fail
  go_loopw [9] (fun t wr => ∃ m : Nat, t = .int .i64 (m : Int) ∧ m ≤ most ∧ (∀ k, k < m → bs.getD (one + k) 0 = bs.getD (other + k) 0) ∧ Fr (fun _ => False) w wr) (fun t _ => most - (intOf t).toNat)
  case atStart => exact ⟨0, rfl, Nat.zero_le _, fun k hk => absurd hk (Nat.not_lt_zero k), Fr.refl _ _⟩
  case round =>
    obtain ⟨m, rfl, hm, he, hF⟩ := hrel
    have HF := hide hF
    have He := hide he
    clear hF he
    by_cases hlt : m < most
    · have hlti : (m : Int) < (most : Int) := by omega
      have hb : decide ((m : Int) < (most : Int)) = true := by simpa using hlti
      obtain ⟨x, hx⟩ : ∃ x, x = bs.getD (one + m) 0 := ⟨_, rfl⟩
      obtain ⟨y, hy⟩ : ∃ y, y = bs.getD (other + m) 0 := ⟨_, rfl⟩
      have hlr := HL.out.fr HF.out (fun e => e)
      have cx := hlr (one + m) (by omega)
      have cy := hlr (other + m) (by omega)
      rw [← hx] at cx
      rw [← hy] at cy
      have ix : (one : Int) + (m : Int) < (n : Int) := by omega
      have iy : (other : Int) + (m : Int) < (n : Int) := by omega
      have bx : (one : Int) + (m : Int) ≤ 2147483648 := by omega
      have by' : (other : Int) + (m : Int) ≤ 2147483648 := by omega
      have tx : ((one : Int) + (m : Int)).toNat = one + m := by omega
      have ty : ((other : Int) + (m : Int)).toNat = other + m := by omega
      have Hx := hide hx
      have Hy := hide hy
      clear hlr hx hy
      by_cases hxy : x = y
      · have hbb : ((x : Int) == (y : Int)) = true := beq_iff_eq.2 (by omega)
        have Hxy := hide hxy
        clear hxy
        go_wp2_with fail
        go_quiet (fail)
        go_wp2
        go_roundw
        case rel =>
          refine ⟨m + 1, by go_num, by omega, fun k hk => ?_, HF.out.join (Fr.of_drewN _ _)⟩
          rcases Nat.lt_or_ge k m with h | h
          · exact He.out k h
          · obtain rfl : k = m := by omega
            rw [← Hx.out, ← Hy.out]; exact Hxy.out
        case measure => simp [intOf]; omega
      · have hne : ¬ (x : Int) = (y : Int) := by omega
        have hbb : ((x : Int) == (y : Int)) = false := beq_false_of_ne hne
        go_wp2_with fail
        go_quiet (fail)
        go_wp2
        go_ret
        exact ⟨m, rfl, ⟨hm, He.out, Or.inr (by rw [← Hx.out, ← Hy.out]; exact hxy)⟩, HF.out.join (Fr.of_drewN _ _)⟩
    · have hlti : ¬ (m : Int) < (most : Int) := by omega
      have hb : decide ((m : Int) < (most : Int)) = false := by simpa using hlti
      go_wp2_with fail
      go_quiet (fail)
      go_wp2
      go_ret
      exact ⟨m, rfl, ⟨hm, He.out, Or.inl (by omega)⟩, HF.out.join (Fr.of_drewN _ _)⟩
end Go.Proofs.YtmefhngmgfmhoaaDoor

/-
  Rows that are found again: the finder.
-/
namespace Go.Proofs.YtmefhngmgfmhoaaDoor
open Go.RowKit

def alikeN (bs : List Nat) : Nat → Nat → Nat → Nat
  | _, _, 0 => 0
  | one, other, m + 1 => if bs.getD one 0 = bs.getD other 0 then alikeN bs (one + 1) (other + 1) m + 1 else 0

theorem alikeN_ok (bs : List Nat) : ∀ (m one other : Nat), Alike bs one other m (alikeN bs one other m) := by
  intro m
  induction m with
  | zero => intro one other; exact ⟨Nat.le_refl _, fun k hk => absurd hk (Nat.not_lt_zero k), Or.inl rfl⟩
  | succ m ih =>
    intro one other
    simp only [alikeN]
    split
    · next h =>
      obtain ⟨a, b, c⟩ := ih (one + 1) (other + 1)
      refine ⟨by omega, fun k hk => ?_, ?_⟩
      · cases k with
        | zero => exact h
        | succ k =>
          have := b k (by omega)
          rw [show one + (k + 1) = one + 1 + k by omega, show other + (k + 1) = other + 1 + k by omega]
          exact this
      · rcases c with c | c
        · exact Or.inl (by omega)
        · refine Or.inr ?_
          rw [show one + (alikeN bs (one + 1) (other + 1) m + 1) = one + 1 + alikeN bs (one + 1) (other + 1) m by omega, show other + (alikeN bs (one + 1) (other + 1) m + 1) = other + 1 + alikeN bs (one + 1) (other + 1) m by omega]
          exact c
    · next h => exact ⟨Nat.zero_le _, fun k hk => absurd hk (Nat.not_lt_zero k), Or.inr (by simpa using h)⟩

theorem Alike.det {bs : List Nat} {one other m n n' : Nat} (h : Alike bs one other m n) (k : Alike bs one other m n') : n = n' := by
  have key : ∀ {n n' : Nat}, Alike bs one other m n → Alike bs one other m n' → ¬ n < n' := by
    intro n n' h k hlt
    rcases h.stop with e | e
    · have := k.le; omega
    · exact e (k.eq n hlt)
  have a := key h k
  have b := key k h
  omega

/-- What find comes to from x on: the place it looks at is one less. -/
def findA (bs od : List Nat) (sz at' most : Nat) : Nat → Nat → Nat → Nat → Nat × Nat
  | 0, _, len, back => (len, back)
  | tries + 1, x, len, back =>
    if 0 < x ∧ at' + 1 - x ≤ 32768 ∧ len < most then
      if 3 ≤ alikeN bs (x - 1) at' most ∧ len < alikeN bs (x - 1) at' most then findA bs od sz at' most tries (od.getD ((x - 1) % sz) 0) (alikeN bs (x - 1) at' most) (at' + 1 - x)
      else findA bs od sz at' most tries (od.getD ((x - 1) % sz) 0) len back
    else (len, back)

/-- What find answers at a place. -/
def findP (bs nw od : List Nat) (k at' : Nat) : Nat × Nat :=
  if min 258 (bs.length - at') < 3 then (0, 0)
  else findA bs od (2 ^ k) at' (min 258 (bs.length - at')) 64 (nw.getD (keyf k (bs.getD at' 0) (bs.getD (at' + 1) 0) (bs.getD (at' + 2) 0)) 0) 0 0

/-- Whether there is such a row. -/
def RowOk (bs : List Nat) (at' len back : Nat) : Prop := 3 ≤ len ∧ len ≤ 258 ∧ at' + len ≤ bs.length ∧ 1 ≤ back ∧ back ≤ 32768 ∧ back ≤ at' ∧ ∀ k, k < len → bs.getD (at' - back + k) 0 = bs.getD (at' + k) 0

theorem findA_ok {bs od : List Nat} {sz at' most : Nat} (hod : ∀ i, od.getD i 0 ≤ at') (hm : most ≤ 258) (hlen : at' + most ≤ bs.length) : ∀ (tries x len back : Nat), x ≤ at' → (len = 0 ∧ back = 0 ∨ RowOk bs at' len back) →
    (findA bs od sz at' most tries x len back = (0, 0) ∨ RowOk bs at' (findA bs od sz at' most tries x len back).1 (findA bs od sz at' most tries x len back).2) := by
  intro tries
  induction tries with
  | zero =>
    intro x len back _ h
    rcases h with ⟨rfl, rfl⟩ | h
    · exact Or.inl rfl
    · exact Or.inr h
  | succ tries ih =>
    intro x len back hx h
    simp only [findA]
    split
    · next hc =>
      split
      · next ha =>
        refine ih _ _ _ (hod _) (Or.inr ?_)
        obtain ⟨a1, a2, a3⟩ := alikeN_ok bs most (x - 1) at'
        refine ⟨ha.1, by omega, by omega, by omega, hc.2.1, by omega, fun k hk => ?_⟩
        have := a2 k hk
        rw [show at' - (at' + 1 - x) = x - 1 by omega]
        exact this
      · exact ih _ _ _ (hod _) h
    · rcases h with ⟨rfl, rfl⟩ | h
      · exact Or.inl rfl
      · exact Or.inr h

def cells32 (l : List Nat) : List Value := l.map fun (x : Nat) => .int .i32 (x : Int)

/-- A finder at cell o of block M: its lists lie in the blocks N1 and N2. -/
structure Fd (w : World) (M o N1 N2 k : Nat) (nw od : List Nat) (top : Nat) : Prop where
  c1 : w.cell? ⟨M, o, none⟩ = some (.slice (some ⟨N1, 0, none⟩) (2 ^ k) (2 ^ k))
  c2 : w.cell? ⟨M, o + 1, none⟩ = some (.slice (some ⟨N2, 0, none⟩) (2 ^ k) (2 ^ k))
  b1 : w.heap[N1]? = some (.cells (cells32 nw).toArray 21 (0, 0))
  b2 : w.heap[N2]? = some (.cells (cells32 od).toArray 21 (0, 0))
  l1 : nw.length = 2 ^ k
  l2 : od.length = 2 ^ k
  t1 : ∀ x ∈ nw, x ≤ top
  t2 : ∀ x ∈ od, x ≤ top
  n1 : N1 ≠ M
  n2 : N2 ≠ M
  n3 : N1 ≠ N2
  k15 : k ≤ 15

theorem Fd.keep {w w' : World} {M o N1 N2 k : Nat} {nw od : List Nat} {top : Nat} (h : Fd w M o N1 N2 k nw od top) {S : Nat → Prop} (f : Fr S w w') (hM : w'.cell? ⟨M, o, none⟩ = w.cell? ⟨M, o, none⟩ ∧ w'.cell? ⟨M, o + 1, none⟩ = w.cell? ⟨M, o + 1, none⟩) (h1 : ¬ S N1) (h2 : ¬ S N2) : Fd w' M o N1 N2 k nw od top :=
  ⟨hM.1.trans h.c1, hM.2.trans h.c2, (f.block N1 (lt_of h.b1) h1).trans h.b1, (f.block N2 (lt_of h.b2) h2).trans h.b2, h.l1, h.l2, h.t1, h.t2, h.n1, h.n2, h.n3, h.k15⟩

theorem getD_top {l : List Nat} {top : Nat} (h : ∀ x ∈ l, x ≤ top) (i : Nat) : l.getD i 0 ≤ top := by
  rw [List.getD_eq_getElem?_getD]
  cases hk : l[i]? with
  | none => simp
  | some x => exact h x (List.mem_of_getElem? hk)

theorem cell32 {w : World} {N : Nat} {l : List Nat} (h : w.heap[N]? = some (.cells (cells32 l).toArray 21 (0, 0))) {i : Nat} (hi : i < l.length) : w.cell? ⟨N, i, none⟩ = some (.int .i32 ((l.getD i 0 : Nat) : Int)) :=
  cell_of (o := i) h (by simp [cells32, List.getElem?_map, List.getElem?_eq_getElem hi])

theorem set32 {w : World} {N : Nat} {l : List Nat} (h : w.heap[N]? = some (.cells (cells32 l).toArray 21 (0, 0))) (i x : Nat) : (w.setCell ⟨N, i, none⟩ (.int .i32 (x : Int))).heap[N]? = some (.cells (cells32 (l.set i x)).toArray 21 (0, 0)) := by
  rw [heap_setCell_own _ h]
  simp [cells32, List.map_set]

theorem mem_set_top {l : List Nat} {top i x : Nat} (h : ∀ y ∈ l, y ≤ top) (hx : x ≤ top) : ∀ y ∈ l.set i x, y ≤ top := fun y hy => by
  rcases List.mem_or_eq_of_mem_set hy with h1 | h1
  · exact h y h1
  · omega

theorem and_sz (x k sz : Nat) (hk : k ≤ 15) (hs : sz = 2 ^ k) : bits .and .i64 (x : Int) ((sz : Int) - 1) = ((x % 2 ^ k : Nat) : Int) := by
  have e : (2 : Int) ^ k = ((2 ^ k : Nat) : Int) := by simp
  have h := mask_i64 (x : Int) k (by omega)
  have e2 : (sz : Int) - 1 = 2 ^ k - 1 := by rw [e, hs]
  rw [e2, h]
  simp

/-- What add notes. -/
def addN (bs nw : List Nat) (k at' : Nat) : List Nat := if bs.length < at' + 3 then nw else nw.set (keyf k (bs.getD at' 0) (bs.getD (at' + 1) 0) (bs.getD (at' + 2) 0)) (at' + 1)
def addO (bs nw od : List Nat) (k at' : Nat) : List Nat := if bs.length < at' + 3 then od else od.set (at' % 2 ^ k) (nw.getD (keyf k (bs.getD at' 0) (bs.getD (at' + 1) 0) (bs.getD (at' + 2) 0)) 0)

theorem add_end {w w1 : World} {M o N1 N2 k at' : Nat} {nw od : List Nat} (h : Fd w M o N1 N2 k nw od at') (hF : Fr (fun _ => False) w w1) (ky r old : Nat) (hold : old ≤ at') :
    Fd ((w1.setCell ⟨N2, r, none⟩ (.int .i32 (old : Int))).setCell ⟨N1, ky, none⟩ (.int .i32 ((at' : Int) + 1))).drew M o N1 N2 k (nw.set ky (at' + 1)) (od.set r old) (at' + 1) ∧
    Fr (fun i => i = N1 ∨ i = N2) w ((w1.setCell ⟨N2, r, none⟩ (.int .i32 (old : Int))).setCell ⟨N1, ky, none⟩ (.int .i32 ((at' : Int) + 1))).drew := by
  have g1 : w1.heap[N1]? = some (.cells (cells32 nw).toArray 21 (0, 0)) := (hF.block N1 (lt_of h.b1) (fun e => e)).trans h.b1
  have g2 : w1.heap[N2]? = some (.cells (cells32 od).toArray 21 (0, 0)) := (hF.block N2 (lt_of h.b2) (fun e => e)).trans h.b2
  have e1 : ((at' : Int) + 1) = ((at' + 1 : Nat) : Int) := by omega
  rw [e1]
  have f : Fr (fun i => i = N1 ∨ i = N2) w1 ((w1.setCell ⟨N2, r, none⟩ (.int .i32 (old : Int))).setCell ⟨N1, ky, none⟩ (.int .i32 ((at' + 1 : Nat) : Int))).drew :=
    (((Fr.of_setCell w1 ⟨N2, r, none⟩ _).trans (Fr.of_setCell _ ⟨N1, ky, none⟩ _)).trans (Fr.of_drewN _ 1)).mono fun i _ e => by
      rcases e with (e | e) | e
      · exact Or.inr e
      · exact Or.inl e
      · exact e.elim
  have hnM : ¬ (M = N1 ∨ M = N2) := by
    rintro (e | e)
    · exact h.n1 e.symm
    · exact h.n2 e.symm
  have m1 : w1.cell? ⟨M, o, none⟩ = w.cell? ⟨M, o, none⟩ := cell_blk (a := ⟨M, o, none⟩) (hF.block M (cell_lt h.c1) (fun e => e))
  have m2 : w1.cell? ⟨M, o + 1, none⟩ = w.cell? ⟨M, o + 1, none⟩ := cell_blk (a := ⟨M, o + 1, none⟩) (hF.block M (cell_lt h.c2) (fun e => e))
  have hMlt : M < w1.heap.size := Nat.lt_of_lt_of_le (cell_lt h.c1) hF.size
  refine ⟨⟨?_, ?_, ?_, ?_, by rw [List.length_set]; exact h.l1, by rw [List.length_set]; exact h.l2, mem_set_top (fun x hx => Nat.le_succ_of_le (h.t1 x hx)) (Nat.le_refl _), mem_set_top (fun x hx => Nat.le_succ_of_le (h.t2 x hx)) (by omega), h.n1, h.n2, h.n3, h.k15⟩, ?_⟩
  · exact (cell_blk (a := ⟨M, o, none⟩) (f.block M hMlt hnM)).trans (m1.trans h.c1)
  · exact (cell_blk (a := ⟨M, o + 1, none⟩) (f.block M hMlt hnM)).trans (m2.trans h.c2)
  · exact set32 (w := w1.setCell ⟨N2, r, none⟩ (.int .i32 (old : Int))) (by rw [Below.heap_setCell _ _ _ _ h.n3]; exact g1) ky (at' + 1)
  · show ((w1.setCell ⟨N2, r, none⟩ (.int .i32 (old : Int))).setCell ⟨N1, ky, none⟩ _).heap[N2]? = _
    rw [Below.heap_setCell _ _ _ _ (Ne.symm h.n3)]
    exact set32 g2 r old
  · exact (hF.trans f).mono fun i _ e => e.elim (fun e => e.elim) id

set_option maxHeartbeats 1600000 in
set_option maxRecDepth 100000 in
theorem add_c (M o N1 N2 k at' D f n c : Nat) (bs nw od : List Nat) (w : World) (h : Fd w M o N1 N2 k nw od at') (hL : LiesB w D f bs) (hn : n = bs.length) (hn2 : n ≤ 2147480000) (hb : ∀ b ∈ bs, b < 256) (hat : at' < n) :
    Calls Tryd.prog 38 #[.pointer (some ⟨M, o, none⟩), .slice (some ⟨D, f, none⟩) n c, .int .i64 (at' : Int)] w fun e w' => e = .returned (.tuple #[]) ∧ Fd w' M o N1 N2 k (addN bs nw k at') (addO bs nw od k at') (at' + 1) ∧ Fr (fun i => i = N1 ∨ i = N2) w w' := by
  have hai : (at' : Int) ≤ 2147480000 := by omega
  by_cases hs : bs.length < at' + 3
  · have hi : (n : Int) < (at' : Int) + 3 := by omega
    have H := hide h
    clear h hn
    go_enter Tryd.func38, Tryd.ntmps38
    go_wp2
    refine bodyPost_ret (results_none rfl _ _ _) rfl ?_
    unfold addN addO
    rw [if_pos hs, if_pos hs]
    have h := H.out
    exact ⟨rfl, ⟨h.c1, h.c2, h.b1, h.b2, h.l1, h.l2, fun x hx => Nat.le_succ_of_le (h.t1 x hx), fun x hx => Nat.le_succ_of_le (h.t2 x hx), h.n1, h.n2, h.n3, h.k15⟩, Fr.refl _ _⟩
  · have hi : ¬ (n : Int) < (at' : Int) + 3 := by omega
    obtain ⟨x0, hx0⟩ : ∃ x, x = bs.getD at' 0 := ⟨_, rfl⟩
    obtain ⟨x1, hx1⟩ : ∃ x, x = bs.getD (at' + 1) 0 := ⟨_, rfl⟩
    obtain ⟨x2, hx2⟩ : ∃ x, x = bs.getD (at' + 2) 0 := ⟨_, rfl⟩
    have c0 := hL at' (by omega)
    have c1 := hL (at' + 1) (by omega)
    have c2 := hL (at' + 2) (by omega)
    have l0 : x0 < 256 := by rw [hx0]; exact getD_lt hb _
    have l1 : x1 < 256 := by rw [hx1]; exact getD_lt hb _
    have l2 : x2 < 256 := by rw [hx2]; exact getD_lt hb _
    rw [← hx0] at c0
    rw [← hx1] at c1
    rw [← hx2] at c2
    have hN : addN bs nw k at' = nw.set (keyf k x0 x1 x2) (at' + 1) := by unfold addN; rw [if_neg hs, hx0, hx1, hx2]
    have hO : addO bs nw od k at' = od.set (at' % 2 ^ k) (nw.getD (keyf k x0 x1 x2) 0) := by unfold addO; rw [if_neg hs, hx0, hx1, hx2]
    obtain ⟨sz, hsz⟩ : ∃ sz, sz = 2 ^ k := ⟨_, rfl⟩
    have m1 := h.c1
    have m2 := h.c2
    rw [← hsz] at m1 m2
    have hkc := key_c M o k sz at' x0 x1 x2 (some ⟨N1, 0, none⟩) D f n c w m1 hsz h.k15 (by omega) (by omega) c0 c1 c2 l0 l1 l2
    obtain ⟨ky, hky⟩ : ∃ ky, ky = keyf k x0 x1 x2 := ⟨_, rfl⟩
    have hkl : ky < sz := by rw [hky, hsz]; exact keyf_lt _ _ _ _
    obtain ⟨r, hr⟩ : ∃ r, r = at' % 2 ^ k := ⟨_, rfl⟩
    have hrl : r < sz := by rw [hr, hsz]; exact Nat.mod_lt _ (pow_pos2 k)
    have hand := and_sz at' k sz h.k15 hsz
    rw [← hr] at hand
    rw [← hky] at hkc hN hO
    rw [← hr] at hO
    have e1 := cell32 h.b1 (i := ky) (by rw [h.l1, ← hsz]; exact hkl)
    obtain ⟨old, hold⟩ : ∃ old, old = nw.getD ky 0 := ⟨_, rfl⟩
    have holdt : old ≤ at' := by rw [hold]; exact getD_top h.t1 _
    rw [← hold] at e1 hO
    have e2 := cell32 h.b2 (i := r) (by rw [h.l2, ← hsz]; exact hrl)
    obtain ⟨old2, hold2⟩ : ∃ old2, old2 = od.getD r 0 := ⟨_, rfl⟩
    rw [← hold2] at e2
    have hsz15 : (sz : Int) ≤ 32768 := by
      have : (2 : Nat) ^ k ≤ 2 ^ 15 := Nat.pow_le_pow_right (by decide) h.k15
      omega
    have hsz0 : (1 : Int) ≤ (sz : Int) := by have := pow_pos2 k; omega
    have hkli : (ky : Int) < (sz : Int) := by omega
    have hrli : (r : Int) < (sz : Int) := by omega
    have H := hide h
    have HN := hide hN
    have HO := hide hO
    have Hkc := hide hkc
    clear h hN hO hkc hx0 hx1 hx2 c0 c1 c2 hky hr hold hold2 hsz l0 l1 l2 hL hb hn
    go_enter Tryd.func38, Tryd.ntmps38
    go_wp2_with fail
    refine (calls_args Hkc.out (by rfl)).mono ?_
    rintro e w1 ⟨rfl, hF1⟩
    have HF1 := hide hF1
    have m1' := (cell_blk (a := ⟨M, o, none⟩) (hF1.block M (cell_lt m1) (fun e => e))).trans m1
    have m2' := (cell_blk (a := ⟨M, o + 1, none⟩) (hF1.block M (cell_lt m2) (fun e => e))).trans m2
    have e1' := (cell_blk (a := ⟨N1, ky, none⟩) (hF1.block N1 (cell_lt e1) (fun e => e))).trans e1
    have e2' := (cell_blk (a := ⟨N2, r, none⟩) (hF1.block N2 (cell_lt e2) (fun e => e))).trans e2
    have g1 : w1.heap[N1]? = some (.cells (cells32 nw).toArray 21 (0, 0)) := (hF1.block N1 (lt_of H.out.b1) (fun e => e)).trans H.out.b1
    have g2 : w1.heap[N2]? = some (.cells (cells32 od).toArray 21 (0, 0)) := (hF1.block N2 (lt_of H.out.b2) (fun e => e)).trans H.out.b2
    have z1 := frozen_of (o := ky) g1
    have z2 := frozen_of (o := r) g2
    have n1 := H.out.n1
    have n2 := H.out.n2
    have n3 := H.out.n3
    have G1 := hide g1
    have G2 := hide g2
    clear hF1 g1 g2 m1 m2 e1 e2
    go_wp2
    go_region
    all_goals
      go_wp2
      go_end0
      rw [HN.out, HO.out]
      obtain ⟨q1, q2⟩ := add_end H.out HF1.out ky r old holdt
      exact ⟨rfl, q1, q2⟩
end Go.Proofs.YtmefhngmgfmhoaaDoor

/-
  Rows that are found again: find.
-/
namespace Go.Proofs.YtmefhngmgfmhoaaDoor
open Go.RowKit

theorem ret_two {a b c d : Int} (h1 : a = c) (h2 : b = d) : Ending.returned (.tuple #[.int .i64 a, .int .i64 b]) = .returned (.tuple #[.int .i64 c, .int .i64 d]) := by rw [h1, h2]

set_option maxHeartbeats 1600000 in
set_option maxRecDepth 100000 in
theorem find_c (M o N1 N2 k at' D f n c : Nat) (bs nw od : List Nat) (w : World) (h : Fd w M o N1 N2 k nw od at') (hL : LiesB w D f bs) (hn : n = bs.length) (hn2 : n ≤ 2147480000) (hb : ∀ b ∈ bs, b < 256) (hat : at' < n) :
    Calls Tryd.prog 37 #[.pointer (some ⟨M, o, none⟩), .slice (some ⟨D, f, none⟩) n c, .int .i64 (at' : Int)] w fun e w' => e = .returned (.tuple #[.int .i64 ((findP bs nw od k at').1 : Int), .int .i64 ((findP bs nw od k at').2 : Int)]) ∧ Fr (fun _ => False) w w' := by
  have hai : (at' : Int) ≤ 2147480000 := by omega
  obtain ⟨most, hmost⟩ : ∃ m, m = min 258 (bs.length - at') := ⟨_, rfl⟩
  have hmi : (if (n : Int) - (at' : Int) < 258 then (n : Int) - (at' : Int) else 258) = (most : Int) := by split <;> omega
  have hm258 : (most : Int) ≤ 258 := by omega
  have hP : findP bs nw od k at' = if most < 3 then (0, 0) else findA bs od (2 ^ k) at' most 64 (nw.getD (keyf k (bs.getD at' 0) (bs.getD (at' + 1) 0) (bs.getD (at' + 2) 0)) 0) 0 0 := by unfold findP; rw [← hmost]
  have hml : at' + most ≤ bs.length := by omega
  have Hmost := hide hmost
  have H := hide h
  have HL := hide hL
  have Hb := hide hb
  have Hn := hide hn
  by_cases hs : most < 3
  · rw [if_pos hs] at hP
    have HP := hide hP
    have hsi : (most : Int) < 3 := by omega
    clear hP h hL hb hn hmost
    go_enter Tryd.func37, Tryd.ntmps37
    go_wp2
    all_goals
      go_ret2
      rw [HP.out]
      exact ⟨rfl, Fr.refl _ _⟩
  · rw [if_neg hs] at hP
    have hsi : ¬ (most : Int) < 3 := by omega
    obtain ⟨x0, hx0⟩ : ∃ x, x = bs.getD at' 0 := ⟨_, rfl⟩
    obtain ⟨x1, hx1⟩ : ∃ x, x = bs.getD (at' + 1) 0 := ⟨_, rfl⟩
    obtain ⟨x2, hx2⟩ : ∃ x, x = bs.getD (at' + 2) 0 := ⟨_, rfl⟩
    have c0 := hL at' (by omega)
    have c1 := hL (at' + 1) (by omega)
    have c2 := hL (at' + 2) (by omega)
    have l0 : x0 < 256 := by rw [hx0]; exact getD_lt hb _
    have l1 : x1 < 256 := by rw [hx1]; exact getD_lt hb _
    have l2 : x2 < 256 := by rw [hx2]; exact getD_lt hb _
    rw [← hx0] at c0
    rw [← hx1] at c1
    rw [← hx2] at c2
    obtain ⟨sz, hsz⟩ : ∃ sz, sz = 2 ^ k := ⟨_, rfl⟩
    have m1 := h.c1
    have m2 := h.c2
    rw [← hsz] at m1 m2
    obtain ⟨ky, hky⟩ : ∃ ky, ky = keyf k x0 x1 x2 := ⟨_, rfl⟩
    have hkl : ky < sz := by rw [hky, hsz]; exact keyf_lt _ _ _ _
    rw [← hx0, ← hx1, ← hx2, ← hky] at hP
    have e1 := cell32 h.b1 (i := ky) (by rw [h.l1, ← hsz]; exact hkl)
    obtain ⟨x, hx⟩ : ∃ x, x = nw.getD ky 0 := ⟨_, rfl⟩
    have hxt : x ≤ at' := by rw [hx]; exact getD_top h.t1 _
    rw [← hx] at e1 hP
    have m1d : w.drew.cell? ⟨M, o, none⟩ = some (.slice (some ⟨N1, 0, none⟩) sz sz) := m1
    have e1d : w.drew.cell? ⟨N1, ky, none⟩ = some (.int .i32 (x : Int)) := e1
    have Hkc := hide (key_c M o k sz at' x0 x1 x2 (some ⟨N1, 0, none⟩) D f n c w.drew m1d hsz h.k15 (by omega) (by omega) c0 c1 c2 l0 l1 l2)
    rw [← hky] at Hkc
    have hsz15 : (sz : Int) ≤ 32768 := by
      have : (2 : Nat) ^ k ≤ 2 ^ 15 := Nat.pow_le_pow_right (by decide) h.k15
      omega
    have hsz0 : (1 : Int) ≤ (sz : Int) := by have := pow_pos2 k; omega
    have hkli : (ky : Int) < (sz : Int) := by omega
    have hxi : (x : Int) ≤ 2147480000 := by omega
    have HP := hide hP
    have Hsz := hide hsz
    have M1 := hide m1
    have M2 := hide m2
    have E1 := hide e1
    clear hP h hL hb hn hmost hx0 hx1 hx2 hx hky c0 c1 c2 hsz l0 l1 l2
    go_enter Tryd.func37, Tryd.ntmps37
    go_wp2_with fail
    refine wp_region_held_drew (S := fun W' => W'.cell? ⟨M, o, none⟩ = some (.slice (some ⟨N1, 0, none⟩) sz sz) ∧ W'.cell? ⟨N1, ky, none⟩ = some (.int .i32 (x : Int))) (by kernel_rfl) ⟨m1d, e1d⟩ (fun hHeld => ?_)
    refine wpAnyH_take (i := 0) (v := ?v0) rfl (by kernel_rfl) (by kernel_rfl) (by kernel_rfl) (fun _ _ _ h => h) (Or.inl ⟨by rfl, ?hy0⟩) hHeld ?rest0
    case hy0 => (intro W hSw; (try dsimp only at hSw); obtain ⟨hSa, hSb⟩ := hSw; go_simp; all_goals (with_reducible rfl))
    change wpAnyH _ _ _ _ _ _ _ (Act.put _ (some 19) _) _
    simp only [Act.put, List.setIfInBounds_toArray, List.set_cons_zero, List.set_cons_succ]
    refine wpAnyH_take (i := 4) (v := ?v4) rfl (by kernel_rfl) (by kernel_rfl) (by kernel_rfl) (fun _ _ _ h => h) (Or.inl ⟨by rfl, ?hy4⟩) hHeld ?rest4
    case hy4 => (intro W hSw; (try dsimp only at hSw); obtain ⟨hSa, hSb⟩ := hSw; go_simp; all_goals (with_reducible rfl))
    change wpAnyH _ _ _ _ _ _ _ (Act.put _ (some 23) _) _
    simp only [Act.put, List.setIfInBounds_toArray, List.set_cons_zero, List.set_cons_succ]
    refine wpAnyH_take (i := 5) (v := ?v5) rfl (by kernel_rfl) (by kernel_rfl) (by kernel_rfl) (fun _ _ _ h => h) (Or.inl ⟨by rfl, ?hy5⟩) hHeld ?rest5
    case hy5 => (intro W hSw; (try dsimp only at hSw); obtain ⟨hSa, hSb⟩ := hSw; go_simp; all_goals (with_reducible rfl))
    change wpAnyH _ _ _ _ _ _ _ (Act.put _ (some 24) _) _
    simp only [Act.put, List.setIfInBounds_toArray, List.set_cons_zero, List.set_cons_succ]
    refine wpAnyH_take (i := 6) (v := ?v6) rfl (by kernel_rfl) (by kernel_rfl) (by kernel_rfl) (fun _ _ _ h => h) (Or.inl ⟨by rfl, ?hy6⟩) hHeld ?rest6
    case hy6 => (intro W hSw; (try dsimp only at hSw); obtain ⟨hSa, hSb⟩ := hSw; go_simp; all_goals (with_reducible rfl))
    change wpAnyH _ _ _ _ _ _ _ (Act.put _ (some 25) _) _
    simp only [Act.put, List.setIfInBounds_toArray, List.set_cons_zero, List.set_cons_succ]
    refine wpAnyH_take (i := 1) (v := ?v1) rfl (by kernel_rfl) (by kernel_rfl) (by kernel_rfl) (fun _ _ _ h => h) (Or.inl ⟨by rfl, ?hy1⟩) hHeld ?rest1
    case hy1 => (intro W hSw; (try dsimp only at hSw); obtain ⟨hSa, hSb⟩ := hSw; go_simp; all_goals (with_reducible rfl))
    change wpAnyH _ _ _ _ _ _ _ (Act.put _ (some 20) _) _
    simp only [Act.put, List.setIfInBounds_toArray, List.set_cons_zero, List.set_cons_succ]
    refine wpAnyH_take (i := 2) (v := ?v2) rfl (by kernel_rfl) (by kernel_rfl) (by kernel_rfl) (fun _ _ _ h => h) (Or.inl ⟨by rfl, ?hy2⟩) hHeld ?rest2
    case hy2 => (intro W hSw; (try dsimp only at hSw); obtain ⟨hSa, hSb⟩ := hSw; go_simp; all_goals (with_reducible rfl))
    change wpAnyH _ _ _ _ _ _ _ (Act.put _ (some 21) _) _
    simp only [Act.put, List.setIfInBounds_toArray, List.set_cons_zero, List.set_cons_succ]
    refine wpAnyH_take (i := 3) (v := ?v3) rfl (by kernel_rfl) (by kernel_rfl) (by kernel_rfl) (fun _ _ _ h => h) (Or.inl ⟨by rfl, ?hy3⟩) hHeld ?rest3
    case hy3 => (intro W hSw; (try dsimp only at hSw); obtain ⟨hSa, hSb⟩ := hSw; go_simp; all_goals (with_reducible rfl))
    change wpAnyH _ _ _ _ _ _ _ (Act.put _ (some 22) _) _
    simp only [Act.put, List.setIfInBounds_toArray, List.set_cons_zero, List.set_cons_succ]
    refine wpAnyH_ready (rs := [7]) (by kernel_rfl) (by simp) ?_
    refine AllReadyH.cons rfl (fun K hK => ?_) AllReadyH.nil
    try simp only [List.getElem_toArray, List.getElem_cons_succ, List.getElem_cons_zero]
    go_simp
    refine (calls_args Hkc.out (by rfl)).mono ?_
    rintro e w1 ⟨rfl, hF1⟩
    have hF1w : Fr (fun _ => False) w w1 := (Fr.of_drewN w 1).join hF1
    have HF1 := hide hF1w
    have hS1 : w1.cell? ⟨M, o, none⟩ = some (.slice (some ⟨N1, 0, none⟩) sz sz) ∧ w1.cell? ⟨N1, ky, none⟩ = some (.int .i32 (x : Int)) := ⟨(cell_blk (a := ⟨M, o, none⟩) (hF1w.block M (cell_lt M1.out) (fun e => e))).trans M1.out, (cell_blk (a := ⟨N1, ky, none⟩) (hF1w.block N1 (cell_lt E1.out) (fun e => e))).trans E1.out⟩
    clear hF1 hF1w
    refine hK.out _ _ hS1 (fun hHeld => ?_)
    clear hK K
    refine wpAnyH_take (i := 8) (v := ?v8) rfl (by kernel_rfl) (by kernel_rfl) (by kernel_rfl) (fun _ _ _ h => h) (Or.inl ⟨by rfl, ?hy8⟩) hHeld ?rest8
    case hy8 => (intro W hSw; (try dsimp only at hSw); obtain ⟨hSa, hSb⟩ := hSw; go_simp; all_goals (with_reducible rfl))
    change wpAnyH _ _ _ _ _ _ _ (Act.put _ (some 27) _) _
    simp only [Act.put, List.setIfInBounds_toArray, List.set_cons_zero, List.set_cons_succ]
    refine wpAnyH_take (i := 9) (v := ?v9) rfl (by kernel_rfl) (by kernel_rfl) (by kernel_rfl) (fun _ _ _ h => h) (Or.inl ⟨by rfl, ?hy9⟩) hHeld ?rest9
    case hy9 => (intro W hSw; (try dsimp only at hSw); obtain ⟨hSa, hSb⟩ := hSw; go_simp; all_goals (with_reducible rfl))
    change wpAnyH _ _ _ _ _ _ _ (Act.put _ (some 28) _) _
    simp only [Act.put, List.setIfInBounds_toArray, List.set_cons_zero, List.set_cons_succ]
    refine wpAnyH_take (i := 10) (v := ?v10) rfl (by kernel_rfl) (by kernel_rfl) (by kernel_rfl) (fun _ _ _ h => h) (Or.inl ⟨by rfl, ?hy10⟩) hHeld ?rest10
    case hy10 => (intro W hSw; (try dsimp only at hSw); obtain ⟨hSa, hSb⟩ := hSw; go_simp; all_goals (with_reducible rfl))
    change wpAnyH _ _ _ _ _ _ _ (Act.put _ (some 29) _) _
    simp only [Act.put, List.setIfInBounds_toArray, List.set_cons_zero, List.set_cons_succ]
    refine wpAnyH_take (i := 11) (v := ?v11) rfl (by kernel_rfl) (by kernel_rfl) (by kernel_rfl) (fun _ _ _ h => h) (Or.inl ⟨by rfl, ?hy11⟩) hHeld ?rest11
    case hy11 => (intro W hSw; (try dsimp only at hSw); obtain ⟨hSa, hSb⟩ := hSw; go_simp; all_goals (with_reducible rfl))
    change wpAnyH _ _ _ _ _ _ _ (Act.put _ (some 30) _) _
    simp only [Act.put, List.setIfInBounds_toArray, List.set_cons_zero, List.set_cons_succ]
    refine wpAnyH_take (i := 12) (v := ?v12) rfl (by kernel_rfl) (by kernel_rfl) (by kernel_rfl) (fun _ _ _ h => h) (Or.inl ⟨by rfl, ?hy12⟩) hHeld ?rest12
    case hy12 => (intro W hSw; (try dsimp only at hSw); obtain ⟨hSa, hSb⟩ := hSw; go_simp; all_goals (with_reducible rfl))
    change wpAnyH _ _ _ _ _ _ _ (Act.put _ (some 9) _) _
    simp only [Act.put, List.setIfInBounds_toArray, List.set_cons_zero, List.set_cons_succ]
    refine wpAnyH_done (by kernel_rfl) ?_ _
    clear hHeld m1 m2 e1 m1d e1d hS1
    go_wp2_with fail
    go_loopw [6, 7, 9, 10, 11] (fun tl tb tp tt _ wr => ∃ (len back y tries : Nat), tl = .int .i64 (len : Int) ∧ tb = .int .i64 (back : Int) ∧ tp = .int .i64 ((y : Int) - 1) ∧ tt = .int .i64 (tries : Int) ∧ tries ≤ 64 ∧ y ≤ at' ∧ len ≤ 258 ∧ findA bs od (2 ^ k) at' most 64 x 0 0 = findA bs od (2 ^ k) at' most tries y len back ∧ Fr (fun _ => False) w wr) (fun _ _ _ tt _ _ => (intOf tt).toNat)
    case atStart => exact ⟨0, 0, x, 64, rfl, rfl, by rw [wrap_i64_id (x : Int) (by omega) (by omega), wrap_i64_id _ (by omega) (by omega)], rfl, Nat.le_refl _, hxt, Nat.zero_le _, rfl, HF1.out⟩
    case round =>
      obtain ⟨len, back, y, tries, rfl, rfl, rfl, rfl, ht, hy, hl258, hfa, hF⟩ := hrel
      have HF := hide hF
      have Hfa := hide hfa
      clear hF hfa
      have hyi : (y : Int) ≤ 2147480000 := by omega
      by_cases hc : 0 < tries ∧ 0 < y ∧ at' + 1 - y ≤ 32768 ∧ len < most
      · obtain ⟨q1, q2, q3, q4⟩ := hc
        obtain ⟨pl, rfl⟩ : ∃ pl, y = pl + 1 := ⟨y - 1, by omega⟩
        obtain ⟨tr, rfl⟩ : ∃ tr, tries = tr + 1 := ⟨tries - 1, by omega⟩
        have i1 : (0 : Int) < (tr : Int) + 1 := by omega
        have i3 : (at' : Int) - (pl : Int) ≤ 32768 := by omega
        have i3' : (at' : Int) ≤ 32768 + (pl : Int) := by omega
        have i4 : (len : Int) < (most : Int) := by omega
        have hpli : (pl : Int) ≤ 2147480000 := by omega
        have htri : (tr : Int) ≤ 64 := by omega
        go_wp2_with fail
        refine (calls_args (alike_c D f n c pl at' most bs wr (HL.out.fr HF.out (fun e => e)) (by have := Hn.out; omega) (by omega) (by have := Hn.out; omega) (by have := Hn.out; omega)) (by rfl)).mono ?_
        rintro e w2 ⟨m, rfl, hal, hF2⟩
        have hm : m = alikeN bs pl at' most := hal.det (alikeN_ok bs most pl at')
        have hmm : m ≤ 258 := by have := hal.le; omega
        have hF2w := HF.out.join hF2
        have HF2 := hide hF2w
        have m2' := (cell_blk (a := ⟨M, o + 1, none⟩) (hF2w.block M (cell_lt M2.out) (fun e => e))).trans M2.out
        obtain ⟨r, hr⟩ : ∃ r, r = pl % 2 ^ k := ⟨_, rfl⟩
        have hrl : r < sz := by rw [hr, Hsz.out]; exact Nat.mod_lt _ (pow_pos2 k)
        have hand := and_sz pl k sz H.out.k15 Hsz.out
        rw [← hr] at hand
        have e2 := cell32 H.out.b2 (i := r) (by rw [H.out.l2, ← Hsz.out]; exact hrl)
        obtain ⟨z, hz⟩ : ∃ z, z = od.getD r 0 := ⟨_, rfl⟩
        have hzt : z ≤ at' := by rw [hz]; exact getD_top H.out.t2 _
        rw [← hz] at e2
        have e2' := (cell_blk (a := ⟨N2, r, none⟩) (hF2w.block N2 (cell_lt e2) (fun e => e))).trans e2
        have hrli : (r : Int) < (sz : Int) := by omega
        rw [hr] at hz
        have Hm := hide hm
        have Hz := hide hz
        clear hal hm hF2 hF2w hr e2 hz
        have hst : findA bs od (2 ^ k) at' most (tr + 1) (pl + 1) len back = findA bs od (2 ^ k) at' most tr z (if 3 ≤ m ∧ len < m then m else len) (if 3 ≤ m ∧ len < m then at' - pl else back) := by
          rw [findA, if_pos ⟨by omega, by omega, q4⟩, Nat.add_sub_cancel, ← Hm.out, ← Hz.out, show at' + 1 - (pl + 1) = at' - pl by omega]
          split <;> rfl
        have Hst := hide hst
        clear hst
        go_upto_region 9 with fail
        go_cut [61] from 31 to 81 (fun cv wx => cv = .bool (decide (3 ≤ m ∧ len < m)) ∧ wx = w2)
        case first =>
          clear i1 i3 i3' i4 hmi hsi
          rcases (show (3 ≤ m ∧ len < m) ∨ (3 ≤ m ∧ m ≤ len) ∨ m < 3 by omega) with ⟨u1, u2⟩ | ⟨u1, u2⟩ | u1
          · have j1 : (3 : Int) ≤ (m : Int) := by omega
            have j2 : (len : Int) < (m : Int) := by omega
            have e : decide (3 ≤ m ∧ len < m) = true := decide_eq_true ⟨u1, u2⟩
            have He := hide e
            clear e u1 u2
            go_wp2
            go_meet
            rw [He.out]
            exact ⟨rfl, rfl⟩
          · have j1 : (3 : Int) ≤ (m : Int) := by omega
            have j2 : decide ((len : Int) < (m : Int)) = false := decide_eq_false (by omega)
            have e : decide (3 ≤ m ∧ len < m) = false := decide_eq_false (by omega)
            have He := hide e
            have U2 := hide u2
            clear e u1 u2
            go_wp2
            go_meet
            rw [He.out]
            exact ⟨by rw [decide_eq_false (by have := U2.out; omega)], rfl⟩
          · have j3 : decide ((3 : Int) ≤ (m : Int)) = false := decide_eq_false (by omega)
            have e : decide (3 ≤ m ∧ len < m) = false := decide_eq_false (by omega)
            have He := hide e
            clear e u1
            go_wp2
            go_meet
            rw [He.out]
            exact ⟨rfl, rfl⟩
        case rest =>
          obtain ⟨rfl, rfl⟩ := hcut
          clear i1 i3 i3' i4 hmi hsi
          by_cases hacc : 3 ≤ m ∧ len < m
          · rw [if_pos hacc, if_pos hacc] at Hst
            have e : decide (3 ≤ m ∧ len < m) = true := decide_eq_true hacc
            rw [e]
            clear e hacc
            go_wp2_with fail
            go_quiet (fail)
            go_wp2
            go_roundw
            case rel =>
              refine ⟨m, at' - pl, z, tr, rfl, by rw [Int.ofNat_sub (by omega)], rfl, by go_num, by omega, hzt, hmm, ?_, HF2.out.join (Fr.of_drewN _ _)⟩
              rw [Hfa.out, Hst.out]
            case measure => simp [intOf]
          · rw [if_neg hacc, if_neg hacc] at Hst
            have e : decide (3 ≤ m ∧ len < m) = false := decide_eq_false hacc
            rw [e]
            clear e hacc
            go_wp2_with fail
            go_quiet (fail)
            go_wp2
            go_roundw
            case rel =>
              refine ⟨len, back, z, tr, rfl, rfl, rfl, by go_num, by omega, hzt, hl258, ?_, HF2.out.join (Fr.of_drewN _ _)⟩
              rw [Hfa.out, Hst.out]
            case measure => simp [intOf]
      · have hend : findA bs od (2 ^ k) at' most tries y len back = (len, back) := by
          cases tries with
          | zero => rfl
          | succ tr => rw [findA, if_neg (fun h => hc ⟨by omega, h⟩)]
        have Hend := hide hend
        have Hc := hide hc
        clear hend hc
        rcases (show tries = 0 ∨ (0 < tries ∧ y = 0) ∨ (0 < tries ∧ 0 < y ∧ 32768 < at' + 1 - y) ∨ (0 < tries ∧ 0 < y ∧ at' + 1 - y ≤ 32768 ∧ most ≤ len) by have := Hc.out; omega) with c1 | ⟨c1, c2⟩ | ⟨c1, c2, c3⟩ | ⟨c1, c2, c3, c4⟩
        · subst c1
          go_wp2
          go_ret2
          rw [HP.out, Hfa.out, Hend.out]
          exact ⟨rfl, HF.out⟩
        · subst c2
          have i1 : (0 : Int) < (tries : Int) := by omega
          go_wp2
          go_ret2
          rw [HP.out, Hfa.out, Hend.out]
          exact ⟨rfl, HF.out⟩
        · obtain ⟨pl, rfl⟩ : ∃ pl, y = pl + 1 := ⟨y - 1, by omega⟩
          have i1 : (0 : Int) < (tries : Int) := by omega
          have i3 : ¬ (at' : Int) - (pl : Int) ≤ 32768 := by omega
          have i3' : ¬ (at' : Int) ≤ 32768 + (pl : Int) := by omega
          go_wp2
          go_ret2
          rw [HP.out, Hfa.out, Hend.out]
          exact ⟨rfl, HF.out⟩
        · obtain ⟨pl, rfl⟩ : ∃ pl, y = pl + 1 := ⟨y - 1, by omega⟩
          have i1 : (0 : Int) < (tries : Int) := by omega
          have i3 : (at' : Int) - (pl : Int) ≤ 32768 := by omega
          have i3' : (at' : Int) ≤ 32768 + (pl : Int) := by omega
          have i4 : ¬ (len : Int) < (most : Int) := by omega
          go_wp2
          go_ret2
          rw [HP.out, Hfa.out, Hend.out]
          exact ⟨rfl, HF.out⟩
end Go.Proofs.YtmefhngmgfmhoaaDoor

/-
  Rows that are found again: a new finder.
-/
namespace Go.Proofs.YtmefhngmgfmhoaaDoor
open Go.RowKit

theorem Tryd.info21 : (Tryd.prog.info? 21).map (fun i => (i.zero, i.size, i.bytes)) = some (some (.int .i32 0), 1, 4) := by kernel_rfl

theorem make32 (n : Nat) (hn : n ≤ 1000000) : ∀ W : World, (Instr.makeSlice 61 (.int .i64 (n : Int)) (.int .i64 (n : Int))).run Tryd.prog W = .ok (.slice (some ⟨W.heap.size, 0, none⟩) n n) (W.alloc (.cells (cells32 (List.replicate n 0)).toArray 21)) := by
  obtain ⟨i0, hi, hz0, hz1, hz2⟩ := info_parts Tryd.info21
  intro W
  have := run_make (P := Tryd.prog) W 61 21 i0 (.int .i32 0) Tryd.underlying61 hi hz0 .i64 .i64 n n (by omega) (Int.le_refl _) (by rw [hz2]; omega) (by omega)
  rw [hz1] at this
  have e : madeCells (Value.int .i32 0).cells (n * 1) = (cells32 (List.replicate n 0)).toArray := by
    apply Array.ext'
    rw [Nat.mul_one]
    show (madeCells #[.int .i32 0] n).toList = _
    rw [toList_madeCells_one]
    simp [cells32]
  rw [← e]
  simpa using this

/-- How many bits the keys of a finder for n bytes have. -/
def finK (n : Nat) : Nat → Nat → Nat
  | 0, k => k
  | f + 1, k => if 2 ^ k < n ∧ 2 ^ k < 32768 then finK n f (k + 1) else k

theorem finK_le (n : Nat) : ∀ f k, k ≤ 15 → finK n f k ≤ 15 := by
  intro f
  induction f with
  | zero => intro k h; exact h
  | succ f ih =>
    intro k h
    simp only [finK]
    split
    · next hc =>
      refine ih (k + 1) ?_
      rcases Nat.lt_or_ge k 15 with h1 | h1
      · omega
      · have : (2 : Nat) ^ 15 ≤ 2 ^ k := Nat.pow_le_pow_right (by decide) h1
        omega
    · exact h

theorem two_new (w : World) (o : Obj) (X : Array Value) : (((w.alloc o).alloc (.cells X 21)).alloc (.cells X 21)).drew.heap[w.heap.size + 1]? = some (.cells X 21 (0, 0)) ∧ (((w.alloc o).alloc (.cells X 21)).alloc (.cells X 21)).drew.heap[w.heap.size + 1 + 1]? = some (.cells X 21 (0, 0)) ∧ Fr (fun _ => False) w (((w.alloc o).alloc (.cells X 21)).alloc (.cells X 21)).drew := by
  have f1 : Fr (fun _ => False) w (w.alloc o) := Fr.of_alloc _ _
  have f2 : Fr (fun _ => False) (w.alloc o) ((w.alloc o).alloc (.cells X 21)) := Fr.of_alloc _ _
  have f3 : Fr (fun _ => False) ((w.alloc o).alloc (.cells X 21)) (((w.alloc o).alloc (.cells X 21)).alloc (.cells X 21)) := Fr.of_alloc _ _
  have f4 : Fr (fun _ => False) (((w.alloc o).alloc (.cells X 21)).alloc (.cells X 21)) (((w.alloc o).alloc (.cells X 21)).alloc (.cells X 21)).drew := Fr.of_drewN _ 1
  have b1 : ((w.alloc o).alloc (.cells X 21)).heap[w.heap.size + 1]? = some (.cells X 21 (0, 0)) := heap_alloc_at (by simp)
  have b2 : (((w.alloc o).alloc (.cells X 21)).alloc (.cells X 21)).heap[w.heap.size + 1 + 1]? = some (.cells X 21 (0, 0)) := heap_alloc_at (by simp)
  exact ⟨cells_at b1 (f3.join f4) (fun e => e), cells_at b2 f4 (fun e => e), f1.join (f2.join (f3.join f4))⟩

set_option maxHeartbeats 1600000 in
set_option maxRecDepth 100000 in
theorem newFinder_c (n : Nat) (w : World) :
    Calls Tryd.prog 25 #[.int .i64 (n : Int)] w fun e w' => ∃ N1 N2, e = .returned (.agg #[.slice (some ⟨N1, 0, none⟩) (2 ^ finK n 15 0) (2 ^ finK n 15 0), .slice (some ⟨N2, 0, none⟩) (2 ^ finK n 15 0) (2 ^ finK n 15 0)]) ∧
      w'.heap[N1]? = some (.cells (cells32 (List.replicate (2 ^ finK n 15 0) 0)).toArray 21 (0, 0)) ∧ w'.heap[N2]? = some (.cells (cells32 (List.replicate (2 ^ finK n 15 0) 0)).toArray 21 (0, 0)) ∧ w.heap.size ≤ N1 ∧ w.heap.size ≤ N2 ∧ N1 ≠ N2 ∧ Fr (fun _ => False) w w' := by
  go_enter Tryd.func25, Tryd.ntmps25
  go_wp2_with fail
  go_loop [3] (fun t => ∃ (k f s : Nat), t = .int .i64 (s : Int) ∧ s = 2 ^ k ∧ k ≤ 15 ∧ f + k = 15 ∧ finK n 15 0 = finK n f k) (fun t => 32768 - (intOf t).toNat)
  case atStart => exact ⟨0, 15, 1, rfl, rfl, by omega, rfl, rfl⟩
  case round =>
    obtain ⟨k, f, s, rfl, hs, hk, hf, hfk⟩ := hrel
    have hs15 : s ≤ 32768 := by rw [hs]; exact Nat.pow_le_pow_right (n := 2) (by decide) hk
    have hs1 : 1 ≤ s := by rw [hs]; exact pow_pos2 k
    have hsi : (s : Int) ≤ 32768 := by omega
    have Hs := hide hs
    have Hfk := hide hfk
    clear hs hfk
    by_cases hc : s < n ∧ s < 32768
    · obtain ⟨c1, c2⟩ := hc
      have i1 : (s : Int) < (n : Int) := by omega
      have i2 : (s : Int) < 32768 := by omega
      have hk15 : k < 15 := by
        rcases Nat.lt_or_ge k 15 with h1 | h1
        · exact h1
        · have : (2 : Nat) ^ 15 ≤ 2 ^ k := Nat.pow_le_pow_right (by decide) h1
          have := Hs.out
          omega
      go_wp2
      go_round
      case rel =>
        refine ⟨k + 1, f - 1, s * 2, by go_num, by rw [Hs.out, Nat.pow_succ], by omega, by omega, ?_⟩
        rw [Hfk.out]
        obtain ⟨g, rfl⟩ : ∃ g, f = g + 1 := ⟨f - 1, by omega⟩
        rw [finK, if_pos ⟨by rw [← Hs.out]; exact c1, by rw [← Hs.out]; exact c2⟩]
        rfl
      case measure => simp [intOf]; omega
    · have hend : finK n 15 0 = k := by
        rw [Hfk.out]
        cases f with
        | zero => rfl
        | succ f => rw [finK, if_neg (by rw [← Hs.out]; exact hc)]
      have hmk := make32 s (by omega)
      have hz : s = 2 ^ finK n 15 0 := by rw [hend]; exact Hs.out
      have Hz := hide hz
      clear hend hz
      rcases (show n ≤ s ∨ (s < n ∧ 32768 ≤ s) by omega) with c1 | ⟨c1, c2⟩
      · have i1 : ¬ (s : Int) < (n : Int) := by omega
        clear hc
        go_wp2
        go_region
        · go_wp2
          refine bodyPost_ret (v := .agg #[.slice (some ⟨w.heap.size + 1, 0, none⟩) s s, .slice (some ⟨w.heap.size + 1 + 1, 0, none⟩) s s]) (by simp [results, Tryd.results25, go_sem]) rfl ?_
          rw [← Hz.out]
          obtain ⟨q1, q2, q3⟩ := two_new w (.cells #[.slice (some ⟨w.heap.size + 1, 0, none⟩) s s, .slice (some ⟨w.heap.size + 1 + 1, 0, none⟩) s s] 63) (cells32 (List.replicate s 0)).toArray
          exact ⟨_, _, rfl, q1, q2, by omega, by omega, by omega, q3⟩
        · go_wp2
          refine bodyPost_ret (v := .agg #[.slice (some ⟨w.heap.size + 1 + 1, 0, none⟩) s s, .slice (some ⟨w.heap.size + 1, 0, none⟩) s s]) (by simp [results, Tryd.results25, go_sem]) rfl ?_
          rw [← Hz.out]
          obtain ⟨q1, q2, q3⟩ := two_new w (.cells #[.slice (some ⟨w.heap.size + 1 + 1, 0, none⟩) s s, .slice (some ⟨w.heap.size + 1, 0, none⟩) s s] 63) (cells32 (List.replicate s 0)).toArray
          exact ⟨_, _, rfl, q2, q1, by omega, by omega, by omega, q3⟩
      · have i1 : (s : Int) < (n : Int) := by omega
        have i2 : ¬ (s : Int) < 32768 := by omega
        clear hc
        go_wp2
        go_region
        · go_wp2
          refine bodyPost_ret (v := .agg #[.slice (some ⟨w.heap.size + 1, 0, none⟩) s s, .slice (some ⟨w.heap.size + 1 + 1, 0, none⟩) s s]) (by simp [results, Tryd.results25, go_sem]) rfl ?_
          rw [← Hz.out]
          obtain ⟨q1, q2, q3⟩ := two_new w (.cells #[.slice (some ⟨w.heap.size + 1, 0, none⟩) s s, .slice (some ⟨w.heap.size + 1 + 1, 0, none⟩) s s] 63) (cells32 (List.replicate s 0)).toArray
          exact ⟨_, _, rfl, q1, q2, by omega, by omega, by omega, q3⟩
        · go_wp2
          refine bodyPost_ret (v := .agg #[.slice (some ⟨w.heap.size + 1 + 1, 0, none⟩) s s, .slice (some ⟨w.heap.size + 1, 0, none⟩) s s]) (by simp [results, Tryd.results25, go_sem]) rfl ?_
          rw [← Hz.out]
          obtain ⟨q1, q2, q3⟩ := two_new w (.cells #[.slice (some ⟨w.heap.size + 1 + 1, 0, none⟩) s s, .slice (some ⟨w.heap.size + 1, 0, none⟩) s s] 63) (cells32 (List.replicate s 0)).toArray
          exact ⟨_, _, rfl, q2, q1, by omega, by omega, by omega, q3⟩
end Go.Proofs.YtmefhngmgfmhoaaDoor

/-
  What a pen has written, handed out; how many bytes a stream has at the most.
-/
namespace Go.Proofs.YtmefhngmgfmhoaaDoor
open Go.RowKit

set_option maxHeartbeats 400000 in
set_option maxRecDepth 100000 in
theorem low_outO (B o : Nat) (ov : Value) (os : List Nat) (w : World) (h : w.cell? ⟨B, o + 2, none⟩ = some ov) (hl : Lies w ov os) (hlen : os.length ≤ 2147483648) :
    Calls Tryd.prog 39 #[.pointer (some ⟨B, o, none⟩)] w fun e w' => ∃ a c, e = .returned (.slice a os.length c) ∧ w'.ownsRow w.heap.size 5 1 (.slice a os.length c) os.length (cellsOf os) ∧ Below w.heap.size w w' := by
  have hsh : ∃ a c, ov = .slice a os.length c := by
    rcases hl with ⟨rfl, rfl⟩ | ⟨ad, c, rfl, _⟩
    · exact ⟨_, _, rfl⟩
    · exact ⟨_, _, rfl⟩
  obtain ⟨a0, c0, rfl⟩ := hsh
  have Hl := hide hl
  clear hl
  go_enter Tryd.func39, Tryd.ntmps39
  go_wp2_with (go_at_call 24; refine (clone_c _ os _ Hl.out hlen).mono ?_; rintro e w1 ⟨a, c, rfl, hown, hbel⟩)
  go_ret
  exact ⟨a, c, rfl, hown, hbel⟩

/-- The bytes of what was put. -/
structure Bts (t : Bt) (os : List Nat) : Prop where
  len : os.length = (t.p + 7) / 8
  bytes : ∀ b ∈ os, b < 256
  num : leNum os = t.v

theorem Bts.det {t : Bt} {os os' : List Nat} (h : Bts t os) (k : Bts t os') : os = os' := by
  apply List.ext_getElem (h.len.trans k.len.symm)
  intro i h1 h2
  have a := byte_le os h.bytes i
  have b := byte_le os' k.bytes i
  rw [h.num, ← k.num, b] at a
  simpa [List.getElem?_eq_getElem h1, List.getElem?_eq_getElem h2] using a.symm

set_option maxHeartbeats 400000 in
set_option maxRecDepth 100000 in
theorem penOut_c (T : TypeId) (B o : Nat) (cs : Array Value) (g : Option Nat) (t : Bt) (w : World) (h : Pn T w B o cs g t) (hp : t.p ≤ 2147480000) :
    Calls Tryd.prog 35 #[.pointer (some ⟨B, o, none⟩)] w fun e w' => ∃ a c os, Bts t os ∧ e = .returned (.slice a os.length c) ∧ w'.ownsRow w.heap.size 5 1 (.slice a os.length c) os.length (cellsOf os) ∧ Fr (fun _ => False) w w' := by
  obtain ⟨os, ⟨⟨ov, h1, h2, h3, h4, h5⟩, h6⟩, h7, h8⟩ := h.wt.ex
  have hk : Bts t os := ⟨h7.len, h7.bytes, h8⟩
  have hc := cell_of (o := o + 2) h1 h2
  have Hc := hide (low_outO B o ov os w hc (lies_own h4) (by rw [h7.len]; omega))
  have Hk := hide hk
  clear h h1 h2 h3 h4 h5 h6 h7 h8 hk hc
  go_enter Tryd.func35, Tryd.ntmps35
  go_wp2_with fail
  refine (calls_args Hc.out (by rfl)).mono ?_
  rintro e w1 ⟨a, c, rfl, hown, hbel⟩
  have HO := hide hown
  have HF := hide ((Fr.of_below hbel).mono (S' := fun _ => False) (fun k hk h => by omega))
  clear hown hbel
  go_wp2
  go_ret
  exact ⟨a, c, os, Hk.out, rfl, HO.out, HF.out⟩

/-- How many bytes the stream of n bytes has at the most. -/
def mostF (n : Nat) : Nat := n + 5 * ((n + 65534) / 65535) + 5

set_option maxHeartbeats 800000 in
set_option maxRecDepth 100000 in
theorem most_c (z : Int) (w : World) (hz : z ≤ 2147480000) :
    Calls Tryd.prog 13 #[.int .i64 z] w fun e w' => e = .returned (.int .i64 (mostF z.toNat : Int)) ∧ w = w' := by
  obtain ⟨n, hn⟩ : ∃ n : Nat, n = z.toNat := ⟨_, rfl⟩
  rw [← hn]
  have hmx : (if (0 : Int) < z then z else 0) = (n : Int) := by split <;> omega
  obtain ⟨q, hq⟩ : ∃ q, q = n / 65535 := ⟨_, rfl⟩
  obtain ⟨r, hr⟩ : ∃ r, r = n % 65535 := ⟨_, rfl⟩
  have hqi : (n : Int) / 65535 = (q : Int) := by omega
  have hri : (n : Int) % 65535 = (r : Int) := by omega
  have hni : (n : Int) ≤ 2147480000 := by omega
  have hqb : (q : Int) ≤ 40000 := by omega
  by_cases h0 : z ≤ 0
  · have hn0 : n = 0 := by omega
    subst hn0
    have e : mostF 0 = 5 := rfl
    have g0 : ¬ (0 : Int) < z := by omega
    clear hn hq hr hqi hri hmx
    rcases (show z < 0 ∨ z = 0 by omega) with h1 | h1
    · go_enter Tryd.func13, Tryd.ntmps13
      go_wp2
      go_ret
      exact ⟨rfl, rfl⟩
    · subst h1
      clear g0 h0
      go_enter Tryd.func13, Tryd.ntmps13
      go_wp2
      go_ret
      exact ⟨rfl, rfl⟩
  · have g0 : (0 : Int) < z := by omega
    obtain rfl : z = (n : Int) := by omega
    by_cases hr0 : r = 0
    · have e : mostF n = n + 5 * q + 5 := by unfold mostF; omega
      have He := hide e
      subst hr0
      clear e hn hq hr hmx h0
      go_enter Tryd.func13, Tryd.ntmps13
      go_wp2
      all_goals
        go_ret
        rw [He.out]
        exact ⟨by congr 2, rfl⟩
    · have e : mostF n = n + 5 * (q + 1) + 5 := by unfold mostF; omega
      have He := hide e
      have hrp : (0 : Int) < (r : Int) := by omega
      clear e hn hq hr hmx h0
      go_enter Tryd.func13, Tryd.ntmps13
      go_wp2
      all_goals
        go_ret
        rw [He.out]
        exact ⟨by congr 2, rfl⟩
end Go.Proofs.YtmefhngmgfmhoaaDoor

/-
  A Machine: Done, Out.
-/
namespace Go.Proofs.YtmefhngmgfmhoaaDoor
open Go.RowKit

set_option maxHeartbeats 400000 in
set_option maxRecDepth 100000 in
theorem done_c (M : Nat) (d : Bool) (w : World) (h : w.cell? ⟨M, 13, none⟩ = some (.bool d)) :
    Calls Tryd.prog 15 #[.pointer (some ⟨M, 0, none⟩)] w fun e w' => e = .returned (.bool d) ∧ w = w' := by
  go_enter Tryd.func15, Tryd.ntmps15
  go_wp2
  go_ret
  exact ⟨rfl, rfl⟩

set_option maxHeartbeats 400000 in
set_option maxRecDepth 100000 in
theorem out_c (M : Nat) (ov : Value) (os : List Nat) (w : World) (h : w.cell? ⟨M, 12, none⟩ = some ov) (hl : Lies w ov os) (hlen : os.length ≤ 2147483648) :
    Calls Tryd.prog 17 #[.pointer (some ⟨M, 0, none⟩)] w fun e w' => ∃ a c, e = .returned (.slice a os.length c) ∧ w'.ownsRow w.heap.size 5 1 (.slice a os.length c) os.length (cellsOf os) ∧ Fr (fun _ => False) w w' := by
  have hsh : ∃ a c, ov = .slice a os.length c := by
    rcases hl with ⟨rfl, rfl⟩ | ⟨ad, c, rfl, _⟩
    · exact ⟨_, _, rfl⟩
    · exact ⟨_, _, rfl⟩
  obtain ⟨a0, c0, rfl⟩ := hsh
  have Hl := hide hl
  clear hl
  go_enter Tryd.func17, Tryd.ntmps17
  go_wp2_with (go_at_call 24; refine (clone_c _ os _ Hl.out hlen).mono ?_; rintro e w1 ⟨a, c, rfl, hown, hbel⟩)
  go_ret
  exact ⟨a, c, rfl, hown, (Fr.of_below hbel).mono (S' := fun _ => False) (fun k hk h => by omega)⟩
end Go.Proofs.YtmefhngmgfmhoaaDoor

/-
  A Machine that is at work; it ends a block.
-/
namespace Go.Proofs.YtmefhngmgfmhoaaDoor
open Go.RowKit

def cellsP : List Pc → List Value
  | [] => []
  | p :: r => .int .u8 (p.lit : Int) :: .int .u16 (p.len : Int) :: .int .u16 (p.back : Int) :: cellsP r

/-- A Machine at work in block M: the bytes bs, of which told are told, those from begin on by the pieces ps; its pen has put t. -/
structure Mc (w : World) (lo M : Nat) (cs : Array Value) (bs : List Nat) (N1 N2 k taken told begin tp : Nat) (ps : List Pc) (nw od : List Nat) (g : Option Nat) (t : Bt) : Prop where
  pn : Pn 73 w M 7 cs g t
  sz : cs.size = 14
  c0 : ∃ da dc, cs[0]? = some (.slice da bs.length dc) ∧ w.ownsRow lo 5 1 (.slice da bs.length dc) bs.length (cellsOf bs) ∧ (∀ ad, da = some ad → g ≠ some ad.block)
  c1 : cs[1]? = some (.int .i64 (taken : Int))
  c2 : cs[2]? = some (.int .i64 (told : Int))
  c3 : cs[3]? = some (.int .i64 (begin : Int))
  c4 : ∃ pa pc, cs[4]? = some (.slice pa ps.length pc) ∧ w.ownsRow lo 88 3 (.slice pa ps.length pc) ps.length (cellsP ps)
  fd : Fd w M 5 N1 N2 k nw od tp
  c12 : cs[12]? = some (.slice none 0 0)
  c13 : cs[13]? = some (.bool false)
  loM : lo ≤ M ∧ lo ≤ N1 ∧ lo ≤ N2
  log : ∀ j, g = some j → lo ≤ j
  pos : 1 ≤ lo
  gl : Gl w
  byt : ∀ b ∈ bs, b < 256
  len : bs.length ≤ 4194304

theorem blk_ne {w : World} {a b : Nat} {x y : Array Value} {S T : TypeId} (h1 : w.heap[a]? = some (.cells x S (0, 0))) (h2 : w.heap[b]? = some (.cells y T (0, 0))) (hne : S ≠ T) : a ≠ b := fun e => by
  subst e
  rw [h1] at h2
  cases h2
  exact hne rfl

theorem pen_row {T : TypeId} {w : World} {B o : Nat} {cs : Array Value} {g : Option Nat} {t : Bt} (h : Pn T w B o cs g t) {j : Nat} (hj : g = some j) : ∃ cur, w.heap[j]? = some (.cells cur 5 (0, 0)) := by
  obtain ⟨os, ⟨⟨ov, h1, h2, h3, h4, h5⟩, h6⟩, _⟩ := h.wt.ex
  rcases h4.2 with ⟨hv, _⟩ | ⟨g', cap, cur, hv, _, hh, _⟩
  · rw [hv] at h5; rw [← h5] at hj; cases hj
  · rw [hv] at h5
    have : some g' = some j := by rw [← hj, ← h5]; rfl
    cases this
    exact ⟨cur, hh⟩

theorem own_blk {w : World} {lo n sz c : Nat} {T : TypeId} {a : Option Addr} {xs : List Value} (h : w.ownsRow lo T sz (.slice a n c) n xs) {ad : Addr} (ha : a = some ad) : ∃ g cur, ad = ⟨g, 0, none⟩ ∧ lo ≤ g ∧ w.heap[g]? = some (.cells cur T (0, 0)) := by
  rcases h.2 with ⟨hv, _⟩ | ⟨g, cap, cur, hv, hg, hh, _⟩
  · obtain ⟨e1, _, _⟩ := Value.slice.inj hv; rw [e1] at ha; cases ha
  · obtain ⟨e1, _, _⟩ := Value.slice.inj hv
    rw [e1] at ha
    cases ha
    exact ⟨g, cur, rfl, hg, hh⟩

theorem pn_set {T : TypeId} {w : World} {B o : Nat} {cs : Array Value} {g : Option Nat} {t : Bt} (h : Pn T w B o cs g t) (i : Nat) (v : Value) (h1 : i ≠ o + 2) (h2 : i ≠ o + 2 + 1) (h3 : i ≠ o + 4) : Pn T (w.setCell ⟨B, i, none⟩ v) B o (cs.setIfInBounds i v) g t := by
  obtain ⟨os, ⟨⟨ov, e1, e2, e3, e4, e5⟩, e6⟩, e7, e8⟩ := h.wt.ex
  have f : Fr (fun j => j = B) w (w.setCell ⟨B, i, none⟩ v) := Fr.of_setCell w ⟨B, i, none⟩ v
  refine ⟨⟨os, ⟨⟨ov, heap_setCell_own _ e1, ?_, ?_, ?_, e5⟩, e6⟩, e7, e8⟩, ?_⟩
  · rw [Array.getElem?_setIfInBounds_ne h1]; exact e2
  · rw [Array.getElem?_setIfInBounds_ne h2]; exact e3
  · exact ownsRow_fr e4 fun j hj => f.block j (e4.lt j hj).2 (fun e => e6 j (e5 ▸ hj) e)
  · rw [Array.getElem?_setIfInBounds_ne h3]; exact h.wr

theorem Mc.blk {w : World} {lo M : Nat} {cs : Array Value} {bs : List Nat} {N1 N2 k taken told begin tp : Nat} {ps : List Pc} {nw od : List Nat} {g : Option Nat} {t : Bt} (h : Mc w lo M cs bs N1 N2 k taken told begin tp ps nw od g t) : w.heap[M]? = some (.cells cs 73 (0, 0)) := h.pn.wt.blk.1

/-- The pen goes on. -/
theorem Mc.pen {w : World} {lo M : Nat} {cs : Array Value} {bs : List Nat} {N1 N2 k taken told begin tp : Nat} {ps : List Pc} {nw od : List Nat} {g : Option Nat} {t : Bt} (h : Mc w lo M cs bs N1 N2 k taken told begin tp ps nw od g t) {w1 : World} {cs1 : Array Value} {g1 : Option Nat} {t1 : Bt} (hP : PGo 73 w w1 M 7 cs cs1 g g1 t1) : Mc w1 lo M cs1 bs N1 N2 k taken told begin tp ps nw od g1 t1 := by
  have hK : ∀ i, i ≠ 9 → i ≠ 10 → i ≠ 11 → cs1[i]? = cs[i]? := fun i a b c => hP.cs.keep i a b c
  have hMl := lt_of h.blk
  have hgo : ∀ j, j < w.heap.size → g ≠ some j → g1 ≠ some j := fun j hj hn e => by
    rcases hP.own with e2 | ⟨z, e2, hz⟩
    · exact hn (by rw [← e2]; exact e)
    · rw [e2] at e; cases e; omega
  have hN1 : ¬ (N1 = M ∨ g = some N1) := by
    rintro (e | e)
    · exact h.fd.n1 e
    · obtain ⟨cur, hc⟩ := pen_row h.pn e; exact blk_ne h.fd.b1 hc (by decide) rfl
  have hN2 : ¬ (N2 = M ∨ g = some N2) := by
    rintro (e | e)
    · exact h.fd.n2 e
    · obtain ⟨cur, hc⟩ := pen_row h.pn e; exact blk_ne h.fd.b2 hc (by decide) rfl
  obtain ⟨da, dc, z1, z2, z3⟩ := h.c0
  obtain ⟨pa, pc, y1, y2⟩ := h.c4
  refine ⟨hP.pn, hP.cs.size.trans h.sz, ⟨da, dc, (hK 0 (by omega) (by omega) (by omega)).trans z1, ownsRow_fr z2 fun j hj => hP.fr.block j (z2.lt j hj).2 ?_, fun ad e => ?_⟩, (hK 1 (by omega) (by omega) (by omega)).trans h.c1, (hK 2 (by omega) (by omega) (by omega)).trans h.c2, (hK 3 (by omega) (by omega) (by omega)).trans h.c3, ⟨pa, pc, (hK 4 (by omega) (by omega) (by omega)).trans y1, ownsRow_fr y2 fun j hj => hP.fr.block j (y2.lt j hj).2 ?_⟩, h.fd.keep hP.fr ⟨?_, ?_⟩ hN1 hN2, (hK 12 (by omega) (by omega) (by omega)).trans h.c12, (hK 13 (by omega) (by omega) (by omega)).trans h.c13, h.loM, ?_, h.pos, h.gl.keep hP.fr ?_, h.byt, h.len⟩
  · cases da with
    | none => cases hj
    | some ad =>
      obtain ⟨b, cur, rfl, _, hb⟩ := own_blk z2 rfl
      cases hj
      rintro (e | e)
      · exact blk_ne hb h.blk (by decide) e
      · exact z3 _ rfl e
  · obtain ⟨b, cur, rfl, _, hb⟩ := own_blk z2 e
    exact hgo b (lt_of hb) (z3 _ e)
  · cases pa with
    | none => cases hj
    | some ad =>
      obtain ⟨b, cur, rfl, _, hb⟩ := own_blk y2 rfl
      cases hj
      rintro (e | e)
      · exact blk_ne hb h.blk (by decide) e
      · obtain ⟨cur2, hc⟩ := pen_row h.pn e; exact blk_ne hb hc (by decide) rfl
  · have e0 : cs1[5]? = cs[5]? := hK 5 (by omega) (by omega) (by omega)
    rw [cell_of_row w1 M 5 cs1 73 (0, 0) hP.pn.wt.blk.1, cell_of_row w M 5 cs 73 (0, 0) h.blk, e0]
  · have e0 : cs1[6]? = cs[6]? := hK 6 (by omega) (by omega) (by omega)
    rw [cell_of_row w1 M (5 + 1) cs1 73 (0, 0) hP.pn.wt.blk.1, cell_of_row w M (5 + 1) cs 73 (0, 0) h.blk]
    exact e0
  · intro j hj
    rcases hP.own with e | ⟨z, e, hz⟩
    · exact h.log j (by rw [← e]; exact hj)
    · rw [e] at hj; cases hj; have := h.loM; omega
  · rintro (e | e)
    · have := h.loM; have := h.pos; omega
    · have := h.log 0 e; have := h.pos; omega

/-- One of its own numbers, or its pieces, are set. -/
theorem Mc.upd {w : World} {lo M : Nat} {cs : Array Value} {bs : List Nat} {N1 N2 k taken told begin tp : Nat} {ps : List Pc} {nw od : List Nat} {g : Option Nat} {t : Bt} (h : Mc w lo M cs bs N1 N2 k taken told begin tp ps nw od g t) (i : Nat) (v : Value) (hi : 1 ≤ i ∧ i ≤ 4) {taken' told' begin' : Nat} {ps' : List Pc} (h1 : (cs.setIfInBounds i v)[1]? = some (.int .i64 (taken' : Int))) (h2 : (cs.setIfInBounds i v)[2]? = some (.int .i64 (told' : Int))) (h3 : (cs.setIfInBounds i v)[3]? = some (.int .i64 (begin' : Int)))
    (h4 : ∃ pa pc, (cs.setIfInBounds i v)[4]? = some (.slice pa ps'.length pc) ∧ w.ownsRow lo 88 3 (.slice pa ps'.length pc) ps'.length (cellsP ps')) : Mc (w.setCell ⟨M, i, none⟩ v) lo M (cs.setIfInBounds i v) bs N1 N2 k taken' told' begin' tp ps' nw od g t ∧ Fr (fun j => j = M) w (w.setCell ⟨M, i, none⟩ v) := by
  have f : Fr (fun j => j = M) w (w.setCell ⟨M, i, none⟩ v) := Fr.of_setCell w ⟨M, i, none⟩ v
  obtain ⟨da, dc, z1, z2, z3⟩ := h.c0
  obtain ⟨pa, pc, y1, y2⟩ := h.c4
  obtain ⟨pa', pc', x1, x2⟩ := h4
  refine ⟨⟨pn_set h.pn i v (by omega) (by omega) (by omega), by simp [h.sz], ⟨da, dc, by rw [Array.getElem?_setIfInBounds_ne (by omega)]; exact z1, ownsRow_fr z2 fun j hj => f.block j (z2.lt j hj).2 ?_, z3⟩, h1, h2, h3, ⟨pa', pc', x1, ownsRow_fr x2 fun j hj => f.block j (x2.lt j hj).2 ?_⟩, h.fd.keep f ⟨?_, ?_⟩ h.fd.n1 h.fd.n2, by rw [Array.getElem?_setIfInBounds_ne (by omega)]; exact h.c12, by rw [Array.getElem?_setIfInBounds_ne (by omega)]; exact h.c13, h.loM, h.log, h.pos, h.gl.keep f ?_, h.byt, h.len⟩, f⟩
  · cases da with
    | none => cases hj
    | some ad =>
      obtain ⟨b, cur, rfl, _, hb⟩ := own_blk z2 rfl
      cases hj
      exact fun e => blk_ne hb h.blk (by decide) e
  · cases pa' with
    | none => cases hj
    | some ad =>
      obtain ⟨b, cur, rfl, _, hb⟩ := own_blk x2 rfl
      cases hj
      exact fun e => blk_ne hb h.blk (by decide) e
  · rw [cell_of_row _ M 5 _ 73 (0, 0) (heap_setCell_own v h.blk), cell_of_row w M 5 cs 73 (0, 0) h.blk, Array.getElem?_setIfInBounds_ne (by omega)]
  · rw [cell_of_row _ M (5 + 1) _ 73 (0, 0) (heap_setCell_own v h.blk), cell_of_row w M (5 + 1) cs 73 (0, 0) h.blk, Array.getElem?_setIfInBounds_ne (by omega)]
  · have := h.loM; have := h.pos; omega

/-- Nothing of it has turned. -/
theorem Mc.keep {w : World} {lo M : Nat} {cs : Array Value} {bs : List Nat} {N1 N2 k taken told begin tp : Nat} {ps : List Pc} {nw od : List Nat} {g : Option Nat} {t : Bt} (h : Mc w lo M cs bs N1 N2 k taken told begin tp ps nw od g t) {w1 : World} {S : Nat → Prop} (f : Fr S w w1) (hS : ∀ i, lo ≤ i → i < w.heap.size → ¬ S i) (hG : ¬ S 0) : Mc w1 lo M cs bs N1 N2 k taken told begin tp ps nw od g t := by
  obtain ⟨da, dc, z1, z2, z3⟩ := h.c0
  obtain ⟨pa, pc, y1, y2⟩ := h.c4
  have hM := hS M h.loM.1 (lt_of h.blk)
  exact ⟨⟨h.pn.wt.keep f hM (fun j hj => hS j (h.log j hj) (h.pn.wt.lts.1 j hj)), h.pn.wr⟩, h.sz, ⟨da, dc, z1, ownsRow_fr z2 fun j hj => f.block j (z2.lt j hj).2 (hS j (z2.lt j hj).1 (z2.lt j hj).2), z3⟩, h.c1, h.c2, h.c3, ⟨pa, pc, y1, ownsRow_fr y2 fun j hj => f.block j (y2.lt j hj).2 (hS j (y2.lt j hj).1 (y2.lt j hj).2)⟩, h.fd.keep f ⟨cell_blk (a := ⟨M, 5, none⟩) (f.block M (lt_of h.blk) hM), cell_blk (a := ⟨M, 5 + 1, none⟩) (f.block M (lt_of h.blk) hM)⟩ (hS N1 h.loM.2.1 (lt_of h.fd.b1)) (hS N2 h.loM.2.2 (lt_of h.fd.b2)), h.c12, h.c13, h.loM, h.log, h.pos, h.gl.keep f hG, h.byt, h.len⟩

theorem cellsP_get : ∀ (ps : List Pc) (i : Nat), i < ps.length → ∀ k, k < 3 → (cellsP ps)[i * 3 + k]? = (pcCells (ps.getD i ⟨0, 0, 0⟩))[k]? := by
  intro ps
  induction ps with
  | nil => intro i h; cases h
  | cons p ps ih =>
    intro i h k hk
    cases i with
    | zero =>
      rcases (by omega : k = 0 ∨ k = 1 ∨ k = 2) with rfl | rfl | rfl <;> rfl
    | succ i =>
      have := ih i (by simpa using h) k hk
      rw [show (i + 1) * 3 + k = i * 3 + k + 1 + 1 + 1 by omega]
      simpa [cellsP] using this

theorem own_pieces {w : World} {lo n c : Nat} {a : Option Addr} {ps : List Pc} (h : w.ownsRow lo 88 3 (.slice a n c) n (cellsP ps)) (hn : n = ps.length) : ∃ P, (0 < n → a = some ⟨P, 0, none⟩) ∧ LiesP w P 0 ps := by
  rcases h.2 with ⟨hv, e0⟩ | ⟨g, cap, cur, hv, hg, hh, hr⟩
  · exact ⟨0, fun h0 => by omega, fun i hi => by omega⟩
  · cases hv
    refine ⟨g, fun _ => rfl, fun i hi k hk => ?_⟩
    have e : ∀ j, (⟨g, 0, none⟩ : Addr).add j = ⟨g, j, none⟩ := fun j => by rw [add_none, Nat.zero_add]
    have hk' : k < (pcCells (ps.getD i ⟨0, 0, 0⟩)).length := hk
    have q := h.cells (g := g) rfl (i * 3 + k) ((pcCells (ps.getD i ⟨0, 0, 0⟩))[k]) (by rw [cellsP_get ps i hi k hk]; exact List.getElem?_eq_getElem hk')
    rw [e] at q
    rw [Nat.zero_add, q]
    exact (List.getElem?_eq_getElem hk').symm

theorem own_trunc {w : World} {lo n sz c : Nat} {T : TypeId} {a : Option Addr} {xs : List Value} (h : w.ownsRow lo T sz (.slice a n c) n xs) : w.ownsRow lo T sz (.slice a 0 c) 0 [] := by
  refine ⟨by simp, ?_⟩
  rcases h.2 with ⟨hv, _⟩ | ⟨g, cap, cur, hv, hg, hh, hr, h5, h6, _⟩
  · obtain ⟨e1, _, e3⟩ := Value.slice.inj hv
    exact Or.inl ⟨by rw [e1, e3], rfl⟩
  · obtain ⟨e1, _, e3⟩ := Value.slice.inj hv
    exact Or.inr ⟨g, cap, cur, by rw [e1, e3], hg, hh, Nat.zero_le _, h5, h6, by simp⟩

/-- A part of a row that is its own. -/
theorem raw_lies {w : World} {lo c : Nat} {da : Option Addr} {bs : List Nat} {b e : Nat} (h : w.ownsRow lo 5 1 (.slice da bs.length c) bs.length (cellsOf bs)) (hb : b ≤ e) (he : e ≤ bs.length) :
    Lies w (.slice (if c = b then da else Option.map (fun x => x.add b) da) (e - b) (c - b)) ((bs.take e).drop b) ∧ ∀ ad, (if c = b then da else Option.map (fun x => x.add b) da) = some ad → ∃ ad0, da = some ad0 ∧ ad.block = ad0.block := by
  have hl : ((bs.take e).drop b).length = e - b := by simp; omega
  rcases h.2 with ⟨hv, e0⟩ | ⟨g, cap, cur, hv, hg, hh, hr, _⟩
  · obtain ⟨e1, e2, e3⟩ := Value.slice.inj hv
    have hb0 : b = 0 := by omega
    have he0 : e = 0 := by omega
    subst e1 e3 hb0 he0
    refine ⟨Or.inl ⟨by simp, by simp⟩, fun ad hc => by simp at hc⟩
  · obtain ⟨e1, e2, e3⟩ := Value.slice.inj hv
    subst e1 e3
    by_cases hcb : c = b
    · rw [if_pos hcb]
      refine ⟨Or.inr ⟨⟨g, 0, none⟩, c - b, by rw [hl], fun j u hu => ?_⟩, fun ad hc => ⟨_, rfl, by cases hc; rfl⟩⟩
      have : (bs.take e).drop b = [] := List.length_eq_zero_iff.1 (by rw [hl]; omega)
      rw [this] at hu
      simp [cellsOf] at hu
    · rw [if_neg hcb]
      refine ⟨Or.inr ⟨(⟨g, 0, none⟩ : Addr).add b, c - b, by rw [hl]; rfl, fun j u hu => ?_⟩, fun ad hc => ⟨_, rfl, by cases hc; rw [add_block]⟩⟩
      have hj : j < e - b := by
        have := (List.getElem?_eq_some_iff.1 hu).1
        simp only [cellsOf, List.length_map] at this
        omega
      have q := h.cells (g := g) rfl (b + j) u (by
        rw [← hu]
        simp only [cellsOf, List.getElem?_map, List.getElem?_drop]
        rw [List.getElem?_take_of_lt (by omega)])
      rw [add_none] at q
      rw [add_none, add_none]
      simpa [Nat.add_assoc] using q

set_option maxHeartbeats 1600000 in
set_option maxRecDepth 100000 in
theorem endBlock_c (lo M N1 N2 k taken told begin tp : Nat) (cs : Array Value) (bs : List Nat) (ps : List Pc) (nw od : List Nat) (g : Option Nat) (t : Bt) (last : Bool) (w : World) (h : Mc w lo M cs bs N1 N2 k taken told begin tp ps nw od g t)
    (hbt : begin ≤ told) (htl : told ≤ bs.length) (h6 : told - begin ≤ 65535) (hm : mays ps (bs.take begin)) (hpl : ps.length ≤ 65535) (hp : t.p ≤ 1000000000) :
    Calls Tryd.prog 33 #[.pointer (some ⟨M, 0, none⟩), .bool last] w fun e w' => e = .returned (.tuple #[]) ∧ ∃ oL oD oC cs' g', Cds ps oL oD oC ∧ Mc w' lo M cs' bs N1 N2 k taken told told tp [] nw od g' (blockF t last ((bs.take told).drop begin) ps oL oD oC) ∧ Fr (fun i => lo ≤ i) w w' := by
  obtain ⟨da, dc, hda, hdo, hdg⟩ := h.c0
  obtain ⟨pa, pc, hpa, hpo⟩ := h.c4
  have k0 := cell_of (o := 0) h.blk hda
  have k2 := cell_of (o := 2) h.blk h.c2
  have k3 := cell_of (o := 3) h.blk h.c3
  have k4 := cell_of (o := 4) h.blk hpa
  obtain ⟨n, hn⟩ : ∃ n, n = bs.length := ⟨_, rfl⟩
  obtain ⟨q, hq⟩ : ∃ q, q = ps.length := ⟨_, rfl⟩
  rw [← hn] at k0 htl
  rw [← hq] at k4
  have i1 : (begin : Int) ≤ (told : Int) := by omega
  have i2 : (told : Int) ≤ (n : Int) := by omega
  have hdc : n ≤ dc := by
    rcases hdo.2 with ⟨hv, _⟩ | ⟨_, cap, _, hv, _, _, hr, _⟩
    · obtain ⟨_, e2, e3⟩ := Value.slice.inj hv; omega
    · obtain ⟨_, e2, e3⟩ := Value.slice.inj hv; omega
  have i3 : (n : Int) ≤ (dc : Int) := by omega
  have hlb := h.len
  have i4 : (n : Int) ≤ 4194304 := by omega
  have i5 : told ≤ dc := by omega
  have hd : Mc w.drew lo M cs bs N1 N2 k taken told begin tp ps nw od g t := h.keep (Fr.of_drewN w 1) (fun _ _ _ e => e) (fun e => e)
  have hdo' : w.drew.ownsRow lo 5 1 (.slice da bs.length dc) bs.length (cellsOf bs) := ownsRow_fr hdo fun j hj => (Fr.of_drewN w 1).block j (hdo.lt j hj).2 (fun e => e)
  have hpo' : w.drew.ownsRow lo 88 3 (.slice pa ps.length pc) ps.length (cellsP ps) := ownsRow_fr hpo fun j hj => (Fr.of_drewN w 1).block j (hpo.lt j hj).2 (fun e => e)
  obtain ⟨r1, r2⟩ := raw_lies (b := begin) (e := told) hdo' hbt (by omega)
  obtain ⟨P, p1, p2⟩ := own_pieces hpo' rfl
  have hrl : ((bs.take told).drop begin).length = told - begin := by simp; omega
  have HB := hide (putBlock_c 73 M 7 cs g t _ _ _ ((bs.take told).drop begin) pa P 0 ps.length pc ps last (bs.take begin) w.drew hd.pn hp r1 hrl.symm h6 (fun b hb => h.byt b (List.mem_of_mem_take (List.mem_of_mem_drop hb))) (fun ad e => by
    obtain ⟨ad0, e1, e2⟩ := r2 ad e
    obtain ⟨b, cur, rfl, _, hb⟩ := own_blk hdo' e1
    rw [e2]
    exact ⟨blk_ne hb hd.blk (by decide), hdg _ e1, lt_of hb⟩) p1 p2 rfl hpl (fun h0 => by
    obtain ⟨b, cur, e1, _, hb⟩ := own_blk hpo' (p1 h0)
    cases e1
    exact ⟨blk_ne hb hd.blk (by decide), fun e => by obtain ⟨cur2, hc⟩ := pen_row hd.pn e; exact blk_ne hb hc (by decide) rfl⟩) hm hd.gl (by
    have := h.pos
    rintro (e | e)
    · have := h.loM; omega
    · have := h.log 0 e; omega))
  rw [← hq] at HB
  have Hd := hide hd
  have Hq := hide hq
  have Hda := hide hda
  have Hpa := hide hpa
  have Hpo := hide hpo
  have hlo := h.loM.1
  have hMl := lt_of h.blk
  have Hn := hide hn
  clear h hd hdo' hpo' r1 r2 p1 p2 hrl hda hpa hpo hq hdo hdg hn
  go_enter Tryd.func33, Tryd.ntmps33
  go_wp2_with fail
  refine wp_region_held_drew (S := fun W' => (W'.cell? ⟨M, 0, none⟩ = some (.slice da n dc) ∧ W'.cell? ⟨M, 2, none⟩ = some (.int .i64 (told : Int))) ∧ (W'.cell? ⟨M, 3, none⟩ = some (.int .i64 (begin : Int)) ∧ W'.cell? ⟨M, 4, none⟩ = some (.slice pa q pc))) (by kernel_rfl) ⟨⟨k0, k2⟩, ⟨k3, k4⟩⟩ (fun hHeld => ?_)
  refine wpAnyH_take (i := 0) (v := ?v0) rfl (by kernel_rfl) (by kernel_rfl) (by kernel_rfl) (fun _ _ _ h => h) (Or.inl ⟨by rfl, ?hy0⟩) hHeld ?rest0
  case hy0 => (intro W hSw; (try dsimp only at hSw); obtain ⟨⟨hSa, hSb⟩, ⟨hSc, hSd⟩⟩ := hSw; go_simp; all_goals (with_reducible rfl))
  change wpAnyH _ _ _ _ _ _ _ (Act.put _ (some 4) _) _
  simp only [Act.put, List.setIfInBounds_toArray, List.set_cons_zero, List.set_cons_succ]
  refine wpAnyH_take (i := 3) (v := ?v3) rfl (by kernel_rfl) (by kernel_rfl) (by kernel_rfl) (fun _ _ _ h => h) (Or.inl ⟨by rfl, ?hy3⟩) hHeld ?rest3
  case hy3 => (intro W hSw; (try dsimp only at hSw); obtain ⟨⟨hSa, hSb⟩, ⟨hSc, hSd⟩⟩ := hSw; go_simp; all_goals (with_reducible rfl))
  change wpAnyH _ _ _ _ _ _ _ (Act.put _ (some 7) _) _
  simp only [Act.put, List.setIfInBounds_toArray, List.set_cons_zero, List.set_cons_succ]
  refine wpAnyH_take (i := 7) (v := ?v7) rfl (by kernel_rfl) (by kernel_rfl) (by kernel_rfl) (fun _ _ _ h => h) (Or.inl ⟨by rfl, ?hy7⟩) hHeld ?rest7
  case hy7 => (intro W hSw; (try dsimp only at hSw); obtain ⟨⟨hSa, hSb⟩, ⟨hSc, hSd⟩⟩ := hSw; go_simp; all_goals (with_reducible rfl))
  change wpAnyH _ _ _ _ _ _ _ (Act.put _ (some 11) _) _
  simp only [Act.put, List.setIfInBounds_toArray, List.set_cons_zero, List.set_cons_succ]
  refine wpAnyH_take (i := 11) (v := ?v11) rfl (by kernel_rfl) (by kernel_rfl) (by kernel_rfl) (fun _ _ _ h => h) (Or.inl ⟨by rfl, ?hy11⟩) hHeld ?rest11
  case hy11 => (intro W hSw; (try dsimp only at hSw); obtain ⟨⟨hSa, hSb⟩, ⟨hSc, hSd⟩⟩ := hSw; go_simp; all_goals (with_reducible rfl))
  change wpAnyH _ _ _ _ _ _ _ (Act.put _ (some 15) _) _
  simp only [Act.put, List.setIfInBounds_toArray, List.set_cons_zero, List.set_cons_succ]
  refine wpAnyH_take (i := 16) (v := ?v16) rfl (by kernel_rfl) (by kernel_rfl) (by kernel_rfl) (fun _ _ _ h => h) (Or.inl ⟨by rfl, ?hy16⟩) hHeld ?rest16
  case hy16 => (intro W hSw; (try dsimp only at hSw); obtain ⟨⟨hSa, hSb⟩, ⟨hSc, hSd⟩⟩ := hSw; go_simp; all_goals (with_reducible rfl))
  change wpAnyH _ _ _ _ _ _ _ (Act.put _ (some 20) _) _
  simp only [Act.put, List.setIfInBounds_toArray, List.set_cons_zero, List.set_cons_succ]
  refine wpAnyH_take (i := 20) (v := ?v20) rfl (by kernel_rfl) (by kernel_rfl) (by kernel_rfl) (fun _ _ _ h => h) (Or.inl ⟨by rfl, ?hy20⟩) hHeld ?rest20
  case hy20 => (intro W hSw; (try dsimp only at hSw); obtain ⟨⟨hSa, hSb⟩, ⟨hSc, hSd⟩⟩ := hSw; go_simp; all_goals (with_reducible rfl))
  change wpAnyH _ _ _ _ _ _ _ (Act.put _ (some 24) _) _
  simp only [Act.put, List.setIfInBounds_toArray, List.set_cons_zero, List.set_cons_succ]
  refine wpAnyH_take (i := 1) (v := ?v1) rfl (by kernel_rfl) (by kernel_rfl) (by kernel_rfl) (fun _ _ _ h => h) (Or.inl ⟨by rfl, ?hy1⟩) hHeld ?rest1
  case hy1 => (intro W hSw; (try dsimp only at hSw); obtain ⟨⟨hSa, hSb⟩, ⟨hSc, hSd⟩⟩ := hSw; go_simp; all_goals (with_reducible rfl))
  change wpAnyH _ _ _ _ _ _ _ (Act.put _ (some 5) _) _
  simp only [Act.put, List.setIfInBounds_toArray, List.set_cons_zero, List.set_cons_succ]
  refine wpAnyH_take (i := 4) (v := ?v4) rfl (by kernel_rfl) (by kernel_rfl) (by kernel_rfl) (fun _ _ _ h => h) (Or.inl ⟨by rfl, ?hy4⟩) hHeld ?rest4
  case hy4 => (intro W hSw; (try dsimp only at hSw); obtain ⟨⟨hSa, hSb⟩, ⟨hSc, hSd⟩⟩ := hSw; go_simp; all_goals (with_reducible rfl))
  change wpAnyH _ _ _ _ _ _ _ (Act.put _ (some 8) _) _
  simp only [Act.put, List.setIfInBounds_toArray, List.set_cons_zero, List.set_cons_succ]
  refine wpAnyH_take (i := 8) (v := ?v8) rfl (by kernel_rfl) (by kernel_rfl) (by kernel_rfl) (fun _ _ _ h => h) (Or.inl ⟨by rfl, ?hy8⟩) hHeld ?rest8
  case hy8 => (intro W hSw; (try dsimp only at hSw); obtain ⟨⟨hSa, hSb⟩, ⟨hSc, hSd⟩⟩ := hSw; go_simp; all_goals (with_reducible rfl))
  change wpAnyH _ _ _ _ _ _ _ (Act.put _ (some 12) _) _
  simp only [Act.put, List.setIfInBounds_toArray, List.set_cons_zero, List.set_cons_succ]
  refine wpAnyH_take (i := 12) (v := ?v12) rfl (by kernel_rfl) (by kernel_rfl) (by kernel_rfl) (fun _ _ _ h => h) (Or.inl ⟨by rfl, ?hy12⟩) hHeld ?rest12
  case hy12 => (intro W hSw; (try dsimp only at hSw); obtain ⟨⟨hSa, hSb⟩, ⟨hSc, hSd⟩⟩ := hSw; go_simp; all_goals (with_reducible rfl))
  change wpAnyH _ _ _ _ _ _ _ (Act.put _ (some 16) _) _
  simp only [Act.put, List.setIfInBounds_toArray, List.set_cons_zero, List.set_cons_succ]
  refine wpAnyH_take (i := 17) (v := ?v17) rfl (by kernel_rfl) (by kernel_rfl) (by kernel_rfl) (fun _ _ _ h => h) (Or.inl ⟨by rfl, ?hy17⟩) hHeld ?rest17
  case hy17 => (intro W hSw; (try dsimp only at hSw); obtain ⟨⟨hSa, hSb⟩, ⟨hSc, hSd⟩⟩ := hSw; go_simp; all_goals (with_reducible rfl))
  change wpAnyH _ _ _ _ _ _ _ (Act.put _ (some 21) _) _
  simp only [Act.put, List.setIfInBounds_toArray, List.set_cons_zero, List.set_cons_succ]
  refine wpAnyH_take (i := 2) (v := ?v2) rfl (by kernel_rfl) (by kernel_rfl) (by kernel_rfl) (fun _ _ _ h => h) (Or.inl ⟨by rfl, ?hy2⟩) hHeld ?rest2
  case hy2 => (intro W hSw; (try dsimp only at hSw); obtain ⟨⟨hSa, hSb⟩, ⟨hSc, hSd⟩⟩ := hSw; go_simp; all_goals (with_reducible rfl))
  change wpAnyH _ _ _ _ _ _ _ (Act.put _ (some 6) _) _
  simp only [Act.put, List.setIfInBounds_toArray, List.set_cons_zero, List.set_cons_succ]
  refine wpAnyH_take (i := 5) (v := ?v5) rfl (by kernel_rfl) (by kernel_rfl) (by kernel_rfl) (fun _ _ _ h => h) (Or.inl ⟨by rfl, ?hy5⟩) hHeld ?rest5
  case hy5 => (intro W hSw; (try dsimp only at hSw); obtain ⟨⟨hSa, hSb⟩, ⟨hSc, hSd⟩⟩ := hSw; go_simp; all_goals (with_reducible rfl))
  change wpAnyH _ _ _ _ _ _ _ (Act.put _ (some 9) _) _
  simp only [Act.put, List.setIfInBounds_toArray, List.set_cons_zero, List.set_cons_succ]
  refine wpAnyH_take (i := 9) (v := ?v9) rfl (by kernel_rfl) (by kernel_rfl) (by kernel_rfl) (fun _ _ _ h => h) (Or.inl ⟨by rfl, ?hy9⟩) hHeld ?rest9
  case hy9 => (intro W hSw; (try dsimp only at hSw); obtain ⟨⟨hSa, hSb⟩, ⟨hSc, hSd⟩⟩ := hSw; go_simp; all_goals (with_reducible rfl))
  change wpAnyH _ _ _ _ _ _ _ (Act.put _ (some 13) _) _
  simp only [Act.put, List.setIfInBounds_toArray, List.set_cons_zero, List.set_cons_succ]
  refine wpAnyH_take (i := 13) (v := ?v13) rfl (by kernel_rfl) (by kernel_rfl) (by kernel_rfl) (fun _ _ _ h => h) (Or.inl ⟨by rfl, ?hy13⟩) hHeld ?rest13
  case hy13 => (intro W hSw; (try dsimp only at hSw); obtain ⟨⟨hSa, hSb⟩, ⟨hSc, hSd⟩⟩ := hSw; go_simp; all_goals (with_reducible rfl))
  change wpAnyH _ _ _ _ _ _ _ (Act.put _ (some 17) _) _
  simp only [Act.put, List.setIfInBounds_toArray, List.set_cons_zero, List.set_cons_succ]
  refine wpAnyH_take (i := 18) (v := ?v18) rfl (by kernel_rfl) (by kernel_rfl) (by kernel_rfl) (fun _ _ _ h => h) (Or.inl ⟨by rfl, ?hy18⟩) hHeld ?rest18
  case hy18 => (intro W hSw; (try dsimp only at hSw); obtain ⟨⟨hSa, hSb⟩, ⟨hSc, hSd⟩⟩ := hSw; go_simp; all_goals (with_reducible rfl))
  change wpAnyH _ _ _ _ _ _ _ (Act.put _ (some 22) _) _
  simp only [Act.put, List.setIfInBounds_toArray, List.set_cons_zero, List.set_cons_succ]
  refine wpAnyH_take (i := 6) (v := ?v6) rfl (by kernel_rfl) (by kernel_rfl) (by kernel_rfl) (fun _ _ _ h => h) (Or.inl ⟨by rfl, ?hy6⟩) hHeld ?rest6
  case hy6 => (intro W hSw; (try dsimp only at hSw); obtain ⟨⟨hSa, hSb⟩, ⟨hSc, hSd⟩⟩ := hSw; go_simp; all_goals (with_reducible rfl))
  change wpAnyH _ _ _ _ _ _ _ (Act.put _ (some 10) _) _
  simp only [Act.put, List.setIfInBounds_toArray, List.set_cons_zero, List.set_cons_succ]
  refine wpAnyH_take (i := 10) (v := ?v10) rfl (by kernel_rfl) (by kernel_rfl) (by kernel_rfl) (fun _ _ _ h => h) (Or.inl ⟨by rfl, ?hy10⟩) hHeld ?rest10
  case hy10 => (intro W hSw; (try dsimp only at hSw); obtain ⟨⟨hSa, hSb⟩, ⟨hSc, hSd⟩⟩ := hSw; go_simp; all_goals (with_reducible rfl))
  change wpAnyH _ _ _ _ _ _ _ (Act.put _ (some 14) _) _
  simp only [Act.put, List.setIfInBounds_toArray, List.set_cons_zero, List.set_cons_succ]
  refine wpAnyH_take (i := 14) (v := ?v14) rfl (by kernel_rfl) (by kernel_rfl) (by kernel_rfl) (fun _ _ _ h => h) (Or.inl ⟨by rfl, ?hy14⟩) hHeld ?rest14
  case hy14 => (intro W hSw; (try dsimp only at hSw); obtain ⟨⟨hSa, hSb⟩, ⟨hSc, hSd⟩⟩ := hSw; go_simp; all_goals (with_reducible rfl))
  change wpAnyH _ _ _ _ _ _ _ (Act.put _ (some 18) _) _
  simp only [Act.put, List.setIfInBounds_toArray, List.set_cons_zero, List.set_cons_succ]
  refine wpAnyH_take (i := 19) (v := ?v19) rfl (by kernel_rfl) (by kernel_rfl) (by kernel_rfl) (fun _ _ _ h => h) (Or.inl ⟨by rfl, ?hy19⟩) hHeld ?rest19
  case hy19 => (intro W hSw; (try dsimp only at hSw); obtain ⟨⟨hSa, hSb⟩, ⟨hSc, hSd⟩⟩ := hSw; go_simp; all_goals (with_reducible rfl))
  change wpAnyH _ _ _ _ _ _ _ (Act.put _ (some 23) _) _
  simp only [Act.put, List.setIfInBounds_toArray, List.set_cons_zero, List.set_cons_succ]
  refine wpAnyH_take (i := 15) (v := ?v15) rfl (by kernel_rfl) (by kernel_rfl) (by kernel_rfl) (fun _ _ _ h => h) (Or.inl ⟨by rfl, ?hy15⟩) hHeld ?rest15
  case hy15 => (intro W hSw; (try dsimp only at hSw); obtain ⟨⟨hSa, hSb⟩, ⟨hSc, hSd⟩⟩ := hSw; go_simp; all_goals (with_reducible rfl))
  change wpAnyH _ _ _ _ _ _ _ (Act.put _ (some 19) _) _
  simp only [Act.put, List.setIfInBounds_toArray, List.set_cons_zero, List.set_cons_succ]
  refine wpAnyH_ready (rs := [21]) (by kernel_rfl) (by simp) ?_
  refine AllReadyH.cons rfl (fun K hK => ?_) AllReadyH.nil
  try simp only [List.getElem_toArray, List.getElem_cons_succ, List.getElem_cons_zero]
  go_simp
  refine (calls_args HB.out (by rfl)).mono ?_
  rintro e w1 ⟨rfl, oL, oD, oC, cs1, g1, hCds, hP1⟩
  have hM1 := Hd.out.pen hP1
  have e0 : cs1[0]? = some (.slice da n dc) := by rw [hP1.cs.keep 0 (by omega) (by omega) (by omega), Hda.out, Hn.out]
  have e4 : cs1[4]? = some (.slice pa q pc) := by rw [hP1.cs.keep 4 (by omega) (by omega) (by omega), Hpa.out, Hq.out]
  have hS1 := And.intro (And.intro (cell_of (o := 0) hM1.blk e0) (cell_of (o := 2) hM1.blk hM1.c2)) (And.intro (cell_of (o := 3) hM1.blk hM1.c3) (cell_of (o := 4) hM1.blk e4))
  have HM1 := hide hM1
  have HF1 := hide ((Fr.of_drewN w 1).trans hP1.fr)
  have HCds := hide hCds
  have E4 := hide e4
  clear hP1 hM1 hCds e0 e4
  refine hK.out _ _ hS1 (fun hHeld => ?_)
  clear hK K
  refine wpAnyH_done (by kernel_rfl) ?_ _
  have k2' := hS1.1.2
  have k3' := hS1.2.1
  have k4' := hS1.2.2
  have f3 := frozen_of (o := 3) HM1.out.blk
  have f4 := frozen_of (o := 4) HM1.out.blk
  clear hHeld hS1 k0 k2 k3 k4
  go_wp2
  all_goals
    go_end0
    have hM1 := HM1.out
    obtain ⟨hM2, hF2⟩ := hM1.upd 3 (.int .i64 (told : Int)) (by omega) (taken' := taken) (told' := told) (begin' := told) (ps' := ps) (by rw [Array.getElem?_setIfInBounds_ne (by omega)]; exact hM1.c1) (by rw [Array.getElem?_setIfInBounds_ne (by omega)]; exact hM1.c2) (get_set _ hM1.c3) (by
      obtain ⟨x, y, z1, z2⟩ := hM1.c4
      exact ⟨x, y, by rw [Array.getElem?_setIfInBounds_ne (by omega)]; exact z1, z2⟩)
    obtain ⟨x, y, z1, z2⟩ := hM2.c4
    have z3 := z1
    rw [Array.getElem?_setIfInBounds_ne (by omega), E4.out] at z3
    obtain ⟨e1, _, e3⟩ := Value.slice.inj (Option.some.inj z3)
    rw [← e1, ← e3] at z2
    obtain ⟨hM3, hF3⟩ := hM2.upd 4 (.slice pa 0 pc) (by omega) (taken' := taken) (told' := told) (begin' := told) (ps' := []) (by rw [Array.getElem?_setIfInBounds_ne (by omega)]; exact hM2.c1) (by rw [Array.getElem?_setIfInBounds_ne (by omega)]; exact hM2.c2) (by rw [Array.getElem?_setIfInBounds_ne (by omega)]; exact hM2.c3) ⟨pa, pc, get_set _ z1, own_trunc z2⟩
    refine ⟨rfl, oL, oD, oC, HCds.out, ⟨_, g1, hM3⟩, ?_⟩
    exact (HF1.out.trans (hF2.trans hF3)).mono fun i hi e => by
      rcases e with (e | e) | e | e
      · exact e.elim
      · rcases e with e | e
        · omega
        · exact Hd.out.log i e
      · omega
      · omega
end Go.Proofs.YtmefhngmgfmhoaaDoor
