/-
  lzw: LzwSlices.
-/
import Derived.Test.YtdbgolklgiadeaaYo
namespace Go.Proofs.Ytdbgolklgiadeaa
open Go.RowKit

theorem Rx.keepF {w w1 : World} {lo M B : Nat} {bs : List Nat} {k most : Nat} {q : Rq} {ra : Option Addr} {rc : Nat} {oa : Option Addr} {oc : Nat} (h : Rx w lo M B bs k most q ra rc oa oc) (F : Fr (fun _ => False) w w1) : Rx w1 lo M B bs k most q ra rc oa oc :=
  ⟨cells_at h.obj F (fun e => e), h.rd.keep F (fun _ _ _ e => e), ownsRow_fr h.rws fun j hj => F.block j (World.ownsRow.lt h.rws j hj).2 (fun e => e), ownsRow_fr h.own fun j hj => F.block j (World.ownsRow.lt h.own j hj).2 (fun e => e), h.next, h.byt, h.len, h.big, h.ll⟩

theorem LiesI.frS {w w' : World} {a : Option Addr} {l : List Int} (h : LiesI w a l) {S : Nat → Prop} (F : Fr S w w') (hS : ∀ j, j < w.heap.size → ¬ S j) : LiesI w' a l := fun j hj => by
  obtain ⟨ad, e, hc⟩ := h j hj
  exact ⟨ad, e, (cell_blk (F.block _ (cell_lt hc) (hS _ (cell_lt hc)))).trans hc⟩

set_option maxHeartbeats 800000 in
set_option maxRecDepth 100000 in
theorem newReader_at (sv : Value) (s m : Int) (w : World) (hs : ∃ a n c, sv = .slice a n c) (h : s < 2 ∨ 8 < s ∨ m < 0) :
    Calls Try.prog 14 #[sv, .int .i64 s, .int .i64 m] w fun e w' => ∃ M, e = .returned (.pointer (some ⟨M, 0, none⟩)) ∧ Rdn w' M (.error 1) ∧ M < w'.heap.size ∧ w.heap.size ≤ M ∧ Fr (fun _ => False) w w' := by
  obtain ⟨a, n, c, rfl⟩ := hs
  by_cases h1 : s < 2 ∨ 8 < s
  · have Hs := hide (sizeMay_no s h1 w)
    clear h h1
    go_enter Try.func14, Try.ntmps14
    go_wp2_with fail
    refine Hs.out.mono ?_
    rintro e w1 ⟨rfl, rfl⟩
    go_wp2
    go_ret
    exact ⟨_, rfl, ⟨_, heap_alloc_new _ _, World.ownsRow_nil _ _ _ _⟩, by simp, Nat.le_refl _, Fr.of_alloc _ _⟩
  · obtain ⟨k, rfl⟩ : ∃ k : Nat, s = (k : Int) := ⟨s.toNat, by omega⟩
    have Hs := hide (sizeMay_ok k (by omega) w)
    have hm : m < 0 := by omega
    clear h h1
    go_enter Try.func14, Try.ntmps14
    go_wp2_with fail
    refine Hs.out.mono ?_
    rintro e w1 ⟨rfl, rfl⟩
    go_wp2
    go_ret
    exact ⟨_, rfl, ⟨_, heap_alloc_new _ _, World.ownsRow_nil _ _ _ _⟩, by simp, Nat.le_refl _, Fr.of_alloc _ _⟩

/-- A Reader in slices: dn: it is done; cnt values are put out. -/
structure Js (w2 wr : World) (lo M B : Nat) (bs : List Nat) (k most : Nat) (r : Except Nat (List Nat)) (dn : Bool) (cnt : Nat) : Prop where
  cell : wr.cell? ⟨M, 13, none⟩ = some (.bool dn)
  fr : Fr (fun j => j = B ∨ j = M) w2 wr
  st : (dn = false ∧ ∃ (q : Rq) (ra : Option Addr) (rc : Nat) (oa : Option Addr) (oc : Nat), Rx wr lo M B bs k most q ra rc oa oc ∧ Rok k most q ∧ MRuns (leNum bs) (8 * bs.length) k most q r ∧ q.out.length = cnt ∧
      Grown w2 (.slice none 0 0) (.slice ra q.rs.length rc) ∧ Grown w2 (.slice none 0 0) (.slice oa q.out.length oc)) ∨ (dn = true ∧ Rdn wr M r)
  ar : dn = false → 2 ≤ k ∧ k ≤ 8 ∧ most ≤ 999990

theorem Js.cntLe {w2 wr : World} {lo M B : Nat} {bs : List Nat} {k most : Nat} {r : Except Nat (List Nat)} {cnt : Nat} (h : Js w2 wr lo M B bs k most r false cnt) : cnt ≤ most := by
  rcases h.st with ⟨_, q, ra, rc, oa, oc, h1, h2, h3, h4, _⟩ | ⟨e, _⟩
  · rw [← h4]; exact h2.len
  · cases e

/-- What a Step makes of it. -/
structure Jt (w2 : World) (lo M B : Nat) (bs : List Nat) (k most : Nat) (r : Except Nat (List Nat)) (dn : Bool) (cnt : Nat) (n0 : Int) (b : Bool) (cnt' : Nat) (w' : World) : Prop where
  j : Js w2 w' lo M B bs k most r b cnt'
  up : dn = true → b = true
  lz : n0 < 1 → b = dn
  more : b = false → 1 ≤ n0 → cnt + 1 ≤ cnt'

theorem Js.step {w2 wr : World} {lo M B : Nat} {bs : List Nat} {k most : Nat} {r : Except Nat (List Nat)} {dn : Bool} {cnt : Nat} (h : Js w2 wr lo M B bs k most r dn cnt) (n0 : Int) (hn0 : n0 ≤ 9223372036854775807) (hn1 : -9223372036854775808 ≤ n0) :
    Calls Try.prog 16 #[.pointer (some ⟨M, 0, none⟩), .int .i64 n0] wr fun e w' => ∃ b cnt', e = .returned (.bool b) ∧ Jt w2 lo M B bs k most r dn cnt n0 b cnt' w' := by
  rcases h.st with ⟨rfl, q, ra, rc, oa, oc, hx, hok, hr, hc, g1, g2⟩ | ⟨rfl, hd⟩
  · obtain ⟨k1, k2, hm⟩ := h.ar rfl
    refine (step_c wr lo M B bs k most q ra rc oa oc r ⟨k1, k2⟩ hm hx hok hr n0 hn0 hn1).mono ?_
    rintro e w' ⟨b, n, rfl, hb, hbn, hS⟩
    have hrm : ∀ j, j = B ∨ Rmine M (.slice none 0 0) (.slice none 0 0) j → j = B ∨ j = M := fun j e => by
      rcases e with e | e | e | e
      · exact Or.inl e
      · exact Or.inr e
      · cases e
      · cases e
    have hrm2 : ∀ j, j = B ∨ j = M → j = B ∨ Rmine M (.slice none 0 0) (.slice none 0 0) j := fun j e => e.elim Or.inl fun e => Or.inr (Or.inl e)
    cases hS with
    | on q' ra' rc' oa' oc' hx' hok' hr' g3 g4 F hn hn2 hle hs =>
      have h13 : w'.cell? ⟨M, 13, none⟩ = some (.bool false) := cell_of hx'.obj rfl
      rw [hb] at h13
      have hbf : b = false := by simpa using h13
      subst hbf
      have hn3 := hbn rfl
      refine ⟨false, q'.out.length, rfl, ⟨hb, (g1.frame g2 (h.fr.mono fun j _ e => hrm2 j e) F).mono fun j _ e => hrm j e, Or.inl ⟨rfl, q', ra', rc', oa', oc', hx', hok', hr', rfl, g1.trans g3 h.fr.size, g2.trans g4 h.fr.size⟩, h.ar⟩, (fun e => by cases e), fun _ => rfl, fun _ h1 => by omega⟩
    | fin hD F hn =>
      have h13 := hD.cells.1
      rw [hb] at h13
      have hbt : b = true := by simpa using h13
      subst hbt
      exact ⟨true, 0, rfl, ⟨hb, (g1.frame g2 (h.fr.mono fun j _ e => hrm2 j e) F).mono fun j _ e => hrm j e, Or.inr ⟨rfl, hD⟩, fun e => by cases e⟩, fun _ => rfl, fun h1 => by omega, fun e => by cases e⟩
  · refine (step_done M n0 wr h.cell).mono ?_
    rintro e w' ⟨rfl, rfl⟩
    exact ⟨true, 0, rfl, ⟨h.cell, h.fr, Or.inr ⟨rfl, hd⟩, fun e => by cases e⟩, fun _ => rfl, fun _ => rfl, fun e => by cases e⟩

theorem Js.err {w2 wr : World} {lo M B : Nat} {bs : List Nat} {k most : Nat} {r : Except Nat (List Nat)} {cnt : Nat} (h : Js w2 wr lo M B bs k most r false cnt) : wr.cell? ⟨M, 12, none⟩ = some (.int .i64 0) := by
  rcases h.st with ⟨_, q, ra, rc, oa, oc, h1, _⟩ | ⟨e, _⟩
  · exact cell_of h1.obj rfl
  · cases e

theorem Js.dn {w2 wr : World} {lo M B : Nat} {bs : List Nat} {k most : Nat} {r : Except Nat (List Nat)} {cnt : Nat} (h : Js w2 wr lo M B bs k most r true cnt) : Rdn wr M r := by
  rcases h.st with ⟨e, _⟩ | ⟨_, h1⟩
  · cases e
  · exact h1

set_option maxHeartbeats 12800000 in
set_option maxRecDepth 100000 in
theorem slices_c (a : Option Addr) (n c : Nat) (bs : List Nat) (sz m : Int) (ta : Option Addr) (tn tc : Nat) (ts : List Int) (w : World) (hn : n = bs.length) (h : Lies w (.slice a n c) bs) (hlt : ∀ b ∈ bs, b < 256) (htn : tn = ts.length) (ht : LiesI w ta ts) (htr : ∀ i, i < ts.length → -9223372036854775808 ≤ ts.getD i 0 ∧ ts.getD i 0 ≤ 9223372036854775807) :
    Calls Try.prog 4 #[.slice a n c, .agg #[.int .i64 sz, .int .i64 m], .slice ta tn tc] w fun e w' => e = .returned (.bool true) ∧ Fr (fun _ => False) w w' := by
  have HL := hide h
  have Hlt := hide hlt
  have Hn := hide hn
  have HT := hide ht
  have Htn := hide htn
  have Htr := hide htr
  obtain ⟨KB, hKB⟩ : ∃ K, K = w.heap.size := ⟨_, rfl⟩
  obtain ⟨wa, hwa⟩ : ∃ wa, wa = w.alloc (.cells #[.int .i64 sz, .int .i64 m] 30) := ⟨_, rfl⟩
  have HFa : Hid (Fr (fun _ => False) w wa) := by rw [hwa]; exact Fr.of_alloc _ _
  have HKB : Hid (wa.heap[KB]? = some (.cells #[.int .i64 sz, .int .i64 m] 30 (0, 0))) := by rw [hwa]; exact heap_alloc_at hKB
  have Hwa := hide hwa
  have HKe := hide hKB
  clear h hlt hn ht htn htr hwa hKB
  go_enter Try.func4, Try.ntmps4
  go_wp2_with fail
  rw [← Hwa.out, ← HKe.out]
  refine (awake_c wa).mono ?_
  rintro e w0 ⟨rfl, hF0⟩
  have k0 : w0.cell? ⟨KB, 0, none⟩ = some (.int .i64 sz) := cell_of (cells_at HKB.out hF0 (fun e => e)) rfl
  have k1 : w0.cell? ⟨KB, 1, none⟩ = some (.int .i64 m) := cell_of (cells_at HKB.out hF0 (fun e => e)) rfl
  have HF0 := hide (HFa.out.join hF0)
  have HKB0 := hide (cells_at HKB.out hF0 (fun e => e))
  clear hF0
  by_cases hbig : 2000 < n
  · have hbi : (2000 : Int) < n := by omega
    go_wp2
    go_ret
    exact ⟨rfl, HF0.out⟩
  have hbi : ¬ (2000 : Int) < n := by omega
  by_cases hbm : 16384 < m
  · go_wp2
    go_ret
    exact ⟨rfl, HF0.out⟩
  by_cases htb : 100 < tn
  · have hti : (100 : Int) < tn := by omega
    go_wp2
    go_ret
    exact ⟨rfl, HF0.out⟩
  have hti : ¬ (100 : Int) < tn := by omega
  have hln : bs.length ≤ 2000 := by have := Hn.out; omega
  -- what NewReader comes to
  have key : Calls Try.prog 14 #[.slice a n c, .int .i64 sz, .int .i64 m] w0 fun e w1 => ∃ lo M B k most r dn, e = .returned (.pointer (some ⟨M, 0, none⟩)) ∧ Fr (fun _ => False) w0 w1 ∧ ReadOk bs sz m r ∧ most ≤ 16384 ∧ (w0.heap.size ≤ M ∧ M < w1.heap.size) ∧ (w0.heap.size ≤ B ∧ B < w1.heap.size) ∧
      (∀ w2, Fr (fun _ => False) w1 w2 → Js w2 w2 lo M B bs k most r dn 0) := by
    by_cases hneg : sz < 2 ∨ 8 < sz ∨ m < 0
    · refine (newReader_at (.slice a n c) sz m w0 ⟨_, _, _, rfl⟩ hneg).mono ?_
      rintro e w1 ⟨M, rfl, hD, hM, hM2, hF⟩
      refine ⟨0, M, M, 0, 0, .error 1, true, rfl, hF, Or.inl ⟨hneg, rfl⟩, by omega, ⟨hM2, hM⟩, ⟨hM2, hM⟩, fun w2 hF2 => ?_⟩
      have hD2 := hD.keep hF2 (fun _ _ h => h)
      exact ⟨hD2.cells.1, Fr.refl _ _, Or.inr ⟨rfl, hD2⟩, fun e => by cases e⟩
    · obtain ⟨m', rfl⟩ : ∃ m' : Nat, m = (m' : Int) := ⟨m.toNat, by omega⟩
      obtain ⟨k, rfl⟩ : ∃ k : Nat, sz = (k : Int) := ⟨sz.toNat, by omega⟩
      have hk : 2 ≤ k ∧ k ≤ 8 := by omega
      obtain ⟨r, hr, hz⟩ := read_mruns bs k m' hk
      refine (newReader_ok (.slice a n c) bs k m' w0 (lies_false HL.out HF0.out) Hlt.out (by omega) hk (by omega)).mono ?_
      rintro e w1 ⟨M, B, rfl, hX, hF⟩
      have h1 := hX.rd.elo
      have h2 := hX.rd.ehi
      have h3 := lt_of hX.obj
      refine ⟨w0.heap.size, M, B, k, m', r, false, rfl, hF, Or.inr ⟨by omega, by omega, by omega, ?_⟩, by omega, ⟨by omega, h3⟩, ⟨h1, by omega⟩, fun w2 hF2 => ?_⟩
      · have e1 : (k : Int).toNat = k := by omega
        have e2 : (m' : Int).toNat = m' := by omega
        rw [e1, e2]
        exact hz
      · have hX2 := hX.keepF hF2
        exact ⟨cell_of hX2.obj rfl, Fr.refl _ _, Or.inl ⟨rfl, rq0, none, 0, none, 0, hX2, rq0_ok k m' hk, hr, rfl, Or.inl rfl, Or.inl rfl⟩, fun _ => ⟨hk.1, hk.2, by omega⟩⟩
  have Hkey := hide key
  clear key
  go_wp2_with fail
  refine Hkey.out.mono ?_
  rintro e w1 ⟨lo, M, B, k, most, r, dn, rfl, hF1, hA, hmost, hM, hB, hJ⟩
  have k0' := cell_of (cells_at HKB0.out hF1 (fun e => e)) (o := 0) rfl
  have k1' := cell_of (cells_at HKB0.out hF1 (fun e => e)) (o := 1) rfl
  have HF1 := hide (HF0.out.join hF1)
  have HM := hide hM
  have HB := hide hB
  have HA := hide hA
  have HJ := hide hJ
  have H0 := hide (show w.heap.size ≤ w0.heap.size from HF0.out.size)
  clear hF1 hA hM hB hJ k0 k1 Hkey
  go_wp2_with fail
  refine (rread_c (.slice a n c) bs sz m w1 (lies_false HL.out HF1.out) Hlt.out (by omega) (by omega)).mono ?_
  rintro e w2 ⟨r2, ya, yc, h2, rfl, hown, hF2⟩
  obtain rfl := h2.det HA.out
  have hlen := h2.len (by omega)
  obtain ⟨X, hX⟩ : ∃ X, X = (outZ r2).length := ⟨_, rfl⟩
  obtain ⟨V, hV⟩ : ∃ V, V = errZ r2 := ⟨_, rfl⟩
  rw [← hX] at hown
  rw [← hX, ← hV]
  have HX := hide hX
  have HV := hide hV
  have Hlen := hide hlen
  have HJ2 := hide (HJ.out w2 hF2)
  have HF2 := hide (HF1.out.join hF2)
  have HY : Hid (OwnB w2 w1.heap.size (.slice ya X yc) (outZ r2)) := hown
  have Hbyt := hide h2.bytes
  have HFj : Hid (∀ wr, Fr (fun j => j = B ∨ j = M) w2 wr → Fr (fun _ => False) w wr) := fun wr f => frJ HF2.out f fun j e => by
    have h1 := HM.out.1
    have h2 := HB.out.1
    have h3 := H0.out
    rcases e with e | e <;> omega
  have HTj : Hid (∀ wr, Fr (fun j => j = B ∨ j = M) w2 wr → LiesI wr ta ts) := fun wr f => HT.out.frS (HFj.out wr f) fun _ _ e => e
  have HYj : Hid (∀ wr, Fr (fun j => j = B ∨ j = M) w2 wr → OwnB wr w1.heap.size (.slice ya X yc) (outZ r2)) := fun wr f => ownsRow_fr HY.out fun j hj => f.block j (World.ownsRow.lt HY.out j hj).2 (fun e => by
    have h0 := (World.ownsRow.lt HY.out j hj).1
    have h1 := HM.out.2
    have h2 := HB.out.2
    rcases e with e | e <;> omega)
  clear h2 hown hF2 hX hV hlen k0' k1'
  go_wp2_with fail
  go_loopw [10] (fun v10 wr => ∃ (i : Nat) (dn : Bool) (cnt : Nat), v10 = .int .i64 (i : Int) ∧ i ≤ tn ∧ Hid (Js w2 wr lo M B bs k most r2 dn cnt)) (fun v10 _ => tn - (intOf v10).toNat)
  case atStart => exact ⟨0, dn, 0, rfl, Nat.zero_le _, HJ2.out⟩
  case round =>
    obtain ⟨i, dn, cnt, rfl, hi, J⟩ := hrel
    have hdn := J.out.cell
    by_cases hit : i < tn
    · have hiti : (i : Int) < (tn : Int) := by omega
      have hil : i < ts.length := by have := Htn.out; omega
      obtain ⟨ad, rfl, hcell⟩ := HTj.out wr J.out.fr i hil
      have hvr := Htr.out i hil
      obtain ⟨v, hv⟩ : ∃ v, v = ts.getD i 0 := ⟨_, rfl⟩
      rw [← hv] at hcell hvr
      have Hdone := hide (doneR_c M dn wr hdn)
      have HS := hide (J.out.step v hvr.2 hvr.1)
      clear hv hdn
      go_wp2_with fail
      refine Hdone.out.mono ?_
      rintro e w3 ⟨rfl, rfl⟩
      go_wp2_with fail
      refine HS.out.mono ?_
      rintro e w3 ⟨b, cnt', rfl, hp⟩
      have Hd3 := hide (doneR_c M b w3 hp.j.cell)
      have hup := hp.up
      have hlz := hp.lz
      obtain ⟨ad3, e3, hcell3⟩ := HTj.out w3 hp.j.fr i hil
      injection e3 with e3
      subst e3
      have hJ' := hide hp.j
      obtain ⟨v', hv'⟩ : ∃ v', v' = ts.getD i 0 := ⟨_, rfl⟩
      rw [← hv'] at hcell3
      have hvv : v' = v := by
        have h1 := HTj.out wr J.out.fr i hil
        obtain ⟨ad4, e4, h4⟩ := h1
        injection e4 with e4
        subst e4
        rw [← hv', hcell] at h4
        injection h4 with h4
        injection h4 with _ h4
        exact h4.symm
      subst hvv
      have Hp := hide hp
      clear hv' hp HS Hdone
      cases b with
      | true =>
        have hv1 : dn = false → ¬ v' < 1 := fun e h => by have := hlz h; rw [e] at this; cases this
        cases dn with
        | true =>
          clear hup hlz hv1
          go_wp2_with fail
          refine Hd3.out.mono ?_
          rintro e w4 ⟨rfl, rfl⟩
          by_cases hv0 : v' < 1
          all_goals
            go_wp2
            go_roundw
            case rel => exact ⟨i + 1, true, cnt', by go_num, by omega, hJ'⟩
            case measure => simp [intOf]; omega
        | false =>
          have hv0 := hv1 rfl
          clear hup hlz hv1
          go_wp2_with fail
          refine Hd3.out.mono ?_
          rintro e w4 ⟨rfl, rfl⟩
          go_wp2
          go_roundw
          case rel => exact ⟨i + 1, true, cnt', by go_num, by omega, hJ'⟩
          case measure => simp [intOf]; omega
      | false =>
        have hdf : dn = false := by
          cases dn with
          | false => rfl
          | true => exact absurd (hup rfl) (by decide)
        subst hdf
        have Ho3 := hide (outR_no M w3 hJ'.out.cell)
        have He3 := hide (errR_c M 0 w3 hJ'.out.err)
        clear hup hlz
        by_cases hv0 : v' < 1
        all_goals
          go_wp2_with fail
          refine Hd3.out.mono ?_
          rintro e w4 ⟨rfl, rfl⟩
          go_wp2_with fail
          refine Ho3.out.mono ?_
          rintro e w4 ⟨rfl, rfl⟩
          go_wp2_with fail
          refine He3.out.mono ?_
          rintro e w4 ⟨rfl, rfl⟩
          go_wp2
          go_roundw
          case rel => exact ⟨i + 1, false, cnt', by go_num, by omega, hJ'⟩
          case measure => simp [intOf]; omega
    · have hiti : ¬ (i : Int) < (tn : Int) := by omega
      clear hdn
      go_wp2_with fail
      go_loopw [13] (fun iv wr => ∃ (i : Nat) (dn : Bool) (cnt : Nat), iv = .int .i64 (i : Int) ∧ i ≤ 20000 ∧ (dn = false → i ≤ cnt) ∧ Hid (Js w2 wr lo M B bs k most r2 dn cnt)) (fun iv _ => 32768 - (intOf iv).toNat)
      case atStart => exact ⟨0, dn, cnt, rfl, by omega, fun _ => Nat.zero_le _, J⟩
      case round =>
        obtain ⟨i, dn, cnt, rfl, hi2, hik, J⟩ := hrel
        have hi3 : (i : Int) < 32768 := by omega
        have Hdone := hide (doneR_c M dn wr J.out.cell)
        cases dn with
        | false =>
          have hk1 := J.out.cntLe
          have hik' := hik rfl
          obtain ⟨z, hz⟩ : ∃ z, z = i % 7 := ⟨_, rfl⟩
          have hz7 : z < 7 := by omega
          have hzi : (i : Int).tmod 7 = (z : Int) := by
            rw [hz, Int.tmod_eq_emod_of_nonneg (by omega)]
            simp
          have HS := hide (J.out.step (1 + (z : Int)) (by omega) (by omega))
          clear hz hik
          go_wp2_with fail
          refine Hdone.out.mono ?_
          rintro e w3 ⟨rfl, rfl⟩
          go_wp2_with fail
          refine HS.out.mono ?_
          rintro e w3 ⟨b', k', rfl, hp⟩
          have hmo := hp.more
          have J' := hide hp.j
          clear hp
          go_wp2
          go_roundw
          case rel => exact ⟨i + 1, b', k', by go_num, by omega, fun h => by have := hmo h (by omega); omega, J'⟩
          case measure => simp [intOf]; omega
        | true =>
          go_wp2_with fail
          refine Hdone.out.mono ?_
          rintro e w3 ⟨rfl, rfl⟩
          have hD := J.out.dn
          have HDk : Hid (∀ W, Fr (fun _ => False) wr W → Rdn W M r2) := fun W f => hD.keep f (fun _ _ h => h)
          have hxl : (outZ r2).length ≤ 2147483648 := by have := Hlen.out; omega
          have Hsy : Hid (∀ W, Fr (fun _ => False) wr W → (convert 22 9 (.slice ya X yc)).run Try.prog W = .ok (.string (strOf (outZ r2))) W) := fun W hF => str_lies (lies_false (sv := .slice ya X yc) (by rw [HX.out]; have h := HYj.out wr J.out.fr; rw [HX.out] at h; exact lies_ownB h) hF) Hbyt.out
          have HFin : Hid (∀ W, Fr (fun _ => False) wr W → Fr (fun _ => False) w W) := fun W hF => (HFj.out wr J.out.fr).join hF
          clear hD hik
          go_upto_region 20 with fail
          refine wp_region_held_drew (S := fun w' => Fr (fun _ => False) wr w') (by kernel_rfl) (by exact Fr.of_drewN wr 1) (fun hHeld => ?_)
          refine wpAnyH_take (i := 0) (v := ?v0) rfl (by kernel_rfl) (by kernel_rfl) (by kernel_rfl) (fun _ _ _ h => h) (Or.inl ⟨by rfl, ?hy0⟩) hHeld ?rest0
          case hy0 => (intro W hSw; (try dsimp only at hSw); have sy := Hsy.out _ hSw; go_simp; all_goals (with_reducible rfl))
          change wpAnyH _ _ _ _ _ _ _ (Act.put _ (some 112) _) _
          simp only [Act.put, List.setIfInBounds_toArray, List.set_cons_zero, List.set_cons_succ]
          refine wpAnyH_ready (rs := [1]) (by kernel_rfl) (by simp) ?_
          refine AllReadyH.cons rfl (fun K hK => ?_) AllReadyH.nil
          try simp only [List.getElem_toArray, List.getElem_cons_succ, List.getElem_cons_zero]
          go_simp
          refine (doneR_c M true _ (HDk.out _ hHeld).cells.1).mono ?_
          rintro e w4 ⟨rfl, rfl⟩
          refine hK.out _ _ hHeld (fun hHeld => ?_)
          clear hK K
          refine wpAnyH_take (i := 2) (v := ?v2) rfl (by kernel_rfl) (by kernel_rfl) (by kernel_rfl) (fun _ _ _ h => h) (Or.inl ⟨by rfl, ?hy2⟩) hHeld ?rest2
          case hy2 => (intro W hSw; (try dsimp only at hSw); have sy := Hsy.out _ hSw; go_simp; all_goals (with_reducible rfl))
          change wpAnyH _ _ _ _ _ _ _ (Act.put _ (some 114) _) _
          simp only [Act.put, List.setIfInBounds_toArray, List.set_cons_zero, List.set_cons_succ]
          refine wpAnyH_take (i := 3) (v := ?v3) rfl (by kernel_rfl) (by kernel_rfl) (by kernel_rfl) (fun _ _ _ h => h) (Or.inl ⟨by rfl, ?hy3⟩) hHeld ?rest3
          case hy3 => (intro W hSw; (try dsimp only at hSw); have sy := Hsy.out _ hSw; go_simp; all_goals (with_reducible rfl))
          change wpAnyH _ _ _ _ _ _ _ (Act.put _ (some 115) _) _
          simp only [Act.put, List.setIfInBounds_toArray, List.set_cons_zero, List.set_cons_succ]
          refine wpAnyH_take (i := 6) (v := ?v6) rfl (by kernel_rfl) (by kernel_rfl) (by kernel_rfl) (fun _ _ _ h => h) (Or.inl ⟨by rfl, ?hy6⟩) hHeld ?rest6
          case hy6 => (intro W hSw; (try dsimp only at hSw); have sy := Hsy.out _ hSw; go_simp; all_goals (with_reducible rfl))
          change wpAnyH _ _ _ _ _ _ _ (Act.put _ (some 118) _) _
          simp only [Act.put, List.setIfInBounds_toArray, List.set_cons_zero, List.set_cons_succ]
          refine wpAnyH_take (i := 7) (v := ?v7) rfl (by kernel_rfl) (by kernel_rfl) (by kernel_rfl) (fun _ _ _ h => h) (Or.inl ⟨by rfl, ?hy7⟩) hHeld ?rest7
          case hy7 => (intro W hSw; (try dsimp only at hSw); have sy := Hsy.out _ hSw; go_simp; all_goals (with_reducible rfl))
          change wpAnyH _ _ _ _ _ _ _ (Act.put _ (some 119) _) _
          simp only [Act.put, List.setIfInBounds_toArray, List.set_cons_zero, List.set_cons_succ]
          refine wpAnyH_ready (rs := [4]) (by kernel_rfl) (by simp) ?_
          refine AllReadyH.cons rfl (fun K hK => ?_) AllReadyH.nil
          try simp only [List.getElem_toArray, List.getElem_cons_succ, List.getElem_cons_zero]
          go_simp
          refine (outDn_c M r2 _ (HDk.out _ hHeld) hxl).mono ?_
          rintro e w5 ⟨oa, oc, rfl, hown, hF5⟩
          have s5 := str_lies (lies_ownB hown) Hbyt.out
          have hH5 := hHeld.join hF5
          rw [← HX.out] at s5 ⊢
          clear hown hF5
          refine hK.out _ _ hH5 (fun hHeld => ?_)
          clear hK K
          refine wpAnyH_ready (rs := [5]) (by kernel_rfl) (by simp) ?_
          refine AllReadyH.cons rfl (fun K hK => ?_) AllReadyH.nil
          try simp only [List.getElem_toArray, List.getElem_cons_succ, List.getElem_cons_zero]
          go_simp
          refine hK.out _ _ hHeld (fun hHeld => ?_)
          clear hK K
          refine wpAnyH_take (i := 8) (v := ?v8) rfl (by kernel_rfl) (by kernel_rfl) (by kernel_rfl) (fun _ _ _ h => h) (Or.inl ⟨by rfl, ?hy8⟩) hHeld ?rest8
          case hy8 => (intro W hSw; (try dsimp only at hSw); have sy := Hsy.out _ hSw; go_simp; all_goals (with_reducible rfl))
          change wpAnyH _ _ _ _ _ _ _ (Act.put _ (some 120) _) _
          simp only [Act.put, List.setIfInBounds_toArray, List.set_cons_zero, List.set_cons_succ]
          refine wpAnyH_take (i := 9) (v := ?v9) rfl (by kernel_rfl) (by kernel_rfl) (by kernel_rfl) (fun _ _ _ h => h) (Or.inl ⟨by rfl, ?hy9⟩) hHeld ?rest9
          case hy9 => (intro W hSw; (try dsimp only at hSw); have sy := Hsy.out _ hSw; go_simp; all_goals (with_reducible rfl))
          change wpAnyH _ _ _ _ _ _ _ (Act.put _ (some 121) _) _
          simp only [Act.put, List.setIfInBounds_toArray, List.set_cons_zero, List.set_cons_succ]
          refine wpAnyH_take (i := 10) (v := ?v10) rfl (by kernel_rfl) (by kernel_rfl) (by kernel_rfl) (fun _ _ _ h => h) (Or.inl ⟨by rfl, ?hy10⟩) hHeld ?rest10
          case hy10 => (intro W hSw; (try dsimp only at hSw); have sy := Hsy.out _ hSw; go_simp; all_goals (with_reducible rfl))
          change wpAnyH _ _ _ _ _ _ _ (Act.put _ (some 122) _) _
          simp only [Act.put, List.setIfInBounds_toArray, List.set_cons_zero, List.set_cons_succ]
          refine wpAnyH_take (i := 11) (v := ?v11) rfl (by kernel_rfl) (by kernel_rfl) (by kernel_rfl) (fun _ _ _ h => h) (Or.inl ⟨by rfl, ?hy11⟩) hHeld ?rest11
          case hy11 => (intro W hSw; (try dsimp only at hSw); have sy := Hsy.out _ hSw; go_simp; all_goals (with_reducible rfl))
          change wpAnyH _ _ _ _ _ _ _ (Act.put _ (some 123) _) _
          simp only [Act.put, List.setIfInBounds_toArray, List.set_cons_zero, List.set_cons_succ]
          refine wpAnyH_take (i := 13) (v := ?v13) rfl (by kernel_rfl) (by kernel_rfl) (by kernel_rfl) (fun _ _ _ h => h) (Or.inl ⟨by rfl, ?hy13⟩) hHeld ?rest13
          case hy13 => (intro W hSw; (try dsimp only at hSw); have sy := Hsy.out _ hSw; go_simp; all_goals (with_reducible rfl))
          change wpAnyH _ _ _ _ _ _ _ (Act.put _ (some 125) _) _
          simp only [Act.put, List.setIfInBounds_toArray, List.set_cons_zero, List.set_cons_succ]
          refine wpAnyH_ready (rs := [12]) (by kernel_rfl) (by simp) ?_
          refine AllReadyH.cons rfl (fun K hK => ?_) AllReadyH.nil
          try simp only [List.getElem_toArray, List.getElem_cons_succ, List.getElem_cons_zero]
          go_simp
          refine (errR_c M _ _ (HDk.out _ hHeld).cells.2).mono ?_
          rintro e w6 ⟨rfl, rfl⟩
          rw [← HV.out]
          refine hK.out _ _ hHeld (fun hHeld => ?_)
          clear hK K
          refine wpAnyH_take (i := 14) (v := ?v14) rfl (by kernel_rfl) (by kernel_rfl) (by kernel_rfl) (fun _ _ _ h => h) (Or.inl ⟨by rfl, ?hy14⟩) hHeld ?rest14
          case hy14 => (intro W hSw; (try dsimp only at hSw); have sy := Hsy.out _ hSw; go_simp; all_goals (with_reducible rfl))
          change wpAnyH _ _ _ _ _ _ _ (Act.put _ (some 126) _) _
          simp only [Act.put, List.setIfInBounds_toArray, List.set_cons_zero, List.set_cons_succ]
          refine wpAnyH_take (i := 15) (v := ?v15) rfl (by kernel_rfl) (by kernel_rfl) (by kernel_rfl) (fun _ _ _ h => h) (Or.inl ⟨by rfl, ?hy15⟩) hHeld ?rest15
          case hy15 => (intro W hSw; (try dsimp only at hSw); have sy := Hsy.out _ hSw; go_simp; all_goals (with_reducible rfl))
          change wpAnyH _ _ _ _ _ _ _ (Act.put _ (some 127) _) _
          simp only [Act.put, List.setIfInBounds_toArray, List.set_cons_zero, List.set_cons_succ]
          refine wpAnyH_take (i := 16) (v := ?v16) rfl (by kernel_rfl) (by kernel_rfl) (by kernel_rfl) (fun _ _ _ h => h) (Or.inl ⟨by rfl, ?hy16⟩) hHeld ?rest16
          case hy16 => (intro W hSw; (try dsimp only at hSw); have sy := Hsy.out _ hSw; go_simp; all_goals (with_reducible rfl))
          change wpAnyH _ _ _ _ _ _ _ (Act.put _ (some 6) _) _
          simp only [Act.put, List.setIfInBounds_toArray, List.set_cons_zero, List.set_cons_succ]
          refine wpAnyH_done (by kernel_rfl) ?_ _
          go_wp2
          go_ret
          exact ⟨rfl, HFin.out _ hHeld⟩
end Go.Proofs.Ytdbgolklgiadeaa
