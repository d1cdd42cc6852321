/-
  InflateSlices.
-/
import Derived.Test.YtleeaofofofgmaaDoorRm
import Derived.Test.YtleeaofofofgmaaDoorRj
namespace Go.Proofs.YtleeaofofofgmaaDoor
open Go.RowKit

theorem Mx.smlow {w : World} {lo R M B : Nat} {bs : List Nat} {most : Nat} {s : St} (h : Mx w lo R M B bs most s) {k : Nat} (e : Sm M B w k) : lo ≤ k := by
  obtain ⟨lf, bk, b1, b2, f1, f2, ov, hO, _⟩ := h
  have := hO.rd.elo; have := hO.rd.ehi; have := hO.hM
  have e0 : w.cell? ⟨M, 11, none⟩ = some ov := cell_of hO.obj rfl
  rcases e with e | e | ⟨v, e1, e2⟩
  · omega
  · omega
  · rw [e0] at e1
    cases e1
    have := (hO.own.lt k e2).1; omega

/-- A machine on its way, or at its end: what it will come to. The blocks of T are not its own. -/
inductive Jn (T : Nat → Prop) (lo M : Nat) (bs : List Nat) (most : Int) (w : World) : Bool → Nat → Prop
  | on {R B m : Nat} {s : St} (hm : most = (m : Int)) (hb : m ≤ 16384) (h : Mx w lo R M B bs m s) (hT : ∀ k, T k → ¬ Sm M B w k) (hr : ∀ r, Runs (leNum bs) (8 * bs.length) m s r → AllOk bs most r) : Jn T lo M bs most w false s.out.length
  | fin {r : Except Nat (List Nat × Nat)} (k : Nat) (hA : AllOk bs most r) (h : Mf w M (outOf r) (usedOf r) (errOf r)) : Jn T lo M bs most w true k

section
variable {T : Nat → Prop} {lo M : Nat} {bs : List Nat} {most : Int} {w w' : World} {b : Bool} {k : Nat}
theorem Jn.cell (h : Jn T lo M bs most w b k) : w.cell? ⟨M, 14, none⟩ = some (.bool b) := by
  cases h with
  | on _ _ h _ _ => exact h.md.2.2.2
  | fin _ _ h => exact h.cell14
theorem Jn.seal (h : Jn (fun _ => False) lo M bs most w b k) (hF : Fr (fun _ => False) w w') (hT : ∀ k, T k → w.heap.size ≤ k) : Jn T lo M bs most w' b k := by
  cases h with
  | on h1 h2 h _ h3 => exact .on h1 h2 (h.fr hF) (fun k hk => h.notP hF (hT k hk)) h3
  | fin _ h1 h => exact .fin _ h1 (h.keep hF)
theorem Jn.leMost (h : Jn T lo M bs most w false k) : k ≤ 16384 := by
  cases h with
  | on h1 h2 h _ h3 =>
    obtain ⟨lf, bk, b1, b2, f1, f2, ov, hO, hP, hX, hb, ho⟩ := h
    exact Nat.le_trans ho h2
theorem Jn.cells (h : Jn T lo M bs most w false k) : w.cell? ⟨M, 12, none⟩ = some (.int .i64 0) ∧ w.cell? ⟨M, 13, none⟩ = some (.int .i64 0) := by
  cases h with
  | on h1 h2 h _ h3 =>
    obtain ⟨lf, bk, b1, b2, f1, f2, ov, hO, _⟩ := h
    exact ⟨cell_of hO.obj rfl, cell_of hO.obj rfl⟩
theorem Jn.end (h : Jn T lo M bs most w true k) : ∃ r, AllOk bs most r ∧ Mf w M (outOf r) (usedOf r) (errOf r) := by
  cases h with
  | fin _ h1 h => exact ⟨_, h1, h⟩
end

/-- What a slice leaves. -/
structure Jp (T : Nat → Prop) (lo M : Nat) (bs : List Nat) (most : Int) (w w' : World) (b : Bool) (k : Nat) (n0 : Int) (b' : Bool) (k' : Nat) : Prop where
  j : Jn T lo M bs most w' b' k'
  fl : Fl lo w w'
  gl : Gl w'
  t : ∀ k, T k → w'.heap[k]? = w.heap[k]?
  up : b = true → b' = true
  no : n0 < 1 → b' = b
  more : b' = false → 0 ≤ n0 → (k' : Int) = k + n0

theorem jn_step {T : Nat → Prop} {lo M : Nat} {bs : List Nat} {most : Int} {w : World} {b : Bool} {k : Nat} (h : Jn T lo M bs most w b k) (hT : ∀ k, T k → k < w.heap.size) (hg : Gl w) (hlo : 0 < lo) (n0 : Int) (hn0 : n0 ≤ 9223372036854775807) (hn1 : -9223372036854775808 ≤ n0) :
    Calls Tryd.prog 15 #[.pointer (some ⟨M, 0, none⟩), .int .i64 n0] w fun e w' => ∃ b' k', e = .returned (.bool b') ∧ Jp T lo M bs most w w' b k n0 b' k' := by
  cases h with
  | on hm hb hX hTn hr =>
    refine (step_s w lo _ M _ bs _ (by omega) hg hlo _ hX n0 hn0 hn1).mono ?_
    rintro e w2 ⟨b', rfl, hb', hF, hS⟩
    have hfl : Fl lo w w2 := hF.fr.mono fun k _ e => hX.smlow e
    have hg2 : Gl w2 := hg.keep hfl (by omega)
    have ht : ∀ k, T k → w2.heap[k]? = w.heap[k]? := fun k hk => hF.fr.block k (hT k hk) (hTn k hk)
    cases hS with
    | on s' hX' hr' h0 h1 =>
      have := hX'.md.2.2.2
      rw [hb'] at this
      cases this
      have hFs := hF.on hb'
      refine ⟨false, _, rfl, .on hm hb hX' (fun k hk e => ?_) (fun r h => hr r (hr' r h)), hfl, hg2, ht, fun h => h, fun _ => rfl, fun _ h => h1 h⟩
      have h1 := hT k hk
      rcases e with e | e | ⟨v, e1, e2⟩
      · exact hTn k hk (Or.inl e)
      · exact hTn k hk (Or.inr (Or.inl e))
      · rcases hFs.own v k e1 e2 with e | e
        · exact hTn k hk e
        · omega
    | fin r hr' hM h0 =>
      have := hM.mf.cell14
      rw [hb'] at this
      cases this
      exact ⟨true, 0, rfl, .fin _ (hr r hr') hM.mf, hfl, hg2, ht, fun _ => rfl, fun h => by omega, fun h => by cases h⟩
  | fin k hA hM =>
    refine (step_done w M n0 hM.cell14).mono ?_
    rintro e w2 ⟨rfl, rfl⟩
    exact ⟨true, k, rfl, .fin _ hA hM, Fr.refl _ _, hg, fun _ _ => rfl, fun _ => rfl, fun _ => rfl, fun h => by cases h⟩

theorem jn_new (sv : Value) (n c : Nat) (a : Option Addr) (hs : sv = .slice a n c) (bs : List Nat) (most : Int) (w : World) (h : Lies w sv bs) (hlt : ∀ b ∈ bs, b < 256) (hlen : bs.length ≤ 2147483648) (hm : most ≤ 16384) :
    Calls Tryd.prog 13 #[sv, .int .i64 most] w fun e w' => ∃ M b k, e = .returned (.pointer (some ⟨M, 0, none⟩)) ∧ Jn (fun _ => False) w.heap.size M bs most w' b k ∧ Fr (fun _ => False) w w' := by
  by_cases hneg : most < 0
  · refine (new_neg sv n c a hs most hneg w).mono ?_
    rintro e w1 ⟨M, rfl, hM, _, hF⟩
    exact ⟨M, true, 0, rfl, .fin (r := .error 1) _ (Or.inl ⟨hneg, rfl⟩) hM, hF⟩
  · obtain ⟨m, rfl⟩ : ∃ m : Nat, most = (m : Int) := ⟨most.toNat, by omega⟩
    refine (new_pos sv bs m w h hlt hlen).mono ?_
    rintro e w1 ⟨M, B, R, rfl, hX, hF⟩
    exact ⟨M, false, _, rfl, .on rfl (by omega) hX (fun _ h => h.elim) (fun r h => Or.inr ⟨by omega, h⟩), hF⟩

theorem liesI_fl {w w' : World} {a : Option Addr} {zs : List Int} (h : LiesI w a zs) (hF : Fl w.heap.size w w') : LiesI w' a zs := fun j hj => by
  obtain ⟨ad, e, hc⟩ := h j hj
  have hlt := cell_lt hc
  exact ⟨ad, e, by rw [cell_blk (hF.block _ hlt (by omega))]; exact hc⟩

/-- What holds at each round of either loop. -/
structure Jr (lo M : Nat) (bs : List Nat) (most : Int) (w2 wr : World) (y : Value) (r : Except Nat (List Nat × Nat)) (b : Bool) (k : Nat) (hi : Nat) : Prop where
  j : Jn (fun k => y.ownBlock = some k) lo M bs most wr b k
  fl : Fl lo w2 wr
  gl : Gl wr
  y : wr.ownsRow hi 5 1 y (outOf r).length (cellsOf (outOf r))

theorem Jr.step {lo M : Nat} {bs : List Nat} {most : Int} {w2 wr w' : World} {y : Value} {r : Except Nat (List Nat × Nat)} {b : Bool} {k hi : Nat} {n0 : Int} {b' : Bool} {k' : Nat} (h : Jr lo M bs most w2 wr y r b k hi) (hp : Jp (fun k => y.ownBlock = some k) lo M bs most wr w' b k n0 b' k') : Jr lo M bs most w2 w' y r b' k' hi :=
  ⟨hp.j, h.fl.join hp.fl, hp.gl, ownsRow_fr h.y hp.t⟩

set_option maxHeartbeats 3200000 in
set_option maxRecDepth 100000 in
theorem slices_c (a : Option Addr) (n c : Nat) (bs : List Nat) (m : Int) (ta : Option Addr) (tn tc : Nat) (ts : List Int) (w : World) (hn : n = bs.length) (h : Lies w (.slice a n c) bs) (hlt : ∀ b ∈ bs, b < 256) (htn : tn = ts.length) (ht : LiesI w ta ts) (htr : ∀ i, i < ts.length → -9223372036854775808 ≤ at0 ts i ∧ at0 ts i ≤ 9223372036854775807) (hg : Gw w) :
    Calls Tryd.prog 4 #[.slice a n c, .int .i64 m, .slice ta tn tc] w fun e w' => e = .returned (.bool true) ∧ Fr (fun _ => False) w w' := by
  have HG := hide hg
  have HL := hide h
  have Hlt := hide hlt
  have Hn := hide hn
  have HT := hide ht
  have Htn := hide htn
  have Htr := hide htr
  clear hg h hlt hn ht htn htr
  go_enter Tryd.func4, Tryd.ntmps4
  go_wp2_with fail
  refine (awake_c w HG.out).mono ?_
  rintro e w0 ⟨rfl, hF0⟩
  have HG0 := hide (HG.out.fr hF0)
  have HF0 := hide hF0
  clear hF0
  by_cases hbig : 2000 < n
  · have hbi : (2000 : Int) < n := by omega
    go_wp2
    go_ret
    exact ⟨rfl, HF0.out⟩
  have hbi : ¬ (2000 : Int) < n := by omega
  by_cases hbm : 16384 < m
  · go_wp2
    go_ret
    exact ⟨rfl, HF0.out⟩
  by_cases hbt : 100 < tn
  · have hbti : (100 : Int) < tn := by omega
    go_wp2
    go_ret
    exact ⟨rfl, HF0.out⟩
  have hbti : ¬ (100 : Int) < tn := by omega
  have hln : bs.length ≤ 2000 := by have := Hn.out; omega
  go_wp2_with fail
  refine (jn_new (.slice a n c) n c a rfl bs m w0 (lies_fr HL.out HF0.out) Hlt.out (by omega) (by omega)).mono ?_
  rintro e w1 ⟨M, b1, k1, rfl, hJ1, hF1⟩
  have HJ1 := hide hJ1
  have HF1 := hide hF1
  clear hJ1 hF1
  go_wp2_with fail
  refine (rInflate_o (.slice a n c) bs m w1 (lies_fr HL.out (HF0.out.join HF1.out)) Hlt.out (by omega) (by omega)).mono ?_
  rintro e w2 ⟨r, ya, yc, hA, rfl, hLy, hF2⟩
  have HA := hide hA
  obtain ⟨lo, hlo⟩ : ∃ lo, lo = w0.heap.size := ⟨_, rfl⟩
  have Hlo := hide hlo
  have hlo0 : 0 < lo := by rw [hlo]; exact HG0.out.pos
  obtain ⟨X, hX⟩ : ∃ X, X = (outOf r).length := ⟨_, rfl⟩
  obtain ⟨U, hU⟩ : ∃ U, U = usedOf r := ⟨_, rfl⟩
  obtain ⟨V, hV⟩ : ∃ V, V = errOf r := ⟨_, rfl⟩
  have HXU := hide (And.intro hX (And.intro hU hV))
  have HF2 := hide (HF1.out.join hF2)
  have HR2 : Hid (Jr lo M bs m w2 w2 (.slice ya (outOf r).length yc) r b1 k1 w1.heap.size) := ⟨by rw [hlo]; exact HJ1.out.seal hF2 (fun k hk => (hLy.lt k hk).1), Fr.refl _ _, (HG0.out.fr HF2.out).gl, hLy⟩
  have HT2 : Hid (∀ w', Fl lo w2 w' → LiesI w' ta ts) := fun w' hF => by
    refine liesI_fl (HT.out.fr HF0.out) ?_
    rw [← hlo]
    exact (Fl0 HF2.out).join hF
  rw [← hX, ← hU, ← hV]
  rw [← hX] at HR2
  clear hX hU hV hA hLy hF2 hlo
  go_wp2
  go_loopw [11, 12, 13] (fun iv _ _ wr => ∃ (i : Nat) (b : Bool) (k : Nat), i ≤ tn ∧ iv = .int .i64 (i : Int) ∧ Hid (Jr lo M bs m w2 wr (.slice ya X yc) r b k w1.heap.size)) (fun iv _ _ _ => tn - (intOf iv).toNat)
  case atStart => exact ⟨0, b1, k1, Nat.zero_le _, rfl, HR2⟩
  case round =>
    obtain ⟨i, b, k, hi1, rfl, J⟩ := hrel
    by_cases hlt : i < tn
    · have hlti : (i : Int) < (tn : Int) := by omega
      have hit : i < ts.length := by have := Htn.out; omega
      obtain ⟨v, hv⟩ : ∃ v, v = at0 ts i := ⟨_, rfl⟩
      obtain ⟨hv1, hv2⟩ := Htr.out i hit
      obtain ⟨ad, hta, hc⟩ := HT2.out wr J.out.fl i hit
      have Hc : Hid (∀ w', Fl lo w2 w' → w'.cell? (ad.add i) = some (.int .i64 v)) := fun w' hF => by
        obtain ⟨ad', e', hc'⟩ := HT2.out w' hF i hit
        rw [hta] at e'
        cases e'
        rw [hv]
        exact hc'
      rw [← hv] at hc hv1 hv2
      subst hta
      clear hv
      go_wp2_with fail
      refine (done_c b M wr J.out.j.cell).mono ?_
      rintro e w3 ⟨rfl, rfl⟩
      go_wp2_with fail
      refine (jn_step J.out.j (fun k hk => (J.out.y.lt k hk).2) J.out.gl hlo0 v hv2 hv1).mono ?_
      rintro e w3 ⟨b', k', rfl, hp⟩
      have hup := hp.up
      have hno := hp.no
      have J' := hide (J.out.step hp)
      have hc' := Hc.out w3 J'.out.fl
      clear hp
      go_wp2_with fail
      refine (done_c b' M w3 J'.out.j.cell).mono ?_
      rintro e w4 ⟨rfl, rfl⟩
      cases b' with
      | true =>
        by_cases hv0 : v < 1
        · obtain rfl := hno hv0
          go_wp2
          go_roundw
          case rel => exact ⟨i + 1, true, k', by omega, by go_num, J'⟩
          case measure => simp [intOf]; omega
        · cases b <;>
          · go_wp2
            go_roundw
            case rel => exact ⟨i + 1, true, k', by omega, by go_num, J'⟩
            case measure => simp [intOf]; omega
      | false =>
        obtain rfl : b = false := by
          cases b with
          | false => rfl
          | true => exact absurd (hup rfl) (by decide)
        obtain ⟨z12, z13⟩ := J'.out.j.cells
        by_cases hv0 : v < 1
        · go_wp2_with fail
          refine (out_no M w3 J'.out.j.cell).mono ?_
          rintro e w4 ⟨rfl, rfl⟩
          go_wp2_with fail
          refine (err_c 0 M w3 z13).mono ?_
          rintro e w4 ⟨rfl, rfl⟩
          go_wp2_with fail
          refine (used_c 0 M w3 z12).mono ?_
          rintro e w4 ⟨rfl, rfl⟩
          go_wp2
          go_roundw
          case rel => exact ⟨i + 1, false, k', by omega, by go_num, J'⟩
          case measure => simp [intOf]; omega
        · go_wp2_with fail
          refine (out_no M w3 J'.out.j.cell).mono ?_
          rintro e w4 ⟨rfl, rfl⟩
          go_wp2_with fail
          refine (err_c 0 M w3 z13).mono ?_
          rintro e w4 ⟨rfl, rfl⟩
          go_wp2_with fail
          refine (used_c 0 M w3 z12).mono ?_
          rintro e w4 ⟨rfl, rfl⟩
          go_wp2
          go_roundw
          case rel => exact ⟨i + 1, false, k', by omega, by go_num, J'⟩
          case measure => simp [intOf]; omega
    · have hlti : ¬ (i : Int) < (tn : Int) := by omega
      obtain ⟨w3, hw3⟩ : ∃ w3, w3 = wr := ⟨_, rfl⟩
      rw [← hw3] at J ⊢
      clear hw3
      go_wp2
      go_loopw [14] (fun iv wr => ∃ (i : Nat) (b : Bool) (k : Nat), iv = .int .i64 (i : Int) ∧ i ≤ 20000 ∧ (b = false → i ≤ k) ∧ Hid (Jr lo M bs m w2 wr (.slice ya X yc) r b k w1.heap.size)) (fun iv _ => 32768 - (intOf iv).toNat)
      case atStart => exact ⟨0, b, k, rfl, by omega, fun _ => Nat.zero_le _, J⟩
      case round =>
        obtain ⟨i, b, k, rfl, hi2, hik, J⟩ := hrel
        have hi3 : (i : Int) < 32768 := by omega
        cases b with
        | false =>
          have hk1 := J.out.j.leMost
          have hik' := hik rfl
          obtain ⟨z, hz⟩ : ∃ z, z = i % 7 := ⟨_, rfl⟩
          have hz7 : z < 7 := by omega
          have hzi : (i : Int).tmod 7 = (z : Int) := by
            rw [hz, Int.tmod_eq_emod_of_nonneg (by omega)]
            simp
          clear hz
          go_wp2_with fail
          refine (done_c false M wr J.out.j.cell).mono ?_
          rintro e w3 ⟨rfl, rfl⟩
          go_wp2_with fail
          refine (jn_step J.out.j (fun k hk => (J.out.y.lt k hk).2) J.out.gl hlo0 (1 + (z : Int)) (by omega) (by omega)).mono ?_
          rintro e w3 ⟨b', k', rfl, hp⟩
          have hmo := hp.more
          have J' := hide (J.out.step hp)
          clear hp
          go_wp2
          go_roundw
          case rel => exact ⟨i + 1, b', k', by go_num, by omega, fun h => by have := hmo h (by omega); omega, J'⟩
          case measure => simp [intOf]; omega
        | true =>
          go_wp2_with fail
          refine (done_c true M wr J.out.j.cell).mono ?_
          rintro e w3 ⟨rfl, rfl⟩
          obtain ⟨r', hA', hM⟩ := J.out.j.end
          obtain rfl := hA'.det HA.out
          rw [← HXU.out.2.1, ← HXU.out.2.2] at hM
          have hx256 : ∀ b ∈ outOf r', b < 256 := hA'.bytes
          have hxl : (outOf r').length ≤ 2147483648 := by have := hA'.len (by omega); omega
          have HM : Hid (∀ W, Fr (fun _ => False) wr W → Mf W M (outOf r') U V) := fun W hF => hM.keep hF
          have Hsy : Hid (∀ W, Fr (fun _ => False) wr W → (convert 22 9 (.slice ya X yc)).run Tryd.prog W = .ok (.string (strOf (outOf r'))) W) := fun W hF => str_lies (lies_fr (lies_own J.out.y) hF) hx256
          have HFin : Hid (∀ W, Fr (fun _ => False) wr W → Fr (fun _ => False) w W) := fun W hF => (HF0.out.join (fl_none (by rw [← Hlo.out]; exact (Fl0 HF2.out).join J.out.fl))).join hF
          clear hM
          go_wp2_with fail
          refine wp_region_held_drew (S := fun w' => Fr (fun _ => False) wr w') (by kernel_rfl) (by exact Fr.of_drewN wr 1) (fun hHeld => ?_)
          refine wpAnyH_take (i := 0) (v := ?v0) rfl (by kernel_rfl) (by kernel_rfl) (by kernel_rfl) (fun _ _ _ h => h) (Or.inl ⟨by rfl, ?hy0⟩) hHeld ?rest0
          case hy0 => (intro W hSw; (try dsimp only at hSw); have sy := Hsy.out _ hSw; go_simp; all_goals (with_reducible rfl))
          change wpAnyH _ _ _ _ _ _ _ (Act.put _ (some 110) _) _
          simp only [Act.put, List.setIfInBounds_toArray, List.set_cons_zero, List.set_cons_succ]
          refine wpAnyH_ready (rs := [1]) (by kernel_rfl) (by simp) ?_
          refine AllReadyH.cons rfl (fun K hK => ?_) AllReadyH.nil
          try simp only [List.getElem_toArray, List.getElem_cons_succ, List.getElem_cons_zero]
          go_simp
          refine (done_c true M _ (HM.out _ hHeld).cell14).mono ?_
          rintro e w4 ⟨rfl, rfl⟩
          refine hK.out _ _ hHeld (fun hHeld => ?_)
          clear hK K
          refine wpAnyH_take (i := 2) (v := ?v2) rfl (by kernel_rfl) (by kernel_rfl) (by kernel_rfl) (fun _ _ _ h => h) (Or.inl ⟨by rfl, ?hy2⟩) hHeld ?rest2
          case hy2 => (intro W hSw; (try dsimp only at hSw); have sy := Hsy.out _ hSw; go_simp; all_goals (with_reducible rfl))
          change wpAnyH _ _ _ _ _ _ _ (Act.put _ (some 112) _) _
          simp only [Act.put, List.setIfInBounds_toArray, List.set_cons_zero, List.set_cons_succ]
          refine wpAnyH_take (i := 3) (v := ?v3) rfl (by kernel_rfl) (by kernel_rfl) (by kernel_rfl) (fun _ _ _ h => h) (Or.inl ⟨by rfl, ?hy3⟩) hHeld ?rest3
          case hy3 => (intro W hSw; (try dsimp only at hSw); have sy := Hsy.out _ hSw; go_simp; all_goals (with_reducible rfl))
          change wpAnyH _ _ _ _ _ _ _ (Act.put _ (some 113) _) _
          simp only [Act.put, List.setIfInBounds_toArray, List.set_cons_zero, List.set_cons_succ]
          refine wpAnyH_take (i := 6) (v := ?v6) rfl (by kernel_rfl) (by kernel_rfl) (by kernel_rfl) (fun _ _ _ h => h) (Or.inl ⟨by rfl, ?hy6⟩) hHeld ?rest6
          case hy6 => (intro W hSw; (try dsimp only at hSw); have sy := Hsy.out _ hSw; go_simp; all_goals (with_reducible rfl))
          change wpAnyH _ _ _ _ _ _ _ (Act.put _ (some 116) _) _
          simp only [Act.put, List.setIfInBounds_toArray, List.set_cons_zero, List.set_cons_succ]
          refine wpAnyH_take (i := 7) (v := ?v7) rfl (by kernel_rfl) (by kernel_rfl) (by kernel_rfl) (fun _ _ _ h => h) (Or.inl ⟨by rfl, ?hy7⟩) hHeld ?rest7
          case hy7 => (intro W hSw; (try dsimp only at hSw); have sy := Hsy.out _ hSw; go_simp; all_goals (with_reducible rfl))
          change wpAnyH _ _ _ _ _ _ _ (Act.put _ (some 117) _) _
          simp only [Act.put, List.setIfInBounds_toArray, List.set_cons_zero, List.set_cons_succ]
          refine wpAnyH_ready (rs := [4]) (by kernel_rfl) (by simp) ?_
          refine AllReadyH.cons rfl (fun K hK => ?_) AllReadyH.nil
          try simp only [List.getElem_toArray, List.getElem_cons_succ, List.getElem_cons_zero]
          go_simp
          refine (out_c M (outOf r') _ _ _ (HM.out _ hHeld) hxl).mono ?_
          rintro e w5 ⟨oa, oc, rfl, hown, hF5⟩
          have s5 := str_lies (lies_own hown) hx256
          have hH5 := hHeld.join hF5
          clear hown hF5
          refine hK.out _ _ hH5 (fun hHeld => ?_)
          clear hK K
          refine wpAnyH_ready (rs := [5]) (by kernel_rfl) (by simp) ?_
          refine AllReadyH.cons rfl (fun K hK => ?_) AllReadyH.nil
          try simp only [List.getElem_toArray, List.getElem_cons_succ, List.getElem_cons_zero]
          go_simp
          refine hK.out _ _ hHeld (fun hHeld => ?_)
          clear hK K
          refine wpAnyH_take (i := 8) (v := ?v8) rfl (by kernel_rfl) (by kernel_rfl) (by kernel_rfl) (fun _ _ _ h => h) (Or.inl ⟨by rfl, ?hy8⟩) hHeld ?rest8
          case hy8 => (intro W hSw; (try dsimp only at hSw); have sy := Hsy.out _ hSw; go_simp; all_goals (with_reducible rfl))
          change wpAnyH _ _ _ _ _ _ _ (Act.put _ (some 118) _) _
          simp only [Act.put, List.setIfInBounds_toArray, List.set_cons_zero, List.set_cons_succ]
          refine wpAnyH_take (i := 9) (v := ?v9) rfl (by kernel_rfl) (by kernel_rfl) (by kernel_rfl) (fun _ _ _ h => h) (Or.inl ⟨by rfl, ?hy9⟩) hHeld ?rest9
          case hy9 => (intro W hSw; (try dsimp only at hSw); have sy := Hsy.out _ hSw; go_simp; all_goals (with_reducible rfl))
          change wpAnyH _ _ _ _ _ _ _ (Act.put _ (some 119) _) _
          simp only [Act.put, List.setIfInBounds_toArray, List.set_cons_zero, List.set_cons_succ]
          refine wpAnyH_take (i := 10) (v := ?v10) rfl (by kernel_rfl) (by kernel_rfl) (by kernel_rfl) (fun _ _ _ h => h) (Or.inl ⟨by rfl, ?hy10⟩) hHeld ?rest10
          case hy10 => (intro W hSw; (try dsimp only at hSw); have sy := Hsy.out _ hSw; go_simp; all_goals (with_reducible rfl))
          change wpAnyH _ _ _ _ _ _ _ (Act.put _ (some 120) _) _
          simp only [Act.put, List.setIfInBounds_toArray, List.set_cons_zero, List.set_cons_succ]
          refine wpAnyH_take (i := 11) (v := ?v11) rfl (by kernel_rfl) (by kernel_rfl) (by kernel_rfl) (fun _ _ _ h => h) (Or.inl ⟨by rfl, ?hy11⟩) hHeld ?rest11
          case hy11 => (intro W hSw; (try dsimp only at hSw); have sy := Hsy.out _ hSw; go_simp; all_goals (with_reducible rfl))
          change wpAnyH _ _ _ _ _ _ _ (Act.put _ (some 121) _) _
          simp only [Act.put, List.setIfInBounds_toArray, List.set_cons_zero, List.set_cons_succ]
          refine wpAnyH_take (i := 13) (v := ?v13) rfl (by kernel_rfl) (by kernel_rfl) (by kernel_rfl) (fun _ _ _ h => h) (Or.inl ⟨by rfl, ?hy13⟩) hHeld ?rest13
          case hy13 => (intro W hSw; (try dsimp only at hSw); have sy := Hsy.out _ hSw; go_simp; all_goals (with_reducible rfl))
          change wpAnyH _ _ _ _ _ _ _ (Act.put _ (some 123) _) _
          simp only [Act.put, List.setIfInBounds_toArray, List.set_cons_zero, List.set_cons_succ]
          refine wpAnyH_ready (rs := [12]) (by kernel_rfl) (by simp) ?_
          refine AllReadyH.cons rfl (fun K hK => ?_) AllReadyH.nil
          try simp only [List.getElem_toArray, List.getElem_cons_succ, List.getElem_cons_zero]
          go_simp
          refine (used_c _ M _ (HM.out _ hHeld).cells.1).mono ?_
          rintro e w6 ⟨rfl, rfl⟩
          refine hK.out _ _ hHeld (fun hHeld => ?_)
          clear hK K
          refine wpAnyH_take (i := 14) (v := ?v14) rfl (by kernel_rfl) (by kernel_rfl) (by kernel_rfl) (fun _ _ _ h => h) (Or.inl ⟨by rfl, ?hy14⟩) hHeld ?rest14
          case hy14 => (intro W hSw; (try dsimp only at hSw); have sy := Hsy.out _ hSw; go_simp; all_goals (with_reducible rfl))
          change wpAnyH _ _ _ _ _ _ _ (Act.put _ (some 124) _) _
          simp only [Act.put, List.setIfInBounds_toArray, List.set_cons_zero, List.set_cons_succ]
          refine wpAnyH_take (i := 15) (v := ?v15) rfl (by kernel_rfl) (by kernel_rfl) (by kernel_rfl) (fun _ _ _ h => h) (Or.inl ⟨by rfl, ?hy15⟩) hHeld ?rest15
          case hy15 => (intro W hSw; (try dsimp only at hSw); have sy := Hsy.out _ hSw; go_simp; all_goals (with_reducible rfl))
          change wpAnyH _ _ _ _ _ _ _ (Act.put _ (some 125) _) _
          simp only [Act.put, List.setIfInBounds_toArray, List.set_cons_zero, List.set_cons_succ]
          refine wpAnyH_take (i := 16) (v := ?v16) rfl (by kernel_rfl) (by kernel_rfl) (by kernel_rfl) (fun _ _ _ h => h) (Or.inl ⟨by rfl, ?hy16⟩) hHeld ?rest16
          case hy16 => (intro W hSw; (try dsimp only at hSw); have sy := Hsy.out _ hSw; go_simp; all_goals (with_reducible rfl))
          change wpAnyH _ _ _ _ _ _ _ (Act.put _ (some 126) _) _
          simp only [Act.put, List.setIfInBounds_toArray, List.set_cons_zero, List.set_cons_succ]
          refine wpAnyH_take (i := 17) (v := ?v17) rfl (by kernel_rfl) (by kernel_rfl) (by kernel_rfl) (fun _ _ _ h => h) (Or.inl ⟨by rfl, ?hy17⟩) hHeld ?rest17
          case hy17 => (intro W hSw; (try dsimp only at hSw); have sy := Hsy.out _ hSw; go_simp; all_goals (with_reducible rfl))
          change wpAnyH _ _ _ _ _ _ _ (Act.put _ (some 127) _) _
          simp only [Act.put, List.setIfInBounds_toArray, List.set_cons_zero, List.set_cons_succ]
          refine wpAnyH_take (i := 19) (v := ?v19) rfl (by kernel_rfl) (by kernel_rfl) (by kernel_rfl) (fun _ _ _ h => h) (Or.inl ⟨by rfl, ?hy19⟩) hHeld ?rest19
          case hy19 => (intro W hSw; (try dsimp only at hSw); have sy := Hsy.out _ hSw; go_simp; all_goals (with_reducible rfl))
          change wpAnyH _ _ _ _ _ _ _ (Act.put _ (some 129) _) _
          simp only [Act.put, List.setIfInBounds_toArray, List.set_cons_zero, List.set_cons_succ]
          refine wpAnyH_ready (rs := [18]) (by kernel_rfl) (by simp) ?_
          refine AllReadyH.cons rfl (fun K hK => ?_) AllReadyH.nil
          try simp only [List.getElem_toArray, List.getElem_cons_succ, List.getElem_cons_zero]
          go_simp
          refine (err_c _ M _ (HM.out _ hHeld).cells.2).mono ?_
          rintro e w6 ⟨rfl, rfl⟩
          refine hK.out _ _ hHeld (fun hHeld => ?_)
          clear hK K
          refine wpAnyH_take (i := 20) (v := ?v20) rfl (by kernel_rfl) (by kernel_rfl) (by kernel_rfl) (fun _ _ _ h => h) (Or.inl ⟨by rfl, ?hy20⟩) hHeld ?rest20
          case hy20 => (intro W hSw; (try dsimp only at hSw); have sy := Hsy.out _ hSw; go_simp; all_goals (with_reducible rfl))
          change wpAnyH _ _ _ _ _ _ _ (Act.put _ (some 130) _) _
          simp only [Act.put, List.setIfInBounds_toArray, List.set_cons_zero, List.set_cons_succ]
          refine wpAnyH_take (i := 21) (v := ?v21) rfl (by kernel_rfl) (by kernel_rfl) (by kernel_rfl) (fun _ _ _ h => h) (Or.inl ⟨by rfl, ?hy21⟩) hHeld ?rest21
          case hy21 => (intro W hSw; (try dsimp only at hSw); have sy := Hsy.out _ hSw; go_simp; all_goals (with_reducible rfl))
          change wpAnyH _ _ _ _ _ _ _ (Act.put _ (some 131) _) _
          simp only [Act.put, List.setIfInBounds_toArray, List.set_cons_zero, List.set_cons_succ]
          refine wpAnyH_take (i := 22) (v := ?v22) rfl (by kernel_rfl) (by kernel_rfl) (by kernel_rfl) (fun _ _ _ h => h) (Or.inl ⟨by rfl, ?hy22⟩) hHeld ?rest22
          case hy22 => (intro W hSw; (try dsimp only at hSw); have sy := Hsy.out _ hSw; go_simp; all_goals (with_reducible rfl))
          change wpAnyH _ _ _ _ _ _ _ (Act.put _ (some 132) _) _
          simp only [Act.put, List.setIfInBounds_toArray, List.set_cons_zero, List.set_cons_succ]
          refine wpAnyH_take (i := 23) (v := ?v23) rfl (by kernel_rfl) (by kernel_rfl) (by kernel_rfl) (fun _ _ _ h => h) (Or.inl ⟨by rfl, ?hy23⟩) hHeld ?rest23
          case hy23 => (intro W hSw; (try dsimp only at hSw); have sy := Hsy.out _ hSw; go_simp; all_goals (with_reducible rfl))
          change wpAnyH _ _ _ _ _ _ _ (Act.put _ (some 133) _) _
          simp only [Act.put, List.setIfInBounds_toArray, List.set_cons_zero, List.set_cons_succ]
          refine wpAnyH_ready (rs := [24]) (by kernel_rfl) (by simp) ?_
          refine AllReadyH.cons rfl (fun K hK => ?_) AllReadyH.nil
          try simp only [List.getElem_toArray, List.getElem_cons_succ, List.getElem_cons_zero]
          go_simp
          refine (step_done _ M 1 (HM.out _ hHeld).cell14).mono ?_
          rintro e w6 ⟨rfl, rfl⟩
          refine hK.out _ _ hHeld (fun hHeld => ?_)
          clear hK K
          refine wpAnyH_take (i := 25) (v := ?v25) rfl (by kernel_rfl) (by kernel_rfl) (by kernel_rfl) (fun _ _ _ h => h) (Or.inl ⟨by rfl, ?hy25⟩) hHeld ?rest25
          case hy25 => (intro W hSw; (try dsimp only at hSw); have sy := Hsy.out _ hSw; go_simp; all_goals (with_reducible rfl))
          change wpAnyH _ _ _ _ _ _ _ (Act.put _ (some 135) _) _
          simp only [Act.put, List.setIfInBounds_toArray, List.set_cons_zero, List.set_cons_succ]
          refine wpAnyH_take (i := 26) (v := ?v26) rfl (by kernel_rfl) (by kernel_rfl) (by kernel_rfl) (fun _ _ _ h => h) (Or.inl ⟨by rfl, ?hy26⟩) hHeld ?rest26
          case hy26 => (intro W hSw; (try dsimp only at hSw); have sy := Hsy.out _ hSw; go_simp; all_goals (with_reducible rfl))
          change wpAnyH _ _ _ _ _ _ _ (Act.put _ (some 6) _) _
          simp only [Act.put, List.setIfInBounds_toArray, List.set_cons_zero, List.set_cons_succ]
          refine wpAnyH_done (by kernel_rfl) ?_ _
          go_wp2
          go_ret
          exact ⟨rfl, HFin.out _ hHeld⟩
end Go.Proofs.YtleeaofofofgmaaDoor
