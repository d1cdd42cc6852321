/-
  The contract of reading the codes that a block brings with it.
-/
import Derived.Test.YtleeaofofofgmaaDoorMj
namespace Go.Proofs.YtleeaofofofgmaaDoor
open Go.RowKit

theorem LiesI.fr {w w' : World} {a : Option Addr} {zs : List Int} (h : LiesI w a zs) (hF : Fr (fun _ => False) w w') : LiesI w' a zs := fun j hj => by
  obtain ⟨ad, e, hc⟩ := h j hj
  exact ⟨ad, e, by rw [cell_blk (hF.block _ (cell_lt hc) (fun h => h))]; exact hc⟩

theorem len_take {l : List Int} {n : Nat} (h : n ≤ l.length) : (l.take n).length = n := by simp; omega
theorem len_drop {l : List Int} {n m : Nat} (h : l.length = n + m) : (l.drop n).length = m := by simp; omega

theorem at0_take {l : List Int} {n j : Nat} (h : j < n) : at0 (l.take n) j = at0 l j := by
  unfold at0
  rw [List.getD_eq_getElem?_getD, List.getD_eq_getElem?_getD, List.getElem?_take, if_pos h]
theorem at0_drop (l : List Int) (n j : Nat) : at0 (l.drop n) j = at0 l (n + j) := by
  unfold at0
  rw [List.getD_eq_getElem?_getD, List.getD_eq_getElem?_getD, List.getElem?_drop]

theorem lies_take {w : World} {a : Option Addr} {l : List Int} (n : Nat) (h : LiesI w a l) : LiesI w a (l.take n) := fun j hj => by
  have hj' : j < n ∧ j < l.length := by simp at hj; omega
  rw [at0_take hj'.1]
  exact h j hj'.2

theorem lies_drop {w : World} {g : Nat} {l : List Int} (n : Nat) (h : LiesI w (some ⟨g, 0, none⟩) l) : LiesI w (some ⟨g, n, none⟩) (l.drop n) := fun j hj => by
  obtain ⟨ad, e, hc⟩ := h (n + j) (by simp at hj; omega)
  cases e
  refine ⟨_, rfl, ?_⟩
  rw [at0_drop, ← hc, add_none, add_none, Nat.zero_add]

theorem good_take {l : List Int} {n : Nat} (h : fine l) (hn : n ≤ 320) : good (l.take n) := ⟨by simp; omega, fun i hi => by
  have hj' : i < n ∧ i < l.length := by simp at hi; omega
  rw [at0_take hj'.1]
  exact h i hj'.2⟩
theorem good_drop {l : List Int} {n : Nat} (h : fine l) (hn : l.length ≤ n + 320) : good (l.drop n) := ⟨by simp; omega, fun i hi => by
  rw [at0_drop]
  exact h (n + i) (by simp at hi; omega)⟩

theorem new_row (w : World) (o cells : Array Value) (t : TypeId) : ((w.alloc (.cells o t)).setRow w.heap.size cells).heap[w.heap.size]? = some (.cells cells t (0, 0)) ∧ Fr (fun _ => False) w ((w.alloc (.cells o t)).setRow w.heap.size cells) :=
  ⟨setRow_heap _ _ _ _ _ _ (heap_alloc_new _ _), ⟨rfl, rfl, rfl, by simp, fun k hk _ => (setRow_other _ _ _ _ (by omega)).trans (Below.heap_alloc _ _ _ hk)⟩⟩

/-- What stands behind the two codes of a block. -/
structure Own7 (w5 wx : World) (O C1 C2 lo1 hi1 lo2 hi2 : Nat) (ll dl : List Int) : Prop where
  obj : wx.heap[O]? = some (.cells #[.pointer (some ⟨C1, 0, none⟩), .pointer (some ⟨C2, 0, none⟩)] 66 (0, 0))
  fr : Fr (fun _ => False) w5 wx
  hO : w5.heap.size ≤ O
  c1 : Cd wx lo1 hi1 C1 ll
  c2 : Cd wx lo2 hi2 C2 dl
  k1 : codeOk ll
  k2 : codeOk dl
  l1 : w5.heap.size ≤ lo1
  l2 : w5.heap.size ≤ lo2

theorem Fl0 {S : Nat → Prop} {w w' : World} (h : Fr (fun _ => False) w w') : Fr S w w' := h.mono fun _ _ h => h.elim

theorem set_own {w5 W : World} {O C1 C2 lo1 hi1 lo2 hi2 : Nat} {ll dl : List Int} (hN : W.heap[O]? = some (.cells #[.pointer none, .pointer none] 66 (0, 0))) (hF : Fr (fun _ => False) w5 W) (hO : w5.heap.size ≤ O)
    (c1 : Cd W lo1 hi1 C1 ll) (c2 : Cd W lo2 hi2 C2 dl) (a1 : O < lo1 ∨ hi1 ≤ O) (a2 : O < lo2 ∨ hi2 ≤ O) (l1 : w5.heap.size ≤ lo1) (l2 : w5.heap.size ≤ lo2) (k1 : codeOk ll) (k2 : codeOk dl) :
    Own7 w5 (W.setRow O #[.pointer (some ⟨C1, 0, none⟩), .pointer (some ⟨C2, 0, none⟩)]) O C1 C2 lo1 hi1 lo2 hi2 ll dl := by
  have fr : Fr (fun k => k = O) W (W.setRow O #[.pointer (some ⟨C1, 0, none⟩), .pointer (some ⟨C2, 0, none⟩)]) := ⟨rfl, rfl, rfl, by simp, fun j _ hj => setRow_other _ _ _ _ hj⟩
  refine ⟨setRow_heap _ _ _ _ _ _ hN, (hF.trans fr).mono fun k hk h => ?_, hO, c1.keep fr (fun k h1 h2 e => by omega), c2.keep fr (fun k h1 h2 e => by omega), k1, k2, l1, l2⟩
  rcases h with h | h
  · exact h
  · omega

set_option maxHeartbeats 3200000 in
set_option maxRecDepth 100000 in
theorem own_c (w : World) (lo R M B : Nat) (bs : List Nat) (p : Nat) (h : Mi w lo R M B bs p) (hg : Gl w) (hlo : 0 < lo) (Q : Ending → World → Prop)
    (hok : ∀ ll dl q w' C1 C2 lo1 hi1 lo2 hi2, own (leNum bs) (8 * bs.length) p = .ok ((ll, dl), q) → w.heap.size ≤ lo1 → w.heap.size ≤ lo2 → Cd w' lo1 hi1 C1 ll → Cd w' lo2 hi2 C2 dl → Rm w' lo R B bs q → Fr (fun k => k = B) w w' → Q (.returned (.agg #[.pointer (some ⟨C1, 0, none⟩), .pointer (some ⟨C2, 0, none⟩)])) w')
    (hno : ∀ (er : Nat) w', own (leNum bs) (8 * bs.length) p = .error er → Fr (fun k => k = B) w w' → Q (errPanic er) w') :
    Calls Tryd.prog 53 #[.pointer (some ⟨M, 0, none⟩)] w Q := by
  have hBw : B < w.heap.size := by have := h.rd.ehi; have := h.rd.esz; omega
  have hMw : M < w.heap.size := cell_lt h.ptr
  have hB0 : 0 < B := by have := h.rd.elo; omega
  have E : Hid (own (leNum bs) (8 * bs.length) p = andThen (tkn 5) (fun a => andThen (tkn 5) fun b => andThen (tkn 4) fun c => ownB a b c) (leNum bs) (8 * bs.length) p) := rfl
  have fr0 := Fr.of_alloc w (.cells #[.pointer none, .pointer none] 66)
  have H0 : Hid (Mi (w.alloc (.cells #[.pointer none, .pointer none] 66)) lo R M B bs p) := ⟨h.rd.keep fr0 (fun _ _ _ h => h), h.hM, by rw [cell_blk (fr0.block M hMw (fun h => h))]; exact h.ptr⟩
  have HG0 : Hid (Gl (w.alloc (.cells #[.pointer none, .pointer none] 66))) := hg.keep fr0 (fun h => h)
  obtain ⟨A, hA⟩ : ∃ A, A = w.heap.size := ⟨_, rfl⟩
  have HA0 : Hid ((w.alloc (.cells #[.pointer none, .pointer none] 66)).heap[A]? = some (.cells #[.pointer none, .pointer none] 66 (0, 0))) := heap_alloc_at hA
  have HF0 : Hid (Fr (fun k => k = B) w (w.alloc (.cells #[.pointer none, .pointer none] 66))) := fr0.mono (fun _ _ h => h.elim)
  have HAs := hide hA
  have HGw := hide hg
  have Hok := hide hok
  have Hno := hide hno
  have q0 := H0.out.ptr
  clear h hg hok hno fr0
  go_enter Tryd.func53, Tryd.ntmps53
  go_wp2_with fail
  rw [← hA]
  clear hA
  generalize w.alloc (.cells #[.pointer none, .pointer none] 66) = w0 at *
  refine calls_args (low_reads _ lo R B bs p 5 H0.out.rd (by omega) _ ⟨?ok1, ?no1⟩) rfl
  case no1 => (intro er w1 hx hF; exact ⟨rfl, Hno.out er w1 (E.out.trans (then_err hx)) (HF0.out.join hF)⟩)
  intro a p1 w1 hx hR hF
  have hab : a < 32 := tkn_lt hx
  have E1 := hide (E.out.trans (then_ok hx))
  have H1 := hide (H0.out.next hR hF)
  have HF1 := hide hF
  have q1 := H1.out.ptr
  clear hx hR hF q0
  go_wp2_with fail
  refine calls_args (low_reads _ lo R B bs p1 5 H1.out.rd (by omega) _ ⟨?ok2, ?no2⟩) rfl
  case no2 => (intro er w2 hx hF; exact ⟨rfl, Hno.out er w2 (E1.out.trans (then_err hx)) (HF0.out.join (HF1.out.join hF))⟩)
  intro b p2 w2 hx hR hF
  have hbb : b < 32 := tkn_lt hx
  have E2 := hide (E1.out.trans (then_ok hx))
  have H2 := hide (H1.out.next hR hF)
  have HF2 := hide (HF1.out.join hF)
  have q2 := H2.out.ptr
  clear hx hR hF q1
  go_wp2_with fail
  refine calls_args (low_reads _ lo R B bs p2 4 H2.out.rd (by omega) _ ⟨?ok3, ?no3⟩) rfl
  case no3 => (intro er w3 hx hF; exact ⟨rfl, Hno.out er w3 (E2.out.trans (then_err hx)) (HF0.out.join (HF2.out.join hF))⟩)
  intro c p3 w3 hx hR hF
  have hcb : c < 16 := tkn_lt hx
  have E3 := hide (E2.out.trans (then_ok hx))
  have H3 := hide (H2.out.next hR hF)
  have HF3 := hide (HF2.out.join hF)
  clear hx hR hF q2
  obtain ⟨n1, hn1⟩ : ∃ n1, n1 = 257 + a := ⟨_, rfl⟩
  obtain ⟨n2, hn2⟩ : ∃ n2, n2 = 1 + b := ⟨_, rfl⟩
  obtain ⟨N, hN⟩ : ∃ N, N = 4 + c := ⟨_, rfl⟩
  have e1 : (257 : Int) + (a : Int) = (n1 : Int) := by omega
  have e2 : (1 : Int) + (b : Int) = (n2 : Int) := by omega
  have e3 : (4 : Int) + (c : Int) = (N : Int) := by omega
  have E4 := E3.out
  unfold ownB at E4
  rw [← hn1, ← hn2, ← hN] at E4
  by_cases hbad : 286 < n1 ∨ 30 < n2
  · rw [if_pos hbad] at E4
    have HE4 := hide E4
    clear E4 hn1 hn2 hN
    have hb1 : (decide ((286 : Int) < n1) || decide ((30 : Int) < n2)) = true := by
      rcases hbad with h | h
      · simp; omega
      · simp; omega
    rcases (show 286 < n1 ∨ (n1 ≤ 286 ∧ 30 < n2) by omega) with hc | ⟨hc1, hc2⟩
    · have k1 : (286 : Int) < n1 := by omega
      go_wp2
      exact ⟨rfl, Hno.out 4 _ HE4.out (HF0.out.join HF3.out)⟩
    · have k1 : ¬ (286 : Int) < n1 := by omega
      have k2 : (30 : Int) < n2 := by omega
      go_wp2
      exact ⟨rfl, Hno.out 4 _ HE4.out (HF0.out.join HF3.out)⟩
  · rw [if_neg hbad] at E4
    have HE4 := hide E4
    have k1 : ¬ (286 : Int) < n1 := by omega
    have k2 : ¬ (30 : Int) < n2 := by omega
    have hn1b : 257 ≤ n1 ∧ n1 ≤ 286 := by omega
    have hn2b : 1 ≤ n2 ∧ n2 ≤ 30 := by omega
    have hNb : N ≤ 19 := by omega
    clear E4 hn1 hn2 hN hbad
    go_wp2_with fail
    refine calls_args (codeOf_c w3 lo R M B bs p3 H3.out (HGw.out.keep (HF0.out.join HF3.out) (by omega)) hlo N hNb _ ?cok ?cbad ?cno) rfl
    case cno => (intro er w4 hx hF; exact ⟨rfl, Hno.out er w4 (HE4.out.trans (then_err hx)) (HF0.out.join (HF3.out.join hF))⟩)
    case cbad => (intro cl q w4 hx hn hF; exact ⟨rfl, Hno.out 4 w4 (HE4.out.trans ((then_ok hx).trans (by rw [if_neg hn]; rfl))) (HF0.out.join (HF3.out.join hF))⟩)
    intro cl p4 w4 C clo hx h19 hcok hclo hC hR hF
    have E5 := HE4.out.trans (then_ok hx)
    rw [if_pos hcok] at E5
    have HE5 := hide E5
    have H4 := hide (H3.out.next hR hF)
    have HF4 := hide (HF3.out.join hF)
    have HC4 := hide hC
    have HRc : Hid (R ≤ clo) := by
      have := H3.out.hM; have := cell_lt H3.out.ptr
      show R ≤ clo
      simp only at this
      omega
    clear E5 hx hR hF hC hcok hclo
    go_wp2_with fail
    refine calls_args (codeLengths_c w4 lo R M B bs p4 H4.out C clo _ cl HC4.out HRc.out h19 (n1 + n2) (by omega) _ ?lok ?lno) (by simp)
    case lno => (intro er w5 hx hF; exact ⟨rfl, Hno.out er w5 (HE5.out.trans (then_err hx)) (HF0.out.join (HF4.out.join hF))⟩)
    intro l p5 w5 la lc hx hll hfine hown hR hF
    have E6 := hide (HE5.out.trans (then_ok hx))
    have H5 := hide (H4.out.next hR hF)
    have HF5 := hide (HF4.out.join hF)
    have HL5 := hide (own_lies hown)
    have Hfine := hide hfine
    have Hll := hide hll
    obtain ⟨g, rfl, hcap⟩ : ∃ g, la = some ⟨g, 0, none⟩ ∧ n1 + n2 ≤ lc := by
      rcases hown.2 with ⟨h1, h2⟩ | ⟨g, cap, cur, h1, h2, h3, h4, h5⟩
      · omega
      · cases h1; exact ⟨g, rfl, h4⟩
    obtain ⟨nn, hnn⟩ : ∃ nn, nn = n1 + n2 := ⟨_, rfl⟩
    rw [← hnn]
    have k3 : (n1 : Int) ≤ (nn : Int) := by omega
    have k4 : (n1 : Int) ≤ (lc : Int) := by omega
    have k5 : nn ≤ lc := by omega
    have k6 : ¬ lc = n1 := by omega
    have k7 : nn - n1 = n2 := by omega
    have k8 : (nn : Int) ≤ (lc : Int) := by omega
    have Hnn := hide hnn
    clear hx hR hF hown hll hfine hcap hnn
    have HFw5 := hide (HF0.out.join HF5.out)
    go_upto_region 7 with fail
    go_cut [7] from 41 to 55 (fun ov wx => ∃ O C1 C2 lo1 hi1 lo2 hi2, ov = .pointer (some ⟨O, 0, none⟩) ∧ Own7 w5 wx O C1 C2 lo1 hi1 lo2 hi2 (l.take n1) (l.drop n1))
    case first =>
      go_wp2_with fail
      refine wp_region_held_drew (S := fun _ => True) (by kernel_rfl) trivial (fun hHeld => ?_)
      refine wpAnyH_take (i := 0) (v := ?v0) rfl (by kernel_rfl) (by kernel_rfl) (by kernel_rfl) (fun _ _ _ h => h) (Or.inl ⟨by rfl, ?hy0⟩) hHeld ?rest0
      case hy0 => (intro W hSw; (try dsimp only at hSw); go_simp; all_goals (with_reducible rfl))
      change wpAnyH _ _ _ _ _ _ _ (Act.put _ (some 41) _) _
      simp only [Act.put, List.setIfInBounds_toArray, List.set_cons_zero, List.set_cons_succ]
      refine wpAnyH_take (i := 1) (v := ?v1) rfl (by kernel_rfl) (by kernel_rfl) (by kernel_rfl) (fun _ _ _ h => h) (Or.inl ⟨by rfl, ?hy1⟩) hHeld ?rest1
      case hy1 => (intro W hSw; (try dsimp only at hSw); go_simp; all_goals (with_reducible rfl))
      change wpAnyH _ _ _ _ _ _ _ (Act.put _ (some 42) _) _
      simp only [Act.put, List.setIfInBounds_toArray, List.set_cons_zero, List.set_cons_succ]
      refine wpAnyH_take (i := 4) (v := ?v4) rfl (by kernel_rfl) (by kernel_rfl) (by kernel_rfl) (fun _ _ _ h => h) (Or.inl ⟨by rfl, ?hy4⟩) hHeld ?rest4
      case hy4 => (intro W hSw; (try dsimp only at hSw); go_simp; all_goals (with_reducible rfl))
      change wpAnyH _ _ _ _ _ _ _ (Act.put _ (some 45) _) _
      simp only [Act.put, List.setIfInBounds_toArray, List.set_cons_zero, List.set_cons_succ]
      refine wpAnyH_take (i := 5) (v := ?v5) rfl (by kernel_rfl) (by kernel_rfl) (by kernel_rfl) (fun _ _ _ h => h) (Or.inl ⟨by rfl, ?hy5⟩) hHeld ?rest5
      case hy5 => (intro W hSw; (try dsimp only at hSw); go_simp; all_goals (with_reducible rfl))
      change wpAnyH _ _ _ _ _ _ _ (Act.put _ (some 46) _) _
      simp only [Act.put, List.setIfInBounds_toArray, List.set_cons_zero, List.set_cons_succ]
      refine wpAnyH_take (i := 2) (v := ?v2) rfl (by kernel_rfl) (by kernel_rfl) (by kernel_rfl) (fun _ _ _ h => h) (Or.inl ⟨by rfl, ?hy2⟩) hHeld ?rest2
      case hy2 => (intro W hSw; (try dsimp only at hSw); go_simp; all_goals (with_reducible rfl))
      change wpAnyH _ _ _ _ _ _ _ (Act.put _ (some 43) _) _
      simp only [Act.put, List.setIfInBounds_toArray, List.set_cons_zero, List.set_cons_succ]
      refine wpAnyH_take (i := 6) (v := ?v6) rfl (by kernel_rfl) (by kernel_rfl) (by kernel_rfl) (fun _ _ _ h => h) (Or.inl ⟨by rfl, ?hy6⟩) hHeld ?rest6
      case hy6 => (intro W hSw; (try dsimp only at hSw); go_simp; all_goals (with_reducible rfl))
      change wpAnyH _ _ _ _ _ _ _ (Act.put _ (some 47) _) _
      simp only [Act.put, List.setIfInBounds_toArray, List.set_cons_zero, List.set_cons_succ]
      have HD : Hid (Fr (fun _ => False) w5 w5.drew) := Fr.of_drewN w5 1
      generalize w5.drew = v5 at *
      refine wpAnyH_ready (rs := [3, 9]) (by kernel_rfl) (by simp) ?_
      refine AllReadyH.cons rfl (fun K hK => ?_) (AllReadyH.cons rfl (fun K hK => ?_) AllReadyH.nil)
      · try simp only [List.getElem_toArray, List.getElem_cons_succ, List.getElem_cons_zero]
        go_simp
        refine calls_args (mustBe_c (some ⟨g, 0, none⟩) lc (l.take n1) _ (lies_take n1 (HL5.out.fr HD.out)) (good_take Hfine.out (by omega)) _ ?yesa ?nopea) (by rw [len_take (by have := Hll.out; omega)])
        case nopea => (intro hn w6 hF; exact ⟨rfl, Hno.out 4 w6 (E6.out.trans (by rw [if_neg (fun h => hn h.1)]; rfl)) (HF0.out.join (HF5.out.join ((Fl0 HD.out).join (Fl0 hF))))⟩)
        intro hok1 C1 w6 hC1 hF6
        have HC1 := hide hC1
        have HG6 := hide hF6
        have HF6 := hide (HD.out.join hF6)
        clear hC1 hF6
        refine hK.out _ _ trivial (fun hHeld => ?_)
        clear hK K
        refine wpAnyH_ready (rs := [7, 9]) (by kernel_rfl) (by simp) ?_
        refine AllReadyH.cons rfl (fun K hK => ?_) (AllReadyH.cons rfl (fun K hK => ?_) AllReadyH.nil)
        · try simp only [List.getElem_toArray, List.getElem_cons_succ, List.getElem_cons_zero]
          go_simp
          refine calls_args (mustBe_c (some ⟨g, n1, none⟩) (lc - n1) (l.drop n1) _ (lies_drop n1 (HL5.out.fr HF6.out)) (good_drop Hfine.out (by have := Hll.out; omega)) _ ?yesb ?nopeb) (by rw [len_drop (by have := Hll.out; omega)])
          case nopeb => (intro hn w7 hF; exact ⟨rfl, Hno.out 4 w7 (E6.out.trans (by rw [if_neg (fun h => hn h.2.1)]; rfl)) (HF0.out.join (HF5.out.join ((Fl0 HF6.out).join (Fl0 hF))))⟩)
          intro hok2 C2 w7 hC2 hF7
          have HC2 := hide hC2
          have HG7 := hide hF7
          have HF7 := hide (HF6.out.join hF7)
          clear hC2 hF7
          refine hK.out _ _ trivial (fun hHeld => ?_)
          clear hK K
          refine wpAnyH_take (i := 8) (v := ?v8A) rfl (by kernel_rfl) (by kernel_rfl) (by kernel_rfl) (fun _ _ _ h => h) (Or.inl ⟨by rfl, ?hy8A⟩) hHeld ?rest8A
          case hy8A => (intro W hSw; (try dsimp only at hSw); go_simp; all_goals (with_reducible rfl))
          change wpAnyH _ _ _ _ _ _ _ (Act.put _ (some 49) _) _
          simp only [Act.put, List.setIfInBounds_toArray, List.set_cons_zero, List.set_cons_succ]
          refine wpAnyH_ready (rs := [9]) (by kernel_rfl) (by simp) ?_
          refine AllReadyH.cons rfl (fun K hK => ?_) AllReadyH.nil
          try simp only [List.getElem_toArray, List.getElem_cons_succ, List.getElem_cons_zero]
          go_simp
          refine hK.out _ _ trivial (fun hHeld => ?_)
          clear hK K
          obtain ⟨O, hO⟩ : ∃ O, O = w7.heap.size := ⟨_, rfl⟩
          have HN1 : Hid ((w7.alloc (.cells #[.pointer none, .pointer none] 66)).heap[O]? = some (.cells #[.pointer none, .pointer none] 66 (0, 0))) := heap_alloc_at hO
          have HG8 : Hid (Fr (fun _ => False) w7 (w7.alloc (.cells #[.pointer none, .pointer none] 66))) := Fr.of_alloc _ _
          have HF8 : Hid (Fr (fun _ => False) w5 (w7.alloc (.cells #[.pointer none, .pointer none] 66))) := HF7.out.join (Fr.of_alloc _ _)
          have HOw : Hid (w5.heap.size ≤ O) := by have := HF7.out.size; show w5.heap.size ≤ O; rw [hO]; exact this
          have HOe : Hid (O = w7.heap.size) := hO
          try rw [← hO]
          clear hO
          generalize w7.alloc (.cells #[.pointer none, .pointer none] 66) = w8 at *
          refine wpAnyH_ready (rs := [10]) (by kernel_rfl) (by simp) ?_
          refine AllReadyH.cons rfl (fun K hK => ?_) AllReadyH.nil
          try simp only [List.getElem_toArray, List.getElem_cons_succ, List.getElem_cons_zero]
          rw [if_pos (by rfl)]
          refine wp_store_row 66 (.tmp 7) (.tmp 49) rfl O 66 _ _ rfl rfl HN1.out (by kernel_rfl) rfl (by simp [Value.oneCell']) ?_
          refine hK.out _ _ trivial (fun hHeld => ?_)
          clear hK K
          refine wpAnyH_done (by kernel_rfl) ?_ _
          go_wp2
          go_meet
          have s1 := HFw5.out.size
          have s2 := HD.out.size
          have s3 := HF6.out.size
          have s4 := HF7.out.size
          have s5 := HF8.out.size
          have s6 := HG6.out.size
          have s7 := HG7.out.size
          have s8 := HOe.out
          have s9 := lt_of HN1.out
          exact ⟨O, C1, C2, _, _, _, _, rfl, set_own HN1.out HF8.out HOw.out (HC1.out.keep (HG7.out.join HG8.out) (fun _ _ _ h => h)) (HC2.out.keep HG8.out (fun _ _ _ h => h)) (Or.inr (by omega)) (Or.inr (by omega)) (by omega) (by omega) hok1 hok2⟩
        · try simp only [List.getElem_toArray, List.getElem_cons_succ, List.getElem_cons_zero]
          go_simp
          refine hK.out _ _ trivial (fun hHeld => ?_)
          clear hK K
          obtain ⟨O, hO⟩ : ∃ O, O = w6.heap.size := ⟨_, rfl⟩
          have HN1 : Hid ((w6.alloc (.cells #[.pointer none, .pointer none] 66)).heap[O]? = some (.cells #[.pointer none, .pointer none] 66 (0, 0))) := heap_alloc_at hO
          have HG8 : Hid (Fr (fun _ => False) w6 (w6.alloc (.cells #[.pointer none, .pointer none] 66))) := Fr.of_alloc _ _
          have HF8 : Hid (Fr (fun _ => False) w5 (w6.alloc (.cells #[.pointer none, .pointer none] 66))) := HF6.out.join (Fr.of_alloc _ _)
          have HOw : Hid (w5.heap.size ≤ O) := by have := HF6.out.size; show w5.heap.size ≤ O; rw [hO]; exact this
          have HOe : Hid (O = w6.heap.size) := hO
          try rw [← hO]
          clear hO
          generalize w6.alloc (.cells #[.pointer none, .pointer none] 66) = w8 at *
          refine wpAnyH_ready (rs := [7]) (by kernel_rfl) (by simp) ?_
          refine AllReadyH.cons rfl (fun K hK => ?_) AllReadyH.nil
          try simp only [List.getElem_toArray, List.getElem_cons_succ, List.getElem_cons_zero]
          go_simp
          refine calls_args (mustBe_c (some ⟨g, n1, none⟩) (lc - n1) (l.drop n1) _ (lies_drop n1 (HL5.out.fr HF8.out)) (good_drop Hfine.out (by have := Hll.out; omega)) _ ?yesc ?nopec) (by rw [len_drop (by have := Hll.out; omega)])
          case nopec => (intro hn w7 hF; exact ⟨rfl, Hno.out 4 w7 (E6.out.trans (by rw [if_neg (fun h => hn h.2.1)]; rfl)) (HF0.out.join (HF5.out.join ((Fl0 HF8.out).join (Fl0 hF))))⟩)
          intro hok2 C2 w7 hC2 hF7
          have HC2 := hide hC2
          have HG7 := hide hF7
          have HF7 := hide (HF8.out.join hF7)
          clear hC2 hF7
          refine hK.out _ _ trivial (fun hHeld => ?_)
          clear hK K
          refine wpAnyH_take (i := 8) (v := ?v8B) rfl (by kernel_rfl) (by kernel_rfl) (by kernel_rfl) (fun _ _ _ h => h) (Or.inl ⟨by rfl, ?hy8B⟩) hHeld ?rest8B
          case hy8B => (intro W hSw; (try dsimp only at hSw); go_simp; all_goals (with_reducible rfl))
          change wpAnyH _ _ _ _ _ _ _ (Act.put _ (some 49) _) _
          simp only [Act.put, List.setIfInBounds_toArray, List.set_cons_zero, List.set_cons_succ]
          refine wpAnyH_ready (rs := [10]) (by kernel_rfl) (by simp) ?_
          refine AllReadyH.cons rfl (fun K hK => ?_) AllReadyH.nil
          try simp only [List.getElem_toArray, List.getElem_cons_succ, List.getElem_cons_zero]
          rw [if_pos (by rfl)]
          refine wp_store_row 66 (.tmp 7) (.tmp 49) rfl O 66 _ _ rfl rfl ((HG7.out.block O (lt_of HN1.out) (fun h => h)).trans HN1.out) (by kernel_rfl) rfl (by simp [Value.oneCell']) ?_
          refine hK.out _ _ trivial (fun hHeld => ?_)
          clear hK K
          refine wpAnyH_done (by kernel_rfl) ?_ _
          go_wp2
          go_meet
          have s1 := HFw5.out.size
          have s2 := HD.out.size
          have s3 := HF6.out.size
          have s4 := HF7.out.size
          have s5 := HF8.out.size
          have s6 := HG6.out.size
          have s7 := HG7.out.size
          have s8 := HOe.out
          have s9 := lt_of HN1.out
          exact ⟨O, C1, C2, _, _, _, _, rfl, set_own ((HG7.out.block O (lt_of HN1.out) (fun h => h)).trans HN1.out) HF7.out HOw.out (HC1.out.keep (HG8.out.join HG7.out) (fun _ _ _ h => h)) HC2.out (Or.inr (by omega)) (Or.inl (by omega)) (by omega) (by omega) hok1 hok2⟩
      · try simp only [List.getElem_toArray, List.getElem_cons_succ, List.getElem_cons_zero]
        go_simp
        refine hK.out _ _ trivial (fun hHeld => ?_)
        clear hK K
        obtain ⟨O, hO⟩ : ∃ O, O = v5.heap.size := ⟨_, rfl⟩
        have HN1 : Hid ((v5.alloc (.cells #[.pointer none, .pointer none] 66)).heap[O]? = some (.cells #[.pointer none, .pointer none] 66 (0, 0))) := heap_alloc_at hO
        have HG8 : Hid (Fr (fun _ => False) v5 (v5.alloc (.cells #[.pointer none, .pointer none] 66))) := Fr.of_alloc _ _
        have HF8 : Hid (Fr (fun _ => False) w5 (v5.alloc (.cells #[.pointer none, .pointer none] 66))) := HD.out.join (Fr.of_alloc _ _)
        have HOw : Hid (w5.heap.size ≤ O) := by have := HD.out.size; show w5.heap.size ≤ O; rw [hO]; exact this
        have HOe : Hid (O = v5.heap.size) := hO
        try rw [← hO]
        clear hO
        generalize v5.alloc (.cells #[.pointer none, .pointer none] 66) = w8 at *
        refine wpAnyH_ready (rs := [3]) (by kernel_rfl) (by simp) ?_
        refine AllReadyH.cons rfl (fun K hK => ?_) AllReadyH.nil
        try simp only [List.getElem_toArray, List.getElem_cons_succ, List.getElem_cons_zero]
        go_simp
        refine calls_args (mustBe_c (some ⟨g, 0, none⟩) lc (l.take n1) _ (lies_take n1 (HL5.out.fr HF8.out)) (good_take Hfine.out (by omega)) _ ?yesd ?noped) (by rw [len_take (by have := Hll.out; omega)])
        case noped => (intro hn w6 hF; exact ⟨rfl, Hno.out 4 w6 (E6.out.trans (by rw [if_neg (fun h => hn h.1)]; rfl)) (HF0.out.join (HF5.out.join ((Fl0 HF8.out).join (Fl0 hF))))⟩)
        intro hok1 C1 w6 hC1 hF6
        have HC1 := hide hC1
        have HG6 := hide hF6
        have HF6 := hide (HF8.out.join hF6)
        clear hC1 hF6
        refine hK.out _ _ trivial (fun hHeld => ?_)
        clear hK K
        refine wpAnyH_ready (rs := [7]) (by kernel_rfl) (by simp) ?_
        refine AllReadyH.cons rfl (fun K hK => ?_) AllReadyH.nil
        try simp only [List.getElem_toArray, List.getElem_cons_succ, List.getElem_cons_zero]
        go_simp
        refine calls_args (mustBe_c (some ⟨g, n1, none⟩) (lc - n1) (l.drop n1) _ (lies_drop n1 (HL5.out.fr HF6.out)) (good_drop Hfine.out (by have := Hll.out; omega)) _ ?yese ?nopee) (by rw [len_drop (by have := Hll.out; omega)])
        case nopee => (intro hn w7 hF; exact ⟨rfl, Hno.out 4 w7 (E6.out.trans (by rw [if_neg (fun h => hn h.2.1)]; rfl)) (HF0.out.join (HF5.out.join ((Fl0 HF6.out).join (Fl0 hF))))⟩)
        intro hok2 C2 w7 hC2 hF7
        have HC2 := hide hC2
        have HG7 := hide hF7
        have HF7 := hide (HF6.out.join hF7)
        clear hC2 hF7
        refine hK.out _ _ trivial (fun hHeld => ?_)
        clear hK K
        refine wpAnyH_take (i := 8) (v := ?v8C) rfl (by kernel_rfl) (by kernel_rfl) (by kernel_rfl) (fun _ _ _ h => h) (Or.inl ⟨by rfl, ?hy8C⟩) hHeld ?rest8C
        case hy8C => (intro W hSw; (try dsimp only at hSw); go_simp; all_goals (with_reducible rfl))
        change wpAnyH _ _ _ _ _ _ _ (Act.put _ (some 49) _) _
        simp only [Act.put, List.setIfInBounds_toArray, List.set_cons_zero, List.set_cons_succ]
        refine wpAnyH_ready (rs := [10]) (by kernel_rfl) (by simp) ?_
        refine AllReadyH.cons rfl (fun K hK => ?_) AllReadyH.nil
        try simp only [List.getElem_toArray, List.getElem_cons_succ, List.getElem_cons_zero]
        rw [if_pos (by rfl)]
        refine wp_store_row 66 (.tmp 7) (.tmp 49) rfl O 66 _ _ rfl rfl (((HG6.out.join HG7.out).block O (lt_of HN1.out) (fun h => h)).trans HN1.out) (by kernel_rfl) rfl (by simp [Value.oneCell']) ?_
        refine hK.out _ _ trivial (fun hHeld => ?_)
        clear hK K
        refine wpAnyH_done (by kernel_rfl) ?_ _
        go_wp2
        go_meet
        have s1 := HFw5.out.size
        have s2 := HD.out.size
        have s3 := HF6.out.size
        have s4 := HF7.out.size
        have s5 := HF8.out.size
        have s6 := HG6.out.size
        have s7 := HG7.out.size
        have s8 := HOe.out
        have s9 := lt_of HN1.out
        exact ⟨O, C1, C2, _, _, _, _, rfl, set_own (((HG6.out.join HG7.out).block O (lt_of HN1.out) (fun h => h)).trans HN1.out) HF7.out HOw.out (HC1.out.keep HG7.out (fun _ _ _ h => h)) HC2.out (Or.inl (by omega)) (Or.inl (by omega)) (by omega) (by omega) hok1 hok2⟩
    case rest =>
    obtain ⟨O, C1, C2, lo1, hi1, lo2, hi2, rfl, hOwn⟩ := hcut
    have HOwn := hide hOwn
    have HF8 := hide (HF5.out.join (Fl0 hOwn.fr))
    have hA8 : wc.heap[A]? = some (.cells #[.pointer none, .pointer none] 66 (0, 0)) := by
      have := HAs.out
      rw [HF8.out.block A (lt_of HA0.out) (by omega)]
      exact HA0.out
    have cO0 : wc.cell? ⟨O, 0, none⟩ = some (.pointer (some ⟨C1, 0, none⟩)) := cell_of hOwn.obj rfl
    have cO1 : wc.cell? ⟨O, 1, none⟩ = some (.pointer (some ⟨C2, 0, none⟩)) := cell_of hOwn.obj rfl
    have cA0 : wc.cell? ⟨A, 0, none⟩ = some (.pointer none) := cell_of hA8 rfl
    have cA1 : wc.cell? ⟨A, 1, none⟩ = some (.pointer none) := cell_of hA8 rfl
    have zA0 := frozen_of (o := 0) hA8
    have zA1 := frozen_of (o := 1) hA8
    have hl256 : wc.cell? ⟨g, 256, none⟩ = some (.int .i64 (at0 l 256)) := by
      obtain ⟨ad, e, hc⟩ := (HL5.out.fr hOwn.fr) 256 (by have := Hll.out; omega)
      cases e
      rw [add_none, Nat.zero_add] at hc
      exact hc
    have hnn256 : (256 : Int) < (nn : Int) := by omega
    have HA8 := hide hA8
    clear hA8 hOwn
    by_cases hz : at0 l 256 = 0
    · rw [hz] at hl256
      have HE7 := hide (E6.out.trans (by rw [if_neg (fun h => h.2.2 hz)]; rfl : _ = Except.error 4))
      clear hz
      go_wp2
      exact ⟨rfl, Hno.out 4 _ HE7.out (HF0.out.join HF8.out)⟩
    · obtain ⟨z, hzz⟩ : ∃ z, z = at0 l 256 := ⟨_, rfl⟩
      have HE7 := hide (E6.out.trans (by rw [if_pos ⟨HOwn.out.k1, HOwn.out.k2, hz⟩]; rfl : _ = Except.ok ((l.take n1, l.drop n1), p5)))
      rw [← hzz] at hl256 hz
      have hzi : (z == 0) = false := beq_false_of_ne hz
      clear hzz
      go_wp2
      have hA1 := heap_set (o := 0) (.pointer (some ⟨C1, 0, none⟩)) HA8.out
      have hA2 := heap_set (o := 1) (.pointer (some ⟨C2, 0, none⟩)) hA1
      have d0 := cell_of (o := 0) (v := .pointer (some ⟨C1, 0, none⟩)) hA2 rfl
      have d1 := cell_of (o := 1) (v := .pointer (some ⟨C2, 0, none⟩)) hA2 rfl
      have fr : Fr (fun k => k = A) wc ((wc.setCell ⟨A, 0, none⟩ (.pointer (some ⟨C1, 0, none⟩))).setCell ⟨A, 1, none⟩ (.pointer (some ⟨C2, 0, none⟩))) := (fr_set wc A 0 _).join (fr_set _ A 1 _)
      have hAR := H5.out.rd.esz
      have hAs := HAs.out
      have hRA : R ≤ A := by have := H5.out.hM; omega
      have e1 := HOwn.out.l1
      have e2 := HOwn.out.l2
      have hAz := HF0.out.size
      refine bodyPost_ret (v := .agg #[.pointer (some ⟨C1, 0, none⟩), .pointer (some ⟨C2, 0, none⟩)]) (by simp [results, Tryd.results53, go_sem, d0, d1]) rfl ?_
      have hA5 : A < w5.heap.size := Nat.lt_of_lt_of_le (lt_of HA0.out) HF5.out.size
      have hRw : R ≤ w.heap.size := Nat.le_trans H5.out.hM (Nat.le_of_lt hMw)
      have hs5 := HFw5.out.size
      refine Hok.out _ _ p5 _ C1 C2 _ _ _ _ HE7.out (by omega) (by omega) (HOwn.out.c1.keep fr (fun k h1 h2 e => by omega)) (HOwn.out.c2.keep fr (fun k h1 h2 e => by omega)) ((H5.out.rd.keep HOwn.out.fr (fun _ _ _ h => h)).keep fr (fun k h1 h2 e => by omega)) ?_
      exact ((HF0.out.join HF8.out).trans fr).mono fun k hk h => h.elim id (fun e => by omega)
end Go.Proofs.YtleeaofofofgmaaDoor
