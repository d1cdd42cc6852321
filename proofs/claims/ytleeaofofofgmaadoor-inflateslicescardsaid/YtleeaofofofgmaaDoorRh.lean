/-
  The document's own Inflate.
-/
import Derived.Test.YtleeaofofofgmaaDoorRg
namespace Go.Proofs.YtleeaofofofgmaaDoor
open Go.RowKit

theorem head_of {V L p l q1 k q2 : Nat} (h1 : tkn 1 V L p = .ok (l, q1)) (h2 : tkn 2 V L q1 = .ok (k, q2)) : head V L p = andThen (kindOf k) (fun pl => ret (decide (l = 1), pl)) V L q2 := (then_ok h1).trans (then_ok h2)

theorem head_short {V L p : Nat} (h : ¬ p + 3 ≤ L) : head V L p = .error 2 := by
  show andThen (tkn 1) _ V L p = _
  by_cases h1 : p + 1 ≤ L
  · rw [then_ok (tkn_ok h1), then_err (tkn_err (by omega))]
  · rw [then_err (tkn_err h1)]

theorem ahead_fail {V L most p er : Nat} {out : List Nat} (h : head V L p = .error er) : Runs V L most ⟨p, false, out, .ahead⟩ (.error er) := .fail (by simp [adv, h])
theorem ahead_go {V L most p q : Nat} {b : Bool} {pl : Pl} {out : List Nat} {r : Except Nat (List Nat × Nat)} (h : head V L p = .ok ((b, pl), q)) (hr : Runs V L most ⟨q, b, out, pl⟩ r) : Runs V L most ⟨p, false, out, .ahead⟩ r := .go (by simp [adv, h]) hr

theorem cw_of2 {w4 w5 : World} {lo R : Nat} {sv : Value} {bs : List Nat} {m LM DM : Nat} {ll dl : List Int} {q : Nat} {out : List Nat} {a : Option Addr} {c l1 h1 l2 h2 : Nat} (hz : Rz w5 lo R sv bs q) (ho : Ro w4 lo R a c out) (hC1 : Rc w5 l1 h1 LM ll) (hC2 : Rc w5 l2 h2 DM dl) (e1 : w4.heap.size ≤ l1) (e2 : w4.heap.size ≤ l2) (hR : R < w4.heap.size) (hF : Fr (fun k => k = R) w4 w5) (hle : out.length ≤ m) :
    Cw w5 w5 lo R sv bs m LM DM ll dl q out a c out.length :=
  ⟨rfl, hz, ho.next hF, ⟨l1, h1, hC1, Or.inr (by omega), fun g hg => Or.inr (by have := (ho.own.lt g hg).2; omega)⟩, ⟨l2, h2, hC2, Or.inr (by omega), fun g hg => Or.inr (by have := (ho.own.lt g hg).2; omega)⟩, hle, Fr.refl _ _⟩

theorem cw_of {w4 w5 : World} {lo R : Nat} {sv : Value} {bs : List Nat} {m LM DM : Nat} {ll dl : List Int} {q : Nat} {out : List Nat} {a : Option Addr} {c l1 h1 l2 h2 : Nat} (hz : Rz w4 lo R sv bs q) (ho : Ro w4 lo R a c out) (hC1 : Rc w5 l1 h1 LM ll) (hC2 : Rc w5 l2 h2 DM dl) (e1 : w4.heap.size ≤ l1) (e2 : w4.heap.size ≤ l2) (hF : Fr (fun _ => False) w4 w5) (hle : out.length ≤ m) :
    Cw w5 w5 lo R sv bs m LM DM ll dl q out a c out.length :=
  cw_of2 (hz.keep hF (fun _ h => h.elim)) ho hC1 hC2 e1 e2 hz.lt (hF.mono fun _ _ h => h.elim) hle

/-- What the loop over blocks holds at a round. -/
structure Ri (w wr : World) (R : Nat) (sv : Value) (bs : List Nat) (most : Nat) (out : List Nat) (p : Nat) (a : Option Addr) (c N : Nat) : Prop where
  n : N = out.length
  z : Rz wr w.heap.size R sv bs p
  o : Ro wr w.heap.size R a c out
  le : out.length ≤ most
  fl : Fl w.heap.size w wr
  run : ∀ r, Runs (leNum bs) (8 * bs.length) most ⟨p, false, out, .ahead⟩ r → Runs (leNum bs) (8 * bs.length) most init r

theorem rNe_stored : Ne0 storedHead := .andThen .algn fun _ => .andThen (.tkn _) fun _ => .andThen (.tkn _) fun _ => .ite (.ret _) (.bad (by omega))

/-- What Inflate answers. -/
def Ra1 (w : World) (bs : List Nat) (most : Int) (e : Ending) (w' : World) : Prop :=
  ∃ r a c, AllOk bs most r ∧ e = .returned (.tuple #[.slice a (outOf r).length c, .int .i64 (usedOf r : Int), .int .i64 (errOf r : Int)]) ∧ Lies w' (.slice a (outOf r).length c) (outOf r) ∧ Fr (fun _ => False) w w'

theorem fl_none {w w' : World} (h : Fl w.heap.size w w') : Fr (fun _ => False) w w' := h.mono fun k hk h2 => by omega

theorem at7 (p : Nat) : Int.tdiv ((p : Int) + 7) 8 = (((p + 7) / 8 : Nat) : Int) := by
  rw [Int.tdiv_eq_ediv_of_nonneg (by omega)]
  omega

set_option maxHeartbeats 4000000 in
set_option maxRecDepth 100000 in
theorem rInflate_c (sv : Value) (bs : List Nat) (most : Int) (w : World) (h : Lies w sv bs) (hlt : ∀ b ∈ bs, b < 256) (hlen : bs.length ≤ 2147483648) (hm : most ≤ 2147480000) :
    Calls Tryd.prog 12 #[sv, .int .i64 most] w (Ra1 w bs most) := by
  obtain ⟨sa, sn, sc, hs⟩ : ∃ a n c, sv = .slice a n c := by
    rcases h with ⟨rfl, _⟩ | ⟨ad, c, rfl, _⟩
    · exact ⟨none, 0, 0, rfl⟩
    · exact ⟨some ad, _, c, rfl⟩
  by_cases hneg : most < 0
  · have X2 : Hid (Ra1 w bs most (.returned (.tuple #[.slice none 0 0, .int .i64 0, .int .i64 1])) w) := ⟨.error 1, none, 0, Or.inl ⟨hneg, rfl⟩, rfl, Or.inl ⟨rfl, rfl⟩, Fr.refl _ _⟩
    subst hs
    clear h hlt
    go_enter Tryd.func12, Tryd.ntmps12
    go_wp2
    go_ret3
    exact X2.out
  obtain ⟨m, rfl⟩ : ∃ m : Nat, most = (m : Int) := ⟨most.toNat, by omega⟩
  obtain ⟨R, hR⟩ : ∃ R, R = w.heap.size := ⟨_, rfl⟩
  obtain ⟨w1, hw1⟩ : ∃ w1, w1 = (w.alloc (.cells #[sv, .int .i64 0, .bool false, .bool false] 52)).alloc (.cells #[] 5) := ⟨_, rfl⟩
  have f1 : Fr (fun _ => False) w w1 := by rw [hw1]; exact (Fr.of_alloc _ _).join (Fr.of_alloc _ _)
  have hob : w1.heap[R]? = some (.cells #[sv, .int .i64 0, .bool false, .bool false] 52 (0, 0)) := by
    rw [hw1, (Fr.of_alloc (w.alloc (.cells #[sv, .int .i64 0, .bool false, .bool false] 52)) (.cells #[] 5)).block R (by rw [size_alloc]; omega) (fun h => h)]
    exact heap_alloc_at hR
  have hoo : w1.heap[R + 1]? = some (.cells #[] 5 (0, 0)) := by rw [hw1]; exact heap_alloc_at (by rw [size_alloc, hR])
  have hsb : bs ≠ [] → ∀ ad n c, sv = .slice (some ad) n c → ad.block < w.heap.size := by
    intro hne ad n c he
    rcases h with ⟨_, rfl⟩ | ⟨ad', c', e', hc⟩
    · exact absurd rfl hne
    · have hpos : 0 < bs.length := List.length_pos_iff.2 hne
      have hc0 := hc 0 (.int .u8 ((bs[0] : Nat) : Int)) (by simp [cellsOf, List.getElem?_eq_getElem hpos])
      rw [e'] at he
      cases he
      exact cell_lt hc0
  have Z1 : Rz w1 w.heap.size R sv bs 0 := ⟨⟨⟨false, hob⟩, lies_fr h f1, fun hne ad n c e => by have := hsb hne ad n c e; omega, Nat.zero_le _, hlt, hlen⟩, by omega, hsb, f1.size⟩
  have O1 : Ro w1 w.heap.size R (some ⟨R + 1, 0, none⟩) 0 [] := by
    refine ⟨⟨rfl, Or.inr ⟨R + 1, 0, #[], rfl, by omega, hoo, Nat.le_refl _, by unfold maxLen; omega, rfl, rfl⟩⟩, ?_⟩
    intro g hg
    have : R + 1 = g := by simpa [Value.ownBlock] using hg
    omega
  have I1 : Hid (Ri w w1 R sv bs m [] 0 (some ⟨R + 1, 0, none⟩) 0 0) := ⟨rfl, Z1, O1, Nat.zero_le _, Fl0 f1, fun _ h => h⟩
  have Hfail : ∀ (er : Nat) w', er ≠ 0 → Runs (leNum bs) (8 * bs.length) m init (.error er) → Fl w.heap.size w w' → Ra1 w bs m (.returned (.tuple #[.slice none 0 0, .int .i64 0, .int .i64 (er : Int)])) w' :=
    fun er w' _ hr hF => ⟨.error er, none, 0, Or.inr ⟨by omega, hr⟩, rfl, Or.inl ⟨rfl, rfl⟩, fl_none hF⟩
  have Hdone : ∀ w' out' p' a' c', Rz w' w.heap.size R sv bs p' → Ro w' w.heap.size R a' c' out' → out'.length ≤ m → Fl w.heap.size w w' → (∀ r, Runs (leNum bs) (8 * bs.length) m ⟨p', true, out', .ahead⟩ r → Runs (leNum bs) (8 * bs.length) m init r) →
      ∀ k, Ra1 w bs m (.returned (.tuple #[.slice a' out'.length c', .int .i64 (Int.tdiv ((p' : Int) + 7) 8), .int .i64 0])) (w'.drewN k) :=
    fun w' out' p' a' c' _ ho _ hF hr k => ⟨.ok (out', p'), a', c', Or.inr ⟨by omega, hr _ (.done (by simp [adv]))⟩, by rw [at7]; rfl, lies_own (ho.fr (Fr.of_drewN w' k)).own, fl_none (hF.join (Fl0 (Fr.of_drewN w' k)))⟩
  have HH := hide (And.intro Hfail Hdone)
  have hRw : R < w1.heap.size := lt_of hob
  clear Z1 O1 f1 hob hoo hsb h hlt
  subst hs
  go_enter Tryd.func12, Tryd.ntmps12
  clear Hfail Hdone
  go_wp2
  rw [← hR, ← hw1]
  have HR := hide hR
  clear hw1 hR
  go_loopw [8, 9, 10, 11, 12, 13, 14, 15, 16, 17, 18] (fun v _ _ _ _ _ _ _ _ _ _ wr => ∃ (out : List Nat) (p : Nat) (a : Option Addr) (c N : Nat), v = .slice a N c ∧ Hid (Ri w wr R (.slice sa sn sc) bs m out p a c N)) (fun _ _ _ _ _ _ _ _ _ _ _ wr => 8 * bs.length - cellI wr R 1)
  case atStart => exact ⟨[], 0, some ⟨R + 1, 0, none⟩, 0, 0, rfl, I1⟩
  case round =>
    obtain ⟨out, p, a, c, N, rfl, J⟩ := hrel
    obtain ⟨Hfail, Hdone⟩ := HH.out
    have hN : N = out.length := J.out.n
    subst hN
    have Hm0 : Hid (cellI wr R 1 = p) := by
      obtain ⟨sh, ho⟩ := J.out.z.rf.eobj
      show cellI wr R 1 = p
      unfold cellI
      rw [cell_of (o := 1) ho rfl]
      rfl
    have hp0 := J.out.z.rf.epos
    go_wp2_with fail
    refine (ref_left wr R _ bs p false J.out.z.rf).mono ?_
    rintro e w2 ⟨rfl, k, rfl⟩
    have Z2 := hide (J.out.z.keep (Fr.of_drewN wr k) (fun _ h => h.elim))
    have O2 := hide (J.out.o.fr (Fr.of_drewN wr k))
    have F2 := hide (J.out.fl.join (Fl0 (Fr.of_drewN wr k)))
    generalize wr.drewN k = w2 at *
    by_cases h3 : p + 3 ≤ 8 * bs.length
    case neg =>
      have q3 : 8 * (bs.length : Int) - (p : Int) < 3 := by omega
      have X2 := hide (Hfail 2 w2 (by omega) (J.out.run _ (ahead_fail (head_short h3))) F2.out)
      skip
      go_wp2
      go_ret3
      exact X2.out
    have q3 : ¬ 8 * (bs.length : Int) - (p : Int) < 3 := by omega
    go_wp2_with fail
    refine rtakes w2 w.heap.size R _ bs p 1 Z2.out (by omega) _ ⟨?ok1, ?no1⟩
    case no1 => (intro w3 hx; rw [tkn_ok (by omega)] at hx; cases hx)
    intro l p1 w3 hx1 hr hF
    have hl2 : l < 2 := tkn_lt hx1
    have hl01 : l = 1 ∨ l = 0 := by omega
    have hp1 := (tkn_inv hx1).2.2
    have Hx1 := hide hx1
    have Z3 := hide (Z2.out.next hr hF)
    have O3 := hide (O2.out.next hF)
    have F3 := hide (F2.out.join (Z2.out.low hF))
    clear hx1 hr hF
    go_wp2_with fail
    refine rtakes w3 w.heap.size R _ bs p1 2 Z3.out (by omega) _ ⟨?ok2, ?no2⟩
    case no2 => (intro w4 hx; rw [tkn_ok (by omega)] at hx; cases hx)
    intro kd p2 w4 hx2 hr hF
    have hk4 : kd < 4 := tkn_lt hx2
    have hp2 := (tkn_inv hx2).2.2
    have Hd := hide (head_of Hx1.out hx2)
    have Z4 := hide (Z3.out.next hr hF)
    have O4 := hide (O3.out.next hF)
    have F4 := hide (F3.out.join (Z3.out.low hF))
    clear hx2 hr hF
    rcases (by omega : kd = 0 ∨ kd = 1 ∨ kd = 2 ∨ kd = 3) with rfl | rfl | rfl | rfl
    · have HK : Hid (head (leNum bs) (8 * bs.length) p = andThen (andThen storedHead fun n => ret (.stored n)) (fun pl => ret (decide (l = 1), pl)) (leNum bs) (8 * bs.length) p2) := Hd.out
      go_wp2_with fail
      refine calls_args (rstored_c w4 w.heap.size R _ bs p2 Z4.out a c out O4.out m (by omega) J.out.le _ ?no0 ?ok0 ?err0) rfl
      case no0 =>
        intro er w5 hx hF
        have her : er ≠ 0 := rNe_stored.ne hx
        have hei : ((er : Int) == 0) = false := beq_false_of_ne (by omega)
        have hej : ¬ (er : Int) = 0 := by omega
        have X2 := hide (Hfail er w5 her (J.out.run _ (ahead_fail (HK.out.trans (then_err (then_err hx))))) (F4.out.join hF))
        clear hx hF
        go_wp2
        go_ret3
        exact X2.out
      case err0 =>
        intro n q er w5 hx her hall hF
        have hei : ((er : Int) == 0) = false := beq_false_of_ne (by omega)
        have hej : ¬ (er : Int) = 0 := by omega
        have X2 := hide (Hfail er w5 her (J.out.run _ (ahead_go (HK.out.trans (then_ok (then_ok hx))) (hall _))) (F4.out.join hF))
        clear hx hF hall
        go_wp2
        go_ret3
        exact X2.out
      case ok0 =>
        intro n q a' c' out' p' w5 hx hz ho hle hrun hF
        have K1 := hide hz
        have K2 := hide ho
        have K3 := hide hle
        have K4 := hide (F4.out.join hF)
        have K5 : Hid (∀ r, Runs (leNum bs) (8 * bs.length) m ⟨p', decide (l = 1), out', .ahead⟩ r → Runs (leNum bs) (8 * bs.length) m init r) := fun r hr => J.out.run r (ahead_go (HK.out.trans (then_ok (then_ok hx))) (hrun _ r hr))
        have hmono : p2 ≤ p' := Nat.le_trans (Gd.storedHead.mono hx) (Runs.pos_le (s := ⟨q, true, out, .stored n⟩) (hrun true _ (.done (by simp [adv]))))
        clear hx hz ho hle hrun hF
        have hp8 := K1.out.rf.epos
        have hpl := K1.out.rf.elen
        have hq1 : w5.cell? ⟨R, 1, none⟩ = some (.int .i64 (p' : Int)) := by
          obtain ⟨sh, ho⟩ := K1.out.rf.eobj
          exact cell_of ho rfl
        rcases hl01 with rfl | rfl
        · have X2 := hide (Hdone w5 out' p' a' c' K1.out K2.out K3.out K4.out (fun r h => K5.out r h))
          go_wp2
          go_quiet (fail)
          go_wp2
          go_ret3
          exact X2.out _
        · have hm2 : cellI w5 R 1 = p' := by unfold cellI; rw [hq1]; rfl
          go_wp2
          go_roundw
          case rel => exact ⟨out', p', a', c', out'.length, rfl, ⟨rfl, K1.out, K2.out, K3.out, K4.out, K5.out⟩⟩
          case measure => rw [hm2, Hm0.out]; omega
    · have HK : Hid (head (leNum bs) (8 * bs.length) p = .ok ((decide (l = 1), .coded fixL fixD), p2)) := Hd.out
      go_wp2_with fail
      refine (rfixed_c w4).mono ?_
      rintro e w5 ⟨LM, DM, l1, h1, l2, h2, rfl, hC1, hC2, e1, e2, hF⟩
      have HC : Hid (Cw w5 w5 w.heap.size R (.slice sa sn sc) bs m LM DM fixL fixD p2 out a c out.length) := cw_of Z4.out O4.out hC1 hC2 e1 e2 hF J.out.le
      have F5 := hide (F4.out.join (Fl0 hF))
      clear hC1 hC2 e1 e2 hF
      go_wp2_with fail
      refine rcoded_c w5 w.heap.size R _ bs m (by omega) LM DM fixL fixD p2 out a c out.length HC.out _ ?okF ?errF
      case errF =>
        intro er w6 her hall hF
        have hei : ((er : Int) == 0) = false := beq_false_of_ne (by omega)
        have hej : ¬ (er : Int) = 0 := by omega
        have X2 := hide (Hfail er w6 her (J.out.run _ (ahead_go HK.out (hall _))) (F5.out.join hF))
        clear hF hall
        go_wp2
        go_ret3
        exact X2.out
      case okF =>
        intro a' c' N' out' p' w6 hC hrun
        have hn' := hC.n
        subst hn'
        have K1 := hide hC.z
        have K2 := hide hC.o
        have K3 := hide hC.le
        have K4 := hide (F5.out.join hC.fl)
        have K5 : Hid (∀ r, Runs (leNum bs) (8 * bs.length) m ⟨p', decide (l = 1), out', .ahead⟩ r → Runs (leNum bs) (8 * bs.length) m init r) := fun r hr => J.out.run r (ahead_go HK.out (hrun _ r hr))
        have hmono : p2 ≤ p' := Runs.pos_le (s := ⟨p2, true, out, .coded fixL fixD⟩) (hrun true _ (.done (by simp [adv])))
        clear hC hrun
        have hp8 := K1.out.rf.epos
        have hpl := K1.out.rf.elen
        have hq1 : w6.cell? ⟨R, 1, none⟩ = some (.int .i64 (p' : Int)) := by
          obtain ⟨sh, ho⟩ := K1.out.rf.eobj
          exact cell_of ho rfl
        rcases hl01 with rfl | rfl
        · have X2 := hide (Hdone w6 out' p' a' c' K1.out K2.out K3.out K4.out (fun r h => K5.out r h))
          go_wp2
          go_quiet (fail)
          go_wp2
          go_ret3
          exact X2.out _
        · have hm2 : cellI w6 R 1 = p' := by unfold cellI; rw [hq1]; rfl
          go_wp2
          go_roundw
          case rel => exact ⟨out', p', a', c', out'.length, rfl, ⟨rfl, K1.out, K2.out, K3.out, K4.out, K5.out⟩⟩
          case measure => rw [hm2, Hm0.out]; omega
    · have HK : Hid (head (leNum bs) (8 * bs.length) p = andThen (andThen own fun c => ret (.coded c.1 c.2)) (fun pl => ret (decide (l = 1), pl)) (leNum bs) (8 * bs.length) p2) := Hd.out
      go_wp2_with fail
      refine rdynamic_c w4 w.heap.size R _ bs p2 Z4.out _ ?noD ?okD
      case noD =>
        intro er w5 her hx hF
        have hei : ((er : Int) == 0) = false := beq_false_of_ne (by omega)
        have hej : ¬ (er : Int) = 0 := by omega
        have X2 := hide (Hfail er w5 her (J.out.run _ (ahead_fail (HK.out.trans (then_err (then_err hx))))) (F4.out.join (Z4.out.low hF)))
        clear hx hF
        go_wp2
        go_ret3
        exact X2.out
      case okD =>
      intro ll dl q LM DM l1 h1 l2 h2 w5 hx hC1 hC2 e1 e2 hz hF
      have HC : Hid (Cw w5 w5 w.heap.size R (.slice sa sn sc) bs m LM DM ll dl q out a c out.length) := cw_of2 hz O4.out hC1 hC2 e1 e2 Z4.out.lt hF J.out.le
      have F5 := hide (F4.out.join (Z4.out.low hF))
      have Hx := hide hx
      have hq := Gd.own.mono hx
      clear hC1 hC2 e1 e2 hF hz hx
      go_wp2_with fail
      refine rcoded_c w5 w.heap.size R _ bs m (by omega) LM DM ll dl q out a c out.length HC.out _ ?okE ?errE
      case errE =>
        intro er w6 her hall hF
        have hei : ((er : Int) == 0) = false := beq_false_of_ne (by omega)
        have hej : ¬ (er : Int) = 0 := by omega
        have X2 := hide (Hfail er w6 her (J.out.run _ (ahead_go (HK.out.trans (then_ok (then_ok Hx.out))) (hall _))) (F5.out.join hF))
        clear hF hall
        go_wp2
        go_ret3
        exact X2.out
      case okE =>
        intro a' c' N' out' p' w6 hC hrun
        have hn' := hC.n
        subst hn'
        have K1 := hide hC.z
        have K2 := hide hC.o
        have K3 := hide hC.le
        have K4 := hide (F5.out.join hC.fl)
        have K5 : Hid (∀ r, Runs (leNum bs) (8 * bs.length) m ⟨p', decide (l = 1), out', .ahead⟩ r → Runs (leNum bs) (8 * bs.length) m init r) := fun r hr => J.out.run r (ahead_go (HK.out.trans (then_ok (then_ok Hx.out))) (hrun _ r hr))
        have hmono : p2 ≤ p' := Nat.le_trans hq (Runs.pos_le (s := ⟨q, true, out, .coded ll dl⟩) (hrun true _ (.done (by simp [adv]))))
        clear hC hrun
        have hp8 := K1.out.rf.epos
        have hpl := K1.out.rf.elen
        have hq1 : w6.cell? ⟨R, 1, none⟩ = some (.int .i64 (p' : Int)) := by
          obtain ⟨sh, ho⟩ := K1.out.rf.eobj
          exact cell_of ho rfl
        rcases hl01 with rfl | rfl
        · have X2 := hide (Hdone w6 out' p' a' c' K1.out K2.out K3.out K4.out (fun r h => K5.out r h))
          go_wp2
          go_quiet (fail)
          go_wp2
          go_ret3
          exact X2.out _
        · have hm2 : cellI w6 R 1 = p' := by unfold cellI; rw [hq1]; rfl
          go_wp2
          go_roundw
          case rel => exact ⟨out', p', a', c', out'.length, rfl, ⟨rfl, K1.out, K2.out, K3.out, K4.out, K5.out⟩⟩
          case measure => rw [hm2, Hm0.out]; omega
    · have HK : Hid (head (leNum bs) (8 * bs.length) p = .error 4) := Hd.out
      have X2 := hide (Hfail 4 w4 (by omega) (J.out.run _ (ahead_fail HK.out)) F4.out)
      skip
      go_wp2
      go_ret3
      exact X2.out
end Go.Proofs.YtleeaofofofgmaaDoor
