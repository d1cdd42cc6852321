/-
  The document's own blocks of words.
-/
import Derived.Test.YtleeaofofofgmaaDoorRb
namespace Go.Proofs.YtleeaofofofgmaaDoor
open Go.RowKit

/-- A code of the document's, apart from its reader and what is put out. -/
def CodeR (w : World) (R : Nat) (a : Option Addr) (N c M : Nat) (ls : List Int) : Prop :=
  ∃ clo chi, Rc w clo chi M ls ∧ (chi ≤ R ∨ R < clo) ∧ ∀ g, (Value.slice a N c).ownBlock = some g → chi ≤ g ∨ g < clo

theorem CodeR.next {w w' : World} {R : Nat} {a : Option Addr} {N c M : Nat} {ls : List Int} (h : CodeR w R a N c M ls) (hF : Fr (fun k => k = R) w w') : CodeR w' R a N c M ls := by
  obtain ⟨clo, chi, h1, h2, h3⟩ := h
  exact ⟨clo, chi, h1.keep hF (fun k _ _ e => by omega), h2, h3⟩
theorem CodeR.fr {w w' : World} {R : Nat} {a : Option Addr} {N c M : Nat} {ls : List Int} (h : CodeR w R a N c M ls) (hF : Fr (fun _ => False) w w') : CodeR w' R a N c M ls := by
  obtain ⟨clo, chi, h1, h2, h3⟩ := h
  exact ⟨clo, chi, h1.keep hF (fun _ _ _ e => e), h2, h3⟩
theorem CodeR.put {w w' : World} {R : Nat} {a : Option Addr} {N c M g cap : Nat} {ls : List Int} (h : CodeR w R a N c M ls) (hF : Fr (fun k => (Value.slice a N c).ownBlock = some k) w w') (hg : (Value.slice a N c).ownBlock = some g ∨ g = w.heap.size + 1) : CodeR w' R (some ⟨g, 0, none⟩) (N + 1) cap M ls := by
  obtain ⟨clo, chi, h1, h2, h3⟩ := h
  refine ⟨clo, chi, h1.keep hF (fun k _ _ e => by have := h3 k e; omega), h2, fun g' hg' => ?_⟩
  have : g = g' := by simpa [Value.ownBlock] using hg'
  subst this
  rcases hg with hg | hg
  · exact h3 g hg
  · have := h1.esz; exact Or.inl (by omega)

theorem rdist_tab2 (s o : Nat) {V L p : Nat} (hp : p ≤ L) : andThen (rung s 2) (fun x => if o < 1 + x then bad 4 else ret (1 + x)) V L p = andThen (tkn (dm s)) (fun x => if o < db s + x then bad 4 else ret (db s + x)) V L p := by
  unfold rung dm db
  by_cases h4 : s < 4
  · rw [if_pos (by omega), if_pos h4, if_pos h4, then_ok (x := tkn 0) (tkn_ok (n := 0) (by omega)), lowBits_zero]
    rfl
  · rw [if_neg (by omega), if_neg h4, if_neg h4]
    simp only [andThen]
    cases tkn (s / 2 - 1) V L p with
    | error e => rfl
    | ok aq =>
      simp only [ret]
      rw [Nat.add_assoc]

theorem lm_le (i : Nat) (hi : i < 29) : lm i ≤ 5 ∧ lb i ≤ 258 := by
  have : ∀ j : Fin 29, lm j.1 ≤ 5 ∧ lb j.1 ≤ 258 := by decide
  exact this ⟨i, hi⟩
theorem lb_ge (i : Nat) (hi : i < 29) : 3 ≤ lb i := by
  have : ∀ j : Fin 29, 3 ≤ lb j.1 := by decide
  exact this ⟨i, hi⟩
theorem dm_le (s : Nat) (hs : s < 30) : dm s ≤ 13 ∧ 1 ≤ db s ∧ db s ≤ 65536 := by
  have : ∀ j : Fin 30, dm j.1 ≤ 13 ∧ 1 ≤ db j.1 ∧ db j.1 ≤ 65536 := by decide
  exact this ⟨s, hs⟩

/-- Where one stands in a row of which m bytes are left. -/
def rowSt (m d : Nat) (ll dl : List Int) : Pl := if m = 0 then .coded ll dl else .row m d ll dl

theorem adv_rowSt {V L p : Nat} {last : Bool} {out : List Nat} {m d : Nat} {ll dl : List Int} (hm : 1 ≤ m) : adv V L ⟨p, last, out, rowSt m d ll dl⟩ = .put ⟨p, last, out ++ [out.getD (out.length - d) 0], rowSt (m - 1) d ll dl⟩ := by
  unfold rowSt
  rw [if_neg (by omega)]
  simp only [adv]
  by_cases h1 : m = 1
  · subst h1; rfl
  · rw [if_neg h1, if_neg (by omega)]

/-- What the loop over words holds at a round. -/
structure Cw (w wr : World) (lo R : Nat) (sv : Value) (bs : List Nat) (most : Nat) (LM DM : Nat) (ll dl : List Int) (p : Nat) (out : List Nat) (a : Option Addr) (c N : Nat) : Prop where
  n : N = out.length
  z : Rz wr lo R sv bs p
  o : Ro wr lo R a c out
  cl : CodeR wr R a N c LM ll
  cd : CodeR wr R a N c DM dl
  le : out.length ≤ most
  fl : Fl lo w wr

section
variable {w wr w' : World} {lo R : Nat} {sv : Value} {bs : List Nat} {most LM DM : Nat} {ll dl : List Int} {p : Nat} {out : List Nat} {a : Option Addr} {c N : Nat}
theorem Cw.next (h : Cw w wr lo R sv bs most LM DM ll dl p out a c N) {q : Nat} (hr : Rf w' R sv bs q false) (hF : Fr (fun k => k = R) wr w') : Cw w w' lo R sv bs most LM DM ll dl q out a c N :=
  ⟨h.n, h.z.next hr hF, h.o.next hF, h.cl.next hF, h.cd.next hF, h.le, h.fl.join (h.z.low hF)⟩
theorem Cw.fr (h : Cw w wr lo R sv bs most LM DM ll dl p out a c N) (hF : Fr (fun _ => False) wr w') : Cw w w' lo R sv bs most LM DM ll dl p out a c N :=
  ⟨h.n, h.z.keep hF (fun _ h => h.elim), h.o.fr hF, h.cl.fr hF, h.cd.fr hF, h.le, h.fl.join (Fl0 hF)⟩
theorem Cw.put (h : Cw w wr lo R sv bs most LM DM ll dl p out a c N) {b g cap : Nat} {o : Obj} (hlt : N < most) (hown : w'.ownsRow lo 5 1 (.slice (some ⟨g, 0, none⟩) (N + 1) cap) (N + 1) (cellsOf out ++ [.int .u8 (b : Int)]))
    (hgrow : (wr.alloc o).grownBy w' (Value.slice a N c).ownBlock) (hat : (Value.slice a N c).ownBlock = some g ∨ g = wr.heap.size + 1) : Cw w w' lo R sv bs most LM DM ll dl p (out ++ [b]) (some ⟨g, 0, none⟩) cap (N + 1) := by
  obtain ⟨r1, r2⟩ := ro_append h.z.lt h.o h.n hown hgrow hat
  have hS : ∀ k, (Value.slice a N c).ownBlock = some k → lo ≤ k ∧ k ≠ R := fun k hk => by
    have e := h.n
    subst e
    exact ⟨(h.o.own.lt k hk).1, h.o.oR k hk⟩
  have hn := h.n
  exact ⟨by rw [h.n]; simp, h.z.keep r2 hS, r1, h.cl.put r2 hat, h.cd.put r2 hat, by rw [List.length_append, List.length_singleton]; omega, h.fl.join (r2.mono fun k _ hk => (hS k hk).1)⟩
theorem Cw.low (h : Cw w wr lo R sv bs most LM DM ll dl p out a c N) : wr.ownsRow lo 5 1 (.slice a N c) N (cellsOf out) ∧ R < wr.heap.size ∧ lo ≤ wr.heap.size := by
  refine ⟨?_, h.z.lt, h.z.slo⟩
  have := h.o.own
  rw [← h.n] at this
  exact this
theorem Cw.pos (h : Cw w wr lo R sv bs most LM DM ll dl p out a c N) : cellI wr R 1 = p := by
  obtain ⟨_, _, _, f1, _⟩ := h.z.rf.facts
  unfold cellI
  rw [f1]
  simp
end

/-- A byte that is put out already. -/
theorem Ro.at {w : World} {lo R : Nat} {a : Option Addr} {c N : Nat} {out : List Nat} (h : Ro w lo R a c out) (hN : N = out.length) {j : Nat} (hj : j < N) : ∃ ad, a = some ad ∧ w.cell? (ad.add j) = some (.int .u8 (out.getD j 0 : Nat)) := by
  subst hN
  rcases h.own.2 with ⟨_, e0⟩ | ⟨g, cap, cur, hv, hg, hh, hr⟩
  · omega
  · cases hv
    refine ⟨⟨g, 0, none⟩, rfl, h.own.cells (g := g) rfl j _ ?_⟩
    simp [cellsOf, List.getElem?_eq_getElem hj]

set_option maxHeartbeats 3200000 in
set_option maxRecDepth 100000 in
theorem rcoded_c (w : World) (lo R : Nat) (sv : Value) (bs : List Nat) (most : Nat) (hmost : most ≤ 2147480000) (LM DM : Nat) (ll dl : List Int) (p0 : Nat) (out0 : List Nat) (oa : Option Addr) (oc n0 : Nat) (h : Cw w w lo R sv bs most LM DM ll dl p0 out0 oa oc n0) (Q : Ending → World → Prop)
    (hok : ∀ a' c' N out' p' w', Cw w w' lo R sv bs most LM DM ll dl p' out' a' c' N → (∀ last r, Runs (leNum bs) (8 * bs.length) most ⟨p', last, out', .ahead⟩ r → Runs (leNum bs) (8 * bs.length) most ⟨p0, last, out0, .coded ll dl⟩ r) → Q (.returned (.tuple #[.slice a' N c', .int .i64 0])) w')
    (herr : ∀ (er : Nat) w', er ≠ 0 → (∀ last, Runs (leNum bs) (8 * bs.length) most ⟨p0, last, out0, .coded ll dl⟩ (.error er)) → Fl lo w w' → Q (.returned (.tuple #[.slice none 0 0, .int .i64 (er : Int)])) w') :
    Calls Tryd.prog 26 #[.pointer (some ⟨R, 0, none⟩), .pointer (some ⟨LM, 0, none⟩), .pointer (some ⟨DM, 0, none⟩), .slice oa n0 oc, .int .i64 (most : Int)] w Q := by
  obtain ⟨i0, hi, hz0, hz1, hz2⟩ := info_parts Tryd.info5
  have H := hide h
  have Hok := hide hok
  have Herr := hide herr
  clear h hok herr
  go_enter Tryd.func26, Tryd.ntmps26
  go_wp2
  go_loopw [3, 12, 13, 14, 15, 16, 17, 18, 19, 20] (fun v _ _ _ _ _ _ _ _ _ wr => ∃ (out : List Nat) (p : Nat) (a : Option Addr) (c N : Nat), v = .slice a N c ∧ Hid (Cw w wr lo R sv bs most LM DM ll dl p out a c N) ∧
    Hid (∀ last r, Runs (leNum bs) (8 * bs.length) most ⟨p, last, out, .coded ll dl⟩ r → Runs (leNum bs) (8 * bs.length) most ⟨p0, last, out0, .coded ll dl⟩ r)) (fun _ _ _ _ _ _ _ _ _ _ wr => 8 * bs.length - cellI wr R 1)
  case atStart => exact ⟨out0, p0, oa, oc, n0, rfl, H.out, fun _ _ h => h⟩
  case round =>
    obtain ⟨out, p, a, c, N, rfl, C0, G⟩ := hrel
    have hN : N ≤ 2147480000 := by have := C0.out.n; have := C0.out.le; omega
    obtain ⟨clo, chi, k1, k2, k3⟩ := C0.out.cl
    have A1 : Hid (∀ er, word ll dl out.length (leNum bs) (8 * bs.length) p = .error er → ∀ last, Runs (leNum bs) (8 * bs.length) most ⟨p0, last, out0, .coded ll dl⟩ (.error er)) := by
      intro er hw last
      exact G.out last _ (.fail (by simp only [adv, hw]))
    have E0 : Hid (word ll dl out.length (leNum bs) (8 * bs.length) p = andThen (tk ll) (fun s => if s < 256 then ret (.lit s) else if s = 256 then ret .fin else andThen (rlen s) fun n => andThen (rdist dl out.length) fun d => ret (.row n d)) (leNum bs) (8 * bs.length) p) := rfl
    go_wp2_with fail
    refine rwords wr lo R sv bs p C0.out.z LM clo chi ll k1 k2 _ ⟨?ok1, ?no1⟩
    case no1 =>
      intro er w1 hx hF
      have her : er ≠ 0 := (Ne0.tk ll).ne hx
      have hei : ((er : Int) == 0) = false := beq_false_of_ne (by omega)
      have hej : ¬ (er : Int) = 0 := by omega
      have X := hide (Herr.out er w1 her (A1.out er (E0.out.trans (then_err hx))) (C0.out.fl.join (C0.out.z.low hF)))
      clear hx hF k1 k2 k3
      go_wp2
      exact X.out
    intro s q w1 hx hr hF
    have hpq : p < q := (tkFrom_good ll _ _ hx).1
    have hqL : q ≤ 8 * bs.length := hr.epos
    have E1 := hide (E0.out.trans (then_ok hx))
    have C1 := hide (C0.out.next hr hF)
    have Hm0 : Hid (cellI wr R 1 = p) := C0.out.pos
    clear hx hr hF k1 k2 k3
    by_cases h256 : s = 256
    · subst h256
      have E2 : word ll dl out.length (leNum bs) (8 * bs.length) p = .ok (.fin, q) := E1.out
      have X := hide (Hok.out a c N out q w1 C1.out (fun last r hr => G.out last r (.go (s' := ⟨q, last, out, .ahead⟩) (by simp only [adv, E2]) hr)))
      clear E2
      go_wp2
      exact X.out
    · have h6 : ((s : Int) == 256) = false := beq_false_of_ne (by omega)
      have h6j : ¬ (s : Int) = 256 := by omega
      by_cases hlit : s < 256
      · have hli : (s : Int) < 256 := by omega
        have E2 := E1.out
        rw [if_pos hlit] at E2
        have E2' : word ll dl out.length (leNum bs) (8 * bs.length) p = .ok (.lit s, q) := E2
        have A2 : Hid (∀ last, adv (leNum bs) (8 * bs.length) ⟨p, last, out, .coded ll dl⟩ = .put ⟨q, last, out ++ [s], .coded ll dl⟩) := by
          intro last
          simp only [adv, E2']
        clear E2 E2'
        by_cases hful : most ≤ N
        · have hfi : (most : Int) ≤ (N : Int) := by omega
          have X := hide (Herr.out 6 w1 (by omega) (fun last => G.out last _ (.full (A2.out last) (by show most ≤ out.length; rw [← C1.out.n]; exact hful))) C1.out.fl)
          go_wp2
          exact X.out
        · have hfi : ¬ (most : Int) ≤ (N : Int) := by omega
          obtain ⟨hown, hRl, hlow⟩ := C1.out.low
          have Hown := hide hown
          have hwb : IntKind.u8.wrap (s : Int) = (s : Int) := wrap_u8 _ (by omega) (by omega)
          clear hown
          go_wp2_with (at_builtin; go_must (refine wpList_append_lies _ rfl _ _ 22 rfl lo 5 i0 (.int .u8 0) 1 1 Tryd.underlying22 hi hz0 hz1 hz2 rfl (by decide) (.slice a N c) N (cellsOf out) rfl (Hown.out.alloc _) ⟨w1.heap.size, 0, none⟩ 1 1 [.int .u8 (s : Int)] rfl rfl (cell_one_new _ _ _) (fun x hx => by simp at hx; subst hx; rfl) (by decide) (by unfold maxLen; omega) (by omega) (by simp; omega) (w1.heap.size + 1) (by simp) ?_); intro g cap w7 hown7 hgrow hat hlt7)
          have C2 := hide (C1.out.put (by omega) hown7 hgrow hat)
          have G2 : Hid (∀ last r, Runs (leNum bs) (8 * bs.length) most ⟨q, last, out ++ [s], .coded ll dl⟩ r → Runs (leNum bs) (8 * bs.length) most ⟨p0, last, out0, .coded ll dl⟩ r) := fun last r hr => G.out last r (.put (A2.out last) (by show out.length < most; rw [← C1.out.n]; omega) hr)
          clear hown7 hgrow hat hlt7
          go_roundw
          case rel => exact ⟨out ++ [s], q, some ⟨g, 0, none⟩, cap, N + 1, rfl, C2.out, G2.out⟩
          case measure => rw [C2.out.pos, Hm0.out]; omega
      · have hli : ¬ (s : Int) < 256 := by omega
        have E2 := E1.out
        rw [if_neg hlit, if_neg h256] at E2
        have HE2 := hide E2
        clear E2
        by_cases h285 : 285 < s
        · go_wp2_with fail
          refine (lengthOf_no s h285 w1).mono ?_
          rintro e w2 ⟨rfl, hF⟩
          have X := hide (Herr.out 4 w2 (by omega) (A1.out 4 (HE2.out.trans (then_err (by unfold rlen; rw [if_pos h285]; rfl)))) (C1.out.fl.join (Fl0 hF)))
          clear hF
          go_wp2
          exact X.out
        · obtain ⟨i, rfl⟩ : ∃ i, s = 257 + i := ⟨s - 257, by omega⟩
          have hi29 : i < 29 := by omega
          obtain ⟨hlm, hlb⟩ := lm_le i hi29
          have hlb3 := lb_ge i hi29
          have E3 := HE2.out
          have E4 : Hid (rlen (257 + i) (leNum bs) (8 * bs.length) q = andThen (tkn (lm i)) (fun x => ret (lb i + x)) (leNum bs) (8 * bs.length) q) := rlen_tab i hi29 hqL
          obtain ⟨LB, hLB⟩ : ∃ LB, LB = lb i := ⟨_, rfl⟩
          obtain ⟨LMo, hLM⟩ : ∃ LMo, LMo = lm i := ⟨_, rfl⟩
          have HL := hide (lengthOf_c i hi29 w1)
          rw [← hLB, ← hLM] at HL E4
          rw [← hLB] at hlb hlb3
          rw [← hLM] at hlm
          obtain ⟨sy, hsy⟩ : ∃ sy, sy = 257 + i := ⟨_, rfl⟩
          rw [← hsy] at HL HE2 E4 hlit h256 h6 h6j hli ⊢
          clear E3 hLB hLM hsy h285
          go_wp2_with fail
          refine HL.out.mono ?_
          rintro e w2 ⟨rfl, hF⟩
          have C2 := hide (C1.out.fr hF)
          clear hF
          go_wp2_with fail
          refine rtakes w2 lo R sv bs q LMo C2.out.z (by omega) _ ⟨?ok2, ?no2⟩
          case no2 =>
            intro w3 hx hF
            have X := hide (Herr.out 2 w3 (by omega) (A1.out 2 (HE2.out.trans (then_err (E4.out.trans (then_err hx))))) (C2.out.fl.join (C2.out.z.low hF)))
            clear hx hF
            go_wp2
            exact X.out
          intro x q2 w3 hx hr hF
          have hxb : x < 32 := Nat.lt_of_lt_of_le (tkn_lt hx) (Nat.pow_le_pow_right (by decide) hlm)
          have hq2 : q ≤ q2 := by have := (tkn_inv hx).2.2; omega
          have E5 := hide (HE2.out.trans (then_ok (E4.out.trans (then_ok hx))))
          have C3 := hide (C2.out.next hr hF)
          obtain ⟨n, hn⟩ : ∃ n, n = LB + x := ⟨_, rfl⟩
          have hni : (LB : Int) + (x : Int) = (n : Int) := by omega
          have hnb : 3 ≤ n ∧ n ≤ 300 := by omega
          rw [← hn] at E5
          obtain ⟨dlo, dhi, j1, j2, j3⟩ := C3.out.cd
          have E6 : Hid (word ll dl out.length (leNum bs) (8 * bs.length) p = andThen (andThen (tk dl) fun s => if 30 ≤ s then bad 4 else andThen (rung s 2) fun x => if out.length < 1 + x then bad 4 else ret (1 + x)) (fun d => ret (.row n d)) (leNum bs) (8 * bs.length) q2) := E5.out
          clear hx hr hF hn E5
          go_wp2_with fail
          refine rwords w3 lo R sv bs q2 C3.out.z DM dlo dhi dl j1 j2 _ ⟨?ok3, ?no3⟩
          case no3 =>
            intro er w4 hx hF
            have her : er ≠ 0 := (Ne0.tk dl).ne hx
            have hei : ((er : Int) == 0) = false := beq_false_of_ne (by omega)
            have hej : ¬ (er : Int) = 0 := by omega
            have X := hide (Herr.out er w4 her (A1.out er (E6.out.trans (then_err (then_err hx)))) (C3.out.fl.join (C3.out.z.low hF)))
            clear hx hF j1 j2 j3
            go_wp2
            exact X.out
          intro d q3 w4 hx hr hF
          have hq3 : q2 < q3 := (tkFrom_good dl _ _ hx).1
          have hq3L : q3 ≤ 8 * bs.length := hr.epos
          have E7 : Hid (word ll dl out.length (leNum bs) (8 * bs.length) p = andThen (if 30 ≤ d then bad 4 else andThen (rung d 2) fun x => if out.length < 1 + x then bad 4 else ret (1 + x)) (fun d => ret (.row n d)) (leNum bs) (8 * bs.length) q3) := by
            show _ = _
            rw [E6.out]
            simp only [andThen, hx]
          have C4 := hide (C3.out.next hr hF)
          clear hx hr hF j1 j2 j3
          by_cases h30 : 30 ≤ d
          · have E8 := E7.out
            rw [if_pos h30] at E8
            go_wp2_with fail
            refine (distanceOf_no d h30 w4).mono ?_
            rintro e w5 ⟨rfl, rfl⟩
            have X := hide (Herr.out 4 w4 (by omega) (A1.out 4 (E8.trans (then_err rfl))) C4.out.fl)
            clear E8
            go_wp2
            exact X.out
          · have E8 := E7.out
            rw [if_neg h30] at E8
            obtain ⟨hdm, hdb1, hdb2⟩ := dm_le d (by omega)
            have E9 : Hid (word ll dl out.length (leNum bs) (8 * bs.length) p = andThen (andThen (tkn (dm d)) fun x => if out.length < db d + x then bad 4 else ret (db d + x)) (fun d => ret (.row n d)) (leNum bs) (8 * bs.length) q3) := by
              show _ = _
              rw [E8]
              have := rdist_tab2 d out.length (V := leNum bs) hq3L
              simp only [andThen] at this ⊢
              rw [this]
            obtain ⟨DB, hDB⟩ : ∃ DB, DB = db d := ⟨_, rfl⟩
            obtain ⟨DMo, hDM⟩ : ∃ DMo, DMo = dm d := ⟨_, rfl⟩
            have HD := hide (distanceOf_c d (by omega) w4)
            rw [← hDB, ← hDM] at HD E9
            rw [← hDB] at hdb1 hdb2
            rw [← hDM] at hdm
            clear E8 hDB hDM
            go_wp2_with fail
            refine HD.out.mono ?_
            rintro e w5 ⟨rfl, rfl⟩
            go_wp2_with fail
            refine rtakes w4 lo R sv bs q3 DMo C4.out.z (by omega) _ ⟨?ok4, ?no4⟩
            case no4 =>
              intro w6 hx hF
              have X := hide (Herr.out 2 w6 (by omega) (A1.out 2 (E9.out.trans (then_err (then_err hx)))) (C4.out.fl.join (C4.out.z.low hF)))
              clear hx hF
              go_wp2
              exact X.out
            intro x2 q4 w6 hx hr hF
            have hx2b : x2 < 8192 := Nat.lt_of_lt_of_le (tkn_lt hx) (Nat.pow_le_pow_right (by decide) hdm)
            have hq4 : q3 ≤ q4 := by have := (tkn_inv hx).2.2; omega
            have hq4L : q4 ≤ 8 * bs.length := hr.epos
            obtain ⟨bk, hbk⟩ : ∃ bk, bk = DB + x2 := ⟨_, rfl⟩
            have hbki : (DB : Int) + (x2 : Int) = (bk : Int) := by omega
            have hbkb : 1 ≤ bk ∧ bk ≤ 100000 := by omega
            have EA : Hid (word ll dl out.length (leNum bs) (8 * bs.length) p = andThen (if out.length < bk then bad 4 else ret bk) (fun d => ret (.row n d)) (leNum bs) (8 * bs.length) q4) := by
              show _ = _
              rw [E9.out, hbk]
              simp only [andThen, hx]
            have C6 := hide (C4.out.next hr hF)
            clear hx hr hF hbk
            by_cases hback : N < bk
            · have hbi : (N : Int) < (bk : Int) := by omega
              have EB := EA.out
              rw [if_pos (by rw [← C6.out.n]; exact hback)] at EB
              have X := hide (Herr.out 4 w6 (by omega) (A1.out 4 (EB.trans (then_err rfl))) C6.out.fl)
              clear EB
              go_wp2
              exact X.out
            · have hbi : ¬ (N : Int) < (bk : Int) := by omega
              have EB := EA.out
              rw [if_neg (by rw [← C6.out.n]; exact hback)] at EB
              have EC : word ll dl out.length (leNum bs) (8 * bs.length) p = .ok (.row n bk, q4) := EB
              have G6 : Hid (∀ last r, Runs (leNum bs) (8 * bs.length) most ⟨q4, last, out, rowSt n bk ll dl⟩ r → Runs (leNum bs) (8 * bs.length) most ⟨p0, last, out0, .coded ll dl⟩ r) := by
                intro last r hr
                refine G.out last r (.go (s' := ⟨q4, last, out, .row n bk ll dl⟩) (by simp only [adv, EC]) ?_)
                unfold rowSt at hr
                rw [if_neg (by omega)] at hr
                exact hr
              clear EB EC
              go_wp2
              go_loopw [3, 20] (fun v iv wq => ∃ (i : Nat) (out' : List Nat) (a' : Option Addr) (c' N' : Nat), i ≤ n ∧ iv = .int .i64 (i : Int) ∧ v = .slice a' N' c' ∧ bk ≤ N' ∧ Hid (Cw w wq lo R sv bs most LM DM ll dl q4 out' a' c' N') ∧
                Hid (∀ last r, Runs (leNum bs) (8 * bs.length) most ⟨q4, last, out', rowSt (n - i) bk ll dl⟩ r → Runs (leNum bs) (8 * bs.length) most ⟨p0, last, out0, .coded ll dl⟩ r)) (fun _ iv _ => n - (intOf iv).toNat)
              case atStart => exact ⟨0, out, a, c, N, Nat.zero_le _, rfl, rfl, by omega, C6.out, G6.out⟩
              case round =>
                obtain ⟨i, out', a', c', N', hi1, rfl, rfl, hbN, D0, D1⟩ := hrel
                have hN' : N' ≤ 2147480000 := by have := D0.out.n; have := D0.out.le; omega
                by_cases hlt : i < n
                · have hlti : (i : Int) < (n : Int) := by omega
                  by_cases hful : most ≤ N'
                  · have hfi : (most : Int) ≤ (N' : Int) := by omega
                    have X := hide (Herr.out 6 wr (by omega) (fun last => D1.out last _ (.full (adv_rowSt (by omega)) (by show most ≤ out'.length; rw [← D0.out.n]; exact hful))) D0.out.fl)
                    go_wp2
                    exact X.out
                  · have hfi : ¬ (most : Int) ≤ (N' : Int) := by omega
                    obtain ⟨j, hj⟩ : ∃ j, j = N' - bk := ⟨_, rfl⟩
                    have hji : (N' : Int) - (bk : Int) = (j : Int) := by omega
                    have hjN : (j : Int) < (N' : Int) := by omega
                    obtain ⟨ad, rfl, had⟩ := D0.out.o.at D0.out.n (show j < N' by omega)
                    obtain ⟨b, hb⟩ : ∃ b, b = out'.getD j 0 := ⟨_, rfl⟩
                    rw [← hb] at had
                    have A3 : Hid (∀ last, adv (leNum bs) (8 * bs.length) ⟨q4, last, out', rowSt (n - i) bk ll dl⟩ = .put ⟨q4, last, out' ++ [b], rowSt (n - (i + 1)) bk ll dl⟩) := by
                      intro last
                      rw [adv_rowSt (by omega), ← D0.out.n, ← hj, ← hb, show n - i - 1 = n - (i + 1) by omega]
                    obtain ⟨hown, hRl, hlow⟩ := D0.out.low
                    have Hown := hide hown
                    clear hown hj hb
                    go_wp2_with (at_builtin; go_must (refine wpList_append_lies _ rfl _ _ 22 rfl lo 5 i0 (.int .u8 0) 1 1 Tryd.underlying22 hi hz0 hz1 hz2 rfl (by decide) (.slice (some ad) N' c') N' (cellsOf out') rfl (Hown.out.alloc _) ⟨wr.heap.size, 0, none⟩ 1 1 [.int .u8 (b : Int)] rfl rfl (cell_one_new _ _ _) (fun x hx => by simp at hx; subst hx; rfl) (by decide) (by unfold maxLen; omega) (by omega) (by simp; omega) (wr.heap.size + 1) (by simp) ?_); intro g cap w7 hown7 hgrow hat hlt7)
                    have D2 := hide (D0.out.put (by omega) hown7 hgrow hat)
                    have D3 : Hid (∀ last r, Runs (leNum bs) (8 * bs.length) most ⟨q4, last, out' ++ [b], rowSt (n - (i + 1)) bk ll dl⟩ r → Runs (leNum bs) (8 * bs.length) most ⟨p0, last, out0, .coded ll dl⟩ r) := fun last r hr => D1.out last r (.put (A3.out last) (by show out'.length < most; rw [← D0.out.n]; omega) hr)
                    clear hown7 hgrow hat hlt7
                    go_roundw
                    case rel => exact ⟨i + 1, out' ++ [b], some ⟨g, 0, none⟩, cap, N' + 1, by omega, by go_num, rfl, by omega, D2.out, D3.out⟩
                    case measure => simp [intOf]; omega
                · have hlti : ¬ (i : Int) < (n : Int) := by omega
                  have hie : i = n := by omega
                  subst hie
                  have D2 : Hid (∀ last r, Runs (leNum bs) (8 * bs.length) most ⟨q4, last, out', .coded ll dl⟩ r → Runs (leNum bs) (8 * bs.length) most ⟨p0, last, out0, .coded ll dl⟩ r) := by
                    intro last r hr
                    refine D1.out last r ?_
                    rw [Nat.sub_self]
                    exact hr
                  go_wp2
                  go_roundw
                  case rel => exact ⟨out', q4, a', c', N', rfl, D0.out, D2.out⟩
                  case measure => rw [D0.out.pos, Hm0.out]; omega
end Go.Proofs.YtleeaofofofgmaaDoor
