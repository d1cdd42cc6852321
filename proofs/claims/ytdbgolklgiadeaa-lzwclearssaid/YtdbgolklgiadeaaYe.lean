/-
  lzw: the document's ReadLzw.
-/
import Derived.Test.YtdbgolklgiadeaaYd
import Derived.Deep.CutBlock
namespace Go.Proofs.Ytdbgolklgiadeaa
open Go.RowKit

set_option maxRecDepth 100000 in
set_option maxHeartbeats 800000 in
theorem rread_no (sv : Value) (s m : Int) (w : World) (hs : ∃ a n c, sv = .slice a n c) (h : s < 2 ∨ 8 < s ∨ m < 0) :
    Calls Try.prog 13 #[sv, .int .i64 s, .int .i64 m] w fun e w' => e = .returned (.tuple #[.slice none 0 0, .int .i64 1]) ∧ w = w' := by
  obtain ⟨a, n, c, rfl⟩ := hs
  by_cases h1 : s < 2
  · clear h
    go_enter Try.func13, Try.ntmps13
    go_wp2
    go_ret2
    exact ⟨rfl, rfl⟩
  by_cases h2 : 8 < s
  · clear h
    go_enter Try.func13, Try.ntmps13
    go_wp2
    go_ret2
    exact ⟨rfl, rfl⟩
  have h3 : m < 0 := by omega
  clear h
  go_enter Try.func13, Try.ntmps13
  go_wp2
  go_ret2
  exact ⟨rfl, rfl⟩

/-- The document's reader between two codes. -/
structure Dst (w0 wr : World) (R : Nat) (sv : Value) (bs : List Nat) (k most : Nat) (s : Zs) (hs : List Value) (ra : Option Addr) (rc : Nat) (lv : Value) (oa : Option Addr) (oc : Nat) : Prop where
  rf : Rf wr R sv bs s.p false
  dz : Dz wr R (.slice ra s.rows.length rc) (.slice oa s.out.length oc) hs s.rows s.out
  last : (s.last = [] ∧ lv = .slice none 0 0) ∨ (s.last ≠ [] ∧ ∃ ad c, lv = .slice (some ⟨ad, 0, none⟩) s.last.length c ∧ Dr wr R (.slice ra s.rows.length rc) (.slice oa s.out.length oc) ad s.last)
  zok : Zok k s
  len : s.out.length ≤ most
  ll : s.last.length ≤ most
  rl : ∀ x ∈ s.rows, x.length ≤ most + 1
  run : ∀ r, ZRuns (leNum bs) (8 * bs.length) k most s r → ZRuns (leNum bs) (8 * bs.length) k most zinit r
  fr : Fr (fun _ => False) w0 wr

/-- What the document's reader answers. -/
structure Rdok (w0 : World) (bs : List Nat) (k most : Nat) (e : Ending) (w' : World) : Prop where
  it : ∃ r a c, ZRuns (leNum bs) (8 * bs.length) k most zinit r ∧ e = .returned (.tuple #[.slice a (outZ r).length c, .int .i64 ((errZ r : Nat) : Int)]) ∧ OwnB w' w0.heap.size (.slice a (outZ r).length c) (outZ r) ∧ Fr (fun _ => False) w0 w'

theorem Rdok.err {w0 w' : World} {bs : List Nat} {k most er : Nat} (h : ZRuns (leNum bs) (8 * bs.length) k most zinit (.error er)) (F : Fr (fun _ => False) w0 w') : Rdok w0 bs k most (.returned (.tuple #[.slice none 0 0, .int .i64 ((er : Nat) : Int)])) w' :=
  ⟨.error er, none, 0, h, rfl, World.ownsRow_nil _ _ _ _, F⟩

theorem cellR {w : World} {R : Nat} {sv : Value} {bs : List Nat} {p : Nat} (h : Rf w R sv bs p false) : cellI w R 1 = p := by
  obtain ⟨sh, ho⟩ := h.eobj
  unfold cellI
  rw [cell_of (o := 1) ho rfl]
  simp

theorem Dst.next {w0 wr w' : World} {R : Nat} {sv : Value} {bs : List Nat} {k most : Nat} {s : Zs} {hs hs' : List Value} {ra ra' : Option Addr} {rc rc' : Nat} {lv : Value} {oa oa' : Option Addr} {oc oc' : Nat} (h : Dst w0 wr R sv bs k most s hs ra rc lv oa oc) {x : List Nat} {rows' : List (List Nat)} {xg xc p' : Nat}
    (hmade : made k s x = rows') (hp : s.p + wid k s.rows.length = p') (rf : Rf w' R sv bs p' false) (hz : Dz w' R (.slice ra' rows'.length rc') (.slice oa' (s.out ++ x).length oc') hs' rows' (s.out ++ x)) (hd : Dr w' R (.slice ra' rows'.length rc') (.slice oa' (s.out ++ x).length oc') xg x) (F : Fr (fun _ => False) w0 w') (hx0 : x ≠ []) (hm : s.out.length + x.length ≤ most)
    (hfit : s.p + wid k s.rows.length ≤ 8 * bs.length) (c1 : codeAt (leNum bs) k s ≠ 2 ^ k) (c2 : codeAt (leNum bs) k s ≠ 2 ^ k + 1) (hx : rowOf k (codeAt (leNum bs) k s) s = some x) :
    Dst w0 w' R sv bs k most ⟨p', rows', x, s.out ++ x⟩ hs' ra' rc' (.slice (some ⟨xg, 0, none⟩) x.length xc) oa' oc' := by
  subst hp
  have hrows : ∀ y ∈ rows', y ≠ [] ∧ y.length ≤ most + 1 := by
    intro y hy
    rw [← hmade] at hy
    unfold made at hy
    split at hy
    · rcases List.mem_append.1 hy with hy | hy
      · exact ⟨h.zok.rows y hy, h.rl y hy⟩
      · simp at hy
        subst hy
        have := h.ll
        exact ⟨by simp, by simp; omega⟩
    · exact ⟨h.zok.rows y hy, h.rl y hy⟩
  refine ⟨rf, hz, Or.inr ⟨hx0, xg, xc, rfl, hd⟩, ⟨fun y hy => (hrows y hy).1, ?_, fun e => absurd e hx0⟩, by simp; omega, by show x.length ≤ most; omega, fun y hy => (hrows y hy).2, fun r hr => h.run r (.row hfit c1 c2 hx hm (by unfold onward; rw [hmade]; exact hr)), F⟩
  have hmany := h.zok.many
  rw [← hmade]
  unfold made
  split
  · next hc =>
    have := hc.2
    unfold nextN at *
    simp
    omega
  · exact hmany

/-- A row that a code means is one, and not too long. -/
theorem rowOf_some {w0 wr : World} {R : Nat} {sv : Value} {bs : List Nat} {k most : Nat} {s : Zs} {hs : List Value} {ra : Option Addr} {rc : Nat} {lv : Value} {oa : Option Addr} {oc : Nat} (h : Dst w0 wr R sv bs k most s hs ra rc lv oa oc) {c : Nat} {x : List Nat} (hx : rowOf k c s = some x) : x ≠ [] ∧ x.length ≤ most + 1 := by
  unfold rowOf at hx
  split at hx
  · injection hx with hx
    subst hx
    exact ⟨by simp, by simp⟩
  split at hx
  · cases hx
  split at hx
  · cases hx
  split at hx
  · injection hx with hx
    subst hx
    have := h.ll
    exact ⟨by simp, by simp; omega⟩
  · have hm := List.mem_of_getElem? hx
    exact ⟨h.zok.rows x hm, h.rl x hm⟩

set_option maxHeartbeats 6400000 in
set_option maxRecDepth 100000 in
theorem rread_ok (sv : Value) (bs : List Nat) (k most : Nat) (w : World) (h : Lies w sv bs) (hlt : ∀ b ∈ bs, b < 256) (hlen : bs.length ≤ 2147483648) (hk : 2 ≤ k ∧ k ≤ 8) (hm : most ≤ 999990) :
    Calls Try.prog 13 #[sv, .int .i64 (k : Int), .int .i64 (most : Int)] w fun e w' => Rdok w bs k most e w' := by
  obtain ⟨P, hP⟩ : ∃ P, P = 2 ^ k := ⟨_, rfl⟩
  have hPi : (2 : Int) ^ k = (P : Int) := by rw [hP]; simp
  have hP1 : 4 ≤ P := by rw [hP]; exact Nat.pow_le_pow_right (n := 2) (by omega) hk.1
  have hP2 : P ≤ 256 := by rw [hP]; exact Nat.pow_le_pow_right (n := 2) (by omega) hk.2
  have hk1 : ¬ (k : Int) < 2 := by omega
  have hk2 : ¬ (8 : Int) < (k : Int) := by omega
  have hm0 : ¬ (most : Int) < 0 := by omega
  have hwk : IntKind.u64.wrap (k : Int) = (k : Int) := by show (k : Int) % 18446744073709551616 = k; omega
  obtain ⟨R, hR⟩ : ∃ R, R = w.heap.size := ⟨_, rfl⟩
  obtain ⟨w1, hw1⟩ : ∃ w1, w1 = w.alloc (.cells #[sv, .int .i64 0, .bool false, .bool false] 61) := ⟨_, rfl⟩
  have F1 : Fr (fun _ => False) w w1 := by rw [hw1]; exact Fr.of_alloc _ _
  have hsb : bs ≠ [] → ∀ ad n c, sv = .slice (some ad) n c → ad.block < R := by
    intro hne ad n c e
    rcases h with ⟨_, e2⟩ | ⟨ad', c', e2, hc⟩
    · exact absurd e2 hne
    · rw [e2] at e
      injection e with e1 _ _
      injection e1 with e1
      subst e1
      obtain ⟨b, t, rfl⟩ := List.exists_cons_of_ne_nil hne
      have := cell_lt (hc 0 _ rfl)
      rw [add_block] at this
      rw [hR]
      exact this
  have hrf : Rf w1 R sv bs 0 false := ⟨⟨false, by rw [hw1, hR]; exact heap_alloc_new _ _⟩, lies_false h F1, fun hne ad n c e => by have := hsb hne ad n c e; omega, Nat.zero_le _, hlt, hlen⟩
  have HS0 : Hid (Dst w w1 R sv bs k most zinit [] none 0 (.slice none 0 0) none 0) := by
    refine ⟨hrf, ⟨World.ownsRow_nil _ _ _ _, World.ownsRow_nil _ _ _ _, rfl, fun i x hx => by simp [zinit] at hx⟩, Or.inl ⟨rfl, rfl⟩, ⟨fun x hx => by simp [zinit] at hx, ?_, fun _ => rfl⟩, Nat.zero_le _, Nat.zero_le _, fun x hx => by simp [zinit] at hx, fun _ h => h, F1⟩
    show nextN k 0 ≤ 4096
    unfold nextN
    omega
  obtain ⟨sa, sn, sc, rfl⟩ : ∃ a n c, sv = .slice a n c := by
    rcases h with ⟨rfl, _⟩ | ⟨ad, c, rfl, _⟩
    · exact ⟨_, _, _, rfl⟩
    · exact ⟨_, _, _, rfl⟩
  have Hsb := hide hsb
  have Hw1 := hide hw1
  have HR := hide hR
  have HP := hide hP
  have Hk := hide hk
  have hkb : k ≤ 8 := hk.2
  have q := nilB
  have qn := nilN
  clear h hlt hrf hsb F1 hw1 hR hP hk
  go_enter Try.func13, Try.ntmps13
  go_wp2_with fail
  rw [← HR.out, ← Hw1.out]
  go_loopw [10, 11, 12, 13] (fun v10 v11 v12 v13 wr => ∃ (s : Zs) (hs : List Value) (ra : Option Addr) (rc : Nat) (la : Option Addr) (ln lc : Nat) (oa : Option Addr) (oc : Nat), v10 = .slice ra s.rows.length rc ∧ v11 = .int .i64 ((wid k s.rows.length : Nat) : Int) ∧ v12 = .slice la ln lc ∧ v13 = .slice oa s.out.length oc ∧ Hid (Dst w wr R (.slice sa sn sc) bs k most s hs ra rc (.slice la ln lc) oa oc)) (fun _ _ _ _ wr => 8 * bs.length + 12 - cellI wr R 1)
  case atStart => exact ⟨zinit, [], none, 0, none, 0, 0, none, 0, rfl, by simp [zinit, wid], rfl, rfl, HS0.out⟩
  case round =>
    obtain ⟨s, hs, ra, rc, la, ln, lc, oa, oc, rfl, rfl, rfl, rfl, HD⟩ := hrel
    have hcr := hide (cellR HD.out.rf)
    obtain ⟨n, hn⟩ : ∃ n, n = s.rows.length := ⟨_, rfl⟩
    obtain ⟨W, hW⟩ : ∃ W, W = wid k n := ⟨_, rfl⟩
    have hWb : k + 1 ≤ W ∧ W ≤ 12 := by rw [hW]; exact wid_le k Hk.out n
    rw [← hn, ← hW]
    have Hn := hide hn
    have HW := hide hW
    clear hn hW
    by_cases hf : 8 * bs.length < s.p + W
    · have HT := hide (ref_take_no wr R _ bs s.p (W : Int) false HD.out.rf (Or.inr (by omega)))
      have hz : Hid (ZRuns (leNum bs) (8 * bs.length) k most zinit (.error 2)) := HD.out.run _ (.short (by rw [← Hn.out, ← HW.out]; exact hf))
      clear hf
      go_wp2_with fail
      refine HT.out.mono ?_
      rintro e w2 ⟨rfl, _, hF⟩
      have HF := hide hF
      clear hF
      go_wp2
      go_ret2
      refine Rdok.err hz.out ((HD.out.fr.trans HF.out).mono fun j hj e => e.elim id fun e => ?_)
      have := HR.out
      omega
    have HT := hide (ref_take_low wr R _ bs s.p W HD.out.rf (by omega) (by omega))
    obtain ⟨C, hC⟩ : ∃ C, C = lowBits (leNum bs) s.p W := ⟨_, rfl⟩
    rw [← hC] at HT
    have hC4 : C < 4096 := by
      have h3 : C < 2 ^ W := by
        rw [hC]
        unfold lowBits
        exact Nat.mod_lt _ (Nat.two_pow_pos _)
      have h4 : 2 ^ W ≤ 2 ^ 12 := Nat.pow_le_pow_right (by omega) hWb.2
      omega
    have hca : Hid (codeAt (leNum bs) k s = C) := by
      show _ = _
      rw [hC]
      unfold codeAt
      rw [← Hn.out, ← HW.out]
      rfl
    have hfit : Hid (s.p + wid k s.rows.length ≤ 8 * bs.length) := by show _ ≤ _; rw [← Hn.out, ← HW.out]; omega
    clear hC hf
    go_wp2_with fail
    refine HT.out.mono ?_
    rintro e w2 ⟨rfl, hrf2, hF2⟩
    have hR1 : ∀ j, R < j → ¬ (j = R) := fun j hj => by omega
    have HF2 := hide hF2
    have HRF2 := hide hrf2
    have HZ2 := hide (HD.out.dz.fr hF2 (fun j hj => by omega))
    have HF02 : Hid (Fr (fun _ => False) w w2) := (HD.out.fr.trans hF2).mono fun j hj e => e.elim id fun e => by have := HR.out; omega
    have HL2 : Hid ((s.last = [] ∧ Value.slice la ln lc = .slice none 0 0) ∨ (s.last ≠ [] ∧ ∃ ad c, Value.slice la ln lc = .slice (some ⟨ad, 0, none⟩) s.last.length c ∧ Dr w2 R (.slice ra n rc) (.slice oa s.out.length oc) ad s.last)) := by
      rcases HD.out.last with h | ⟨h, ad, c, h1, h2⟩
      · exact Or.inl h
      · rw [Hn.out]
        exact Or.inr ⟨h, ad, c, h1, h2.fr hF2 (by have := h2.lo; omega) Grown.rfl' Grown.rfl'⟩
    clear hrf2 hF2 hR1
    by_cases c1 : C = P
    · have hz := hide (fun r (h : ZRuns (leNum bs) (8 * bs.length) k most ⟨s.p + W, [], [], s.out⟩ r) => HD.out.run r (.clear hfit.out (by rw [hca.out, c1]; exact HP.out) (by rw [← Hn.out, ← HW.out]; exact h)))
      have hmu : Hid (8 * bs.length + 12 - cellI w2 R 1 < 8 * bs.length + 12 - cellI wr R 1) := by
        show _ < _
        rw [hcr.out, cellR HRF2.out]
        have := hfit.out
        rw [← Hn.out, ← HW.out] at this
        omega
      subst c1
      have hcc : ((C : Int) == (C : Int)) = true := beq_self_eq_true _
      go_wp2
      go_roundw
      case rel =>
        refine ⟨⟨s.p + W, [], [], s.out⟩, [], none, 0, none, 0, 0, oa, oc, rfl, by simp [wid], rfl, rfl, ?_⟩
        refine ⟨HRF2.out, ⟨HZ2.out.own, World.ownsRow_nil _ _ _ _, rfl, fun i x hx => by simp at hx⟩, Or.inl ⟨rfl, rfl⟩, ⟨fun x hx => by simp at hx, ?_, fun _ => rfl⟩, HD.out.len, Nat.zero_le _, fun x hx => by simp at hx, hz.out, HF02.out⟩
        show nextN k 0 ≤ 4096
        unfold nextN
        rw [← HP.out]
        omega
      case measure => exact hmu.out
    have hcc : ((C : Int) == (P : Int)) = false := by rw [beq_eq_false_iff_ne]; omega
    by_cases c2 : C = P + 1
    · have hz : Hid (ZRuns (leNum bs) (8 * bs.length) k most zinit (.ok s.out)) := HD.out.run _ (.fin hfit.out (by rw [hca.out, c2, HP.out]))
      have hce : ((C : Int) == (P : Int) + 1) = true := by rw [beq_iff_eq]; omega
      clear c1 c2
      go_wp2
      go_ret2
      refine ⟨.ok s.out, oa, oc, hz.out, rfl, own_monoZ HZ2.out.own (by have := HR.out; omega), HF02.out⟩
    have hce : ((C : Int) == (P : Int) + 1) = false := by rw [beq_eq_false_iff_ne]; omega
    have hni : nextN k s.rows.length = P + 2 + n := by unfold nextN; rw [← HP.out, ← Hn.out]
    have Hni := hide hni
    have hnb : n ≤ 4096 := by have := HD.out.zok.many; omega
    clear hni
    cases hro : rowOf k C s with
    | none =>
      have hz : Hid (ZRuns (leNum bs) (8 * bs.length) k most zinit (.error 4)) := HD.out.run _ (.form hfit.out (by rw [hca.out, ← HP.out]; exact c1) (by rw [hca.out, ← HP.out]; exact c2) (by rw [hca.out]; exact hro))
      unfold rowOf at hro
      rw [← HP.out] at hro
      by_cases hlt : C < P
      · rw [if_pos hlt] at hro
        cases hro
      rw [if_neg hlt] at hro
      have hlti : ¬ (C : Int) < (P : Int) := by omega
      rcases HL2.out with ⟨hl, hlv⟩ | ⟨hl, ad, c, hlv, hdr⟩
      · injection hlv with e1 e2 e3
        subst e1 e2 e3
        clear hro hlt c1 c2 hl
        go_wp2
        go_ret2
        exact Rdok.err hz.out HF02.out
      · injection hlv with e1 e2 e3
        subst e1 e2 e3
        have hgt : (P : Int) + 2 + (n : Int) < (C : Int) := by
          rw [if_neg hl, Hni.out] at hro
          by_cases h5 : P + 2 + n < C
          · omega
          exfalso
          rw [if_neg h5] at hro
          by_cases h6 : C = P + 2 + n
          · rw [if_pos h6] at hro
            cases hro
          rw [if_neg h6, List.getElem?_eq_none_iff, ← Hn.out] at hro
          omega
        clear hro hlt c1 c2 hl hdr
        go_wp2
        go_ret2
        exact Rdok.err hz.out HF02.out
    | some x =>
      obtain ⟨hx0, hxl⟩ := rowOf_some HD.out hro
      have HRlt0 : Hid (R < w2.heap.size) := by obtain ⟨sh, ho⟩ := HRF2.out.eobj; exact lt_of ho
      have HR2 : Hid (R + 1 ≤ w2.heap.size) := HRlt0.out
      have Hro := hide hro
      have Hx0 := hide hx0
      have Hxl := hide hxl
      clear hro hx0 hxl
      go_upto_block 2 with fail
      go_cut [16] from 36 to 130 (fun v16 wx => ∃ ad c, v16 = .slice (some ⟨ad, 0, none⟩) x.length c ∧ Dr wx R (.slice ra n rc) (.slice oa s.out.length oc) ad x ∧ Fr (fun _ => False) w2 wx)
      case first =>
        have hro := Hro.out
        unfold rowOf at hro
        rw [← HP.out] at hro
        by_cases hlt : C < P
        · rw [if_pos hlt] at hro
          injection hro with hro
          have Hxe := hide hro
          have hlti : (C : Int) < (P : Int) := by omega
          have hwr8 : IntKind.u8.wrap (C : Int) = (C : Int) := by rw [IntKind.wrap_u8']; omega
          have HD20 : Hid (Dr (w2.alloc (.cells #[.int .u8 (C : Int)] 5)) R (.slice ra n rc) (.slice oa s.out.length oc) w2.heap.size [C]) := by
            have hz := HZ2.out
            rw [← Hn.out] at hz
            refine Dr.new hz HRlt0.out (fun j u hu => ?_) (Nat.le_refl _) (by simp)
            refine cell_of (heap_alloc_new _ _) ?_
            simpa [cellsOf] using hu
          clear hro hlt c1 c2
          go_wp2_with fail
          go_meet
          exact ⟨w2.heap.size, 1, by rw [← Hxe.out]; rfl, by rw [← Hxe.out]; exact HD20.out, Fr.of_alloc _ _⟩
        rw [if_neg hlt] at hro
        have hlti : ¬ (C : Int) < (P : Int) := by omega
        rcases HL2.out with ⟨hl, hlv⟩ | ⟨hl, lg, lc', hlv, hdr⟩
        · rw [if_pos hl] at hro
          cases hro
        rw [if_neg hl, Hni.out] at hro
        injection hlv with e1 e2 e3
        subst e1 e3
        have HlnL : Hid (ln = s.last.length) := e2
        clear e2
        by_cases h5 : P + 2 + n < C
        · rw [if_pos h5] at hro
          cases hro
        rw [if_neg h5] at hro
        have hgt : ¬ (P : Int) + 2 + (n : Int) < (C : Int) := by omega
        by_cases h6 : C = P + 2 + n
        · rw [if_pos h6] at hro
          injection hro with hro
          have h6i : ((C : Int) == (P : Int) + 2 + (n : Int)) = true := by rw [beq_iff_eq]; omega
          obtain ⟨b0, hb0⟩ : ∃ b0, b0 = s.last.headD 0 := ⟨_, rfl⟩
          obtain ⟨LA, hLA⟩ : ∃ LA, LA = s.last := ⟨_, rfl⟩
          rw [← hb0] at hro
          rw [← hLA] at hro hl hdr HlnL hb0
          have HZ0 : Hid (Dz w2 R (.slice ra n rc) (.slice oa s.out.length oc) hs s.rows s.out) := by have h := HZ2.out; rw [← Hn.out] at h; exact h
          have hC0s : w2.cell? ⟨lg, 0, none⟩ = some (.int .u8 (b0 : Int)) := by
            obtain ⟨b, t, hbt⟩ := List.exists_cons_of_ne_nil hl
            rw [hb0, hbt]
            exact hdr.cells 0 _ (by rw [hbt]; rfl)
          have HC0 : Hid (∀ W, Fr (fun _ => False) w2 W → W.cell? ⟨lg, 0, none⟩ = some (.int .u8 (b0 : Int))) := fun W F => (cell_blk (a := ⟨lg, 0, none⟩) (F.block lg hdr.hi (fun e => e))).trans hC0s
          have HLA : Hid (∀ W, Fr (fun _ => False) w2 W → Lies W (.slice (some ⟨lg, 0, none⟩) ln lc) LA) := fun W F => lies_false (by have h := hdr.lies lc; rw [← HlnL.out] at h; exact h) F
          have hll := HD.out.ll
          rw [← hLA] at hll
          have HqL : Hid (([] : List Nat).length + LA.length ≤ 2147483648) := by show _ ≤ _; simp; omega
          have HqJ : Hid (LA.length + [b0].length ≤ 2147483648) := by show _ ≤ _; simp; omega
          have HRlt := HRlt0
          have hln0 : 0 < ln := by rw [HlnL.out]; exact List.length_pos_iff.2 hl
          have Hgo : Hid (∀ (g c : Nat) (W : World) (m : Nat), m = (LA ++ [b0]).length → Dr W R (.slice ra n rc) (.slice oa s.out.length oc) g (LA ++ [b0]) → Fr (fun _ => False) w2 W → ∃ ad c', Value.slice (some ⟨g, 0, none⟩) m c = .slice (some ⟨ad, 0, none⟩) x.length c' ∧ Dr W R (.slice ra n rc) (.slice oa s.out.length oc) ad x ∧ Fr (fun _ => False) w2 W) := by
            intro g c W m hm hd hf
            rw [← hro]
            exact ⟨g, c, by rw [hm], hd, hf⟩
          clear hro hlt c1 c2 hl hdr hb0 hLA hll h5 h6
          go_upto_region 24 with fail
          refine wp_region_held_drew (S := fun W' => W'.cell? ⟨lg, 0, none⟩ = some (.int .u8 (b0 : Int))) (by kernel_rfl) hC0s (fun hHeld => ?_)
          obtain ⟨wz, hwz⟩ : ∃ W, W = w2.drew := ⟨_, rfl⟩
          rw [← hwz] at hHeld ⊢
          have HFc0 : Hid (Fr (fun _ => False) w2 wz) := by rw [hwz]; exact Fr.of_drewN w2 1
          clear hwz
          refine wpAnyH_take (i := 0) (v := ?v0_1) rfl (by kernel_rfl) (by kernel_rfl) (by kernel_rfl) (fun _ _ _ h => h) (Or.inl ⟨by rfl, ?hy0_1⟩) hHeld ?rest0_1
          case hy0_1 => (intro W hSw; (try dsimp only at hSw); go_simp; all_goals (with_reducible rfl))
          change wpAnyH _ _ _ _ _ _ _ (Act.put _ (some 85) _) _
          simp only [Act.put, List.setIfInBounds_toArray, List.set_cons_zero, List.set_cons_succ]
          refine wpAnyH_take (i := 2) (v := ?v2_1) rfl (by kernel_rfl) (by kernel_rfl) (by kernel_rfl) (fun _ _ _ h => h) (Or.inl ⟨by rfl, ?hy2_1⟩) hHeld ?rest2_1
          case hy2_1 => (intro W hSw; (try dsimp only at hSw); go_simp; all_goals (with_reducible rfl))
          change wpAnyH _ _ _ _ _ _ _ (Act.put _ (some 87) _) _
          simp only [Act.put, List.setIfInBounds_toArray, List.set_cons_zero, List.set_cons_succ]
          refine wpAnyH_take (i := 3) (v := ?v3_2) rfl (by kernel_rfl) (by kernel_rfl) (by kernel_rfl) (fun _ _ _ h => h) (Or.inl ⟨by rfl, ?hy3_2⟩) hHeld ?rest3_2
          case hy3_2 => (intro W hSw; (try dsimp only at hSw); go_simp; all_goals (with_reducible rfl))
          change wpAnyH _ _ _ _ _ _ _ (Act.put _ (some 88) _) _
          simp only [Act.put, List.setIfInBounds_toArray, List.set_cons_zero, List.set_cons_succ]
          refine wpAnyH_take (i := 4) (v := ?v4_3) rfl (by kernel_rfl) (by kernel_rfl) (by kernel_rfl) (fun _ _ _ h => h) (Or.inl ⟨by rfl, ?hy4_3⟩) hHeld ?rest4_3
          case hy4_3 => (intro W hSw; (try dsimp only at hSw); go_simp; all_goals (with_reducible rfl))
          change wpAnyH _ _ _ _ _ _ _ (Act.put _ (some 89) _) _
          simp only [Act.put, List.setIfInBounds_toArray, List.set_cons_zero, List.set_cons_succ]
          refine wpAnyH_ready (rs := [1, 5]) (by kernel_rfl) (by simp) ?_
          refine (AllReadyH.cons rfl (fun K hK => ?_) (AllReadyH.cons rfl (fun K hK => ?_) AllReadyH.nil))
          · skip
            try simp only [List.getElem_toArray, List.getElem_cons_succ, List.getElem_cons_zero]
            rw [if_pos (by rfl)]
            refine wp_app (.const (.slice none 0 0)) (.tmp 85) (by rfl) wz.heap.size (.slice none 0 0) [] (by rfl) (World.ownsRow_nil _ _ _ _) (.slice (some ⟨lg, 0, none⟩) ln lc) LA (by rfl) (HLA.out _ HFc0.out) HqL.out (Nat.le_refl _) ?_
            intro aA cA u1 hO hF _
            have hO2 : OwnB u1 wz.heap.size (.slice aA ln cA) LA := by have h := hO; rw [List.length_nil, Nat.zero_add, List.nil_append, ← HlnL.out] at h; exact h
            rw [List.length_nil, Nat.zero_add, ← HlnL.out]
            have HFc1 := hide (HFc0.out.join (hF.mono fun _ _ e => by cases e))
            obtain ⟨eA, heA⟩ : ∃ e, e = wz.heap.size := ⟨_, rfl⟩
            rw [← heA] at hO2
            have heA0 : w2.heap.size ≤ eA := by rw [heA]; exact HFc0.out.size
            have heAs : eA ≤ u1.heap.size := by rw [heA]; exact hF.size
            have HO := hide hO2
            clear hO hO2 hF heA
            refine hK.out _ _ (HC0.out _ HFc1.out) (fun hHeld => ?_)
            clear hK K
            refine wpAnyH_ready (rs := [5]) (by kernel_rfl) (by simp) ?_
            refine (AllReadyH.cons rfl (fun K hK => ?_) AllReadyH.nil)
            try simp only [List.getElem_toArray, List.getElem_cons_succ, List.getElem_cons_zero]
            go_simp
            obtain ⟨u2, hu⟩ : ∃ W, W = u1.alloc (.cells (cellsOf [b0]).toArray 5) := ⟨_, rfl⟩
            have hu2 : u1.alloc (.cells #[.int .u8 (b0 : Int)] 5) = u2 := hu.symm
            obtain ⟨e5, he5⟩ : ∃ e, e = u1.heap.size := ⟨_, rfl⟩
            rw [hu2, ← he5]
            have FA2 : Hid (Fr (fun _ => False) u1 u2) := by rw [hu]; exact Fr.of_alloc _ _
            have HL5 : Hid (Lies u2 (.slice (some ⟨e5, 0, none⟩) 1 1) [b0]) := by rw [hu, he5]; exact lies_lit u1 [b0] 1
            have HFc2 := hide (HFc1.out.join FA2.out)
            have HO := hide (show OwnB u2 eA (.slice aA ln cA) LA from ownsRow_fr HO.out fun j hj => FA2.out.block j (World.ownsRow.lt HO.out j hj).2 (fun h => h))
            have heAs := Nat.le_trans heAs FA2.out.size
            clear hu hu2 he5
            refine hK.out _ _ (HC0.out _ HFc2.out) (fun hHeld => ?_)
            clear hK K
            refine wpAnyH_ready (rs := [6]) (by kernel_rfl) (by simp) ?_
            refine (AllReadyH.cons rfl (fun K hK => ?_) AllReadyH.nil)
            try simp only [List.getElem_toArray, List.getElem_cons_succ, List.getElem_cons_zero]
            rw [if_pos (by rfl)]
            refine wp_app (.tmp 86) (.tmp 90) (by rfl) eA (.slice aA ln cA) LA (by rfl) HO.out (.slice (some ⟨e5, 0, none⟩) 1 1) [b0] (by rfl) HL5.out HqJ.out heAs ?_
            intro aJ cJ u3 hO hF _
            have hO2 : OwnB u3 eA (.slice aJ (ln + 1) cJ) (LA ++ [b0]) := by have h := hO; rw [List.length_singleton, ← HlnL.out] at h; exact h
            rw [List.length_singleton, ← HlnL.out]
            have HFc3 := hide (frJ HFc2.out hF fun j hj => Nat.le_trans heA0 (World.ownsRow.lt HO.out j hj).1)
            obtain ⟨gJ, cJ2, hvJ, hdJ⟩ := Dr.of_own HZ0.out HRlt.out heA0 hO2 (by simp)
            injection hvJ with e1 e2 e3
            subst e1 e3
            have HeJ := hide e2
            have HDJ := hide hdJ
            clear hO hO2 hF e2 hdJ HO HL5
            refine hK.out _ _ (HC0.out _ HFc3.out) (fun hHeld => ?_)
            clear hK K
            refine wpAnyH_take (i := 7) (v := ?v7_4) rfl (by kernel_rfl) (by kernel_rfl) (by kernel_rfl) (fun _ _ _ h => h) (Or.inl ⟨by rfl, ?hy7_4⟩) hHeld ?rest7_4
            case hy7_4 => (intro W hSw; (try dsimp only at hSw); go_simp; all_goals (with_reducible rfl))
            change wpAnyH _ _ _ _ _ _ _ (Act.put _ (some 16) _) _
            simp only [Act.put, List.setIfInBounds_toArray, List.set_cons_zero, List.set_cons_succ]
            refine wpAnyH_done (by kernel_rfl) ?_ _
            go_wp2_with fail
            go_meet
            exact Hgo.out _ _ _ _ HeJ.out HDJ.out HFc3.out
          · skip
            try simp only [List.getElem_toArray, List.getElem_cons_succ, List.getElem_cons_zero]
            go_simp
            obtain ⟨u1, hu⟩ : ∃ W, W = wz.alloc (.cells (cellsOf [b0]).toArray 5) := ⟨_, rfl⟩
            have hu2 : wz.alloc (.cells #[.int .u8 (b0 : Int)] 5) = u1 := hu.symm
            obtain ⟨e5, he5⟩ : ∃ e, e = wz.heap.size := ⟨_, rfl⟩
            rw [hu2, ← he5]
            have FA1 : Hid (Fr (fun _ => False) wz u1) := by rw [hu]; exact Fr.of_alloc _ _
            have HL5 : Hid (Lies u1 (.slice (some ⟨e5, 0, none⟩) 1 1) [b0]) := by rw [hu, he5]; exact lies_lit wz [b0] 1
            have HFc1 := hide (HFc0.out.join FA1.out)
            clear hu hu2 he5
            refine hK.out _ _ (HC0.out _ HFc1.out) (fun hHeld => ?_)
            clear hK K
            refine wpAnyH_ready (rs := [1]) (by kernel_rfl) (by simp) ?_
            refine (AllReadyH.cons rfl (fun K hK => ?_) AllReadyH.nil)
            try simp only [List.getElem_toArray, List.getElem_cons_succ, List.getElem_cons_zero]
            rw [if_pos (by rfl)]
            refine wp_app (.const (.slice none 0 0)) (.tmp 85) (by rfl) u1.heap.size (.slice none 0 0) [] (by rfl) (World.ownsRow_nil _ _ _ _) (.slice (some ⟨lg, 0, none⟩) ln lc) LA (by rfl) (HLA.out _ HFc1.out) HqL.out (Nat.le_refl _) ?_
            intro aA cA u2 hO hF _
            have hO2 : OwnB u2 u1.heap.size (.slice aA ln cA) LA := by have h := hO; rw [List.length_nil, Nat.zero_add, List.nil_append, ← HlnL.out] at h; exact h
            rw [List.length_nil, Nat.zero_add, ← HlnL.out]
            have HFc2 := hide (HFc1.out.join (hF.mono fun _ _ e => by cases e))
            obtain ⟨eA, heA⟩ : ∃ e, e = u1.heap.size := ⟨_, rfl⟩
            rw [← heA] at hO2
            have heA0 : w2.heap.size ≤ eA := by rw [heA]; exact HFc1.out.size
            have heAs : eA ≤ u2.heap.size := by rw [heA]; exact hF.size
            have HL5 := hide (lies_frS HL5.out hF fun _ _ _ _ _ e => by cases e)
            have HO := hide hO2
            clear hO hO2 hF heA
            refine hK.out _ _ (HC0.out _ HFc2.out) (fun hHeld => ?_)
            clear hK K
            refine wpAnyH_ready (rs := [6]) (by kernel_rfl) (by simp) ?_
            refine (AllReadyH.cons rfl (fun K hK => ?_) AllReadyH.nil)
            try simp only [List.getElem_toArray, List.getElem_cons_succ, List.getElem_cons_zero]
            rw [if_pos (by rfl)]
            refine wp_app (.tmp 86) (.tmp 90) (by rfl) eA (.slice aA ln cA) LA (by rfl) HO.out (.slice (some ⟨e5, 0, none⟩) 1 1) [b0] (by rfl) HL5.out HqJ.out heAs ?_
            intro aJ cJ u3 hO hF _
            have hO2 : OwnB u3 eA (.slice aJ (ln + 1) cJ) (LA ++ [b0]) := by have h := hO; rw [List.length_singleton, ← HlnL.out] at h; exact h
            rw [List.length_singleton, ← HlnL.out]
            have HFc3 := hide (frJ HFc2.out hF fun j hj => Nat.le_trans heA0 (World.ownsRow.lt HO.out j hj).1)
            obtain ⟨gJ, cJ2, hvJ, hdJ⟩ := Dr.of_own HZ0.out HRlt.out heA0 hO2 (by simp)
            injection hvJ with e1 e2 e3
            subst e1 e3
            have HeJ := hide e2
            have HDJ := hide hdJ
            clear hO hO2 hF e2 hdJ HO HL5
            refine hK.out _ _ (HC0.out _ HFc3.out) (fun hHeld => ?_)
            clear hK K
            refine wpAnyH_take (i := 7) (v := ?v7_5) rfl (by kernel_rfl) (by kernel_rfl) (by kernel_rfl) (fun _ _ _ h => h) (Or.inl ⟨by rfl, ?hy7_5⟩) hHeld ?rest7_5
            case hy7_5 => (intro W hSw; (try dsimp only at hSw); go_simp; all_goals (with_reducible rfl))
            change wpAnyH _ _ _ _ _ _ _ (Act.put _ (some 16) _) _
            simp only [Act.put, List.setIfInBounds_toArray, List.set_cons_zero, List.set_cons_succ]
            refine wpAnyH_done (by kernel_rfl) ?_ _
            go_wp2_with fail
            go_meet
            exact Hgo.out _ _ _ _ HeJ.out HDJ.out HFc3.out
        · rw [if_neg h6] at hro
          have h6i : ((C : Int) == (P : Int) + 2 + (n : Int)) = false := by rw [beq_eq_false_iff_ne]; omega
          obtain ⟨i, hi⟩ : ∃ i, i = C - P - 2 := ⟨_, rfl⟩
          rw [← hi] at hro
          have hin : i < n := by omega
          have hii : (C : Int) - (P : Int) - 2 = (i : Int) := by omega
          obtain ⟨ad, c, hh, hd⟩ := HZ2.out.at_ i x hro
          rw [← Hn.out] at hd
          have hrw := HZ2.out.rws
          obtain ⟨rg, rfl, hrc⟩ : ∃ rg, ra = some ⟨rg, 0, none⟩ ∧ w2.cell? ⟨rg, i, none⟩ = some (.slice (some ⟨ad, 0, none⟩) x.length c) := by
            rcases hrw.2 with ⟨_, e⟩ | ⟨g, cap, cur, e, _⟩
            · have := HZ2.out.hl
              rw [e, ← Hn.out] at this
              omega
            · have e1 := (Value.slice.inj e).1
              refine ⟨g, e1, ?_⟩
              have := World.ownsRow.cells hrw (g := g) (by rw [e]; rfl) i _ hh
              first | exact this | (rw [← add_at]; exact this)
          have HD20 := hide hd
          clear hro hlt c1 c2 hl hdr hi hh hd hrw h5 h6
          go_wp2_with fail
          go_meet
          exact ⟨ad, c, rfl, HD20.out, Fr.refl _ _⟩
      case rest =>
        obtain ⟨xg, xc, rfl, hdx, hFc⟩ := hcut
        have HDXc := hide hdx
        have HZc := hide (HZ2.out.fr hFc (fun _ _ h => h))
        have HRFc := hide (HRF2.out.keepR hFc (fun _ h => h.elim) Hsb.out HRlt0.out)
        have HF0c := hide (HF02.out.join hFc)
        have HRc : Hid (R + 1 ≤ wc.heap.size) := Nat.le_trans HRlt0.out hFc.size
        have HLc : Hid ((s.last = [] ∧ Value.slice la ln lc = .slice none 0 0) ∨ (s.last ≠ [] ∧ ∃ ad c, Value.slice la ln lc = .slice (some ⟨ad, 0, none⟩) s.last.length c ∧ Dr wc R (.slice ra n rc) (.slice oa s.out.length oc) ad s.last)) := by
          rcases HL2.out with h | ⟨h, ad, c, h1, h2⟩
          · exact Or.inl h
          · exact Or.inr ⟨h, ad, c, h1, h2.fr hFc (fun h => h) Grown.rfl' Grown.rfl'⟩
        have hol := HD.out.len
        have hxl := Hxl.out
        have hfit2 : s.p + W ≤ 8 * bs.length := by have := hfit.out; rw [← Hn.out, ← HW.out] at this; exact this
        have Hmu : Hid (∀ w', Rf w' R (.slice sa sn sc) bs (s.p + W) false → 8 * bs.length + 12 - cellI w' R 1 < 8 * bs.length + 12 - cellI wr R 1) := by
          intro w' h
          rw [hcr.out, cellR h]
          omega
        clear hdx hFc hfit2
        by_cases hfull : most < s.out.length + x.length
        · have hz : Hid (ZRuns (leNum bs) (8 * bs.length) k most zinit (.error 6)) := HD.out.run _ (.full hfit.out (by rw [hca.out, ← HP.out]; exact c1) (by rw [hca.out, ← HP.out]; exact c2) (by rw [hca.out]; exact Hro.out) hfull)
          have hgt : (most : Int) - (s.out.length : Int) < (x.length : Int) := by omega
          clear hfull
          go_wp2_with fail
          go_ret2
          exact Rdok.err hz.out HF0c.out
        have hgt : ¬ (most : Int) - (s.out.length : Int) < (x.length : Int) := by omega
        have Hfit : Hid (s.out.length + x.length ≤ most) := by show _ ≤ _; omega
        have HQ : Hid (s.out.length + x.length ≤ 2147483648) := by show _ ≤ _; omega
        have HLx : Hid (Lies wc (.slice (some ⟨xg, 0, none⟩) x.length xc) x) := HDXc.out.lies xc
        have Hc1 : Hid (codeAt (leNum bs) k s ≠ 2 ^ k) := by show _ ≠ _; rw [hca.out, ← HP.out]; exact c1
        have Hc2 : Hid (codeAt (leNum bs) k s ≠ 2 ^ k + 1) := by show _ ≠ _; rw [hca.out, ← HP.out]; exact c2
        clear hfull c1 c2
        go_upto_region 28 with (at_builtin; go_must (refine wpList_app rfl (.tmp 99) (.tmp 100) rfl (R + 1) (.slice oa s.out.length oc) s.out rfl HZc.out.own (.slice (some ⟨xg, 0, none⟩) x.length xc) x rfl HLx.out HQ.out HRc.out ?_); intro a4 c4 w4 hO4 hF4 hN4
                                have HO4 := hide hO4
                                have HF4 := hide hF4
                                have HN4 := hide hN4
                                clear hO4 hF4 hN4)
        have HG4 := hide (Grown.of_new HN4.out)
        have HZ4 := hide (HZc.out.put HF4.out HO4.out HG4.out)
        have HDX : Hid (Dr w4 R (.slice ra n rc) (.slice a4 (s.out.length + x.length) c4) xg x) := HDXc.out.fr HF4.out HDXc.out.oo Grown.rfl' HG4.out
        have HRF4 := hide (HRFc.out.keepR HF4.out (fun j hj => (World.ownsRow.lt HZc.out.own j hj).1) Hsb.out HRc.out)
        have HF04 := hide (frJ HF0c.out HF4.out fun j hj => by have := (World.ownsRow.lt HZc.out.own j hj).1; have := HR.out; omega)
        have HRlt : Hid (R < w4.heap.size) := Nat.le_trans HRc.out HF4.out.size
        have HL4 : Hid ((s.last = [] ∧ Value.slice la ln lc = .slice none 0 0) ∨ (s.last ≠ [] ∧ ∃ ad c, Value.slice la ln lc = .slice (some ⟨ad, 0, none⟩) s.last.length c ∧ Dr w4 R (.slice ra n rc) (.slice a4 (s.out.length + x.length) c4) ad s.last)) := by
          rcases HLc.out with h | ⟨h, ad, c, h1, h2⟩
          · exact Or.inl h
          · exact Or.inr ⟨h, ad, c, h1, h2.fr HF4.out h2.oo Grown.rfl' HG4.out⟩
        by_cases hmk : s.last ≠ [] ∧ nextN k s.rows.length < 4096
        · rcases HL4.out with ⟨hl, _⟩ | ⟨hl, lg, lc', hlv, hdr⟩
          · exact absurd hl hmk.1
          injection hlv with e1 e2 e3
          subst e1 e3
          have HlnL0 : Hid (ln = s.last.length) := e2
          clear e2
          have hN : (P : Int) + 2 + (n : Int) < 4096 := by have := hmk.2; rw [Hni.out] at this; omega
          have Hmade : Hid (made k s x = s.rows ++ [s.last ++ [x.headD 0]]) := by show _ = _; unfold made; rw [if_pos hmk]
          obtain ⟨b0, hb0⟩ : ∃ b0, b0 = x.headD 0 := ⟨_, rfl⟩
          obtain ⟨LA, hLA⟩ : ∃ LA, LA = s.last := ⟨_, rfl⟩
          have HlnL : Hid (ln = LA.length) := by rw [hLA]; exact HlnL0
          rw [← hb0, ← hLA] at Hmade
          rw [← hLA] at hdr
          have hll := HD.out.ll
          rw [← hLA] at hll
          have HZ0 : Hid (Dz w4 R (.slice ra n rc) (.slice a4 (s.out.length + x.length) c4) hs s.rows (s.out ++ x)) := by have h := HZ4.out; rw [← Hn.out] at h; exact h
          have hC0s : w4.cell? ⟨xg, 0, none⟩ = some (.int .u8 (b0 : Int)) := by
            obtain ⟨b, t, hbt⟩ := List.exists_cons_of_ne_nil Hx0.out
            rw [hb0, hbt]
            exact HDX.out.cells 0 _ (by rw [hbt]; rfl)
          have HC0 : Hid (∀ W, Fr (fun _ => False) w4 W → W.cell? ⟨xg, 0, none⟩ = some (.int .u8 (b0 : Int))) := fun W F => (cell_blk (a := ⟨xg, 0, none⟩) (F.block xg HDX.out.hi (fun e => e))).trans hC0s
          have HLA : Hid (∀ W, Fr (fun _ => False) w4 W → Lies W (.slice (some ⟨lg, 0, none⟩) ln lc) LA) := fun W F => lies_false (by have h := hdr.lies lc; rw [← HlnL.out] at h; exact h) F
          have HqL : Hid (([] : List Nat).length + LA.length ≤ 2147483648) := by show _ ≤ _; simp; omega
          have HqJ : Hid (LA.length + [b0].length ≤ 2147483648) := by show _ ≤ _; simp; omega
          have HorX : Hid ((Value.slice ra n rc).ownBlock ≠ some xg) := HDX.out.or
          have Hhn : Hid (hs.length = n) := by show _ = _; rw [HZ4.out.hl, ← Hn.out]
          have Hhs : Hid (hs.length ≤ 100000) := by show _ ≤ _; rw [Hhn.out]; omega
          have hx0 : 0 < x.length := List.length_pos_iff.2 Hx0.out
          clear hmk hl hdr hb0 hLA hll
          go_upto_region 29 with fail
          go_cut [10] from 36 to 130 (fun v10 wx => ∃ a9 c9 gJ cJ, v10 = .slice a9 (n + 1) c9 ∧ ln + 1 = (LA ++ [b0]).length ∧ Dz wx R (.slice a9 (n + 1) c9) (.slice a4 (s.out.length + x.length) c4) (hs ++ [.slice (some ⟨gJ, 0, none⟩) (LA ++ [b0]).length cJ]) (s.rows ++ [LA ++ [b0]]) (s.out ++ x) ∧ Dr wx R (.slice a9 (n + 1) c9) (.slice a4 (s.out.length + x.length) c4) xg x ∧ Fr (fun _ => False) w wx ∧ Rf wx R (.slice sa sn sc) bs (s.p + W) false)
          case first =>
            refine wp_region_held_drew (S := fun W' => W'.cell? ⟨xg, 0, none⟩ = some (.int .u8 (b0 : Int))) (by kernel_rfl) hC0s (fun hHeld => ?_)
            obtain ⟨wz, hwz⟩ : ∃ W, W = w4.drew := ⟨_, rfl⟩
            rw [← hwz] at hHeld ⊢
            have HFc0 : Hid (Fr (fun _ => False) w4 wz) := by rw [hwz]; exact Fr.of_drewN w4 1
            clear hwz
            refine wpAnyH_take (i := 0) (v := ?v0_6) rfl (by kernel_rfl) (by kernel_rfl) (by kernel_rfl) (fun _ _ _ h => h) (Or.inl ⟨by rfl, ?hy0_6⟩) hHeld ?rest0_6
            case hy0_6 => (intro W hSw; (try dsimp only at hSw); go_simp; all_goals (with_reducible rfl))
            change wpAnyH _ _ _ _ _ _ _ (Act.put _ (some 108) _) _
            simp only [Act.put, List.setIfInBounds_toArray, List.set_cons_zero, List.set_cons_succ]
            refine wpAnyH_take (i := 1) (v := ?v1_6) rfl (by kernel_rfl) (by kernel_rfl) (by kernel_rfl) (fun _ _ _ h => h) (Or.inl ⟨by rfl, ?hy1_6⟩) hHeld ?rest1_6
            case hy1_6 => (intro W hSw; (try dsimp only at hSw); go_simp; all_goals (with_reducible rfl))
            change wpAnyH _ _ _ _ _ _ _ (Act.put _ (some 109) _) _
            simp only [Act.put, List.setIfInBounds_toArray, List.set_cons_zero, List.set_cons_succ]
            refine wpAnyH_take (i := 3) (v := ?v3_6) rfl (by kernel_rfl) (by kernel_rfl) (by kernel_rfl) (fun _ _ _ h => h) (Or.inl ⟨by rfl, ?hy3_6⟩) hHeld ?rest3_6
            case hy3_6 => (intro W hSw; (try dsimp only at hSw); go_simp; all_goals (with_reducible rfl))
            change wpAnyH _ _ _ _ _ _ _ (Act.put _ (some 111) _) _
            simp only [Act.put, List.setIfInBounds_toArray, List.set_cons_zero, List.set_cons_succ]
            refine wpAnyH_take (i := 4) (v := ?v4_7) rfl (by kernel_rfl) (by kernel_rfl) (by kernel_rfl) (fun _ _ _ h => h) (Or.inl ⟨by rfl, ?hy4_7⟩) hHeld ?rest4_7
            case hy4_7 => (intro W hSw; (try dsimp only at hSw); go_simp; all_goals (with_reducible rfl))
            change wpAnyH _ _ _ _ _ _ _ (Act.put _ (some 112) _) _
            simp only [Act.put, List.setIfInBounds_toArray, List.set_cons_zero, List.set_cons_succ]
            refine wpAnyH_take (i := 5) (v := ?v5_8) rfl (by kernel_rfl) (by kernel_rfl) (by kernel_rfl) (fun _ _ _ h => h) (Or.inl ⟨by rfl, ?hy5_8⟩) hHeld ?rest5_8
            case hy5_8 => (intro W hSw; (try dsimp only at hSw); go_simp; all_goals (with_reducible rfl))
            change wpAnyH _ _ _ _ _ _ _ (Act.put _ (some 113) _) _
            simp only [Act.put, List.setIfInBounds_toArray, List.set_cons_zero, List.set_cons_succ]
            refine wpAnyH_ready (rs := [2, 6]) (by kernel_rfl) (by simp) ?_
            refine (AllReadyH.cons rfl (fun K hK => ?_) (AllReadyH.cons rfl (fun K hK => ?_) AllReadyH.nil))
            · skip
              try simp only [List.getElem_toArray, List.getElem_cons_succ, List.getElem_cons_zero]
              rw [if_pos (by rfl)]
              refine wp_app (.const (.slice none 0 0)) (.tmp 109) (by rfl) wz.heap.size (.slice none 0 0) [] (by rfl) (World.ownsRow_nil _ _ _ _) (.slice (some ⟨lg, 0, none⟩) ln lc) LA (by rfl) (HLA.out _ HFc0.out) HqL.out (Nat.le_refl _) ?_
              intro aA cA u1 hO hF _
              have hO2 : OwnB u1 wz.heap.size (.slice aA ln cA) LA := by have h := hO; rw [List.length_nil, Nat.zero_add, List.nil_append, ← HlnL.out] at h; exact h
              rw [List.length_nil, Nat.zero_add, ← HlnL.out]
              have HFc1 := hide (HFc0.out.join (hF.mono fun _ _ e => by cases e))
              obtain ⟨eA, heA⟩ : ∃ e, e = wz.heap.size := ⟨_, rfl⟩
              rw [← heA] at hO2
              have heA0 : w4.heap.size ≤ eA := by rw [heA]; exact HFc0.out.size
              have heAs : eA ≤ u1.heap.size := by rw [heA]; exact hF.size
              have HO := hide hO2
              clear hO hO2 hF heA
              refine hK.out _ _ (HC0.out _ HFc1.out) (fun hHeld => ?_)
              clear hK K
              refine wpAnyH_ready (rs := [6]) (by kernel_rfl) (by simp) ?_
              refine (AllReadyH.cons rfl (fun K hK => ?_) AllReadyH.nil)
              try simp only [List.getElem_toArray, List.getElem_cons_succ, List.getElem_cons_zero]
              go_simp
              obtain ⟨u2, hu⟩ : ∃ W, W = u1.alloc (.cells (cellsOf [b0]).toArray 5) := ⟨_, rfl⟩
              have hu2 : u1.alloc (.cells #[.int .u8 (b0 : Int)] 5) = u2 := hu.symm
              obtain ⟨e5, he5⟩ : ∃ e, e = u1.heap.size := ⟨_, rfl⟩
              rw [hu2, ← he5]
              have FA2 : Hid (Fr (fun _ => False) u1 u2) := by rw [hu]; exact Fr.of_alloc _ _
              have HL5 : Hid (Lies u2 (.slice (some ⟨e5, 0, none⟩) 1 1) [b0]) := by rw [hu, he5]; exact lies_lit u1 [b0] 1
              have HFc2 := hide (HFc1.out.join FA2.out)
              have HO := hide (show OwnB u2 eA (.slice aA ln cA) LA from ownsRow_fr HO.out fun j hj => FA2.out.block j (World.ownsRow.lt HO.out j hj).2 (fun h => h))
              have heAs := Nat.le_trans heAs FA2.out.size
              clear hu hu2 he5
              refine hK.out _ _ (HC0.out _ HFc2.out) (fun hHeld => ?_)
              clear hK K
              refine wpAnyH_ready (rs := [7]) (by kernel_rfl) (by simp) ?_
              refine (AllReadyH.cons rfl (fun K hK => ?_) AllReadyH.nil)
              try simp only [List.getElem_toArray, List.getElem_cons_succ, List.getElem_cons_zero]
              rw [if_pos (by rfl)]
              refine wp_app (.tmp 110) (.tmp 114) (by rfl) eA (.slice aA ln cA) LA (by rfl) HO.out (.slice (some ⟨e5, 0, none⟩) 1 1) [b0] (by rfl) HL5.out HqJ.out heAs ?_
              intro aJ cJ u3 hO hF _
              have hO2 : OwnB u3 eA (.slice aJ (ln + 1) cJ) (LA ++ [b0]) := by have h := hO; rw [List.length_singleton, ← HlnL.out] at h; exact h
              rw [List.length_singleton, ← HlnL.out]
              have HFc3 := hide (frJ HFc2.out hF fun j hj => Nat.le_trans heA0 (World.ownsRow.lt HO.out j hj).1)
              obtain ⟨gJ, cJ2, hvJ, hdJ⟩ := Dr.of_own HZ0.out HRlt.out heA0 hO2 (by simp)
              injection hvJ with e1 e2 e3
              subst e1 e3
              have HeJ := hide e2
              have HDJ := hide hdJ
              clear hO hO2 hF e2 hdJ HO HL5
              refine hK.out _ _ (HC0.out _ HFc3.out) (fun hHeld => ?_)
              clear hK K
              refine wpAnyH_ready (rs := [8]) (by kernel_rfl) (by simp) ?_
              refine (AllReadyH.cons rfl (fun K hK => ?_) AllReadyH.nil)
              try simp only [List.getElem_toArray, List.getElem_cons_succ, List.getElem_cons_zero]
              go_simp
              obtain ⟨u4, hu⟩ : ∃ W, W = u3.alloc (.cells #[.slice (some ⟨gJ, 0, none⟩) (ln + 1) cJ] 22) := ⟨_, rfl⟩
              obtain ⟨e8, he8⟩ : ∃ e, e = u3.heap.size := ⟨_, rfl⟩
              rw [← hu, ← he8]
              have FA4 : Hid (Fr (fun _ => False) u3 u4) := by rw [hu]; exact Fr.of_alloc _ _
              have HC8 : Hid (u4.cell? ⟨e8, 0, none⟩ = some (.slice (some ⟨gJ, 0, none⟩) (ln + 1) cJ)) := by rw [hu, he8]; exact cell_of (heap_alloc_new _ _) rfl
              have HFc4 := hide (HFc3.out.join FA4.out)
              have HDJ := hide (HDJ.out.fr FA4.out (fun h => h) Grown.rfl' Grown.rfl')
              have HZ8 := hide (HZ0.out.fr HFc4.out (fun _ _ h => h))
              have hs8 : R + 1 ≤ u4.heap.size := Nat.le_trans HRlt.out HFc4.out.size
              clear hu he8
              refine hK.out _ _ (HC0.out _ HFc4.out) (fun hHeld => ?_)
              clear hK K
              refine wpAnyH_ready (rs := [9]) (by kernel_rfl) (by simp) ?_
              refine (AllReadyH.cons rfl (fun K hK => ?_) AllReadyH.nil)
              try simp only [List.getElem_toArray, List.getElem_cons_succ, List.getElem_cons_zero]
              rw [if_pos (by rfl)]
              refine wp_appS (.tmp 108) (.tmp 116) (by rfl) (R + 1) (.slice ra n rc) hs (by rfl) HZ8.out.rws ⟨e8, 0, none⟩ 1 (.slice (some ⟨gJ, 0, none⟩) (ln + 1) cJ) (by rfl) (by rfl) HC8.out Hhs.out hs8 ?_
              intro a9 c9 u5 hO hF hN
              have hK9 : u5.cell? ⟨xg, 0, none⟩ = some (.int .u8 (b0 : Int)) := (cell_blk (a := ⟨xg, 0, none⟩) (hF.block xg (cell_lt hHeld) HorX.out)).trans hHeld
              rw [Hhn.out]
              rw [Hhn.out] at hN hO
              have HZ9 := hide (HZ8.out.push hF HDJ.out (c := cJ) (by rw [Hhn.out, ← HeJ.out]; exact hO) (Grown.of_new hN))
              have HDX9 := hide ((HDX.out.fr HFc4.out (fun h => h) Grown.rfl' Grown.rfl').fr hF HDX.out.or (Grown.of_new hN) Grown.rfl')
              have HF9 := hide (frJ (HF04.out.join HFc4.out) hF fun j hj => by have := (World.ownsRow.lt HZ8.out.rws j hj).1; have := HR.out; omega)
              have HRF9 := hide ((HRF4.out.keepR HFc4.out (fun _ h => h.elim) Hsb.out HRlt.out).keepR hF (fun j hj => (World.ownsRow.lt HZ8.out.rws j hj).1) Hsb.out hs8)
              clear hO hF hN
              refine hK.out _ _ hK9 (fun hHeld => ?_)
              clear hK K
              refine wpAnyH_take (i := 10) (v := ?v10_9) rfl (by kernel_rfl) (by kernel_rfl) (by kernel_rfl) (fun _ _ _ h => h) (Or.inl ⟨by rfl, ?hy10_9⟩) hHeld ?rest10_9
              case hy10_9 => (intro W hSw; (try dsimp only at hSw); go_simp; all_goals (with_reducible rfl))
              change wpAnyH _ _ _ _ _ _ _ (Act.put _ (some 10) _) _
              simp only [Act.put, List.setIfInBounds_toArray, List.set_cons_zero, List.set_cons_succ]
              refine wpAnyH_done (by kernel_rfl) ?_ _
              go_wp2_with fail
              go_meet
              exact ⟨a9, c9, gJ, cJ, rfl, HeJ.out, HZ9.out, HDX9.out, HF9.out, HRF9.out⟩
            · skip
              try simp only [List.getElem_toArray, List.getElem_cons_succ, List.getElem_cons_zero]
              go_simp
              obtain ⟨u1, hu⟩ : ∃ W, W = wz.alloc (.cells (cellsOf [b0]).toArray 5) := ⟨_, rfl⟩
              have hu2 : wz.alloc (.cells #[.int .u8 (b0 : Int)] 5) = u1 := hu.symm
              obtain ⟨e5, he5⟩ : ∃ e, e = wz.heap.size := ⟨_, rfl⟩
              rw [hu2, ← he5]
              have FA1 : Hid (Fr (fun _ => False) wz u1) := by rw [hu]; exact Fr.of_alloc _ _
              have HL5 : Hid (Lies u1 (.slice (some ⟨e5, 0, none⟩) 1 1) [b0]) := by rw [hu, he5]; exact lies_lit wz [b0] 1
              have HFc1 := hide (HFc0.out.join FA1.out)
              clear hu hu2 he5
              refine hK.out _ _ (HC0.out _ HFc1.out) (fun hHeld => ?_)
              clear hK K
              refine wpAnyH_ready (rs := [2]) (by kernel_rfl) (by simp) ?_
              refine (AllReadyH.cons rfl (fun K hK => ?_) AllReadyH.nil)
              try simp only [List.getElem_toArray, List.getElem_cons_succ, List.getElem_cons_zero]
              rw [if_pos (by rfl)]
              refine wp_app (.const (.slice none 0 0)) (.tmp 109) (by rfl) u1.heap.size (.slice none 0 0) [] (by rfl) (World.ownsRow_nil _ _ _ _) (.slice (some ⟨lg, 0, none⟩) ln lc) LA (by rfl) (HLA.out _ HFc1.out) HqL.out (Nat.le_refl _) ?_
              intro aA cA u2 hO hF _
              have hO2 : OwnB u2 u1.heap.size (.slice aA ln cA) LA := by have h := hO; rw [List.length_nil, Nat.zero_add, List.nil_append, ← HlnL.out] at h; exact h
              rw [List.length_nil, Nat.zero_add, ← HlnL.out]
              have HFc2 := hide (HFc1.out.join (hF.mono fun _ _ e => by cases e))
              obtain ⟨eA, heA⟩ : ∃ e, e = u1.heap.size := ⟨_, rfl⟩
              rw [← heA] at hO2
              have heA0 : w4.heap.size ≤ eA := by rw [heA]; exact HFc1.out.size
              have heAs : eA ≤ u2.heap.size := by rw [heA]; exact hF.size
              have HL5 := hide (lies_frS HL5.out hF fun _ _ _ _ _ e => by cases e)
              have HO := hide hO2
              clear hO hO2 hF heA
              refine hK.out _ _ (HC0.out _ HFc2.out) (fun hHeld => ?_)
              clear hK K
              refine wpAnyH_ready (rs := [7]) (by kernel_rfl) (by simp) ?_
              refine (AllReadyH.cons rfl (fun K hK => ?_) AllReadyH.nil)
              try simp only [List.getElem_toArray, List.getElem_cons_succ, List.getElem_cons_zero]
              rw [if_pos (by rfl)]
              refine wp_app (.tmp 110) (.tmp 114) (by rfl) eA (.slice aA ln cA) LA (by rfl) HO.out (.slice (some ⟨e5, 0, none⟩) 1 1) [b0] (by rfl) HL5.out HqJ.out heAs ?_
              intro aJ cJ u3 hO hF _
              have hO2 : OwnB u3 eA (.slice aJ (ln + 1) cJ) (LA ++ [b0]) := by have h := hO; rw [List.length_singleton, ← HlnL.out] at h; exact h
              rw [List.length_singleton, ← HlnL.out]
              have HFc3 := hide (frJ HFc2.out hF fun j hj => Nat.le_trans heA0 (World.ownsRow.lt HO.out j hj).1)
              obtain ⟨gJ, cJ2, hvJ, hdJ⟩ := Dr.of_own HZ0.out HRlt.out heA0 hO2 (by simp)
              injection hvJ with e1 e2 e3
              subst e1 e3
              have HeJ := hide e2
              have HDJ := hide hdJ
              clear hO hO2 hF e2 hdJ HO HL5
              refine hK.out _ _ (HC0.out _ HFc3.out) (fun hHeld => ?_)
              clear hK K
              refine wpAnyH_ready (rs := [8]) (by kernel_rfl) (by simp) ?_
              refine (AllReadyH.cons rfl (fun K hK => ?_) AllReadyH.nil)
              try simp only [List.getElem_toArray, List.getElem_cons_succ, List.getElem_cons_zero]
              go_simp
              obtain ⟨u4, hu⟩ : ∃ W, W = u3.alloc (.cells #[.slice (some ⟨gJ, 0, none⟩) (ln + 1) cJ] 22) := ⟨_, rfl⟩
              obtain ⟨e8, he8⟩ : ∃ e, e = u3.heap.size := ⟨_, rfl⟩
              rw [← hu, ← he8]
              have FA4 : Hid (Fr (fun _ => False) u3 u4) := by rw [hu]; exact Fr.of_alloc _ _
              have HC8 : Hid (u4.cell? ⟨e8, 0, none⟩ = some (.slice (some ⟨gJ, 0, none⟩) (ln + 1) cJ)) := by rw [hu, he8]; exact cell_of (heap_alloc_new _ _) rfl
              have HFc4 := hide (HFc3.out.join FA4.out)
              have HDJ := hide (HDJ.out.fr FA4.out (fun h => h) Grown.rfl' Grown.rfl')
              have HZ8 := hide (HZ0.out.fr HFc4.out (fun _ _ h => h))
              have hs8 : R + 1 ≤ u4.heap.size := Nat.le_trans HRlt.out HFc4.out.size
              clear hu he8
              refine hK.out _ _ (HC0.out _ HFc4.out) (fun hHeld => ?_)
              clear hK K
              refine wpAnyH_ready (rs := [9]) (by kernel_rfl) (by simp) ?_
              refine (AllReadyH.cons rfl (fun K hK => ?_) AllReadyH.nil)
              try simp only [List.getElem_toArray, List.getElem_cons_succ, List.getElem_cons_zero]
              rw [if_pos (by rfl)]
              refine wp_appS (.tmp 108) (.tmp 116) (by rfl) (R + 1) (.slice ra n rc) hs (by rfl) HZ8.out.rws ⟨e8, 0, none⟩ 1 (.slice (some ⟨gJ, 0, none⟩) (ln + 1) cJ) (by rfl) (by rfl) HC8.out Hhs.out hs8 ?_
              intro a9 c9 u5 hO hF hN
              have hK9 : u5.cell? ⟨xg, 0, none⟩ = some (.int .u8 (b0 : Int)) := (cell_blk (a := ⟨xg, 0, none⟩) (hF.block xg (cell_lt hHeld) HorX.out)).trans hHeld
              rw [Hhn.out]
              rw [Hhn.out] at hN hO
              have HZ9 := hide (HZ8.out.push hF HDJ.out (c := cJ) (by rw [Hhn.out, ← HeJ.out]; exact hO) (Grown.of_new hN))
              have HDX9 := hide ((HDX.out.fr HFc4.out (fun h => h) Grown.rfl' Grown.rfl').fr hF HDX.out.or (Grown.of_new hN) Grown.rfl')
              have HF9 := hide (frJ (HF04.out.join HFc4.out) hF fun j hj => by have := (World.ownsRow.lt HZ8.out.rws j hj).1; have := HR.out; omega)
              have HRF9 := hide ((HRF4.out.keepR HFc4.out (fun _ h => h.elim) Hsb.out HRlt.out).keepR hF (fun j hj => (World.ownsRow.lt HZ8.out.rws j hj).1) Hsb.out hs8)
              clear hO hF hN
              refine hK.out _ _ hK9 (fun hHeld => ?_)
              clear hK K
              refine wpAnyH_take (i := 10) (v := ?v10_10) rfl (by kernel_rfl) (by kernel_rfl) (by kernel_rfl) (fun _ _ _ h => h) (Or.inl ⟨by rfl, ?hy10_10⟩) hHeld ?rest10_10
              case hy10_10 => (intro W hSw; (try dsimp only at hSw); go_simp; all_goals (with_reducible rfl))
              change wpAnyH _ _ _ _ _ _ _ (Act.put _ (some 10) _) _
              simp only [Act.put, List.setIfInBounds_toArray, List.set_cons_zero, List.set_cons_succ]
              refine wpAnyH_done (by kernel_rfl) ?_ _
              go_wp2_with fail
              go_meet
              exact ⟨a9, c9, gJ, cJ, rfl, HeJ.out, HZ9.out, HDX9.out, HF9.out, HRF9.out⟩
          case rest =>
            obtain ⟨a9, c9, gJ, cJ, rfl, -, hz9, hdx9, hf9, hrf9⟩ := hcut
            have HZ9 := hide hz9
            have HDX9 := hide hdx9
            have HF9 := hide hf9
            have HRF9 := hide hrf9
            have Hwid : Hid (wid k (n + 1) = if P + 2 + n + 1 = 2 ^ W ∧ W < 12 then W + 1 else W) := by
              show _ = _
              have e : nextN k (n + 1) = P + 2 + n + 1 := by unfold nextN; rw [← HP.out]; omega
              simp only [wid, e, ← HW.out]
            clear hz9 hdx9 hf9 hrf9
            obtain ⟨Q, hQ⟩ : ∃ Q, Q = 2 ^ W := ⟨_, rfl⟩
            have hQi : (2 : Int) ^ W = (Q : Int) := by rw [hQ]; simp
            have hQ2 : Q ≤ 4096 := by rw [hQ]; exact Nat.pow_le_pow_right (n := 2) (by omega) hWb.2
            have hwW : IntKind.u64.wrap (W : Int) = (W : Int) := by show (W : Int) % 18446744073709551616 = W; omega
            rw [← hQ] at Hwid
            clear hQ
            have Hfin : Hid (Dst w wc R (.slice sa sn sc) bs k most ⟨s.p + W, s.rows ++ [LA ++ [b0]], x, s.out ++ x⟩ (hs ++ [.slice (some ⟨gJ, 0, none⟩) (LA ++ [b0]).length cJ]) a9 c9 (.slice (some ⟨xg, 0, none⟩) x.length xc) a4 c4) := by
              have hz := HZ9.out
              have hd := HDX9.out
              have e1 : s.out.length + x.length = (s.out ++ x).length := by rw [List.length_append]
              have e2 : n + 1 = (s.rows ++ [LA ++ [b0]]).length := by rw [List.length_append, ← Hn.out]; rfl
              rw [e1, e2] at hz hd
              exact HD.out.next Hmade.out (HW.out ▸ Hn.out ▸ rfl) HRF9.out hz hd HF9.out Hx0.out Hfit.out hfit.out Hc1.out Hc2.out (by rw [hca.out]; exact Hro.out)
            by_cases h1 : P + 2 + n + 1 = Q
            · have t1 : ((P : Int) + 2 + (n : Int) + 1 == (Q : Int)) = true := by rw [beq_iff_eq]; omega
              by_cases h2 : W < 12
              · have t2 : (W : Int) < 12 := by omega
                rw [if_pos ⟨h1, h2⟩] at Hwid
                clear h1
                go_wp2_with fail
                go_roundw
                case rel => exact ⟨⟨s.p + W, s.rows ++ [LA ++ [b0]], x, s.out ++ x⟩, _, a9, c9, some ⟨xg, 0, none⟩, x.length, xc, a4, c4, by rw [List.length_append, ← Hn.out]; rfl, by rw [List.length_append, ← Hn.out]; show _ = Value.int .i64 ((wid k (n + 1) : Nat) : Int); rw [Hwid.out]; rfl, rfl, by rw [List.length_append], Hfin.out⟩
                case measure => exact Hmu.out _ HRF9.out
              · have t2 : ¬ (W : Int) < 12 := by omega
                rw [if_neg (fun h => h2 h.2)] at Hwid
                clear h1
                go_wp2_with fail
                go_roundw
                case rel => exact ⟨⟨s.p + W, s.rows ++ [LA ++ [b0]], x, s.out ++ x⟩, _, a9, c9, some ⟨xg, 0, none⟩, x.length, xc, a4, c4, by rw [List.length_append, ← Hn.out]; rfl, by rw [List.length_append, ← Hn.out]; show _ = Value.int .i64 ((wid k (n + 1) : Nat) : Int); rw [Hwid.out], rfl, by rw [List.length_append], Hfin.out⟩
                case measure => exact Hmu.out _ HRF9.out
            · have t1 : ((P : Int) + 2 + (n : Int) + 1 == (Q : Int)) = false := by rw [beq_eq_false_iff_ne]; omega
              rw [if_neg (fun h => h1 h.1)] at Hwid
              clear h1
              go_wp2_with fail
              go_roundw
              case rel => exact ⟨⟨s.p + W, s.rows ++ [LA ++ [b0]], x, s.out ++ x⟩, _, a9, c9, some ⟨xg, 0, none⟩, x.length, xc, a4, c4, by rw [List.length_append, ← Hn.out]; rfl, by rw [List.length_append, ← Hn.out]; show _ = Value.int .i64 ((wid k (n + 1) : Nat) : Int); rw [Hwid.out], rfl, by rw [List.length_append], Hfin.out⟩
              case measure => exact Hmu.out _ HRF9.out
        · have Hmade : Hid (made k s x = s.rows) := by show _ = _; unfold made; rw [if_neg hmk]
          have Hfin : Hid (Dst w w4 R (.slice sa sn sc) bs k most ⟨s.p + W, s.rows, x, s.out ++ x⟩ hs ra rc (.slice (some ⟨xg, 0, none⟩) x.length xc) a4 c4) := by
            have hz := HZ4.out
            have hd := HDX.out
            have e1 : s.out.length + x.length = (s.out ++ x).length := by rw [List.length_append]
            rw [e1] at hz hd
            rw [Hn.out] at hd
            exact HD.out.next Hmade.out (HW.out ▸ Hn.out ▸ rfl) HRF4.out hz hd HF04.out Hx0.out Hfit.out hfit.out Hc1.out Hc2.out (by rw [hca.out]; exact Hro.out)
          rcases HL4.out with ⟨hl, hlv⟩ | ⟨hl, lg, lc', hlv, hdr⟩
          · injection hlv with e1 e2 e3
            subst e1 e2 e3
            clear hmk hl
            go_wp2_with fail
            go_roundw
            case rel => exact ⟨⟨s.p + W, s.rows, x, s.out ++ x⟩, hs, ra, rc, some ⟨xg, 0, none⟩, x.length, xc, a4, c4, by rw [Hn.out], by show _ = Value.int .i64 ((wid k s.rows.length : Nat) : Int); rw [← Hn.out, ← HW.out], rfl, by rw [List.length_append], Hfin.out⟩
            case measure => exact Hmu.out _ HRF4.out
          · injection hlv with e1 e2 e3
            subst e1 e3
            have hN : ¬ (P : Int) + 2 + (n : Int) < 4096 := by
              intro h
              refine hmk ⟨hl, ?_⟩
              rw [Hni.out]
              omega
            clear hmk hl hdr e2
            go_wp2_with fail
            go_roundw
            case rel => exact ⟨⟨s.p + W, s.rows, x, s.out ++ x⟩, hs, ra, rc, some ⟨xg, 0, none⟩, x.length, xc, a4, c4, by rw [Hn.out], by show _ = Value.int .i64 ((wid k s.rows.length : Nat) : Int); rw [← Hn.out, ← HW.out], rfl, by rw [List.length_append], Hfin.out⟩
            case measure => exact Hmu.out _ HRF4.out
end Go.Proofs.Ytdbgolklgiadeaa
