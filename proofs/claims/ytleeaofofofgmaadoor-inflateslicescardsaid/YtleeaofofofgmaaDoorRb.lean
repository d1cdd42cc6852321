/-
  The document's own stored blocks.
-/
import Derived.Test.YtleeaofofofgmaaDoorRa
namespace Go.Proofs.YtleeaofofofgmaaDoor
open Go.RowKit

/-- What the document has put out. -/
structure Ro (w : World) (lo R : Nat) (a : Option Addr) (c : Nat) (out : List Nat) : Prop where
  own : w.ownsRow lo 5 1 (.slice a out.length c) out.length (cellsOf out)
  oR : ∀ g, (Value.slice a out.length c).ownBlock = some g → g ≠ R

theorem Ro.next {w w' : World} {lo R : Nat} {a : Option Addr} {c : Nat} {out : List Nat} (h : Ro w lo R a c out) (hF : Fr (fun k => k = R) w w') : Ro w' lo R a c out :=
  ⟨ownsRow_fr h.own fun k hk => hF.block k (h.own.lt k hk).2 (h.oR k hk), h.oR⟩
theorem Ro.fr {w w' : World} {lo R : Nat} {a : Option Addr} {c : Nat} {out : List Nat} (h : Ro w lo R a c out) (hF : Fr (fun _ => False) w w') : Ro w' lo R a c out :=
  ⟨ownsRow_fr h.own fun k hk => hF.block k (h.own.lt k hk).2 (fun h => h), h.oR⟩

/-- Behind an append of a byte. -/
theorem ro_append {w w1 : World} {lo R : Nat} {a : Option Addr} {c : Nat} {out : List Nat} {b N g cap : Nat} {o : Obj} (hR : R < w.heap.size) (h : Ro w lo R a c out) (hN : N = out.length)
    (hown : w1.ownsRow lo 5 1 (.slice (some ⟨g, 0, none⟩) (N + 1) cap) (N + 1) (cellsOf out ++ [.int .u8 (b : Int)])) (hgrow : (w.alloc o).grownBy w1 (Value.slice a N c).ownBlock) (hat : (Value.slice a N c).ownBlock = some g ∨ g = w.heap.size + 1) :
    Ro w1 lo R (some ⟨g, 0, none⟩) cap (out ++ [b]) ∧ Fr (fun k => (Value.slice a N c).ownBlock = some k) w w1 := by
  subst hN
  have f1 : Fr (fun k => (Value.slice a out.length c).ownBlock = some k) (w.alloc o) w1 := ⟨hgrow.os, hgrow.tape, hgrow.output, hgrow.size, fun k hk hn => hgrow.block k hk (fun e => hn e.symm)⟩
  have e : (out ++ [b]).length = out.length + 1 := by simp
  refine ⟨⟨?_, ?_⟩, ((Fr.of_alloc w o).trans f1).mono fun k _ h => h.elim (fun x => x.elim) id⟩
  · rw [e]
    simpa [cellsOf] using hown
  · intro g' hg'
    have : g = g' := by simpa [Value.ownBlock] using hg'
    subst this
    rcases hat with h1 | h1
    · exact h.oR g h1
    · omega

set_option maxHeartbeats 1600000 in
set_option maxRecDepth 100000 in
theorem rstored_c (w : World) (lo R : Nat) (sv : Value) (bs : List Nat) (p : Nat) (h : Rz w lo R sv bs p) (oa : Option Addr) (oc : Nat) (out : List Nat) (ho : Ro w lo R oa oc out) (most : Nat) (hmost : most ≤ 2147483647) (hom : out.length ≤ most) (Q : Ending → World → Prop)
    (hno : ∀ (er : Nat) w', storedHead (leNum bs) (8 * bs.length) p = .error er → Fl lo w w' → Q (.returned (.tuple #[.slice none 0 0, .int .i64 (er : Int)])) w')
    (hok : ∀ n q a' c' out' p' w', storedHead (leNum bs) (8 * bs.length) p = .ok (n, q) → Rz w' lo R sv bs p' → Ro w' lo R a' c' out' → out'.length ≤ most →
      (∀ last r, Runs (leNum bs) (8 * bs.length) most ⟨p', last, out', .ahead⟩ r → Runs (leNum bs) (8 * bs.length) most ⟨q, last, out, .stored n⟩ r) → Fl lo w w' → Q (.returned (.tuple #[.slice a' out'.length c', .int .i64 0])) w')
    (herr : ∀ n q (er : Nat) w', storedHead (leNum bs) (8 * bs.length) p = .ok (n, q) → er ≠ 0 → (∀ last, Runs (leNum bs) (8 * bs.length) most ⟨q, last, out, .stored n⟩ (.error er)) → Fl lo w w' → Q (.returned (.tuple #[.slice none 0 0, .int .i64 (er : Int)])) w') :
    Calls Tryd.prog 24 #[.pointer (some ⟨R, 0, none⟩), .slice oa out.length oc, .int .i64 (most : Int)] w Q := by
  obtain ⟨i0, hi, hz0, hz1, hz2⟩ := info_parts Tryd.info5
  have hl := h.rf.elen
  have H := hide h
  have HO := hide ho
  have Hno := hide hno
  have Hok := hide hok
  have Herr := hide herr
  have E : Hid (storedHead (leNum bs) (8 * bs.length) p = andThen (tkn 16) (fun n => andThen (tkn 16) fun m => if n + m = 65535 then ret n else bad 4) (leNum bs) (8 * bs.length) ((p + 7) / 8 * 8)) := rfl
  clear h ho hno hok herr
  go_enter Tryd.func24, Tryd.ntmps24
  go_wp2_with fail
  refine (ralign_c w lo R sv bs p H.out).mono ?_
  rintro e w1 ⟨rfl, hz, hF⟩
  have H1 := hide hz
  have HO1 := hide (HO.out.next hF)
  have HF1 := hide (H.out.low hF)
  have hp1 := hz.rf.epos
  clear hz hF
  generalize (p + 7) / 8 * 8 = p1 at *
  go_wp2_with fail
  refine (ref_left w1 R sv bs p1 false H1.out.rf).mono ?_
  rintro e w2 ⟨rfl, k, rfl⟩
  have H2 := hide (H1.out.keep (Fr.of_drewN w1 k) (fun _ h => h.elim))
  have HO2 := hide (HO1.out.fr (Fr.of_drewN w1 k))
  have HF2 := hide (HF1.out.join (Fr.none (S := fun j => lo ≤ j) k))
  clear H1 HO1 HF1
  generalize w1.drewN k = w2 at *
  obtain ⟨Lb, hLb⟩ : ∃ Lb, Lb = 8 * bs.length := ⟨_, rfl⟩
  have eL : 8 * (bs.length : Int) - (p1 : Int) = ((Lb - p1 : Nat) : Int) := by omega
  by_cases h32 : p1 + 32 ≤ 8 * bs.length
  · have q32 : ¬ 8 * (bs.length : Int) - (p1 : Int) < 32 := by omega
    go_wp2_with fail
    refine rtakes w2 lo R sv bs p1 16 H2.out (by omega) _ ⟨?ok1, ?no1⟩
    case no1 => (intro w3 hx; rw [tkn_ok (by omega)] at hx; cases hx)
    intro n p2 w3 hx hr hF
    have hn : n < 65536 := tkn_lt hx
    have hp2 := (tkn_inv hx).2.2
    have E1 := hide (E.out.trans (then_ok hx))
    have H3 := hide (H2.out.next hr hF)
    have HO3 := hide (HO2.out.next hF)
    have HF3 := hide (HF2.out.join (H2.out.low hF))
    clear hx hr hF
    go_wp2_with fail
    refine rtakes w3 lo R sv bs p2 16 H3.out (by omega) _ ⟨?ok2, ?no2⟩
    case no2 => (intro w4 hx; rw [tkn_ok (by omega)] at hx; cases hx)
    intro m q w4 hx hr hF
    have hm : m < 65536 := tkn_lt hx
    have E2 := hide (E1.out.trans (then_ok hx))
    have H4 := hide (H3.out.next hr hF)
    have HO4 := hide (HO3.out.next hF)
    have HF4 := hide (HF3.out.join (H3.out.low hF))
    clear hx hr hF hp2
    by_cases hnm : n + m = 65535
    · have e1 : (n : Int) = 65535 - (m : Int) := by omega
      have e2 : ((n : Int) == 65535 - (m : Int)) = true := by simpa using e1
      have E3 := E2.out
      rw [if_pos hnm] at E3
      have HE3 : Hid (storedHead (leNum bs) (8 * bs.length) p = .ok (n, q)) := E3
      obtain ⟨mm, hmm⟩ : ∃ mm : Nat, (65535 : Int) - (m : Int) = (mm : Int) := ⟨65535 - m, by omega⟩
      have e4 : n = mm := by omega
      subst e4
      clear E3 e1 e2
      go_wp2
      go_loopw [1, 12, 13, 14] (fun v iv _ _ wr => ∃ (i : Nat) (out' : List Nat) (p' : Nat) (a' : Option Addr) (c' N : Nat), i ≤ n ∧ iv = .int .i64 (i : Int) ∧ v = .slice a' N c' ∧ Hid (N = out'.length) ∧ Hid (Rz wr lo R sv bs p') ∧ Hid (Ro wr lo R a' c' out') ∧ Hid (out'.length ≤ most) ∧
        Hid (∀ last r, Runs (leNum bs) (8 * bs.length) most ⟨p', last, out', .stored (n - i)⟩ r → Runs (leNum bs) (8 * bs.length) most ⟨q, last, out, .stored n⟩ r) ∧ Hid (Fl lo w wr)) (fun _ iv _ _ _ => n - (intOf iv).toNat)
      case atStart => exact ⟨0, out, q, oa, oc, out.length, Nat.zero_le _, rfl, rfl, rfl, H4.out, HO4.out, hom, fun _ _ h => h, HF4.out⟩
      case round =>
        obtain ⟨i, out', p', a', c', N, hi1, rfl, rfl, G0, G1, G2, G3, G4, G5⟩ := hrel
        by_cases hlt : i < n
        · have hlti : (i : Int) < (n : Int) := by omega
          have hN : N ≤ 2147483647 := by have := G0.out; have := G3.out; omega
          go_wp2_with fail
          refine (ref_left wr R sv bs p' false G1.out.rf).mono ?_
          rintro e w5 ⟨rfl, k5, rfl⟩
          have K1 := hide (G1.out.keep (Fr.of_drewN wr k5) (fun _ h => h.elim))
          have K2 := hide (G2.out.fr (Fr.of_drewN wr k5))
          have K5 := hide (G5.out.join (Fr.none (S := fun j => lo ≤ j) k5))
          have Kp := G1.out.rf.epos
          clear G1 G2 G5
          generalize wr.drewN k5 = w5 at *
          by_cases h8 : p' + 8 ≤ 8 * bs.length
          · have q8 : ¬ 8 * (bs.length : Int) - (p' : Int) < 8 := by omega
            obtain ⟨b, hb⟩ : ∃ b, b = lowBits (leNum bs) p' 8 := ⟨_, rfl⟩
            have hb8 : b < 256 := by rw [hb]; exact lowBits_lt _ _ _
            have A : ∀ last, adv (leNum bs) (8 * bs.length) ⟨p', last, out', .stored (n - i)⟩ = .put ⟨p' + 8, last, out' ++ [b], .stored (n - (i + 1))⟩ := by
              intro last
              simp only [adv]
              rw [if_neg (by omega), tkn_ok h8, ← hb, show n - i - 1 = n - (i + 1) by omega]
            have HA := hide A
            clear A
            by_cases hful : most ≤ N
            · have hfi : (most : Int) ≤ (N : Int) := by omega
              have X := hide (Herr.out n q 6 w5 HE3.out (by omega) (fun last => G4.out last _ (.full (HA.out last) (by rw [← G0.out]; exact hful))) K5.out)
              go_wp2
              exact X.out
            · have hfi : ¬ (most : Int) ≤ (N : Int) := by omega
              go_wp2_with fail
              refine rtakes w5 lo R sv bs p' 8 K1.out (by omega) _ ⟨?ok3, ?no3⟩
              case no3 => (intro w6 hx; rw [tkn_ok h8] at hx; cases hx)
              intro b' p2' w6 hx hr hF
              rw [tkn_ok h8, ← hb] at hx
              have ex : b = b' ∧ p' + 8 = p2' := by simpa using hx
              obtain ⟨rfl, rfl⟩ := ex
              have L1 := hide (K1.out.next hr hF)
              have L2 := hide (K2.out.next hF)
              have L5 := hide (K5.out.join (K1.out.low hF))
              have hRl : R < w6.heap.size := L1.out.lt
              have hlow : lo ≤ w6.heap.size := L1.out.slo
              have hown := L2.out.own
              rw [← G0.out] at hown
              have Hown := hide hown
              have hwb : IntKind.u8.wrap (b : Int) = (b : Int) := wrap_u8 _ (by omega) (by omega)
              clear hx hr hF hown K1 K2 K5 hb
              go_wp2_with (at_builtin; go_must (refine wpList_append_lies _ rfl _ _ 22 rfl lo 5 i0 (.int .u8 0) 1 1 Tryd.underlying22 hi hz0 hz1 hz2 rfl (by decide) (.slice a' N c') N (cellsOf out') rfl (Hown.out.alloc _) ⟨w6.heap.size, 0, none⟩ 1 1 [.int .u8 (b : Int)] rfl rfl (cell_one_new _ _ _) (fun x hx => by simp at hx; subst hx; rfl) (by decide) (by unfold maxLen; omega) (by omega) (by simp; omega) (w6.heap.size + 1) (by simp) ?_); intro g cap w7 hown7 hgrow hat hlt7)
              obtain ⟨r1, r2⟩ := ro_append hRl L2.out G0.out hown7 hgrow hat
              have hS : ∀ k, (Value.slice a' N c').ownBlock = some k → lo ≤ k ∧ k ≠ R := fun k hk => by
                have e := G0.out
                subst e
                exact ⟨(L2.out.own.lt k hk).1, L2.out.oR k hk⟩
              have M1 := hide (L1.out.keep r2 hS)
              have M2 := hide r1
              have M5 := hide (L5.out.join (r2.mono fun k _ hk => (hS k hk).1))
              have M4 : Hid (∀ last r, Runs (leNum bs) (8 * bs.length) most ⟨p' + 8, last, out' ++ [b], .stored (n - (i + 1))⟩ r → Runs (leNum bs) (8 * bs.length) most ⟨q, last, out, .stored n⟩ r) := fun last r hr => G4.out last r (.put (HA.out last) (by show out'.length < most; rw [← G0.out]; omega) hr)
              have M0 : Hid (N + 1 = (out' ++ [b]).length) := by show _ = _; rw [G0.out]; simp
              clear r1 r2 hown7 hgrow hat hlt7
              go_roundw
              case rel => exact ⟨i + 1, out' ++ [b], p' + 8, some ⟨g, 0, none⟩, cap, N + 1, by omega, by go_num, rfl, M0, M1, M2, (by show (out' ++ [b]).length ≤ most; rw [← M0.out]; omega), M4, M5⟩
              case measure => simp [intOf]; omega
          · have q8 : 8 * (bs.length : Int) - (p' : Int) < 8 := by omega
            have X := hide (Herr.out n q 2 w5 HE3.out (by omega) (fun last => G4.out last _ (.fail (by simp only [adv]; rw [if_neg (by omega), tkn_err h8]))) K5.out)
            go_wp2
            exact X.out
        · have hlti : ¬ (i : Int) < (n : Int) := by omega
          have hie : i = n := by omega
          subst hie
          have X := hide (Hok.out i q a' c' out' p' wr HE3.out G1.out G2.out G3.out (fun last r hr => G4.out last r (.go (s' := ⟨p', last, out', .ahead⟩) (by simp only [adv]; rw [Nat.sub_self, if_pos rfl]) hr)) G5.out)
          rw [← G0.out] at X
          go_wp2
          exact X.out
    · have e1 : ¬ (n : Int) = 65535 - (m : Int) := by omega
      have e2 : ((n : Int) == 65535 - (m : Int)) = false := beq_false_of_ne e1
      have E3 := E2.out
      rw [if_neg hnm] at E3
      have X := hide (Hno.out 4 w4 E3 HF4.out)
      clear E3
      go_wp2
      exact X.out
  · have q32 : 8 * (bs.length : Int) - (p1 : Int) < 32 := by omega
    have E1 : storedHead (leNum bs) (8 * bs.length) p = .error 2 := by
      rw [E.out]
      by_cases h16 : p1 + 16 ≤ 8 * bs.length
      · rw [then_ok (tkn_ok h16), then_err (tkn_err (by omega))]
      · rw [then_err (tkn_err h16)]
    have X := hide (Hno.out 2 w2 E1 HF2.out)
    clear E1
    go_wp2
    exact X.out
end Go.Proofs.YtleeaofofofgmaaDoor
