/-
  Contracts of a code that must be one, of code lengths.
-/
import Derived.Test.YtleeaofofofgmaaDoorMe
namespace Go.Proofs.YtleeaofofofgmaaDoor
open Go.RowKit

theorem own_lies {w : World} {lo n : Nat} {a : Option Addr} {c : Nat} {zs : List Int} (h : w.ownsRow lo 3 1 (.slice a n c) n (cellsZ zs)) : LiesI w a zs := by
  intro j hj
  rcases h.2 with ⟨hv, e0⟩ | ⟨g, cap, cur, hv, hg, hh, hr⟩
  · have hl := h.1
    simp [cellsZ] at hl
    omega
  · cases hv
    refine ⟨⟨g, 0, none⟩, rfl, h.cells (g := g) rfl j _ ?_⟩
    simp [cellsZ, at0, List.getElem?_eq_getElem hj]

set_option maxHeartbeats 400000 in
theorem mustBe_c (a : Option Addr) (c : Nat) (ls : List Int) (w : World) (hl : LiesI w a ls) (hg : good ls) (Q : Ending → World → Prop)
    (hyes : codeOk ls → ∀ C w', Cd w' w.heap.size w'.heap.size C ls → Fr (fun _ => False) w w' → Q (.returned (.pointer (some ⟨C, 0, none⟩))) w')
    (hno : ¬ codeOk ls → ∀ w', Fr (fun _ => False) w w' → Q (errPanic 4) w') : Calls Tryd.prog 63 #[.slice a ls.length c] w Q := by
  have Hyes := hide hyes
  have Hno := hide hno
  by_cases hok : codeOk ls
  · have H := hide (new_ok a c ls w hl hg hok)
    clear hyes hno hl hg
    go_enter Tryd.func63, Tryd.ntmps63
    go_wp2_with fail
    refine H.out.mono ?_
    rintro e w1 ⟨C, rfl, hC, hF⟩
    have HC := hide hC
    have HF := hide hF
    clear hC hF
    go_wp2
    exact Hyes.out hok C _ HC.out HF.out
  · have H := hide (new_form a c ls w hl hg hok)
    clear hyes hno hl hg
    go_enter Tryd.func63, Tryd.ntmps63
    go_wp2_with fail
    refine H.out.mono ?_
    rintro e w1 ⟨rfl, hF⟩
    have HF := hide hF
    clear hF
    go_wp2
    exact ⟨rfl, Hno.out hok _ HF.out⟩

/-- What a contract of a code length says. -/
structure Reads2 (x : Rdr (Int × Nat)) (lo R B : Nat) (bs : List Nat) (p : Nat) (w : World) (Q : Ending → World → Prop) : Prop where
  ok : ∀ v (t : Nat) q w', x (leNum bs) (8 * bs.length) p = .ok ((v, t), q) → Rm w' lo R B bs q → Fr (fun k => k = B) w w' → Q (.returned (.tuple #[.int .i64 v, .int .i64 (t : Int)])) w'
  no : ∀ (er : Nat) w', x (leNum bs) (8 * bs.length) p = .error er → Fr (fun k => k = B) w w' → Q (errPanic er) w'

set_option maxHeartbeats 2000000 in
set_option maxRecDepth 100000 in
theorem codeLength_c (w : World) (lo R M B : Nat) (bs : List Nat) (p : Nat) (h : Mi w lo R M B bs p) (C clo chi : Nat) (cl : List Int) (hC : Cd w clo chi C cl) (hRc : R ≤ clo)
    (aa : Option Addr) (n ac : Nat) (acc : List Int) (hn : n = acc.length) (hA : LiesI w aa acc) (hAB : ∀ ad, aa = some ad → ad.block ≠ B) (hnl : acc.length ≤ 2147483648) (Q : Ending → World → Prop)
    (hQ : Reads2 (andThen (tk cl) fun s => rep s acc) lo R B bs p w Q) :
    Calls Tryd.prog 70 #[.pointer (some ⟨M, 0, none⟩), .pointer (some ⟨C, 0, none⟩), .slice aa n ac] w Q := by
  have q0 := h.ptr
  have H := hide h
  have HC := hide hC
  have Hap : Hid (chi ≤ B ∨ B < clo) := Or.inr (by have := h.rd.ehi; omega)
  have HQ := hide hQ
  have Hn : Hid (n = acc.length) := hn
  have hnb : n ≤ 2147483648 := by omega
  have HA : Hid (∀ w', Fr (fun k => k = B) w w' → 0 < n → ∃ ad, aa = some ad ∧ w'.cell? (ad.add (n - 1)) = some (.int .i64 (at0 acc (acc.length - 1)))) := by
    intro w' hF h0
    obtain ⟨ad, e, hc⟩ := hA (n - 1) (by omega)
    refine ⟨ad, e, ?_⟩
    have hb : (ad.add (n - 1)).block = ad.block := by cases ad; simp [Addr.add]; split <;> rfl
    rw [cell_blk (hF.block _ (cell_lt hc) (by rw [hb]; exact hAB ad e)), hc, hn]
  clear h hC hQ hRc hn hA hAB hnl
  go_enter Tryd.func70, Tryd.ntmps70
  go_wp2_with fail
  refine calls_args (take_E clo chi C lo R B cl bs p w HC.out H.out.rd Hap.out _ ⟨?ok1, ?no1⟩) rfl
  case no1 => (intro er w1 hx hF; exact ⟨rfl, HQ.out.no er w1 (then_err hx) hF⟩)
  intro s q w1 hx hR hF
  have E1 := hide (then_ok (f := fun s => rep s acc) hx)
  have H1 := hide (H.out.next hR hF)
  have HF1 := hide hF
  have q1 := H1.out.ptr
  clear hx hR hF q0
  by_cases h16 : s = 16
  · subst h16
    have E2 : Hid (rep 16 acc (leNum bs) (8 * bs.length) q = andThen (tkn 2) (fun x => if acc.length = 0 then bad 4 else ret (at0 acc (acc.length - 1), 3 + x)) (leNum bs) (8 * bs.length) q) := rfl
    go_wp2_with fail
    refine calls_args (low_reads _ lo R B bs q 2 H1.out.rd (by omega) _ ⟨?ok2, ?no2⟩) rfl
    case no2 => (intro er w2 hx hF; exact ⟨rfl, HQ.out.no er w2 (E1.out.trans (E2.out.trans (then_err hx))) (HF1.out.join hF)⟩)
    intro x q2 w2 hx hR hF
    have hxb : x < 4 := tkn_lt hx
    have E3 := (E1.out.trans (E2.out.trans (then_ok hx)))
    have HR2 := hide hR
    have HF2 := hide (HF1.out.join hF)
    clear hx hR hF q1
    by_cases h0 : n = 0
    · subst h0
      rw [if_pos Hn.out.symm] at E3
      have HE3 := hide E3
      clear E3
      go_wp2
      exact ⟨rfl, HQ.out.no 4 _ HE3.out HF2.out⟩
    · rw [if_neg (by rw [← Hn.out]; exact h0)] at E3
      have HE3 := hide E3
      obtain ⟨ad, rfl, hc⟩ := HA.out w2 HF2.out (by omega)
      obtain ⟨m, hm⟩ : ∃ m, n = m + 1 := ⟨n - 1, by omega⟩
      subst hm
      rw [show m + 1 - 1 = m by omega] at hc
      have h0i : ((m : Int) + 1 == 0) = false := beq_false_of_ne (by omega)
      have h0j : ¬ ((m : Int) + 1 = 0) := by omega
      clear E3 h0
      go_wp2
      have := HQ.out.ok _ _ _ _ HE3.out HR2.out HF2.out
      simpa using this
  · by_cases h17 : s = 17
    · subst h17
      have E2 : Hid (rep 17 acc (leNum bs) (8 * bs.length) q = andThen (tkn 3) (fun x => ret (0, 3 + x)) (leNum bs) (8 * bs.length) q) := rfl
      go_wp2_with fail
      refine calls_args (low_reads _ lo R B bs q 3 H1.out.rd (by omega) _ ⟨?ok3, ?no3⟩) rfl
      case no3 => (intro er w2 hx hF; exact ⟨rfl, HQ.out.no er w2 (E1.out.trans (E2.out.trans (then_err hx))) (HF1.out.join hF)⟩)
      intro x q2 w2 hx hR hF
      have hxb : x < 8 := tkn_lt hx
      have HE3 := hide (E1.out.trans (E2.out.trans (then_ok hx)))
      have HR2 := hide hR
      have HF2 := hide (HF1.out.join hF)
      clear hx hR hF q1
      go_wp2
      have := HQ.out.ok _ _ _ _ HE3.out HR2.out HF2.out
      simpa using this
    · by_cases h18 : s = 18
      · subst h18
        have E2 : Hid (rep 18 acc (leNum bs) (8 * bs.length) q = andThen (tkn 7) (fun x => ret (0, 11 + x)) (leNum bs) (8 * bs.length) q) := rfl
        go_wp2_with fail
        refine calls_args (low_reads _ lo R B bs q 7 H1.out.rd (by omega) _ ⟨?ok4, ?no4⟩) rfl
        case no4 => (intro er w2 hx hF; exact ⟨rfl, HQ.out.no er w2 (E1.out.trans (E2.out.trans (then_err hx))) (HF1.out.join hF)⟩)
        intro x q2 w2 hx hR hF
        have hxb : x < 128 := tkn_lt hx
        have HE3 := hide (E1.out.trans (E2.out.trans (then_ok hx)))
        have HR2 := hide hR
        have HF2 := hide (HF1.out.join hF)
        clear hx hR hF q1
        go_wp2
        have := HQ.out.ok _ _ _ _ HE3.out HR2.out HF2.out
        simpa using this
      · have E2 : Hid (rep s acc (leNum bs) (8 * bs.length) q = .ok (((s : Int), 1), q)) := by
          show rep s acc (leNum bs) (8 * bs.length) q = _
          unfold rep
          rw [if_neg h16, if_neg h17, if_neg h18]
          rfl
        have h1 : ((s : Int) == 16) = false := beq_false_of_ne (by omega)
        have h2 : ((s : Int) == 17) = false := beq_false_of_ne (by omega)
        have h3 : ((s : Int) == 18) = false := beq_false_of_ne (by omega)
        have k1 : ¬ (s : Int) = 16 := by omega
        have k2 : ¬ (s : Int) = 17 := by omega
        have k3 : ¬ (s : Int) = 18 := by omega
        clear h16 h17 h18 q1
        go_wp2
        exact HQ.out.ok _ _ _ _ (E1.out.trans E2.out) H1.out.rd HF1.out
end Go.Proofs.YtleeaofofofgmaaDoor
