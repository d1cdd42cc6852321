/-
  lzw: the document's WriteLzw.
-/
import Derived.Test.YtdbgolklgiadeaaYt
namespace Go.Proofs.Ytdbgolklgiadeaa
open Go.RowKit

/-- Few rows: codes of size + 1 bits. -/
theorem wid_few (k : Nat) (n : Nat) (hn : n + 3 ≤ 2 ^ k) : wid k n = k + 1 := by
  induction n with
  | zero => rfl
  | succ n ih =>
    have h := ih (by omega)
    simp only [wid, h]
    rw [if_neg]
    intro e
    have h1 := e.1
    unfold nextN at h1
    rw [Nat.pow_succ] at h1
    omega

/-- The document's writer behind i values. -/
structure Wd (wr : World) (lo K k : Nat) (bs : List Nat) (i many : Nat) : Prop where
  it : ∃ v p s q, Pw wr lo K v p ∧ (∀ most, bs.length ≤ most → Led k most v p s) ∧ s.out = bs.take i ∧ s.rows.length = many - 1 ∧ (many = 0 ↔ s.last = []) ∧ p ≤ 9 * (1 + i + q) ∧ 2 * q + many ≤ i
  mx : many + 2 ≤ 2 ^ k

theorem Wd.clear {wr : World} {lo K k : Nat} {bs : List Nat} {i many : Nat} (hk : 2 ≤ k ∧ k ≤ 8) (h : Wd wr lo K k bs i many) (hm : many + 2 = 2 ^ k) (hi : i ≤ 20000) (hlo : lo ≤ wr.heap.size) :
    Calls Try.prog 26 #[.pointer (some ⟨K, 0, none⟩), .int .i64 ((2 ^ k : Nat) : Int), .int .i64 ((k + 1 : Nat) : Int)] wr fun e w' => e = .returned (.tuple #[]) ∧ Wd w' lo K k bs i 0 ∧ Fr (fun j => lo ≤ j) wr w' := by
  obtain ⟨v, p, s, q, h1, h2, h3, h4, h5, h6, h7⟩ := h.it
  have hP : 4 ≤ 2 ^ k := Nat.pow_le_pow_right (n := 2) (by omega) hk.1
  have hw : wid k s.rows.length = k + 1 := by rw [h4]; exact wid_few k _ (by omega)
  refine (h1.put (2 ^ k) (k + 1) (by omega) (Nat.pow_lt_pow_right (by omega) (by omega)) (by omega) hlo).mono ?_
  rintro e w' ⟨rfl, a1, a2⟩
  refine ⟨rfl, ⟨⟨_, _, ⟨p + (k + 1), [], [], s.out⟩, q + 1, a1, fun most hm => ?_, h3, rfl, ⟨fun _ => rfl, fun _ => rfl⟩, by omega, by omega⟩, by omega⟩, a2⟩
  have := (h2 most hm).clear (by rw [hw]; exact Nat.pow_lt_pow_right (by omega) (by omega))
  rw [hw] at this
  exact this

theorem Wd.put {wr : World} {lo K k : Nat} {bs : List Nat} {i many x : Nat} (hk : 2 ≤ k ∧ k ≤ 8) (h : Wd wr lo K k bs i many) (hm : many + 2 < 2 ^ k) (hi : i ≤ 20000) (hx : x < 2 ^ k) (hil : i < bs.length) (htk : bs.take (i + 1) = bs.take i ++ [x]) (hlo : lo ≤ wr.heap.size) :
    Calls Try.prog 26 #[.pointer (some ⟨K, 0, none⟩), .int .i64 (x : Int), .int .i64 ((k + 1 : Nat) : Int)] wr fun e w' => e = .returned (.tuple #[]) ∧ Wd w' lo K k bs (i + 1) (many + 1) ∧ Fr (fun j => lo ≤ j) wr w' := by
  obtain ⟨v, p, s, q, h1, h2, h3, h4, h5, h6, h7⟩ := h.it
  have hP := pow_le k hk.2
  have hw : wid k s.rows.length = k + 1 := by rw [h4]; exact wid_few k _ (by omega)
  have hxk : x < 2 ^ (k + 1) := by rw [Nat.pow_succ]; omega
  refine (h1.put x (k + 1) (by omega) hxk (by omega) hlo).mono ?_
  rintro e w' ⟨rfl, a1, a2⟩
  have hrow : rowOf k x s = some [x] := by unfold rowOf; rw [if_pos hx]
  have hol : s.out.length = i := by rw [h3, List.length_take]; omega
  refine ⟨rfl, ⟨⟨_, _, onward k s [x], q, a1, fun most hmo => ?_, ?_, ?_, ⟨fun e => by omega, fun e => by cases e⟩, by omega, by omega⟩, by omega⟩, a2⟩
  · have := (h2 most hmo).row (c := x) (x := [x]) (by rw [hw]; exact hxk) (by omega) (by omega) hrow (by simp; omega)
    rw [hw] at this
    exact this
  · show s.out ++ [x] = _
    rw [h3, htk]
  · show (made k s [x]).length = _
    unfold made
    by_cases hl : s.last = []
    · rw [if_neg (fun e => e.1 hl), h4]
      have := h5.2 hl
      omega
    · have hm0 : many ≠ 0 := fun e => hl (h5.1 e)
      rw [if_pos ⟨hl, by unfold nextN; omega⟩, List.length_append, h4]
      simp
      omega

theorem Wd.end_ {wr : World} {lo K k : Nat} {bs : List Nat} {many : Nat} (hk : 2 ≤ k ∧ k ≤ 8) (h : Wd wr lo K k bs bs.length many) (hi : bs.length ≤ 20000) (hlo : lo ≤ wr.heap.size) :
    Calls Try.prog 26 #[.pointer (some ⟨K, 0, none⟩), .int .i64 ((2 ^ k + 1 : Nat) : Int), .int .i64 ((k + 1 : Nat) : Int)] wr fun e w' => e = .returned (.tuple #[]) ∧ Fr (fun j => lo ≤ j) wr w' ∧ ∃ v p, Pw w' lo K v p ∧ p ≤ 400000 ∧ ∀ Z : List Nat, Z.length = (p + 7) / 8 → leNum Z = v → ReadOk Z (k : Int) (bs.length : Int) (.ok bs) := by
  obtain ⟨v, p, s, q, h1, h2, h3, h4, h5, h6, h7⟩ := h.it
  have hmx := h.mx
  have hP4 : 4 ≤ 2 ^ k := Nat.pow_le_pow_right (n := 2) (by omega) hk.1
  have hw : wid k s.rows.length = k + 1 := by rw [h4]; exact wid_few k _ (by omega)
  have hlt : 2 ^ k + 1 < 2 ^ (k + 1) := by
    have h2 : 2 ^ 2 ≤ 2 ^ k := Nat.pow_le_pow_right (by omega) hk.1
    rw [Nat.pow_succ]
    omega
  refine (h1.put (2 ^ k + 1) (k + 1) (by omega) hlt (by omega) hlo).mono ?_
  rintro e w' ⟨rfl, a1, a2⟩
  refine ⟨rfl, a2, _, _, a1, by omega, fun Z hZ hv => ?_⟩
  have := (h2 bs.length (Nat.le_refl _)).read hk (Z := Z) (by rw [hw]; exact hZ) hv
  rw [h3, List.take_length] at this
  exact this

set_option maxHeartbeats 3200000 in
set_option maxRecDepth 100000 in
theorem rwrite_c (a : Option Addr) (c : Nat) (bs : List Nat) (k : Nat) (w : World) (hk : 2 ≤ k ∧ k ≤ 8) (h : Lies w (.slice a bs.length c) bs) (hb : ∀ b ∈ bs, b < 256) (hbk : ∀ b ∈ bs, b < 2 ^ k) (hlen : bs.length ≤ 20000) :
    Calls Try.prog 21 #[.slice a bs.length c, .int .i64 (k : Int)] w fun e w' => ∃ Z az cz, e = .returned (.slice az Z.length cz) ∧ Lies w' (.slice az Z.length cz) Z ∧ (∀ b ∈ Z, b < 256) ∧ Z.length ≤ 100000 ∧ ReadOk Z (k : Int) (bs.length : Int) (.ok bs) ∧ Fr (fun _ => False) w w' := by
  obtain ⟨P, hP⟩ : ∃ P, P = 2 ^ k := ⟨_, rfl⟩
  have hPi : (2 : Int) ^ k = (P : Int) := by rw [hP]; simp
  have hP1 : 4 ≤ P := by rw [hP]; exact Nat.pow_le_pow_right (n := 2) (by omega) hk.1
  have hP2 : P ≤ 256 := by rw [hP]; exact pow_le k hk.2
  have hwk : IntKind.u64.wrap (k : Int) = (k : Int) := by show (k : Int) % 18446744073709551616 = k; omega
  obtain ⟨lo, hlo⟩ : ∃ lo, lo = w.heap.size := ⟨_, rfl⟩
  obtain ⟨w1, hw1⟩ : ∃ w1, w1 = w.alloc (.cells #[.slice none 0 0, .bool false] 54) := ⟨_, rfl⟩
  have hF1 : Fr (fun _ => False) w w1 := by rw [hw1]; exact Fr.of_alloc _ _
  have hPw : Pw w1 lo lo 0 0 := ⟨⟨none, [], ⟨⟨.slice none 0 0, by rw [hw1]; exact heap_alloc_at hlo, World.ownsRow_nil _ _ _ _, rfl⟩, fun j e => by cases e⟩, fun b hb => (by cases hb), rfl, rfl, fun j e => by cases e⟩, Nat.le_refl _⟩
  have Hput := hide (hPw.put P (k + 1) (by omega) (by rw [hP]; exact Nat.pow_lt_pow_right (by omega) (by omega)) (by omega) (by rw [hlo]; exact hF1.size))
  have HLz := hide (Lz.of h hb)
  have Hb := hide hb
  have Hbk := hide hbk
  have HP := hide hP
  have Hlo := hide hlo
  have HF1 := hide hF1
  have Hw1 := hide hw1
  have Hk := hide hk
  have hk8 : k ≤ 8 := hk.2
  clear h hb hbk hP hlo hF1 hw1 hPw hk
  go_enter Try.func21, Try.ntmps21
  go_wp2_with fail
  rw [← Hw1.out, ← Hlo.out]
  refine (calls_args Hput.out (by rfl)).mono ?_
  rintro e w2 ⟨rfl, hp2, hF2⟩
  have HW2 : Hid (Wd w2 lo lo k bs 0 0) := by
    refine ⟨⟨_, _, ⟨k + 1, [], [], []⟩, 0, hp2, fun most hm => ?_, by simp, rfl, ⟨fun _ => rfl, fun _ => rfl⟩, by omega, by omega⟩, by rw [← HP.out]; omega⟩
    have h1 := (Led.init k most).clear (by show 2 ^ k < 2 ^ (k + 1); exact Nat.pow_lt_pow_right (by omega) (by omega))
    rw [← HP.out] at h1
    have e1 : wid k zinit.rows.length = k + 1 := rfl
    rw [e1] at h1
    have e2 : (⟨0 + (k + 1), [], [], zinit.out⟩ : Zs) = ⟨k + 1, [], [], []⟩ := by simp [zinit]
    rw [e2] at h1
    exact h1
  have HF2 : Hid (Fr (fun _ => False) w w2) := frJ HF1.out hF2 fun j hj => by rw [← Hlo.out]; exact hj
  clear hp2 hF2
  go_wp2_with fail
  go_loopw [7, 8] (fun v7 v8 wr => ∃ many i : Nat, v7 = .int .i64 (many : Int) ∧ v8 = .int .i64 (i : Int) ∧ i ≤ bs.length ∧ Hid (Wd wr lo lo k bs i many) ∧ Hid (Fr (fun _ => False) w wr)) (fun _ v8 _ => bs.length - (intOf v8).toNat)
  case atStart => exact ⟨0, 0, rfl, rfl, Nat.zero_le _, HW2.out, HF2.out⟩
  case round =>
    obtain ⟨many, i, rfl, rfl, hi, HW, HF⟩ := hrel
    have hmx : many + 2 ≤ P := by rw [HP.out]; exact HW.out.mx
    have hlor : lo ≤ wr.heap.size := by rw [Hlo.out]; exact HF.out.size
    by_cases hlt : i < bs.length
    · have htk := getD_take_succ bs i hlt
      have hx8 := Hb.out _ (getD_mem bs i hlt)
      have hxk := Hbk.out _ (getD_mem bs i hlt)
      obtain ⟨x, hx⟩ : ∃ x, x = bs.getD i 0 := ⟨_, rfl⟩
      rw [← hx] at htk hx8 hxk
      have q1 : IntKind.i64.wrap (x : Int) = (x : Int) := wrap_i64_id _ (by omega) (by omega)
      have hcell : ∀ w', Fr (fun _ => False) w w' → ∃ ad, a = some ad ∧ w'.cell? (ad.add i) = some (.int .u8 (x : Int)) := fun w' f => by rw [hx]; exact (HLz.out.fr f).2 i hlt
      have Hcell := hide hcell
      have Htk := hide htk
      have Hxk := hide hxk
      clear hx hcell htk hxk
      by_cases hfull : many + 2 = P
      · have hfi : ((many : Int) == (P : Int) - 2) = true := by rw [beq_iff_eq]; omega
        have HC := hide (HW.out.clear Hk.out (by rw [← HP.out]; exact hfull) (by omega) hlor)
        rw [← HP.out] at HC
        go_wp2_with fail
        refine (calls_args HC.out (by rfl)).mono ?_
        rintro e w3 ⟨rfl, hw3, hF3⟩
        have HF3 : Hid (Fr (fun _ => False) w w3) := frJ HF.out hF3 fun j hj => by rw [← Hlo.out]; exact hj
        have HPt := hide (hw3.put Hk.out (x := x) (by rw [← HP.out]; omega) (by omega) Hxk.out hlt Htk.out (Nat.le_trans hlor hF3.size))
        obtain ⟨ad, rfl, hc3⟩ := Hcell.out w3 HF3.out
        clear hw3 hF3 HC hfull
        go_wp2_with fail
        refine (calls_args HPt.out (by rfl)).mono ?_
        rintro e w4 ⟨rfl, hw4, hF4⟩
        have HW4 := hide hw4
        have HF4 : Hid (Fr (fun _ => False) w w4) := frJ HF3.out hF4 fun j hj => by rw [← Hlo.out]; exact hj
        clear hw4 hF4
        go_wp2_with fail
        go_roundw
        case rel => exact ⟨1, i + 1, rfl, by go_num, by omega, HW4.out, HF4.out⟩
        case measure => simp [intOf]; omega
      · have hfi : ((many : Int) == (P : Int) - 2) = false := by rw [beq_eq_false_iff_ne]; omega
        have HPt := hide (HW.out.put Hk.out (x := x) (by rw [← HP.out]; omega) (by omega) Hxk.out hlt Htk.out hlor)
        obtain ⟨ad, rfl, hc3⟩ := Hcell.out wr HF.out
        clear hfull
        go_wp2_with fail
        refine (calls_args HPt.out (by rfl)).mono ?_
        rintro e w4 ⟨rfl, hw4, hF4⟩
        have HW4 := hide hw4
        have HF4 : Hid (Fr (fun _ => False) w w4) := frJ HF.out hF4 fun j hj => by rw [← Hlo.out]; exact hj
        clear hw4 hF4
        go_wp2_with fail
        go_roundw
        case rel => exact ⟨many + 1, i + 1, by go_num, by go_num, by omega, HW4.out, HF4.out⟩
        case measure => simp [intOf]; omega
    · have e : i = bs.length := by omega
      subst e
      have HE := hide (HW.out.end_ Hk.out hlen hlor)
      rw [← HP.out] at HE
      go_wp2_with fail
      refine (calls_args HE.out (by rfl)).mono ?_
      rintro e w3 ⟨rfl, hF3, v, p, hp3, hpb, hR⟩
      have HF3 : Hid (Fr (fun _ => False) w w3) := frJ HF.out hF3 fun j hj => by rw [← Hlo.out]; exact hj
      have HO := hide (hp3.out (by omega))
      have HR := hide hR
      clear hF3 hp3 hR HE
      go_wp2_with fail
      refine HO.out.mono ?_
      rintro e w4 ⟨Z, c4, rfl, h1, h2, h3, h4, h5, h6⟩
      have H1 := hide (And.intro h1 (And.intro h2 (And.intro h3 (And.intro h4 h6))))
      clear h1 h2 h3 h4 h5 h6
      go_wp2_with fail
      go_ret
      exact ⟨Z, _, c4, rfl, H1.out.1, H1.out.2.1, by rw [H1.out.2.2.1]; omega, HR.out Z H1.out.2.2.1 H1.out.2.2.2.1, HF3.out.join H1.out.2.2.2.2⟩
end Go.Proofs.Ytdbgolklgiadeaa
