/-
  lzw: Write.
-/
import Derived.Test.YtdbgolklgiadeaaYl
namespace Go.Proofs.Ytdbgolklgiadeaa
open Go.RowKit

/-- The writer behind i values. -/
structure Wst (w0 wr : World) (lo A mb k : Nat) (bs : List Nat) (i : Nat) : Prop where
  it : ∃ n first row F mn v p s, Wk wr lo A mb k n first row F mn v p ∧ (∀ most, bs.length ≤ most → Led k most v p s) ∧ mn ≤ i ∧
    ((i = 0 ∧ row = -1 ∧ n = 0 ∧ first = true ∧ s = ⟨k + 1, [], [], []⟩ ∧ ∀ a b, F a b = none) ∨ (∃ (r : Nat) (cur : List Nat), row = (r : Int) ∧ Enc k n first cur r F s ∧ s.out ++ cur = bs.take i))
  fr : Fr (fun _ => False) w0 wr
  lo_ : lo = w0.heap.size

theorem Enc.bits {k n : Nat} {first : Bool} {cur : List Nat} {r : Nat} {F : Nat → Nat → Option Nat} {s : Zs} (h : Enc k n first cur r F s) {N : Nat} (hN : s.out.length ≤ N) (hN2 : N ≤ 1048576) : s.p ≤ 12600000 := by
  obtain ⟨q, h1, h2⟩ := h.pot
  omega

theorem Wst.step {w0 w : World} {lo A mb k : Nat} {bs : List Nat} {i x : Nat} (hk : 2 ≤ k ∧ k ≤ 8) (h : Wst w0 w lo A mb k bs i) (hi : i < bs.length) (hlen : bs.length ≤ 1048576) (hx : x < 2 ^ k) (hx8 : x < 256) (htk : bs.take (i + 1) = bs.take i ++ [x]) :
    Calls Try.prog 36 #[.pointer (some ⟨A, 0, none⟩), .int .u8 (x : Int)] w fun e w' => e = .returned (.tuple #[]) ∧ Wst w0 w' lo A mb k bs (i + 1) := by
  obtain ⟨n, first, row, F, mn, v, p, s, hW, hL, hmn, hc⟩ := h.it
  have hlo := h.lo_
  have hlow : lo ≤ w.heap.size := by rw [hlo]; exact h.fr.size
  have hfr : ∀ w', Fr (fun j => lo ≤ j) w w' → Fr (fun _ => False) w0 w' := fun w' f => frJ h.fr f fun j hj => by rw [← hlo]; exact hj
  rcases hc with ⟨rfl, rfl, rfl, rfl, rfl, hF0⟩ | ⟨r, cur, rfl, hE, ho⟩
  · refine (take_0 lo A mb k 0 true F mn v p x w hW hx8).mono ?_
    rintro e w' ⟨rfl, hW', hf⟩
    refine ⟨rfl, ⟨0, true, (x : Int), F, mn, v, p, _, hW', hL, by omega, Or.inr ⟨x, [x], rfl, ?_, ?_⟩⟩, hfr w' hf, hlo⟩
    · exact Enc.start hk x hx F hF0
    · rw [htk]; rfl
  · obtain ⟨hr1, hr2, hr3, hr4⟩ := hE.wide hk
    have hol : s.out.length + cur.length = i := by
      have := congrArg List.length ho
      rw [List.length_append, List.length_take] at this
      omega
    have hpb := hE.bits (N := bs.length) (by omega) hlen
    have hp : p = s.p := ((hL bs.length (Nat.le_refl _)).at_).symm
    cases hF : F r x with
    | some c =>
      refine (take_a lo A mb k n first r F mn v p x c w hW (by omega) hx8 hF).mono ?_
      rintro e w' ⟨rfl, hW', hf⟩
      refine ⟨rfl, ⟨n, first, (c : Int), F, mn, v, p, s, hW', hL, by omega, Or.inr ⟨c, cur ++ [x], rfl, hE.longer hF, ?_⟩⟩, hfr w' hf, hlo⟩
      rw [htk, ← ho, List.append_assoc]
    | none =>
      obtain ⟨n', hn'⟩ : ∃ n', n' = if first then n else n + 1 := ⟨_, rfl⟩
      refine (take_b lo A mb k n n' first r F mn v p x w hk hW hr4 hr1 hx8 hF hlow (by omega) hE.full (by omega) hn').mono ?_
      rintro e w' ⟨rfl, hf, hb1, hb2⟩
      have hL1 : ∀ most, bs.length ≤ most → Led k most (v + r * 2 ^ p) (p + wid k n) (onward k s cur) := by
        intro most hm
        have := (hL most hm).row (c := r) (x := cur) (by rw [hE.len]; exact hr1) hr2 hr3 hE.rowOf_ (by omega)
        rw [hE.len] at this
        exact this
      have hlen1 : (onward k s cur).rows.length = n' := by rw [hE.rows_, hn']
      have hout1 : (onward k s cur).out = bs.take i := ho
      refine ⟨rfl, ?_, hfr w' hf, hlo⟩
      by_cases hfull : nextN k n' = 4096
      · refine ⟨0, true, (x : Int), _, 0, _, _, ⟨p + wid k n + wid k n', [], [], s.out ++ cur⟩, hb2 hfull, fun most hm => ?_, Nat.zero_le _, Or.inr ⟨x, [x], rfl, hE.again hk x n' _ hx hn' hfull (by rw [hE.len, hp]), ?_⟩⟩
        · have hw := wid_le k hk n'
          have := (hL1 most hm).clear (by rw [hlen1]; exact Nat.pow_lt_pow_right (by omega) (by omega))
          rw [hlen1] at this
          exact this
        · show (s.out ++ cur) ++ [x] = _
          rw [htk, ho]
      · have hlt : nextN k n' < 4096 := by
          have h1 := hE.full
          have h2 : n' ≤ n + 1 := by rw [hn']; split <;> omega
          unfold nextN at *
          omega
        refine ⟨n', false, (x : Int), _, mn + 1, _, _, onward k s cur, hb1 hfull, hL1, by omega, Or.inr ⟨x, [x], rfl, hE.on hk x n' hx hn' hlt, ?_⟩⟩
        rw [htk, hout1]

/-- What Write answers of values that may be. -/
structure Wrote (w : World) (k : Nat) (bs : List Nat) (e : Ending) (w' : World) : Prop where
  it : ∃ Z a c, e = .returned (.tuple #[.slice a Z.length c, .int .i64 0]) ∧ OwnB w' w.heap.size (.slice a Z.length c) Z ∧ (∀ b ∈ Z, b < 256) ∧ Z.length ≤ 2 * bs.length + bs.length / 4 + 16 ∧
    (∀ most, bs.length ≤ most → ZRuns (leNum Z) (8 * Z.length) k most zinit (.ok bs)) ∧ Fr (fun _ => False) w w'

theorem Wst.end_ {w0 w : World} {lo A mb k : Nat} {bs : List Nat} (hk : 2 ≤ k ∧ k ≤ 8) (h : Wst w0 w lo A mb k bs bs.length) (hlen : bs.length ≤ 1048576) :
    Calls Try.prog 37 #[.pointer (some ⟨A, 0, none⟩)] w fun e w' => ∃ Z a c, e = .returned (.slice a Z.length c) ∧ OwnB w' w0.heap.size (.slice a Z.length c) Z ∧ (∀ b ∈ Z, b < 256) ∧ Z.length ≤ 2 * bs.length + bs.length / 4 + 16 ∧
      (∀ most, bs.length ≤ most → ZRuns (leNum Z) (8 * Z.length) k most zinit (.ok bs)) ∧ Fr (fun _ => False) w0 w' := by
  obtain ⟨n, first, row, F, mn, v, p, s, hW, hL, hmn, hc⟩ := h.it
  have hlo := h.lo_
  have hlow : lo ≤ w.heap.size := by rw [hlo]; exact h.fr.size
  have hfr : ∀ w', Fr (fun j => lo ≤ j) w w' → Fr (fun _ => False) w0 w' := fun w' f => frJ h.fr f fun j hj => by rw [← hlo]; exact hj
  have fin : ∀ (v' p' : Nat) (s' : Zs) (W : Nat) (e : Ending) (w' : World), s'.out = bs → W = wid k s'.rows.length → (∀ most, bs.length ≤ most → Led k most v' p' s') → Wend w lo (v' + (2 ^ k + 1) * 2 ^ p') (p' + W) e w' → p' + W ≤ 8 * (2 * bs.length + bs.length / 4 + 16) → ∃ Z a c, e = .returned (.slice a Z.length c) ∧ OwnB w' w0.heap.size (.slice a Z.length c) Z ∧ (∀ b ∈ Z, b < 256) ∧ Z.length ≤ 2 * bs.length + bs.length / 4 + 16 ∧
      (∀ most, bs.length ≤ most → ZRuns (leNum Z) (8 * Z.length) k most zinit (.ok bs)) ∧ Fr (fun _ => False) w0 w' := by
    intro v' p' s' W e w' ho hWd hLd ⟨Z, a, c, he, hown, hls, hnum, hf⟩ hb
    refine ⟨Z, a, c, he, own_monoZ hown h.fr.size, hls.bytes, by rw [hls.len]; omega, fun most hm => ?_, hfr w' hf⟩
    have := (hLd most hm).fin (V := leNum Z) (L := 8 * Z.length) (by rw [← hWd, Nat.mod_eq_of_lt hls.num, hnum]) (by rw [← hWd, hls.len]; omega)
    rw [ho] at this
    exact this
  rcases hc with ⟨h0, rfl, rfl, rfl, rfl, _⟩ | ⟨r, cur, rfl, hE, ho⟩
  · have hp : p = k + 1 := ((hL bs.length (Nat.le_refl _)).at_).symm
    have hb0 : bs = [] := List.eq_nil_of_length_eq_zero h0
    refine (end_0 lo A mb k 0 true F mn v p w hk hW (by omega) hlow).mono ?_
    intro e w' hE
    exact fin v p _ (wid k 0) e w' hb0.symm rfl hL hE (by simp only [wid]; omega)
  · obtain ⟨hr1, hr2, hr3, hr4⟩ := hE.wide hk
    rw [List.take_length] at ho
    have hol : s.out.length + cur.length = bs.length := by
      have := congrArg List.length ho
      rw [List.length_append] at this
      exact this
    have hpb := hE.bits (N := bs.length) (by omega) hlen
    have hp : p = s.p := ((hL bs.length (Nat.le_refl _)).at_).symm
    obtain ⟨n', hn'⟩ : ∃ n', n' = if first then n else n + 1 := ⟨_, rfl⟩
    have hlen1 : (onward k s cur).rows.length = n' := by rw [hE.rows_, hn']
    refine (end_r lo A mb k n n' first r F mn v p w hk hW (by omega) hr1 hE.full hn' hlow).mono ?_
    intro e w' hW'
    have hw := wid_le k hk n
    have hw' := wid_le k hk n'
    obtain ⟨q, h1, h2⟩ := hE.pot
    have hcl : 1 ≤ cur.length := List.length_pos_iff.2 hE.ne
    refine fin (v + r * 2 ^ p) (p + wid k n) (onward k s cur) (wid k n') e w' ho (by rw [hlen1]) (fun most hm => ?_) hW' (by omega)
    have := (hL most hm).row (c := r) (x := cur) (by rw [hE.len]; exact hr1) hr2 hr3 hE.rowOf_ (by omega)
    rw [hE.len] at this
    exact this

set_option maxHeartbeats 3200000 in
set_option maxRecDepth 100000 in
/-- The contract of Write, of values that may be. -/
theorem write_c (a : Option Addr) (c : Nat) (bs : List Nat) (k : Nat) (w : World) (hk : 2 ≤ k ∧ k ≤ 8) (h : Lies w (.slice a bs.length c) bs) (hb : ∀ b ∈ bs, b < 256) (hbk : ∀ b ∈ bs, b < 2 ^ k) (hlen : bs.length ≤ 1048576) :
    Calls Try.prog 19 #[.slice a bs.length c, .int .i64 (k : Int)] w (Wrote w k bs) := by
  have Hs := hide (sizeMay_ok k hk w)
  obtain ⟨P, hP⟩ : ∃ P, P = 2 ^ k := ⟨_, rfl⟩
  have hPi : (2 : Int) ^ k = (P : Int) := by rw [hP]; simp
  have hPb : P ≤ 256 := by rw [hP]; exact pow_le k hk.2
  have Ha := hide (allBelow_c a c bs P w h hb (by omega))
  have hall : decide (∀ b ∈ bs, b < P) = true := decide_eq_true (by rw [hP]; exact hbk)
  rw [hall] at Ha
  have Hn := hide (newWriter_c k w hk)
  have HLz := hide (Lz.of h hb)
  have Hb := hide hb
  have Hbk := hide hbk
  have hk0 : ¬ (k : Int) < 0 := by omega
  clear h hb hbk hP hall
  go_enter Try.func19, Try.ntmps19
  go_wp2_with fail
  refine Hs.out.mono ?_
  rintro e w1 ⟨rfl, rfl⟩
  go_wp2_with fail
  refine Ha.out.mono ?_
  rintro e w1 ⟨rfl, rfl⟩
  go_wp2_with fail
  refine Hn.out.mono ?_
  rintro e w1 ⟨A, mb, rfl, hk1, hF1⟩
  have HW0 : Hid (Wst w w1 w.heap.size A mb k bs 0) := by
    refine ⟨⟨0, true, -1, _, 0, _, _, ⟨k + 1, [], [], []⟩, hk1, fun most hm => ?_, Nat.le_refl _, Or.inl ⟨rfl, rfl, rfl, rfl, rfl, fun _ _ => rfl⟩⟩, hF1, rfl⟩
    have h1 := (Led.init k most).clear (by show 2 ^ k < 2 ^ (k + 1); exact Nat.pow_lt_pow_right (by omega) (by omega))
    have e : (⟨0 + wid k zinit.rows.length, [], [], zinit.out⟩ : Zs) = ⟨k + 1, [], [], []⟩ := by simp [zinit, wid]
    rw [e] at h1
    exact h1
  clear hk1 hF1
  go_wp2
  go_loopw [26] (fun iv wr => ∃ i : Nat, i ≤ bs.length ∧ iv = .int .i64 (i : Int) ∧ Hid (Wst w wr w.heap.size A mb k bs i)) (fun iv _ => bs.length - (intOf iv).toNat)
  case atStart => exact ⟨0, Nat.zero_le _, rfl, HW0.out⟩
  case round =>
    obtain ⟨i, hi, rfl, HW⟩ := hrel
    by_cases hlt : i < bs.length
    · obtain ⟨ad, rfl, hcell⟩ := (HLz.out.fr HW.out.fr).2 i hlt
      have HS := hide (HW.out.step (x := bs.getD i 0) hk hlt hlen (Hbk.out _ (getD_mem bs i hlt)) (Hb.out _ (getD_mem bs i hlt)) (getD_take_succ bs i hlt))
      obtain ⟨x, hx⟩ : ∃ x, x = bs.getD i 0 := ⟨_, rfl⟩
      rw [← hx] at hcell HS
      clear hx
      go_wp2_with fail
      refine HS.out.mono ?_
      rintro e w2 ⟨rfl, hW2⟩
      have HW2 := hide hW2
      clear hW2
      go_wp2
      go_roundw
      case rel => exact ⟨i + 1, by omega, by go_num, HW2.out⟩
      case measure => simp [intOf]; omega
    · have e : i = bs.length := by omega
      subst e
      have HE := hide (HW.out.end_ hk hlen)
      go_wp2_with fail
      refine HE.out.mono ?_
      rintro e w2 ⟨Z, az, cz, rfl, h1, h2, h3, h4, h5⟩
      have H1 := hide (And.intro h1 (And.intro h2 (And.intro h3 (And.intro h4 h5))))
      clear h1 h2 h3 h4 h5
      go_wp2_with fail
      go_ret2
      exact ⟨Z, az, cz, rfl, H1.out.1, H1.out.2.1, H1.out.2.2.1, H1.out.2.2.2.1, H1.out.2.2.2.2⟩
end Go.Proofs.Ytdbgolklgiadeaa
