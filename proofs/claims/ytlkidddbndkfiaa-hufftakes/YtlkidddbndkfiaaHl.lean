/-
  HuffTakes.
-/
import Derived.Test.YtlkidddbndkfiaaHk
import Derived.Test.YtlkidddbndkfiaaHj
namespace Go.Proofs.Ytlkidddbndkfiaa
open Go.RowKit

theorem refNew_bad' (a : Option Addr) (c : Nat) (ls : List Int) (w : World) (hl : LiesI w a ls) (hg : ¬ good ls) :
    Calls Try.prog 11 #[.slice a ls.length c] w fun e w' => e = .returned (.tuple #[.pointer none, .int .i64 1]) ∧ Fr (fun _ => False) w w' := by
  by_cases h : ls.length ≤ 320
  · exact refNew_c a c ls w hl h _ (fun _ _ hF => ⟨rfl, hF⟩) (fun h => absurd h hg) (fun h => absurd h hg)
  · exact (refNew_big a c ls w (by omega)).mono fun e w' ⟨he, hw⟩ => ⟨he, hw ▸ Fr.refl _ _⟩
theorem refNew_form' (a : Option Addr) (c : Nat) (ls : List Int) (w : World) (hl : LiesI w a ls) (hg : good ls) (hok : ¬ codeOk ls) :
    Calls Try.prog 11 #[.slice a ls.length c] w fun e w' => e = .returned (.tuple #[.pointer none, .int .i64 4]) ∧ Fr (fun _ => False) w w' :=
  refNew_c a c ls w hl hg.1 _ (fun h => absurd hg h) (fun _ _ _ hF => ⟨rfl, hF⟩) (fun _ h => absurd h hok)
theorem refNew_ok' (a : Option Addr) (c : Nat) (ls : List Int) (w : World) (hl : LiesI w a ls) (hg : good ls) (hok : codeOk ls) :
    Calls Try.prog 11 #[.slice a ls.length c] w fun e w' => ∃ B, e = .returned (.tuple #[.pointer (some ⟨B, 0, none⟩), .int .i64 0]) ∧ Rc w' w.heap.size w'.heap.size B ls ∧ Fr (fun _ => False) w w' :=
  refNew_c a c ls w hl hg.1 _ (fun h => absurd hg h) (fun _ h => absurd hok h) (fun _ _ _ B hC hF => ⟨B, rfl, hC, hF⟩)

set_option maxHeartbeats 800000 in
set_option maxRecDepth 100000 in
theorem takes_long (a b : Option Addr) (n c m d : Nat) (w : World) (h : (330 : Int) < (n : Int) ∨ (300 : Int) < (m : Int)) :
    Calls Try.prog 4 #[.slice a n c, .slice b m d] w fun e w' => e = .returned (.bool true) ∧ Fr (fun _ => False) w w' := by
  by_cases h1 : (330 : Int) < (n : Int)
  · go_enter Try.func4, Try.ntmps4
    go_wp2_with fail
    refine (awake_c w).mono ?_
    rintro e w1 ⟨rfl, hF⟩
    go_wp2
    go_ret
    exact ⟨rfl, hF⟩
  · have h2 : (300 : Int) < (m : Int) := by omega
    go_enter Try.func4, Try.ntmps4
    go_wp2_with fail
    refine (awake_c w).mono ?_
    rintro e w1 ⟨rfl, hF⟩
    go_wp2
    go_ret
    exact ⟨rfl, hF⟩

set_option maxHeartbeats 800000 in
set_option maxRecDepth 100000 in
theorem takes_no (a b : Option Addr) (c m d : Nat) (ls : List Int) (w : World) (hl : LiesI w a ls) (hlen : ls.length ≤ 330) (hm : m ≤ 300) (hno : ¬ (good ls ∧ codeOk ls)) :
    Calls Try.prog 4 #[.slice a ls.length c, .slice b m d] w fun e w' => e = .returned (.bool true) ∧ Fr (fun _ => False) w w' := by
  have hnew : ∃ x : Int, (x = 1 ∨ x = 4) ∧ (∀ W, LiesI W a ls → Calls Try.prog 10 #[.slice a ls.length c] W fun e w' => e = .returned (.tuple #[.pointer none, .int .i64 x]) ∧ Fr (fun _ => False) W w') ∧ (∀ W, LiesI W a ls → Calls Try.prog 11 #[.slice a ls.length c] W fun e w' => e = .returned (.tuple #[.pointer none, .int .i64 x]) ∧ Fr (fun _ => False) W w') := by
    by_cases hg : good ls
    · have hok : ¬ codeOk ls := fun h => hno ⟨hg, h⟩
      exact ⟨4, Or.inr rfl, fun W h => new_form a c ls W h hg hok, fun W h => refNew_form' a c ls W h hg hok⟩
    · exact ⟨1, Or.inl rfl, fun W h => (new_arg a c ls W h (by omega) hg).mono fun e w' ⟨he, hw⟩ => ⟨he, hw ▸ Fr.refl _ _⟩, fun W h => refNew_bad' a c ls W h hg⟩
  obtain ⟨x, hx, h1, h2⟩ := hnew
  have hx0 : (x == 0) = false := beq_false_of_ne (by omega)
  have hx1 : (x != 0) = true := by simp [bne, hx0]
  have Hl := hide hl
  have H1 := hide h1
  have H2 := hide h2
  clear hl hno h1 h2 hx
  go_enter Try.func4, Try.ntmps4
  go_wp2_with fail
  refine (awake_c w).mono ?_
  rintro e w1 ⟨rfl, hF1⟩
  have HF1 := hide hF1
  clear hF1
  go_wp2_with fail
  refine (H1.out w1 (Hl.out.keep HF1.out (fun _ _ _ h => h))).mono ?_
  rintro e w2 ⟨rfl, hF2⟩
  have HF2 := hide ((HF1.out.join hF2).join (Fr.of_alloc w2 (.cells #[.pointer none] 24)))
  clear hF2
  go_wp2_with fail
  refine (H2.out _ (Hl.out.keep HF2.out (fun _ _ _ h => h))).mono ?_
  rintro e w3 ⟨rfl, hF3⟩
  have HF3 := hide (HF2.out.join hF3)
  clear hF3
  go_wp2
  go_ret
  exact ⟨rfl, HF3.out⟩

/-- What the law's loop stands on: the two codes, the two readers, the two variables. -/
structure TS (w wr : World) (n1 n2 n3 n4 C M B : Nat) (ls : List Int) (bs : List Nat) (b : Option Addr) (d p : Nat) : Prop where
  cd : Cd wr n1 n2 C ls
  rc : Rc wr (n2 + 1) n3 M ls
  rdr : Rd 70 wr n3 n4 B bs p (.slice none 0 0) 0
  rf : Rf wr n4 (.slice b bs.length d) bs p false
  h5 : wr.heap[n2]? = some (.cells #[.pointer (some ⟨C, 0, none⟩)] 24 (0, 0))
  h9 : wr.heap[n4 + 1]? = some (.cells #[.pointer (some ⟨B, 0, none⟩)] 35 (0, 0))
  fr : Fr (fun _ => False) w wr
  lo : w.heap.size ≤ n1
  sv : bs ≠ [] → ∀ ad, b = some ad → ad.block < w.heap.size
  sz : n4 + 2 ≤ wr.heap.size

section
variable {w wr w' : World} {n1 n2 n3 n4 C M B : Nat} {ls : List Int} {bs : List Nat} {b : Option Addr} {d p : Nat}
theorem TS.nums (h : TS w wr n1 n2 n3 n4 C M B ls bs b d p) : ((n1 ≤ C ∧ C < n2) ∧ (n2 < M ∧ M < n3)) ∧ (n3 ≤ B ∧ B < n4) ∧ w.heap.size ≤ n1 := by
  have a1 := h.cd.elo
  have a2 := h.cd.ehi
  have a3 := h.rc.elo
  have a4 := h.rc.ehi
  have a5 := h.rdr.elo
  have a6 := h.rdr.ehi
  have a7 := h.lo
  omega
theorem TS.keep (h : TS w wr n1 n2 n3 n4 C M B ls bs b d p) {S : Nat → Prop} (f : Fr S wr w') (hS : ∀ k, S k → n4 + 2 ≤ k) : TS w w' n1 n2 n3 n4 C M B ls bs b d p := by
  have hn := h.nums
  have hsz := h.sz
  refine ⟨h.cd.keep f (fun k h1 h2 h3 => by have := hS k h3; omega), h.rc.keep f (fun k h1 h2 h3 => by have := hS k h3; omega), h.rdr.keep f (fun k h1 h2 h3 => by have := hS k h3; omega), h.rf.keep f (fun h3 => by have := hS _ h3; omega) (fun hne ad n c e => ?_), ?_, ?_, h.fr.join_new (f.mono fun k _ hk => by have := hS k hk; omega), h.lo, h.sv, Nat.le_trans h.sz f.size⟩
  · cases e
    have := h.sv hne ad rfl
    exact ⟨by omega, fun h3 => by have := hS _ h3; omega⟩
  · rw [f.block n2 (by omega) (fun h3 => by have := hS _ h3; omega)]; exact h.h5
  · rw [f.block (n4 + 1) (by omega) (fun h3 => by have := hS _ h3; omega)]; exact h.h9
/-- Behind the guarded Take. -/
theorem TS.guarded (h : TS w wr n1 n2 n3 n4 C M B ls bs b d p) {P : Nat} (hP : n4 + 2 ≤ P) (f : Fr (fun k => k = B ∨ k = P) wr w') :
    Cd w' n1 n2 C ls ∧ Rc w' (n2 + 1) n3 M ls ∧ Rf w' n4 (.slice b bs.length d) bs p false ∧ w'.heap[n2]? = some (.cells #[.pointer (some ⟨C, 0, none⟩)] 24 (0, 0)) ∧ w'.heap[n4 + 1]? = some (.cells #[.pointer (some ⟨B, 0, none⟩)] 35 (0, 0)) ∧ Fr (fun _ => False) w w' ∧ n4 + 2 ≤ w'.heap.size := by
  have hn := h.nums
  have hsz := h.sz
  refine ⟨h.cd.keep f (fun k h1 h2 h3 => by omega), h.rc.keep f (fun k h1 h2 h3 => by omega), h.rf.keep f (fun h3 => by omega) (fun hne ad n c e => ?_), ?_, ?_, h.fr.join_new (f.mono fun k _ hk => by omega), Nat.le_trans h.sz f.size⟩
  · cases e
    have := h.sv hne ad rfl
    exact ⟨by omega, fun h3 => by omega⟩
  · rw [f.block n2 (by omega) (fun h3 => by omega)]; exact h.h5
  · rw [f.block (n4 + 1) (by omega) (fun h3 => by omega)]; exact h.h9
theorem TS.next {w5 w6 : World} {n : Nat} (h : TS w wr n1 n2 n3 n4 C M B ls bs b d p) {P : Nat} (hP : n4 + 2 ≤ P) (f : Fr (fun k => k = B ∨ k = P) wr w5) (hr : Rd 70 w5 n3 n4 B bs (p + n) (.slice none 0 0) 0) (g : Fr (fun k => k = n4) w5 w6) (hq : Rf w6 n4 (.slice b bs.length d) bs (p + n) false) :
    TS w w6 n1 n2 n3 n4 C M B ls bs b d (p + n) := by
  have hn := h.nums
  obtain ⟨a1, a2, a3, a4, a5, a6, a7⟩ := h.guarded hP f
  refine ⟨a1.keep g (fun k h1 h2 h3 => by omega), a2.keep g (fun k h1 h2 h3 => by omega), hr.keep g (fun k h1 h2 h3 => by omega), hq, ?_, ?_, a6.join_new (g.mono fun k _ hk => by omega), h.lo, h.sv, Nat.le_trans a7 g.size⟩
  · rw [g.block n2 (by omega) (by omega)]; exact a4
  · rw [g.block (n4 + 1) (by omega) (by omega)]; exact a5
end

set_option maxHeartbeats 3200000 in
set_option maxRecDepth 100000 in
theorem takes_yes (a b : Option Addr) (c d : Nat) (ls : List Int) (bs : List Nat) (w : World) (hl : LiesI w a ls) (hg : good ls) (hok : codeOk ls) (hb : Lies w (.slice b bs.length d) bs) (hby : ∀ x ∈ bs, x < 256) (hlen : bs.length ≤ 300) (hbb : bs ≠ [] → ∀ ad, b = some ad → ad.block < w.heap.size) :
    Calls Try.prog 4 #[.slice a ls.length c, .slice b bs.length d] w fun e w' => e = .returned (.bool true) ∧ Fr (fun _ => False) w w' := by
  have h320 := hg.1
  have Hl := hide hl
  have Hg := hide hg
  have Hok := hide hok
  have Hb := hide hb
  have Hby := hide hby
  have Hbb := hide hbb
  have hmf : ∀ (fn : Fn) (first cap : Array Value) (w : World), (Instr.makeFunc fn first cap).run Try.prog w = .ok (.func fn first cap) w := fun _ _ _ _ => rfl
  clear hl hg hok hb hby hbb
  go_enter Try.func4, Try.ntmps4
  go_wp2_with fail
  refine (awake_c w).mono ?_
  rintro e w1 ⟨rfl, hF1⟩
  have HF1 := hide hF1
  clear hF1
  go_wp2_with fail
  refine (new_ok a c ls w1 (Hl.out.keep HF1.out (fun _ _ _ h => h)) Hg.out Hok.out).mono ?_
  rintro e w2 ⟨C, rfl, hC, hF2⟩
  have HC := hide hC
  have HF2 := hide (HF1.out.join hF2)
  clear hF2 hC
  go_wp2_with fail
  refine (refNew_ok' a c ls _ (Hl.out.keep (HF2.out.join (Fr.of_alloc _ _)) (fun _ _ _ h => h)) Hg.out Hok.out).mono ?_
  rintro e w3 ⟨M, rfl, hM, hF3⟩
  have HF3 := hide ((Fr.of_alloc w2 (.cells #[.pointer (some ⟨C, 0, none⟩)] 24)).join hF3)
  have H5 : Hid (w3.heap[w2.heap.size]? = some (.cells #[.pointer (some ⟨C, 0, none⟩)] 24 (0, 0))) := by
    show w3.heap[w2.heap.size]? = _
    rw [hF3.block _ (by simp) (fun h => h)]
    exact heap_alloc_new _ _
  have HM := hide hM
  clear hF3 hM
  go_wp2_with fail
  refine (newLow_c _ bs w3 (Hb.out.keep (fun hne ad n c e => by
    cases e
    have h1 := Hbb.out hne ad rfl
    exact (HF2.out.join HF3.out).block _ h1 (fun h => h))) Hby.out (by omega)).mono ?_
  rintro e w4 ⟨B, rfl, hB, hF4⟩
  have hts : TS w ((w4.alloc (.cells #[.slice b bs.length d, .int .i64 0, .bool false, .bool false] 39)).alloc (.cells #[.pointer (some ⟨B, 0, none⟩)] 35)) w1.heap.size w2.heap.size w3.heap.size w4.heap.size C M B ls bs b d 0 := by
    have f1 := (Fr.of_alloc w4 (.cells #[.slice b bs.length d, .int .i64 0, .bool false, .bool false] 39)).join (Fr.of_alloc _ (.cells #[.pointer (some ⟨B, 0, none⟩)] 35))
    have f2 := hF4.join f1
    have f3 := HF3.out.join f2
    have f4 := HF2.out.join f3
    have hw := HF1.out.size
    have s5 := lt_of H5.out
    have hs := hB.esz
    refine ⟨HC.out.keep f3 (fun _ _ _ h => h), ?_, hB.keep f1 (fun _ _ _ h => h), ⟨⟨false, ?_⟩, Hb.out.keep (fun hne ad n c e => ?_), fun hne ad n c e => ?_, Nat.zero_le _, Hby.out, by omega⟩, ?_, ?_, f4, hw, Hbb.out, ?_⟩
    · have := HM.out.keep f2 (fun _ _ _ h => h)
      simpa using this
    · rw [Below.heap_alloc _ _ _ (by simp)]
      exact heap_alloc_at rfl
    · cases e
      exact f4.block _ (Hbb.out hne ad rfl) (fun h => h)
    · cases e
      have h1 := Hbb.out hne ad rfl
      have h2 := HF2.out.size
      have h3 := HF3.out.size
      have h4 := hF4.size
      omega
    · rw [f2.block _ s5 (fun h => h)]
      exact H5.out
    · exact heap_alloc_at (by simp)
    · simp
  have HT := hide hts
  have k5 := cell_of (o := 0) hts.h5 rfl
  have k9 := cell_of (o := 0) hts.h9 rfl
  clear hB hF4 hts
  go_wp2
  clear k5 k9
  go_loopw [11, 12, 13, 14, 15] (fun iv _ _ _ _ wr => ∃ i p : Nat, i ≤ 8 * bs.length + 2 ∧ iv = .int .i64 (i : Int) ∧ TS w wr w1.heap.size w2.heap.size w3.heap.size w4.heap.size C M B ls bs b d p) (fun iv _ _ _ _ _ => 8 * bs.length + 2 - (intOf iv).toNat)
  case atStart => exact ⟨0, 0, Nat.zero_le _, rfl, HT.out⟩
  case round =>
    obtain ⟨i, p, hi, rfl, hT⟩ := hrel
    by_cases hlt : i < 8 * bs.length + 2
    · have HTr := hide hT
      have hn := hT.nums
      have hsz := hT.sz
      have hT1 := hT.keep (Fr.of_alloc wr (.cells #[.int .i64 0] 3)) (fun _ h => h.elim)
      have HT1 := hide hT1
      have Hn := hide hn
      have Hsz := hide hsz
      clear hT hn hsz hT1
      go_wp2_with fail
      refine (guard16 _ _ wr.heap.size _ _ C _ _ B ls bs p _ _ 0 _ HT1.out.h5 HT1.out.h9 (heap_alloc_new _ _) HT1.out.cd HT1.out.rdr (by have := Hn.out; omega) (by have := Hsz.out; omega)).mono ?_
      rintro e w5 (⟨n, y, rfl, g1, g2, g3, g4, g5⟩ | ⟨rfl, g1, g2⟩)
      · obtain ⟨q1, q2, q3, q4, q5, q6, q7⟩ := HT1.out.guarded Hsz.out g5
        have G1 := hide g1
        have G2 := hide g2
        have G3 := hide g3
        have G4 := hide g4
        have G5 := hide g5
        have Q2 := hide q2
        have Q3 := hide q3
        have hw5 := q7
        clear g1 g2 g3 g4 g5 q1 q2 q3 q4 q5 q6 q7
        go_wp2_with fail
        refine rtake_Q _ _ M _ ls _ bs p w5 Q2.out Q3.out (Or.inl (by have := Hn.out; omega)) _ ?_ ?_
        · intro n' y' w6 r1 r2 r3 r4
          obtain rfl : n = n' := G1.out.unique r1
          obtain rfl : y = y' := by
            have := G2.out
            rw [r2] at this
            exact (Option.some.inj this).symm
          have hT6 := HT1.out.next Hsz.out G5.out G3.out r4 r3
          have c12 : w6.heap[wr.heap.size]? = some (.cells #[.int .i64 (y : Int)] 3 (0, 0)) := by
            rw [r4.block _ (lt_of G4.out) (by have := Hsz.out; omega)]
            exact G4.out
          have k12 := cell_of (o := 0) c12 rfl
          have k9 := cell_of (o := 0) hT6.h9 rfl
          have HT6 := hide hT6
          clear r1 r2 r3 r4 hT6 c12
          have hyy : ((y : Int) != (y : Int)) = false := by simp
          go_wp2_with fail
          refine (low_left w6 _ _ B bs (p + n) _ _ HT6.out.rdr).mono ?_
          rintro e w7 ⟨rfl, k, rfl⟩
          go_wp2_with fail
          refine (ref_left _ _ _ bs (p + n) false (HT6.out.rf.drewN k)).mono ?_
          rintro e w8 ⟨rfl, k', rfl⟩
          have hT8 := HT6.out.keep (Fr.of_drewN w6 (k + k')) (fun _ h => h.elim)
          have HT8 := hide hT8
          clear hT8
          go_wp2
          go_roundw
          case rel => exact ⟨i + 1, p + n, by omega, by go_num, HT8.out⟩
          case measure => simp [intOf]; omega
        · intro r1
          exact absurd G1.out (r1 n)
      · obtain ⟨q1, q2, q3, q4, q5, q6, q7⟩ := HT1.out.guarded Hsz.out g2
        have G1 := hide g1
        have Q2 := hide q2
        have Q3 := hide q3
        have Q6 := hide q6
        clear g1 g2 q1 q2 q3 q4 q5 q6 q7
        go_wp2_with fail
        refine rtake_Q _ _ M _ ls _ bs p w5 Q2.out Q3.out (Or.inl (by have := Hn.out; omega)) _ ?_ ?_
        · intro n' y' w6 r1
          exact absurd r1 (G1.out n')
        · intro r1 er w6 her r2
          have hx0 : (er == 0) = false := beq_false_of_ne (by omega)
          have HF6 := hide (Q6.out.join_new (r2.mono fun k _ hk => by have := Hn.out; omega))
          clear r1 r2 her
          go_wp2
          go_ret
          exact ⟨rfl, HF6.out⟩
    · have HF := hide hT.fr
      clear hT
      go_wp2
      go_ret
      exact ⟨rfl, HF.out⟩
end Go.Proofs.Ytlkidddbndkfiaa
