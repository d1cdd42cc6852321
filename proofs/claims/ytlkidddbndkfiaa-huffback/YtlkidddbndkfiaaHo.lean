/-
  HuffBack: what was put, symbol by symbol.
-/
import Derived.Test.YtlkidddbndkfiaaHn
import Derived.Test.YtlkidddbndkfiaaHk
namespace Go.Proofs.Ytlkidddbndkfiaa
open Go.RowKit

set_option maxHeartbeats 800000 in
set_option maxRecDepth 100000 in
theorem put_no (lo hi C B i : Nat) (ls : List Int) (w : World) (hC : Cd w lo hi C ls) (hn : ls.length ≤ i ∨ at0 ls i = 0) :
    Calls Try.prog 21 #[.pointer (some ⟨C, 0, none⟩), .pointer (some ⟨B, 0, none⟩), .int .i64 (i : Int)] w fun e w' => e = .returned (.bool false) ∧ Fr (fun _ => False) w w' := by
  have CW : Hid (Calls Try.prog 12 #[.pointer (some ⟨C, 0, none⟩), .int .i64 (i : Int)] w fun e w' => e = .returned (.tuple #[.int .i64 0, .int .i64 0, .bool false]) ∧ Fr (fun _ => False) w w') := by
    by_cases hi' : i < ls.length
    · exact word_not lo hi C i ls w hC hi' (by omega)
    · exact word_out lo hi C i ls w hC (Or.inr (by omega))
  clear hC hn
  go_enter Try.func21, Try.ntmps21
  go_wp2_with fail
  refine CW.out.mono ?_
  rintro e w1 ⟨rfl, hF1⟩
  go_wp2
  go_ret
  exact ⟨rfl, hF1⟩

/-- A row of words in a number. -/
def spell (ls : List Int) (V : Nat) : Nat → List Nat → Prop
  | _, [] => True
  | p, s :: r => ((s < ls.length ∧ 1 ≤ at0 ls s) ∧ rd V p (at0 ls s).toNat = wd ls s) ∧ spell ls V (p + (at0 ls s).toNat) r

/-- How many bits they are. -/
def span (ls : List Int) : List Nat → Nat
  | [] => 0
  | s :: r => (at0 ls s).toNat + span ls r

theorem span_append (ls : List Int) (a b : List Nat) : span ls (a ++ b) = span ls a + span ls b := by
  induction a with
  | nil => simp [span]
  | cons s r ih => simp only [List.cons_append, span, ih]; omega
theorem spell_append (ls : List Int) (V p : Nat) (a b : List Nat) : spell ls V p (a ++ b) ↔ spell ls V p a ∧ spell ls V (p + span ls a) b := by
  induction a generalizing p with
  | nil => simp [spell, span]
  | cons s r ih =>
    simp only [List.cons_append, spell, span, ih, Nat.add_assoc]
    exact ⟨fun ⟨a, b, c⟩ => ⟨⟨a, b⟩, c⟩, fun ⟨⟨a, b⟩, c⟩ => ⟨a, b, c⟩⟩
theorem spell_agree (ls : List Int) (X Q m p : Nat) (l : List Nat) (h : p + span ls l ≤ m) (hs : spell ls X p l) : spell ls (X + Q * 2 ^ m) p l := by
  induction l generalizing p with
  | nil => trivial
  | cons s r ih =>
    simp only [span] at h
    obtain ⟨⟨h1, h2⟩, h3⟩ := hs
    exact ⟨⟨h1, by rw [rd_agree _ _ _ _ _ (by omega)]; exact h2⟩, ih _ (by omega) h3⟩
theorem span_le {ls : List Int} (hg : good ls) (V : Nat) (p : Nat) (l : List Nat) (hs : spell ls V p l) : span ls l ≤ 15 * l.length := by
  induction l generalizing p with
  | nil => exact Nat.le_refl _
  | cons s r ih =>
    obtain ⟨⟨h1, _⟩, h3⟩ := hs
    have := ih _ h3
    have := (hg.2 s h1.1).2
    simp only [span, List.length_cons]
    omega

set_option maxHeartbeats 800000 in
set_option maxRecDepth 100000 in
theorem back_long (a b : Option Addr) (n c m d : Nat) (w : World) (h : (320 : Int) < (n : Int) ∨ (300 : Int) < (m : Int)) :
    Calls Try.prog 5 #[.slice a n c, .slice b m d] w fun e w' => e = .returned (.bool true) ∧ Fr (fun _ => False) w w' := by
  by_cases h1 : (320 : Int) < (n : Int)
  · go_enter Try.func5, Try.ntmps5
    go_wp2_with fail
    refine (awake_c w).mono ?_
    rintro e w1 ⟨rfl, hF⟩
    go_wp2
    go_ret
    exact ⟨rfl, hF⟩
  · have h2 : (300 : Int) < (m : Int) := by omega
    go_enter Try.func5, Try.ntmps5
    go_wp2_with fail
    refine (awake_c w).mono ?_
    rintro e w1 ⟨rfl, hF⟩
    go_wp2
    go_ret
    exact ⟨rfl, hF⟩

set_option maxHeartbeats 800000 in
set_option maxRecDepth 100000 in
theorem back_no (a b : Option Addr) (c m d : Nat) (ls : List Int) (w : World) (hl : LiesI w a ls) (hlen : ls.length ≤ 320) (hm : m ≤ 300) (hno : ¬ (good ls ∧ codeOk ls)) :
    Calls Try.prog 5 #[.slice a ls.length c, .slice b m d] w fun e w' => e = .returned (.bool true) ∧ Fr (fun _ => False) w w' := by
  have hnew : ∃ x : Int, (x = 1 ∨ x = 4) ∧ (∀ W, LiesI W a ls → Calls Try.prog 10 #[.slice a ls.length c] W fun e w' => e = .returned (.tuple #[.pointer none, .int .i64 x]) ∧ Fr (fun _ => False) W w') := by
    by_cases hg : good ls
    · have hok : ¬ codeOk ls := fun h => hno ⟨hg, h⟩
      exact ⟨4, Or.inr rfl, fun W h => new_form a c ls W h hg hok⟩
    · exact ⟨1, Or.inl rfl, fun W h => (new_arg a c ls W h (by omega) hg).mono fun e w' ⟨he, hw⟩ => ⟨he, hw ▸ Fr.refl _ _⟩⟩
  obtain ⟨x, hx, h1⟩ := hnew
  have hx0 : (x == 0) = false := beq_false_of_ne (by omega)
  have hx1 : (x != 0) = true := by simp [bne, hx0]
  have Hl := hide hl
  have H1 := hide h1
  clear hl hno h1 hx
  go_enter Try.func5, Try.ntmps5
  go_wp2_with fail
  refine (awake_c w).mono ?_
  rintro e w1 ⟨rfl, hF1⟩
  have HF1 := hide hF1
  clear hF1
  go_wp2_with fail
  refine (H1.out w1 (Hl.out.keep HF1.out (fun _ _ _ h => h))).mono ?_
  rintro e w2 ⟨rfl, hF2⟩
  have HF2 := hide ((HF1.out.join hF2).join (Fr.of_alloc w2 (.cells #[.pointer none] 24)))
  clear hF2
  go_wp2
  go_ret
  exact ⟨rfl, HF2.out⟩

/-- A slice of numbers of 16 bits that lies in memory. -/
def LiesH (w : World) (a : Option Addr) (zs : List Int) : Prop :=
  ∀ j, j < zs.length → (∃ ad, a = some ad ∧ w.cell? (ad.add j) = some (.int .u16 (at0 zs j))) ∧ 0 ≤ at0 zs j ∧ at0 zs j < 65536
theorem LiesH.keep {w w' : World} {a : Option Addr} {zs : List Int} (h : LiesH w a zs) {S : Nat → Prop} (f : Fr S w w') (hS : ∀ k, k < w.heap.size → ¬ S k) : LiesH w' a zs := by
  intro j hj
  obtain ⟨⟨ad, rfl, hc⟩, hr⟩ := h j hj
  refine ⟨⟨ad, rfl, ?_⟩, hr⟩
  have hb := World.block_lt_of_cell? _ _ hc
  rw [World.cell?_of_block (w := w) (f.block _ hb (hS _ hb))]
  exact hc

/-- The law's first loop: the code, the writer, what went in. -/
structure BS (w wr : World) (n1 n2 n3 C B : Nat) (ls : List Int) (v : Value) (ins : List Nat) : Prop where
  cd : Cd wr n1 n2 C ls
  h5 : wr.heap[n2]? = some (.cells #[.pointer (some ⟨C, 0, none⟩)] 24 (0, 0))
  ex : ∃ g os wn, Wr 70 wr (n2 + 1) B g os wn ∧ LowSt os wn ∧ wn = span ls ins ∧ spell ls (leNum os) 0 ins ∧ ∀ k, g = some k → v.ownBlock ≠ some k
  own : wr.ownsRow n3 3 1 v ins.length (cellsI ins)
  bb : n2 < B ∧ B < n3
  fr : Fr (fun _ => False) w wr
  lo : w.heap.size ≤ n1
  sz : n3 ≤ wr.heap.size
theorem Wr.los {T : TypeId} {w : World} {lo B : Nat} {g : Option Nat} {os : List Nat} {wr : Nat} (h : Wr T w lo B g os wr) : ∀ k, g = some k → lo ≤ k := by
  obtain ⟨v, pos, ov, h1, h2, h3⟩ := h.eobj
  intro k hk
  exact (h2.lt k (h3.trans hk)).1

theorem BS.keep {w wr w' : World} {n1 n2 n3 C B : Nat} {ls : List Int} {v : Value} {ins : List Nat} (h : BS w wr n1 n2 n3 C B ls v ins) (f : Fr (fun _ => False) wr w') : BS w w' n1 n2 n3 C B ls v ins := by
  obtain ⟨g, os, wn, h1, h2, h3, h4, h5⟩ := h.ex
  have hsz := h.sz
  have hbb := h.bb
  refine ⟨h.cd.keep f (fun _ _ _ h => h), by rw [f.block n2 (by omega) (fun h => h)]; exact h.h5, ⟨g, os, wn, h1.keep f (fun h => h) (fun _ _ h => h), h2, h3, h4, h5⟩, ownsRow_fr h.own fun k hk => f.block k (h.own.lt k hk).2 (fun h => h), h.bb, h.fr.join f, h.lo, Nat.le_trans h.sz f.size⟩

theorem BS.step {w wr w1 w2 : World} {n1 n2 n3 C B : Nat} {ls : List Int} {v v' : Value} {ins : List Nat} {g g' : Option Nat} {os os' : List Nat} {wn Q L s : Nat} (h : BS w wr n1 n2 n3 C B ls v ins) (hW : Wr 70 wr (n2 + 1) B g os wn) (hwn : wn = span ls ins) (hsp : spell ls (leNum os) 0 ins) (hgv : ∀ k, g = some k → v.ownBlock ≠ some k)
    (hs1 : s < ls.length) (hL : at0 ls s = (L : Int)) (hz : 0 < L) (q1 : Wr 70 w1 (n2 + 1) B g' os' (wn + L)) (q2 : LowSt os' (wn + L)) (q3 : leNum os' = leNum os + Q * 2 ^ wn) (q4 : rd (leNum os') wn L = wd ls s) (q5 : Fr (fun i => i = B ∨ g = some i) wr w1) (q6 : g' = g ∨ ∃ k, g' = some k ∧ wr.heap.size ≤ k)
    (r1 : w2.ownsRow n3 3 1 v' (ins.length + 1) (cellsI ins ++ [.int .i64 (s : Int)])) (r2 : Fr (fun i => v.ownBlock = some i) w1 w2) (r3 : ∀ k, v'.ownBlock = some k → v.ownBlock = some k ∨ w1.heap.size ≤ k) : BS w w2 n1 n2 n3 C B ls v' (ins ++ [s]) := by
  have hsz := h.sz
  have hbb := h.bb
  have hlo := h.lo
  have hc1 := h.cd.elo
  have hc2 := h.cd.ehi
  have hgl := hW.los
  have hgs := hW.lts
  have hvl := h.own.lt
  have h15 := q5.size
  have hg'l : ∀ k, g' = some k → k < w1.heap.size ∧ n2 + 1 ≤ k := fun k hk => ⟨q1.lts k hk, q1.los k hk⟩
  have hg'v : ∀ k, g' = some k → v.ownBlock ≠ some k := by
    intro k hk e
    rcases q6 with h1 | ⟨k2, h1, h2⟩
    · exact hgv k (h1 ▸ hk) e
    · rw [hk] at h1
      cases h1
      have := (hvl k e).2
      omega
  have hd1 : Cd w1 n1 n2 C ls := h.cd.keep q5 (fun k h1 h2 h3 => by
    rcases h3 with h3 | h3
    · omega
    · have := hgl k h3; omega)
  have h51 : w1.heap[n2]? = some (.cells #[.pointer (some ⟨C, 0, none⟩)] 24 (0, 0)) := by
    rw [q5.block n2 (by omega) (fun h3 => by
      rcases h3 with h3 | h3
      · omega
      · have := hgl n2 h3; omega)]
    exact h.h5
  have hv2 : ∀ k, v.ownBlock = some k → n3 ≤ k := fun k hk => (hvl k hk).1
  refine ⟨hd1.keep r2 (fun k h1 h2 h3 => by have := hv2 k h3; omega), ?_, ⟨g', os', wn + L, q1.keep r2 (fun h3 => by have := hv2 B h3; omega) (fun k hk h3 => hg'v k hk h3), q2, ?_, ?_, ?_⟩, ?_, h.bb, ?_, h.lo, Nat.le_trans (Nat.le_trans h.sz q5.size) r2.size⟩
  · rw [r2.block n2 (by omega) (fun h3 => by have := hv2 n2 h3; omega)]; exact h51
  · rw [span_append, hwn]
    simp only [span]
    rw [hL]
    simp
  · rw [spell_append]
    refine ⟨?_, ?_⟩
    · rw [q3]
      exact spell_agree ls _ Q wn 0 ins (by omega) hsp
    · refine ⟨⟨⟨hs1, by omega⟩, ?_⟩, trivial⟩
      rw [hL, Nat.zero_add, ← hwn]
      simpa using q4
  · intro k hk e
    rcases r3 k e with h1 | h1
    · exact hg'v k hk h1
    · have := (hg'l k hk).1
      omega
  · have e : cellsI (ins ++ [s]) = cellsI ins ++ [.int .i64 (s : Int)] := by simp [cellsI]
    rw [e, List.length_append]
    exact r1
  · exact h.fr.join_new ((q5.trans r2).mono fun k _ h3 => by
      rcases h3 with (h3 | h3) | h3
      · omega
      · have := hgl k h3; omega
      · have := hv2 k h3; omega)

theorem guard23_hit (P5 P9 P12 lo hi C lo' hi' B : Nat) (ls : List Int) (bs : List Nat) (p : Nat) (ov : Value) (wn x : Int) (n y : Nat) (w : World) (h5 : w.heap[P5]? = some (.cells #[.pointer (some ⟨C, 0, none⟩)] 24 (0, 0))) (h9 : w.heap[P9]? = some (.cells #[.pointer (some ⟨B, 0, none⟩)] 35 (0, 0))) (h12 : w.heap[P12]? = some (.cells #[.int .i64 x] 3 (0, 0)))
    (hC : Cd w lo hi C ls) (hB : Rd 70 w lo' hi' B bs p ov wn) (hap : hi ≤ lo') (hap12 : hi' ≤ P12) (hit : Hit ls (leNum bs) (8 * bs.length) p n) (hy : (rkd ls 15)[hitAt ls (leNum bs) p n]? = some y) :
    Calls Try.prog 15 #[.func (.func 23) #[] #[.pointer (some ⟨P5, 0, none⟩), .pointer (some ⟨P9, 0, none⟩), .pointer (some ⟨P12, 0, none⟩)]] w fun e w' =>
      e = .returned (.bool true) ∧ Rd 70 w' lo' hi' B bs (p + n) ov wn ∧ w'.heap[P12]? = some (.cells #[.int .i64 (y : Int)] 3 (0, 0)) ∧ Fr (fun k => k = B ∨ k = P12) w w' := by
  refine (guard23 P5 P9 P12 lo hi C lo' hi' B ls bs p ov wn x w h5 h9 h12 hC hB hap hap12).mono ?_
  rintro e w' (⟨n', y', rfl, g1, g2, g3, g4, g5⟩ | ⟨rfl, g1, g2⟩)
  · obtain rfl : n = n' := hit.unique g1
    obtain rfl : y = y' := by
      rw [g2] at hy
      exact (Option.some.inj hy).symm
    exact ⟨rfl, g3, g4, g5⟩
  · exact absurd hit (g1 n)

/-- The law's second loop: the code, the reader, what went in. -/
structure CS (w wr : World) (n1 n2 n3 n4 n5 C B : Nat) (ls : List Int) (v : Value) (ins os : List Nat) (p : Nat) : Prop where
  cd : Cd wr n1 n2 C ls
  h5 : wr.heap[n2]? = some (.cells #[.pointer (some ⟨C, 0, none⟩)] 24 (0, 0))
  own : wr.ownsRow n3 3 1 v ins.length (cellsI ins)
  vlt : ∀ k, v.ownBlock = some k → k < n4
  rdr : Rd 70 wr n4 n5 B os p (.slice none 0 0) 0
  h12 : wr.heap[n5]? = some (.cells #[.pointer (some ⟨B, 0, none⟩)] 35 (0, 0))
  fr : Fr (fun _ => False) w wr
  lo : (w.heap.size ≤ n1 ∧ n2 < n3) ∧ n3 ≤ n4
  sz : n5 < wr.heap.size

theorem CS.keep {w wr w' : World} {n1 n2 n3 n4 n5 C B : Nat} {ls : List Int} {v : Value} {ins os : List Nat} {p : Nat} (h : CS w wr n1 n2 n3 n4 n5 C B ls v ins os p) (f : Fr (fun _ => False) wr w') : CS w w' n1 n2 n3 n4 n5 C B ls v ins os p := by
  have hsz := h.sz
  have hlo := h.lo
  have b1 := h.rdr.elo
  have b2 := h.rdr.ehi
  refine ⟨h.cd.keep f (fun _ _ _ h => h), by rw [f.block n2 (by omega) (fun h => h)]; exact h.h5, ownsRow_fr h.own fun k hk => f.block k (h.own.lt k hk).2 (fun h => h), h.vlt, h.rdr.keep f (fun _ _ _ h => h), by rw [f.block n5 (by omega) (fun h => h)]; exact h.h12, h.fr.join f, h.lo, Nat.le_trans h.sz f.size⟩
theorem CS.next {w wr w' : World} {n1 n2 n3 n4 n5 C B : Nat} {ls : List Int} {v : Value} {ins os : List Nat} {p n P : Nat} (h : CS w wr n1 n2 n3 n4 n5 C B ls v ins os p) (hP : n5 < P) (f : Fr (fun k => k = B ∨ k = P) wr w') (hr : Rd 70 w' n4 n5 B os (p + n) (.slice none 0 0) 0) : CS w w' n1 n2 n3 n4 n5 C B ls v ins os (p + n) := by
  have hsz := h.sz
  have hlo := h.lo
  have b1 := h.rdr.elo
  have b2 := h.rdr.ehi
  have c1 := h.cd.elo
  have c2 := h.cd.ehi
  refine ⟨h.cd.keep f (fun k h1 h2 h3 => by omega), by rw [f.block n2 (by omega) (by omega)]; exact h.h5, ownsRow_fr h.own fun k hk => f.block k (h.own.lt k hk).2 (fun h3 => by have := h.vlt k hk; omega), h.vlt, hr, by rw [f.block n5 (by omega) (by omega)]; exact h.h12, h.fr.join_new (f.mono fun k _ h3 => by omega), h.lo, Nat.le_trans h.sz f.size⟩

set_option maxHeartbeats 3200000 in
set_option maxRecDepth 100000 in
theorem back_yes (a b : Option Addr) (c d : Nat) (ls : List Int) (ss : List Int) (w : World) (hl : LiesI w a ls) (hg : good ls) (hok : codeOk ls) (hb : LiesH w b ss) (hlen : ss.length ≤ 300) :
    Calls Try.prog 5 #[.slice a ls.length c, .slice b ss.length d] w fun e w' => e = .returned (.bool true) ∧ Fr (fun _ => False) w w' := by
  have h320 := hg.1
  obtain ⟨i0, hi0, hz0, hz1, hz2⟩ := info_parts Try.info3
  have Hl := hide hl
  have Hg := hide hg
  have Hok := hide hok
  have Hb := hide hb
  have hmf : ∀ (fn : Fn) (first cap : Array Value) (w : World), (Instr.makeFunc fn first cap).run Try.prog w = .ok (.func fn first cap) w := fun _ _ _ _ => rfl
  clear hl hg hok hb
  go_enter Try.func5, Try.ntmps5
  go_wp2_with fail
  refine (awake_c w).mono ?_
  rintro e w1 ⟨rfl, hF1⟩
  have HF1 := hide hF1
  clear hF1
  go_wp2_with fail
  refine (new_ok a c ls w1 (Hl.out.keep HF1.out (fun _ _ _ h => h)) Hg.out Hok.out).mono ?_
  rintro e w2 ⟨C, rfl, hC, hF2⟩
  have HC := hide hC
  have HF2 := hide (HF1.out.join hF2)
  clear hF2 hC
  go_wp2_with fail
  refine (newLow_c _ [] _ (Or.inl ⟨rfl, rfl⟩) (by simp) (by simp)).mono ?_
  rintro e w3 ⟨B, rfl, hB, hF3⟩
  have hst : BS w w3 w1.heap.size w2.heap.size w3.heap.size C B ls (.slice none 0 0) [] := by
    have f0 := Fr.of_alloc w2 (.cells #[.pointer (some ⟨C, 0, none⟩)] 24)
    have f1 := f0.join hF3
    have b1 := hB.elo
    have b2 := hB.ehi
    simp at b1
    refine ⟨HC.out.keep f1 (fun _ _ _ h => h), ?_, ⟨none, [], 0, ?_, ⟨rfl, by simp, by simp [leNum]⟩, rfl, trivial, fun k hk => by cases hk⟩, World.ownsRow_nil _ _ _ _, by omega, HF2.out.join f1, HF1.out.size, Nat.le_refl _⟩
    · rw [hF3.block _ (by simp) (fun h => h)]
      exact heap_alloc_new _ _
    · obtain ⟨v, h1, h2, h3⟩ := hB.eobj
      refine ⟨⟨v, 0, .slice none 0 0, h1, World.ownsRow_nil _ _ _ _, rfl⟩, (fun k hk => by cases hk), ?_⟩
      have := f1.size
      have := hF3.size
      simp at this
      omega
  have HST := hide hst
  have k5 := cell_of (o := 0) hst.h5 rfl
  clear hst hB hF3
  go_wp2
  clear k5
  go_loopw [8, 9, 10, 11] (fun vv iv _ _ wr => ∃ (i : Nat) (ins : List Nat), i ≤ ss.length ∧ ins.length ≤ i ∧ iv = .int .i64 (i : Int) ∧ BS w wr w1.heap.size w2.heap.size w3.heap.size C B ls vv ins) (fun _ iv _ _ _ => ss.length - (intOf iv).toNat)
  case atStart => exact ⟨0, [], Nat.zero_le _, Nat.le_refl _, rfl, HST.out⟩
  case round =>
    obtain ⟨i, ins, hi, hin, rfl, hT⟩ := hrel
    rename_i wr vv
    obtain ⟨va, vc, rfl⟩ := ownsRow_shape hT.own
    by_cases hlt : i < ss.length
    · obtain ⟨⟨ad, rfl, hc⟩, hr0, hr1⟩ := Hb.out.keep hT.fr (fun _ _ h => h) i hlt
      obtain ⟨z, hz⟩ : ∃ z : Nat, at0 ss i = (z : Int) := ⟨(at0 ss i).toNat, by omega⟩
      rw [hz] at hc
      obtain ⟨S, hS⟩ : ∃ S : Nat, S = z % 330 := ⟨_, rfl⟩
      have hmod : ((z : Int) % 330) = (S : Int) := by omega
      have hSb : S < 330 := by omega
      have hzb : (z : Int) < 65536 := by omega
      have k5 := cell_of (o := 0) hT.h5 rfl
      have hL := Hl.out.keep hT.fr (fun _ _ _ h => h)
      have HT := hide hT
      clear hT hz hr0 hr1 hS
      by_cases hSl : S < ls.length
      · obtain ⟨ad2, rfl, hc2⟩ := hL S hSl
        have hg2 := Hg.out.2 S hSl
        obtain ⟨L, hL2⟩ : ∃ L : Nat, at0 ls S = (L : Int) := ⟨(at0 ls S).toNat, by omega⟩
        rw [hL2] at hc2
        have HL2 := hide hL2
        have hSl2 : (S : Int) < (ls.length : Nat) := by omega
        clear hL hL2 hg2
        by_cases hLz : 0 < L
        · obtain ⟨g, os, wn, q1, q2, q3, q4, q5⟩ := HT.out.ex
          have hwn : wn ≤ 10000 := by
            have := span_le Hg.out _ _ _ q4
            omega
          have HQ1 := hide q1
          have HQ2 := hide q2
          have HQ3 := hide q3
          have HQ4 := hide q4
          have HQ5 := hide q5
          have hLi : (0 : Int) < (L : Int) := by omega
          clear q1 q2 q3 q4 q5
          go_wp2_with fail
          refine (put_yes _ _ C _ B S L ls g os wn wr HT.out.cd HQ1.out HQ2.out (by omega) hSl HL2.out hLz).mono ?_
          rintro e w5 ⟨rfl, g', os', Q, r1, r2, r3, r4, r5, r6⟩
          have R1 := hide r1
          have R2 := hide r2
          have R3 := hide r3
          have R4 := hide r4
          have R5 := hide r5
          have R6 := hide r6
          have hown5 : w5.ownsRow w3.heap.size 3 1 (.slice va ins.length vc) ins.length (cellsI ins) := ownsRow_fr HT.out.own fun k hk => r5.block k (HT.out.own.lt k hk).2 (fun h => by
            have h1 := HT.out.bb
            have h2 := (HT.out.own.lt k hk).1
            rcases h with h | h
            · omega
            · exact HQ5.out k h hk)
          have HO5 := hide hown5
          have hs5 : w3.heap.size ≤ w5.heap.size := Nat.le_trans HT.out.sz r5.size
          clear r1 r2 r3 r4 r5 r6 hown5
          go_wp2_with (at_builtin; go_must (refine wpList_append_lies _ rfl _ _ 22 rfl w3.heap.size 3 i0 (.int .i64 0) 1 8 Try.underlying22 hi0 hz0 hz1 hz2 rfl (by decide) (.slice va ins.length vc) ins.length (cellsI ins) rfl (HO5.out.alloc _) ⟨w5.heap.size, 0, none⟩ 1 1 [.int .i64 (S : Int)] rfl rfl (cell_one_new _ _ _) (fun x hx => by simp at hx; subst hx; rfl) (by decide) (by unfold maxLen; omega) (by omega) (by simp; omega) (w5.heap.size + 1) (by simp) ?_); intro gg cap w6 hown6 hgrow hat hlt6
                       have HF6 := hide (((Fr.of_alloc w5 _).trans (Fr.of_grown hgrow)).mono (S' := fun i => (Value.slice va ins.length vc).ownBlock = some i) fun i _ h => h.elim (fun h => h.elim) id)
                       have HO6 := hide hown6
                       have HA6 := hide hat
                       clear hown6 hgrow hat hlt6)
          have hB6 := HT.out.step HQ1.out HQ3.out HQ4.out HQ5.out hSl HL2.out hLz R1.out R2.out R3.out R4.out R5.out R6.out HO6.out HF6.out (fun k hk => by
            have : k = gg := by simpa [Value.ownBlock] using hk.symm
            subst this
            rcases HA6.out with h | h
            · exact Or.inl h
            · exact Or.inr (by omega))
          have HB6 := hide hB6
          clear hB6
          go_roundw
          case rel => exact ⟨i + 1, ins ++ [S], by omega, by simp; omega, by go_num, HB6.out⟩
          case measure => simp [intOf]; omega
        · have hL0 : (L : Int) = 0 := by omega
          have hLn : ¬ (0 : Int) < (L : Int) := by omega
          have CP := hide (put_no _ _ C B S ls wr HT.out.cd (Or.inr (by rw [HL2.out]; exact hL0)))
          clear hL0
          go_wp2_with fail
          refine CP.out.mono ?_
          rintro e w5 ⟨rfl, hF5⟩
          have HB6 := hide (HT.out.keep hF5)
          clear hF5
          go_wp2
          go_roundw
          case rel => exact ⟨i + 1, ins, by omega, by omega, by go_num, HB6.out⟩
          case measure => simp [intOf]; omega
      · have CP := hide (put_no _ _ C B S ls wr HT.out.cd (Or.inl (by omega)))
        have hSl2 : ¬ (S : Int) < (ls.length : Nat) := by omega
        clear hL
        go_wp2_with fail
        refine CP.out.mono ?_
        rintro e w5 ⟨rfl, hF5⟩
        have HB6 := hide (HT.out.keep hF5)
        clear hF5
        go_wp2
        go_roundw
        case rel => exact ⟨i + 1, ins, by omega, by omega, by go_num, HB6.out⟩
        case measure => simp [intOf]; omega
    · obtain ⟨g, os, wn, q1, q2, q3, q4, q5⟩ := hT.ex
      have hwn : wn ≤ 10000 := by
        have := span_le Hg.out _ _ _ q4
        omega
      have hol : os.length = (wn + 7) / 8 := q2.len
      have HT := hide hT
      have HQ1 := hide q1
      have HQ2 := hide q2
      have HQ3 := hide q3
      have HQ4 := hide q4
      have HQ5 := hide q5
      have Hol := hide hol
      have holb : os.length ≤ 100000 := by omega
      have hinb : ins.length ≤ 1000 := by omega
      clear hT q1 q2 q3 q4 q5 hol
      go_wp2_with fail
      refine (low_out 70 wr _ B g os wn HQ1.out (by omega)).mono ?_
      rintro e w5 ⟨oa, oc, rfl, hLo, hF5, hoa⟩
      have HLo := hide hLo
      have HF5 := hide hF5
      clear hLo hF5 hoa
      go_wp2_with fail
      refine (newLow_c _ os w5 HLo.out HQ2.out.bytes (by omega)).mono ?_
      rintro e w6 ⟨B2, rfl, hB2, hF6⟩
      have hcs : CS w (w6.alloc (.cells #[.pointer (some ⟨B2, 0, none⟩)] 35)) w1.heap.size w2.heap.size w3.heap.size w5.heap.size w6.heap.size C B2 ls (.slice va ins.length vc) ins os 0 := by
        have f1 := HF5.out.join hF6
        have f2 := f1.join (Fr.of_alloc w6 (.cells #[.pointer (some ⟨B2, 0, none⟩)] 35))
        have hbs := HT.out.keep f2
        have hsz := HT.out.sz
        have hbb := HT.out.bb
        have s5 := HF5.out.size
        refine ⟨hbs.cd, hbs.h5, hbs.own, fun k hk => ?_, hB2.keep (Fr.of_alloc w6 _) (fun _ _ _ h => h), heap_alloc_new _ _, hbs.fr, ⟨⟨HT.out.lo, by omega⟩, by omega⟩, by simp⟩
        have := (HT.out.own.lt k hk).2
        omega
      have HCS := hide hcs
      clear hB2 hF6 hcs
      go_wp2
      go_loopw [13, 14] (fun iv _ wr => ∃ i p : Nat, i ≤ ins.length ∧ iv = .int .i64 (i : Int) ∧ Hid (spell ls (leNum os) p (ins.drop i)) ∧ Hid (p + span ls (ins.drop i) = wn) ∧ CS w wr w1.heap.size w2.heap.size w3.heap.size w5.heap.size w6.heap.size C B2 ls (.slice va ins.length vc) ins os p) (fun iv _ _ => ins.length - (intOf iv).toNat)
      case atStart => exact ⟨0, 0, Nat.zero_le _, rfl, HQ4.out, by show 0 + span ls (ins.drop 0) = wn; rw [HQ3.out]; simp, HCS.out⟩
      case round =>
        obtain ⟨i2, p, hi2, rfl, Hsp, Hpn, hS⟩ := hrel
        by_cases hlt2 : i2 < ins.length
        · obtain ⟨s, hs⟩ : ∃ s, ins[i2]? = some s := ⟨_, List.getElem?_eq_getElem hlt2⟩
          have hdrop : ins.drop i2 = s :: ins.drop (i2 + 1) := by
            have h1 := (List.getElem?_eq_some_iff.1 hs)
            rw [← h1.2]
            exact List.drop_eq_getElem_cons hlt2
          have hsp := Hsp.out
          have hpn := Hpn.out
          rw [hdrop] at hsp hpn
          obtain ⟨⟨⟨s1, s2⟩, s3⟩, s4⟩ := hsp
          simp only [span] at hpn
          obtain ⟨n, hn⟩ : ∃ n, n = (at0 ls s).toNat := ⟨_, rfl⟩
          have hol := Hol.out
          obtain ⟨hit, hyy⟩ := hit_word Hg.out (V := leNum os) (L := 8 * os.length) (p := p) s1 s2 (by omega) s3
          rw [← hn] at hit hyy s4 hpn
          have Hit := hide hit
          have Hyy := hide hyy
          have Hs4 : Hid (spell ls (leNum os) (p + n) (ins.drop (i2 + 1))) := s4
          have Hp4 : Hid (p + n + span ls (ins.drop (i2 + 1)) = wn) := by show _ = _; omega
          obtain ⟨adv, rfl, hcv⟩ := own_cellI hS.own hs
          have hS1 := hS.keep ((Fr.of_alloc wr (.cells #[.int .i64 (-1)] 3)).join (Fr.of_drewN _ 1))
          have HS1 := hide hS1
          have Hsz := hide hS.sz
          have hvb : adv.block < w5.heap.size := by
            have h1 := World.block_lt_of_cell? _ _ hcv
            have h2 := ownsRow_shape hS.own
            rcases hS.own.2 with ⟨hv, _⟩ | ⟨gg, cap, cur, hv, hg2, _⟩
            · cases hv
            · cases hv
              exact hS.vlt gg rfl
          have hadv : (adv.add i2).block = adv.block := add_block _ _
          have Hb2 := hide (And.intro hS.rdr.elo hS.rdr.ehi)
          have Hcv : Hid (∀ w', Fr (fun k => k = B2 ∨ k = wr.heap.size) ((wr.alloc (.cells #[.int .i64 (-1)] 3)).drew) w' → w'.cell? (adv.add i2) = some (.int .i64 (s : Int))) := by
            intro w' hf
            have hb1 := World.block_lt_of_cell? _ _ hcv
            have h1 := ((Fr.of_alloc wr (.cells #[.int .i64 (-1)] 3)).join (Fr.of_drewN _ 1)).block _ hb1 (fun h => h)
            rw [← hcv]
            refine World.cell?_of_block ?_
            have e1 := hf.block (adv.add i2).block (by show _ < (wr.alloc (.cells #[.int .i64 (-1)] 3)).heap.size; simp; omega) (fun h => by
              have := hS.rdr.elo
              rw [hadv] at h hb1
              omega)
            rw [e1]
            exact h1
          clear hS hS1 hcv hs hdrop hpn s1 s2 s3 s4 hit hyy hol
          have hss : ((s : Int) != (s : Int)) = false := by simp
          go_wp2
          go_region_with ((go_at_call 15; refine (guard23_hit _ _ wr.heap.size _ _ C _ _ B2 ls os p _ _ (-1) n s _ HS1.out.h5 HS1.out.h12 (heap_alloc_new _ _) HS1.out.cd HS1.out.rdr (by have := HS1.out.lo; have := HS1.out.cd.ehi; have := Hb2.out; omega) (by have := Hsz.out; omega) Hit.out Hyy.out).mono ?_; rintro e w8 ⟨rfl, g3, g4, g5⟩; have k14 := cell_of (o := 0) g4 rfl; have kin := Hcv.out w8 g5))
          all_goals
            have HS8 := hide (HS1.out.next Hsz.out g5 g3)
            clear g3 g4 g5
            go_wp2
            go_roundw
            case rel => exact ⟨i2 + 1, p + n, by omega, by go_num, Hs4, Hp4, HS8.out⟩
            case measure => simp [intOf]; omega
        · have e2 : i2 = ins.length := by omega
          have HS := hide hS
          have k12 := cell_of (o := 0) hS.h12 rfl
          have hpw : p = wn := by
            have h := Hpn.out
            rw [e2, List.drop_length] at h
            simpa [span] using h
          have hol := Hol.out
          have hlt8 : (8 * (os.length : Int) - (p : Int)) < 8 := by omega
          have HFin := hide hS.fr
          clear hS hpw hol e2
          go_wp2_with fail
          refine (low_left wr _ _ B2 os p _ _ HS.out.rdr).mono ?_
          rintro e w7 ⟨rfl, k, rfl⟩
          go_wp2
          go_ret
          exact ⟨rfl, HFin.out.join (Fr.of_drewN _ _)⟩
end Go.Proofs.Ytlkidddbndkfiaa
