/-
  The document's own code, made.
-/
import Derived.Test.YtleeaofofofgmaaDoorHe
import Derived.Deep.RegionLaw
namespace Go.Proofs.YtleeaofofofgmaaDoor
open Go.RowKit

/-- The document's code as an object. -/
structure Rc (w : World) (lo hi B : Nat) (ls : List Int) : Prop where
  elo : lo ≤ B
  ehi : B < hi
  esz : hi ≤ w.heap.size
  egood : good ls
  eok : codeOk ls
  eobj : ∃ sv lv, Rs w B sv lv (cnt ls) ∧ w.ownsRow lo 3 1 sv (tot ls 15) (cellsI (rkd ls 15)) ∧ (∀ g, sv.ownBlock = some g → g < hi) ∧ w.ownsRow lo 3 1 lv ls.length (cellsZ ls) ∧ (∀ g, lv.ownBlock = some g → g < hi)

theorem Rc.keep {w w' : World} {lo hi B : Nat} {ls : List Int} (h : Rc w lo hi B ls) {S : Nat → Prop} (f : Fr S w w') (hS : ∀ k, lo ≤ k → k < hi → ¬ S k) : Rc w' lo hi B ls := by
  obtain ⟨sv, lv, h1, h2, h3, h4, h5⟩ := h.eobj
  have hsz := h.esz
  refine ⟨h.elo, h.ehi, Nat.le_trans h.esz f.size, h.egood, h.eok, sv, lv, h1.keep f (hS B h.elo h.ehi), ?_, h3, ?_, h5⟩
  · exact ownsRow_fr h2 fun k hk => f.block k (by have := h3 k hk; omega) (hS k (h2.lt k hk).1 (h3 k hk))
  · exact ownsRow_fr h4 fun k hk => f.block k (by have := h5 k hk; omega) (hS k (h4.lt k hk).1 (h5 k hk))

theorem own_drew {w : World} {lo : Nat} {e : TypeId} {size : Nat} {v : Value} {n : Nat} {xs : List Value} (h : w.ownsRow lo e size v n xs) (o : Obj) : ((w.alloc o).drew).ownsRow lo e size v n xs := h.alloc o

theorem news_one (w : World) (v : Value) (t : TypeId) : ∀ (j : Nat) (u : Value), [v][j]? = some u → ((w.alloc (.cells #[v] t)).drew).cell? ((⟨w.heap.size, 0, none⟩ : Addr).add j) = some u := by
  intro j u hu
  have hj : j = 0 := by
    rcases Nat.eq_zero_or_pos j with h | h
    · exact h
    · rw [List.getElem?_eq_none (by simp; omega)] at hu; cases hu
  subst hj
  rw [add_none]
  simp at hu
  subst hu
  have : (w.alloc (.cells #[v] t)).cell? ⟨w.heap.size, 0 + 0, none⟩ = some v := cell_of (heap_alloc_at rfl) rfl
  exact this

/-- The symbols under way: sizes up to m are done, of size m + 1 the symbols below k. -/
structure Ry (w wr : World) (B : Nat) (ls : List Int) (m k : Nat) : Prop where
  sz : ∃ sv lv, Rs wr B sv lv (cnt ls) ∧ wr.ownsRow w.heap.size 3 1 lv ls.length (cellsZ ls) ∧ wr.ownsRow w.heap.size 3 1 sv (tot ls m + rank ls (m + 1) k) (cellsI (rkd ls m ++ syms ls (m + 1) k)) ∧ (∀ g, sv.ownBlock = some g → g ≠ B) ∧ ∀ g, lv.ownBlock = some g → g ≠ B ∧ sv.ownBlock ≠ some g
  fr : Fr (fun _ => False) w wr
  lob : w.heap.size ≤ B

theorem Ry.skip {w wr : World} {B : Nat} {ls : List Int} {m k : Nat} (h : Ry w wr B ls m k) (hz : at0 ls k ≠ ((m + 1 : Nat) : Int)) : Ry w wr B ls m (k + 1) := by
  obtain ⟨sv, lv, h1, h2, h3, h4, h5⟩ := h.sz
  refine ⟨⟨sv, lv, h1, h2, ?_, h4, h5⟩, h.fr, h.lob⟩
  simp only [rank, syms, if_neg hz]; exact h3

theorem Ry.size {w wr : World} {B : Nat} {ls : List Int} {m : Nat} (h : Ry w wr B ls m ls.length) : Ry w wr B ls (m + 1) 0 := by
  obtain ⟨sv, lv, h1, h2, h3, h4, h5⟩ := h.sz
  refine ⟨⟨sv, lv, h1, h2, ?_, h4, h5⟩, h.fr, h.lob⟩
  simp only [rank, syms, List.append_nil, rkd, Nat.add_zero]; exact h3

theorem Ry.step {w wr w1 : World} {B : Nat} {ls : List Int} {m k g cap : Nat} {a : Option Addr} {c : Nat} (h : Ry w wr B ls m k) (hz : at0 ls k = ((m + 1 : Nat) : Int)) (ha : wr.cell? ⟨B, 16, none⟩ = some (.slice a (tot ls m + rank ls (m + 1) k) c))
    (hf : Fr (fun i => (Value.slice a (tot ls m + rank ls (m + 1) k) c).ownBlock = some i) wr w1)
    (hown : w1.ownsRow w.heap.size 3 1 (.slice (some ⟨g, 0, none⟩) (tot ls m + rank ls (m + 1) k + 1) cap) (tot ls m + rank ls (m + 1) k + 1) (cellsI (rkd ls m ++ syms ls (m + 1) k) ++ [.int .i64 (k : Int)]))
    (hg : (Value.slice a (tot ls m + rank ls (m + 1) k) c).ownBlock = some g ∨ wr.heap.size ≤ g) :
    Ry w (w1.setCell ⟨B, 16, none⟩ (.slice (some ⟨g, 0, none⟩) (tot ls m + rank ls (m + 1) k + 1) cap)) B ls m (k + 1) := by
  obtain ⟨sv, lv, h1, h2, h3, h4, h5⟩ := h.sz
  obtain rfl : sv = .slice a (tot ls m + rank ls (m + 1) k) c := by
    have := h1.cell16
    rw [ha] at this
    exact (Option.some.inj this).symm
  have hBw := h1.blk
  have hgB : g ≠ B := by
    rcases hg with e | e
    · exact h4 g e
    · omega
  have hkeep : ∀ i, lv.ownBlock = some i → (w1.setCell ⟨B, 16, none⟩ (.slice (some ⟨g, 0, none⟩) (tot ls m + rank ls (m + 1) k + 1) cap)).heap[i]? = wr.heap[i]? := fun i hi => by
    rw [Below.heap_setCell _ _ _ _ (h5 i hi).1, hf.block i (h2.lt i hi).2 (h5 i hi).2]
  refine ⟨⟨.slice (some ⟨g, 0, none⟩) (tot ls m + rank ls (m + 1) k + 1) cap, lv, (h1.keep hf (fun e => h4 B e rfl)).set16 _, ownsRow_fr h2 hkeep, ?_, fun g' e => ?_, fun g' e => ⟨(h5 g' e).1, fun e2 => ?_⟩⟩, ?_, h.lob⟩
  · simp only [rank, syms, if_pos hz, ← List.append_assoc]
    have e : cellsI (rkd ls m ++ syms ls (m + 1) k ++ [k]) = cellsI (rkd ls m ++ syms ls (m + 1) k) ++ [.int .i64 (k : Int)] := by simp [cellsI]
    rw [e, ← Nat.add_assoc]
    refine ownsRow_fr hown fun i hi => ?_
    have : i = g := by simpa [Value.ownBlock] using hi.symm
    subst this
    exact Below.heap_setCell _ _ _ _ hgB
  · have : g' = g := by simpa [Value.ownBlock] using e.symm
    subst this; exact hgB
  · have : g' = g := by simpa [Value.ownBlock] using e2.symm
    subst this
    rcases hg with e3 | e3
    · exact (h5 g' e).2 e3
    · have := (h2.lt g' e).2; omega
  · have hlt := h3.lt
    exact h.fr.join_new ((hf.trans (Fr.of_setCell w1 ⟨B, 16, none⟩ _)).mono fun i _ hi => by
      have := h.lob
      rcases hi with hi | hi
      · exact (hlt i hi).1
      · simp at hi; omega)

theorem Rk.done {w wr : World} {B : Nat} {ls : List Int} (h : Rk w wr B ls ls.length) (h320 : ls.length ≤ 320) : ∃ lv, Rs wr B (.slice none 0 0) lv (cnt ls) ∧ wr.ownsRow w.heap.size 3 1 lv ls.length (cellsZ ls) ∧ ∀ g, lv.ownBlock = some g → g ≠ B := by
  obtain ⟨lv, cs, h1, h2, h3, h4, h5, h6, h7⟩ := h.sz
  refine ⟨lv, ⟨cs, h1, h2, h3, h4, ⟨rank ls 0 ls.length, ?_, h5 0 (by omega)⟩, fun i _ h9 => h5 i h9⟩, by simpa using h6, h7⟩
  have := rank_le ls 0 ls.length
  omega

theorem codeOk_cases {ls : List Int} (h : codeOk ls) (h0 : ¬ frk ls 15 = 0) : tot ls 15 = 0 ∨ (tot ls 15 = 1 ∧ cnt ls 1 = 1) := h.elim (fun h => absurd h h0) id

set_option maxHeartbeats 3200000 in
set_option maxRecDepth 100000 in
theorem refNew_c (a : Option Addr) (c : Nat) (ls : List Int) (w : World) (hl : LiesI w a ls) (h320 : ls.length ≤ 320) (Q : Ending → World → Prop)
    (hbad : ¬ good ls → ∀ w', Fr (fun _ => False) w w' → Q (.returned (.tuple #[.pointer none, .int .i64 1])) w')
    (hno : good ls → ¬ codeOk ls → ∀ w', Fr (fun _ => False) w w' → Q (.returned (.tuple #[.pointer none, .int .i64 4])) w')
    (hyes : good ls → codeOk ls → ∀ w' B, Rc w' w.heap.size w'.heap.size B ls → Fr (fun _ => False) w w' → Q (.returned (.tuple #[.pointer (some ⟨B, 0, none⟩), .int .i64 0])) w') :
    Calls Tryd.prog 33 #[.slice a ls.length c] w Q := by
  obtain ⟨i0, hi, hz0, hz1, hz2⟩ := info_parts Tryd.info3
  have Hl := hide hl
  have Hbad := hide hbad
  have Hno := hide hno
  have Hyes := hide hyes
  clear hl hbad hno hyes
  go_enter Tryd.func33, Tryd.ntmps33
  go_wp2
  obtain ⟨B, hB⟩ : ∃ B, B = w.heap.size := ⟨_, rfl⟩
  have hst : ∀ cs : Array Value, cs = #[.int .i64 0, .int .i64 0, .int .i64 0, .int .i64 0, .int .i64 0, .int .i64 0, .int .i64 0, .int .i64 0, .int .i64 0, .int .i64 0, .int .i64 0, .int .i64 0, .int .i64 0, .int .i64 0, .int .i64 0, .int .i64 0, .slice none 0 0, .slice none 0 0] →
      Rk w (w.alloc (.cells cs 87)) B ls 0 := by
    intro cs hcs
    subst hcs
    refine ⟨⟨.slice none 0 0, _, heap_alloc_at hB, rfl, rfl, rfl, fun i h2 => ?_, World.ownsRow_nil _ _ _ _, fun g e => by cases e⟩, Fr.of_alloc _ _, by omega⟩
    simp only [rank]
    rcases (by omega : i = 0 ∨ i = 1 ∨ i = 2 ∨ i = 3 ∨ i = 4 ∨ i = 5 ∨ i = 6 ∨ i = 7 ∨ i = 8 ∨ i = 9 ∨ i = 10 ∨ i = 11 ∨ i = 12 ∨ i = 13 ∨ i = 14 ∨ i = 15) with rfl | rfl | rfl | rfl | rfl | rfl | rfl | rfl | rfl | rfl | rfl | rfl | rfl | rfl | rfl | rfl <;> rfl
  have Hst := hide (hst _ rfl)
  rw [← hB]
  have HB := hide hB
  clear hst hB
  go_loopw [5, 6] (fun mn i wr => ∃ k : Nat, k ≤ ls.length ∧ i = .int .i64 (k : Int) ∧ mn = .int .i64 (totk ls k 15 : Nat) ∧ Rk w wr B ls k ∧ Hid (∀ i, i < k → 0 ≤ at0 ls i ∧ at0 ls i ≤ 15)) (fun _ i _ => ls.length - (intOf i).toNat)
  case atStart => exact ⟨0, Nat.zero_le _, rfl, by rw [totk_zero]; rfl, Hst.out, fun i hi => absurd hi (Nat.not_lt_zero _)⟩
  case round =>
    obtain ⟨k, hk, rfl, rfl, hR, Hgd⟩ := hrel
    have hL := Hl.out.keep hR.fr (fun _ _ _ h => h)
    by_cases hlt : k < ls.length
    · obtain ⟨ad, rfl, hc⟩ := hL k hlt
      by_cases h0 : at0 ls k < 0
      · have HR := hide hR
        clear hR hL
        go_wp2
        exact Hbad.out (fun h => by have := (h.2 k hlt).1; omega) _ HR.out.fr
      · by_cases h15 : 15 < at0 ls k
        · have HR := hide hR
          clear hR hL
          go_wp2
          exact Hbad.out (fun h => by have := (h.2 k hlt).2; omega) _ HR.out.fr
        · obtain ⟨n, hn⟩ : ∃ n : Nat, at0 ls k = (n : Int) := ⟨(at0 ls k).toNat, by omega⟩
          obtain ⟨la, lc, f17, fown, fap, fcells, ffr, fB⟩ := hR.facts
          have hq := fcells n (by omega)
          have hf := ffr n
          have hf17 := ffr 17
          have hr := rank_le ls n k
          have hn1 : n < 16 := by omega
          have hn0 : (0 : Int) ≤ (n : Int) := by omega
          have hn15 : ¬ (15 : Int) < (n : Int) := by omega
          have hn16 : (n : Int) < 16 := by omega
          have hn00 : ¬ (n : Int) < 0 := by omega
          have hadlt : (ad.add k).block < wr.heap.size := World.block_lt_of_cell? _ _ hc
          have hne : (ad.add k).block ≠ B := by
            obtain ⟨ad', e', hc'⟩ := Hl.out k hlt
            cases e'
            have := World.block_lt_of_cell? _ _ hc'
            have := hR.lob
            omega
          have Hadn : Hid (∀ g, (Value.slice la k lc).ownBlock = some g → g ≠ (ad.add k).block) := by
            intro g e
            obtain ⟨ad', e', hc'⟩ := Hl.out k hlt
            cases e'
            have := World.block_lt_of_cell? _ _ hc'
            have := (fown.lt g e).1
            omega
          have Hgd2 : Hid (∀ i, i < k + 1 → 0 ≤ at0 ls i ∧ at0 ls i ≤ 15) := by
            intro i hi
            rcases Nat.lt_or_ge i k with h | h
            · exact Hgd.out i h
            · have : i = k := by omega
              subst this
              omega
          rw [hn] at hc
          have HR := hide hR
          have Hn := hide hn
          have Hown := hide fown
          have Hap := hide fap
          have hm := totk_succ ls 15 k
          rw [hn] at hm
          have hmle : totk ls k 15 ≤ 1000 := by
            have : ∀ j, totk ls j 15 ≤ j := by
              intro j
              induction j with
              | zero => rw [totk_zero]; exact Nat.le_refl _
              | succ j ih => rw [totk_succ]; split <;> omega
            have := this k
            omega
          obtain ⟨r, hr0⟩ : ∃ r, r = rank ls n k := ⟨_, rfl⟩
          rw [← hr0] at hr hq
          have Hr := hide hr0
          have Hm := hide hm
          clear hL hR h0 h15 hn fown fap fcells ffr hr0 hm
          go_wp2
          go_region
          obtain ⟨w2, hw2⟩ : ∃ w2, w2 = (wr.setCell ⟨B, n, none⟩ (.int .i64 ((r : Int) + 1))).drew := ⟨_, rfl⟩
          have hF2 : Fr (fun i => i = B) wr w2 := by
            rw [hw2]
            exact ((Fr.of_setCell wr ⟨B, n, none⟩ _).trans (Fr.of_drewN _ 1)).mono fun i _ hi => by simpa using hi
          have c17 : w2.cell? ⟨B, 17, none⟩ = some (.slice la k lc) := by
            rw [hw2]
            show (wr.setCell ⟨B, n, none⟩ (.int .i64 ((r : Int) + 1))).cell? ⟨B, 17, none⟩ = _
            rw [World.cell?_setCell_other _ _ _ _ (by intro e; cases e; omega)]
            exact f17
          have z17 : w2.frozen? ⟨B, 17, none⟩ = false := by
            rw [hw2]
            show (wr.setCell ⟨B, n, none⟩ (.int .i64 ((r : Int) + 1))).frozen? ⟨B, 17, none⟩ = _
            simpa using hf17
          have cad : w2.cell? (ad.add k) = some (.int .i64 (n : Int)) := by
            rw [World.cell?_of_block (w := wr) (hF2.block _ hadlt hne)]
            exact hc
          have Hown2 : Hid (w2.ownsRow w.heap.size 3 1 (.slice la k lc) k (cellsZ (ls.take k))) := ownsRow_fr Hown.out fun g hg => hF2.block g (Hown.out.lt g hg).2 (Hap.out g hg)
          have hw2s : w.heap.size ≤ w2.heap.size := Nat.le_trans HR.out.fr.size hF2.size
          have hBw2 : B < w2.heap.size := Nat.lt_of_lt_of_le fB hF2.size
          have hadw2 : (ad.add k).block < w2.heap.size := Nat.lt_of_lt_of_le hadlt hF2.size
          rw [← hw2]
          have HS2 : Hid (∀ o, (((w2.alloc o).drew).cell? ⟨B, 17, none⟩ = some (.slice la k lc) ∧ ((w2.alloc o).drew).cell? (ad.add k) = some (.int .i64 (n : Int))) ∧ ((w2.alloc o).drew).frozen? ⟨B, 17, none⟩ = false) := by
            intro o
            refine ⟨⟨?_, ?_⟩, ?_⟩
            · exact (World.cell?_alloc_lt _ _ _ hBw2).trans c17
            · exact (World.cell?_alloc_lt _ _ _ hadw2).trans cad
            · exact (World.frozen?_alloc_past o B 17 hBw2).trans z17
          have Hc17 := hide f17
          have Hw2 := hide hw2
          have HF2 := hide hF2
          clear hc hq hf hf17 f17 hw2 hF2
          have hnc : 0 < (n : Int) ∨ ¬ 0 < (n : Int) := by omega
          rcases hnc with hnc | hnc
          all_goals
            go_wp2
            go_region_law ((refine step_append_lies _ (by rfl) _ _ _ (by rfl) w.heap.size 3 i0 (.int .i64 0) 1 8 Tryd.underlying30 hi hz0 hz1 hz2 rfl (by decide) (.slice la k lc) k (cellsZ (ls.take k)) (by rfl) (own_drew Hown2.out _) ⟨w2.heap.size, 0, none⟩ 1 1 [.int .i64 (n : Int)] (by rfl) rfl (news_one _ _ _) (fun x hx => by simp at hx; subst hx; rfl) (by decide) (by unfold maxLen; omega) (by omega) (by simp; omega) (w2.heap.size + 1) (by simp) ?_; intro g cap w3 hown3 hgrow hat hlt3; have z3 := (hgrow.frozen_far ⟨B, 17, none⟩ (by simp; omega) (fun e => Hap.out B e.symm rfl)).trans (HS2.out _).2; obtain ⟨x3, c3⟩ : ∃ x3, w3.cell? ⟨B, 17, none⟩ = some x3 := ⟨_, (hgrow.cell_far ⟨B, 17, none⟩ (by simp; omega) (fun e => Hap.out B e.symm rfl)).trans (HS2.out _).1.1⟩))
            all_goals
              have hF3 : Fr (fun i => (Value.slice la k lc).ownBlock = some i) w2 w3 := ((((Fr.of_alloc w2 _).join (Fr.of_drewN _ 1)).trans (Fr.of_grown hgrow)).mono fun i _ h => h.elim (fun h => h.elim) id)
              rw [Hw2.out, Hr.out] at hF3
              have hk2 := HR.out.step (q := 1) hlt hn1 Hn.out Hc17.out hF3 hown3 (hat.elim Or.inl (fun e => Or.inr (by have := HF2.out.size; omega)))
              have Hk2 := hide hk2
              clear hk2 hF3 hown3 hgrow hat z3 c3
              go_wp2
              go_roundw
              case rel =>
                refine ⟨k + 1, by omega, by go_num, ?_, Hk2.out, Hgd2⟩
                have hm := Hm.out
                rw [hm]
                first | rw [if_pos (by omega)] | rw [if_neg (by omega)]
                go_num
              case measure => simp [intOf]; omega
    · have e : k = ls.length := by omega
      subst e
      have hg : good ls := ⟨h320, Hgd.out⟩
      obtain ⟨lv, s1, s2, s3⟩ := hR.done h320
      have hc0 : ∃ x, wr.cell? ⟨B, 0, none⟩ = some x := by
        obtain ⟨cs, ho, _, _, _, ⟨x, _, hx⟩, _⟩ := s1.eobj
        exact ⟨_, cell_of ho hx⟩
      obtain ⟨x0, hc0⟩ := hc0
      have hf0 := s1.frozen 0
      have Hg := hide hg
      have HR := hide hR
      have S1 := hide s1
      have S2 := hide s2
      have S3 := hide s3
      clear hR hL hg s1 s2 s3 Hgd
      go_wp2
      obtain ⟨w1, hw1⟩ : ∃ w1, w1 = wr.setCell ⟨B, 0, none⟩ (.int .i64 0) := ⟨_, rfl⟩
      have hF1 : Fr (fun _ => False) w w1 := by
        rw [hw1]
        exact HR.out.fr.join_new ((Fr.of_setCell wr ⟨B, 0, none⟩ (.int .i64 0)).mono fun i _ hi => by have := HR.out.lob; simp at hi; omega)
      have hs1 : Rs w1 B (.slice none 0 0) lv (cnt ls) := by rw [hw1]; exact S1.out.set0
      have hs2 : w1.ownsRow w.heap.size 3 1 lv ls.length (cellsZ ls) := by
        rw [hw1]
        exact ownsRow_fr S2.out fun i hi => Below.heap_setCell _ _ _ _ (S3.out i hi)
      have HF1 := hide hF1
      have R1 := hide hs1
      have R2 := hide hs2
      have hmany : totk ls ls.length 15 = tot ls 15 := rfl
      rw [← hw1, hmany]
      clear hF1 hs1 hs2 hw1 hmany hc0 hf0
      go_loop [7, 8] (fun lf n => ∃ m s : Nat, m ≤ 15 ∧ Hid (s = m + 1) ∧ n = .int .i64 (s : Int) ∧ lf = .int .i64 (frk ls m) ∧ 0 ≤ frk ls m) (fun _ n => 16 - (intOf n).toNat)
      case atStart => exact ⟨0, 1, Nat.zero_le _, rfl, rfl, rfl, by show (0 : Int) ≤ 1; decide⟩
      case round =>
        obtain ⟨m, s, hm, Hm, rfl, rfl, hnn⟩ := hrel
        by_cases hlt2 : m < 15
        · have hs := Hm.out
          have hcell := R1.out.cell (i := s) (by omega) (by omega)
          have hfb := fr_bound ls h320 (n := m) (by omega)
          have hcl := cnt_le ls s
          have hs15 : (s : Int) ≤ 15 := by omega
          have hs16 : (s : Int) < 16 := by omega
          have hfs : Hid (2 * frk ls m - (cnt ls s : Nat) = frk ls (m + 1)) := by rw [frk_succ, hs]; rfl
          obtain ⟨F, hF⟩ : ∃ F : Int, F = frk ls m := ⟨_, rfl⟩
          rw [← hF] at hfb hnn hfs ⊢
          have HF := hide hF
          clear hs hF
          by_cases hneg : 2 * F - (cnt ls s : Int) < 0
          · go_wp2
            refine Hno.out Hg.out (fun hok => ?_) _ HF1.out
            have := fr_nonneg ls hok (n := m + 1) (by omega)
            have := hfs.out
            omega
          · go_wp2
            go_round
            case rel => exact ⟨m + 1, s + 1, by omega, by have := Hm.out; show s + 1 = m + 1 + 1; omega, by go_num, by rw [hfs.out], by rw [← hfs.out]; omega⟩
            case measure => simp [intOf]; omega
        · have e : m = 15 := by omega
          subst e
          have hs15 : ¬ (s : Int) ≤ 15 := by have := Hm.out; omega
          have hc1 := R1.out.cell (i := 1) (by omega) (by omega)
          by_cases hok : codeOk ls
          · have Hok := hide hok
            have hcs : (¬ 0 < frk ls 15) ∨ (0 < frk ls 15 ∧ (((tot ls 15 : Nat) : Int) == 0) = true) ∨ ((0 < frk ls 15 ∧ (((tot ls 15 : Nat) : Int) == 0) = false) ∧ (((tot ls 15 : Nat) : Int) == 1) = true ∧ (((cnt ls 1 : Nat) : Int) == 1) = true) := by
              rcases Int.lt_or_le 0 (frk ls 15) with h | h
              · rcases codeOk_cases hok (by omega) with h2 | ⟨h2, h3⟩
                · exact Or.inr (Or.inl ⟨h, by simp [h2]⟩)
                · exact Or.inr (Or.inr ⟨⟨h, by simp [h2]⟩, by simp [h2], by simp [h3]⟩)
              · exact Or.inl (by omega)
            have hst : Ry w w1 B ls 0 0 := ⟨⟨.slice none 0 0, lv, R1.out, R2.out, World.ownsRow_nil _ _ _ _, (fun g e => by cases e), (fun g e => ⟨S3.out g e, by simp [Value.ownBlock]⟩)⟩, HF1.out, HR.out.lob⟩
            have Hst2 := hide hst
            clear hok hst
            rcases hcs with h1 | ⟨h1, h2⟩ | ⟨⟨h1, h2⟩, h3, h4⟩
            all_goals
              go_wp2
              go_loopw [9, 10] (fun n _ wr => ∃ m s : Nat, m ≤ 15 ∧ Hid (s = m + 1) ∧ n = .int .i64 (s : Int) ∧ Ry w wr B ls m 0) (fun n _ _ => 16 - (intOf n).toNat)
              case atStart => exact ⟨0, 1, Nat.zero_le _, rfl, rfl, Hst2.out⟩
              case round =>
                obtain ⟨m, s, hm, Hm2, rfl, hY⟩ := hrel
                by_cases hlt2 : m < 15
                · have hs15 : (s : Int) ≤ 15 := by have := Hm2.out; omega
                  have hs15' : decide ((s : Int) ≤ 15) = true := decide_eq_true hs15
                  have HY := hide hY
                  clear hY
                  go_wp2
                  go_loopw [10] (fun i wr => ∃ k : Nat, k ≤ ls.length ∧ i = .int .i64 (k : Int) ∧ Ry w wr B ls m k) (fun i _ => ls.length - (intOf i).toNat)
                  case atStart => exact ⟨0, Nat.zero_le _, rfl, HY.out⟩
                  case round =>
                    obtain ⟨k, hk, rfl, hY⟩ := hrel
                    have hL := Hl.out.keep hY.fr (fun _ _ _ h => h)
                    by_cases hlt3 : k < ls.length
                    · obtain ⟨ad, rfl, hc⟩ := hL k hlt3
                      by_cases hz : at0 ls k = ((m + 1 : Nat) : Int)
                      · obtain ⟨sv, lv2, y1, y2, y3, y4, y5⟩ := hY.sz
                        obtain ⟨a0, c0, rfl⟩ := ownsRow_shape y3
                        have hb16 := y1.cell16
                        have hfb := y1.frozen 16
                        have hq : (at0 ls k == (s : Int)) = true := by rw [Hm2.out]; simpa using hz
                        have hlen := tot_le ls m
                        have hr := rank_le ls (m + 1) k
                        have hBw := y1.blk
                        have Hz2 := hide hz
                        have HYY := hide hY
                        have Y1 := hide y1
                        have Y3 := hide y3
                        have Y4 := hide y4
                        have hwz : w.heap.size ≤ wr.heap.size := hY.fr.size
                        obtain ⟨N, hN⟩ : ∃ N, N = tot ls m + rank ls (m + 1) k := ⟨_, rfl⟩
                        rw [← hN] at hb16 Y1 Y3 Y4
                        have hNb : N ≤ 1000 := by omega
                        have HN := hide hN
                        clear hN hL hz hY y1 y2 y3 y4 y5
                        go_wp2_with (at_builtin; go_must (refine wpList_append_lies _ rfl _ _ 30 rfl w.heap.size 3 i0 (.int .i64 0) 1 8 Tryd.underlying30 hi hz0 hz1 hz2 rfl (by decide) (.slice a0 N c0) N (cellsI (rkd ls m ++ syms ls (m + 1) k)) rfl (Y3.out.alloc _) ⟨wr.heap.size, 0, none⟩ 1 1 [.int .i64 (k : Int)] rfl rfl (cell_one_new _ _ _) (fun x hx => by simp at hx; subst hx; rfl) (by decide) (by unfold maxLen; omega) (by omega) (by simp; omega) (wr.heap.size + 1) (by simp) ?_); intro g cap w3 hown1 hgrow hat hlt1
                                     have hF1 : Fr (fun i => (Value.slice a0 N c0).ownBlock = some i) wr w3 := ((Fr.of_alloc _ _).trans (Fr.of_grown hgrow)).mono fun i _ h => h.elim (fun h => h.elim) id
                                     have hY1 := Y1.out.keep hF1 (fun e => Y4.out B e rfl)
                                     have q16 := hY1.cell16
                                     have z16 := hY1.frozen 16
                                     have Hown1 := hide hown1
                                     have HFF := hide hF1
                                     have Hat := hide hat
                                     clear hown1 hgrow hat hlt1 hF1 hY1)
                        have hst := HFF.out
                        have how := Hown1.out
                        have hgs : (Value.slice a0 N c0).ownBlock = some g ∨ wr.heap.size ≤ g := by
                          rcases Hat.out with h | h
                          · exact Or.inl h
                          · exact Or.inr (by omega)
                        have hN := HN.out
                        subst hN
                        have hgv := HYY.out.step Hz2.out Y1.out.cell16 hst how hgs
                        go_roundw
                        case rel => exact ⟨k + 1, by omega, by go_num, hgv⟩
                        case measure => simp [intOf]; omega
                      · have hq : (at0 ls k == (s : Int)) = false := beq_false_of_ne (by rw [Hm2.out]; exact hz)
                        have HY2 := hide (hY.skip hz)
                        clear hL hY hz
                        go_wp2
                        go_roundw
                        case rel => exact ⟨k + 1, by omega, by go_num, HY2.out⟩
                        case measure => simp [intOf]; omega
                    · have e : k = ls.length := by omega
                      subst e
                      have HY2 := hide hY.size
                      clear hL hY
                      go_wp2
                      go_roundw
                      case rel => exact ⟨m + 1, s + 1, by omega, by have := Hm2.out; show s + 1 = m + 1 + 1; omega, by go_num, HY2.out⟩
                      case measure => simp [intOf]; omega
                · have e : m = 15 := by omega
                  subst e
                  have hs15 : ¬ (s : Int) ≤ 15 := by have := Hm2.out; omega
                  have HY := hide hY
                  clear hY
                  go_wp2
                  obtain ⟨sv, lv2, y1, y2, y3, y4, y5⟩ := HY.out.sz
                  have y3' : wr.ownsRow w.heap.size 3 1 sv (tot ls 15) (cellsI (rkd ls 15)) := by simpa [rank, syms] using y3
                  exact Hyes.out Hg.out Hok.out wr B ⟨HY.out.lob, y1.blk, Nat.le_refl _, Hg.out, Hok.out, sv, lv2, y1, y3', fun g hg => (y3.lt g hg).2, y2, fun g hg => (y2.lt g hg).2⟩ HY.out.fr
          · have Hok := hide hok
            have hcs : (0 < frk ls 15 ∧ (((tot ls 15 : Nat) : Int) == 0) = false) ∧ ((((tot ls 15 : Nat) : Int) == 1) = false ∨ ((((tot ls 15 : Nat) : Int) == 1) = true ∧ (((cnt ls 1 : Nat) : Int) == 1) = false)) := by
              have h1 : ¬ frk ls 15 = 0 := fun h => hok (Or.inl h)
              have h2 : ¬ tot ls 15 = 0 := fun h => hok (Or.inr (Or.inl h))
              refine ⟨⟨by omega, beq_false_of_ne (by omega)⟩, ?_⟩
              by_cases h3 : tot ls 15 = 1
              · exact Or.inr ⟨by simp [h3], beq_false_of_ne (fun h4 => hok (Or.inr (Or.inr ⟨h3, by omega⟩)))⟩
              · exact Or.inl (beq_false_of_ne (by omega))
            clear hok
            obtain ⟨⟨h1, h2⟩, h3⟩ := hcs
            rcases h3 with h3 | ⟨h3, h4⟩
            all_goals
              go_wp2
              exact Hno.out Hg.out Hok.out _ HF1.out
end Go.Proofs.YtleeaofofofgmaaDoor
