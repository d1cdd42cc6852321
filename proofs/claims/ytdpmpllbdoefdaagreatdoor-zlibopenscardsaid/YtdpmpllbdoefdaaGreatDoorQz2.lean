/-
  Texts of the seat, put together: Hf Hi Hj In Nx Da By Db Bz Ca.
-/
import Derived.Test.YtdpmpllbdoefdaaGreatDoorQz1
import Derived.Deep.RegionLaw
import Derived.Laws.IdiomStrings
import Derived.KernelRfl
import Derived.Laws.AppendOwnNone
import Derived.Deep.RegionHeld3
namespace Go.Proofs.YtdpmpllbdoefdaaGreatDoor
open Go.RowKit
structure Rc (w : World) (lo hi B : Nat) (ls : List Int) : Prop where
  elo : lo ≤ B
  ehi : B < hi
  esz : hi ≤ w.heap.size
  egood : good ls
  eok : codeOk ls
  eobj : ∃ sv lv, Rs w B sv lv (cnt ls) ∧ w.ownsRow lo 3 1 sv (tot ls 15) (cellsI (rkd ls 15)) ∧ (∀ g, sv.ownBlock = some g → g < hi) ∧ w.ownsRow lo 3 1 lv ls.length (cellsZ ls) ∧ (∀ g, lv.ownBlock = some g → g < hi)
theorem Rc.keep {w w' : World} {lo hi B : Nat} {ls : List Int} (h : Rc w lo hi B ls) {S : Nat → Prop} (f : Fr S w w') (hS : ∀ k, lo ≤ k → k < hi → ¬ S k) : Rc w' lo hi B ls := by
  obtain ⟨sv, lv, h1, h2, h3, h4, h5⟩ := h.eobj
  have hsz := h.esz
  refine ⟨h.elo, h.ehi, Nat.le_trans h.esz f.size, h.egood, h.eok, sv, lv, h1.keep f (hS B h.elo h.ehi), ?_, h3, ?_, h5⟩
  · exact ownsRow_fr h2 fun k hk => f.block k (by have := h3 k hk; omega) (hS k (h2.lt k hk).1 (h3 k hk))
  · exact ownsRow_fr h4 fun k hk => f.block k (by have := h5 k hk; omega) (hS k (h4.lt k hk).1 (h5 k hk))
theorem own_drew {w : World} {lo : Nat} {e : TypeId} {size : Nat} {v : Value} {n : Nat} {xs : List Value} (h : w.ownsRow lo e size v n xs) (o : Obj) : ((w.alloc o).drew).ownsRow lo e size v n xs := h.alloc o
theorem news_one (w : World) (v : Value) (t : TypeId) : ∀ (j : Nat) (u : Value), [v][j]? = some u → ((w.alloc (.cells #[v] t)).drew).cell? ((⟨w.heap.size, 0, none⟩ : Addr).add j) = some u := by
  intro j u hu
  have hj : j = 0 := by
    rcases Nat.eq_zero_or_pos j with h | h
    · exact h
    · rw [List.getElem?_eq_none (by simp; omega)] at hu; cases hu
  subst hj
  rw [add_none]
  simp at hu
  subst hu
  have : (w.alloc (.cells #[v] t)).cell? ⟨w.heap.size, 0 + 0, none⟩ = some v := cell_of (heap_alloc_at rfl) rfl
  exact this
structure Ry (w wr : World) (B : Nat) (ls : List Int) (m k : Nat) : Prop where
  sz : ∃ sv lv, Rs wr B sv lv (cnt ls) ∧ wr.ownsRow w.heap.size 3 1 lv ls.length (cellsZ ls) ∧ wr.ownsRow w.heap.size 3 1 sv (tot ls m + rank ls (m + 1) k) (cellsI (rkd ls m ++ syms ls (m + 1) k)) ∧ (∀ g, sv.ownBlock = some g → g ≠ B) ∧ ∀ g, lv.ownBlock = some g → g ≠ B ∧ sv.ownBlock ≠ some g
  fr : Fr (fun _ => False) w wr
  lob : w.heap.size ≤ B
theorem Ry.skip {w wr : World} {B : Nat} {ls : List Int} {m k : Nat} (h : Ry w wr B ls m k) (hz : at0 ls k ≠ ((m + 1 : Nat) : Int)) : Ry w wr B ls m (k + 1) := by
  obtain ⟨sv, lv, h1, h2, h3, h4, h5⟩ := h.sz
  refine ⟨⟨sv, lv, h1, h2, ?_, h4, h5⟩, h.fr, h.lob⟩
  simp only [rank, syms, if_neg hz]; exact h3
theorem Ry.size {w wr : World} {B : Nat} {ls : List Int} {m : Nat} (h : Ry w wr B ls m ls.length) : Ry w wr B ls (m + 1) 0 := by
  obtain ⟨sv, lv, h1, h2, h3, h4, h5⟩ := h.sz
  refine ⟨⟨sv, lv, h1, h2, ?_, h4, h5⟩, h.fr, h.lob⟩
  simp only [rank, syms, List.append_nil, rkd, Nat.add_zero]; exact h3
theorem Ry.step {w wr w1 : World} {B : Nat} {ls : List Int} {m k g cap : Nat} {a : Option Addr} {c : Nat} (h : Ry w wr B ls m k) (hz : at0 ls k = ((m + 1 : Nat) : Int)) (ha : wr.cell? ⟨B, 16, none⟩ = some (.slice a (tot ls m + rank ls (m + 1) k) c))
    (hf : Fr (fun i => (Value.slice a (tot ls m + rank ls (m + 1) k) c).ownBlock = some i) wr w1)
    (hown : w1.ownsRow w.heap.size 3 1 (.slice (some ⟨g, 0, none⟩) (tot ls m + rank ls (m + 1) k + 1) cap) (tot ls m + rank ls (m + 1) k + 1) (cellsI (rkd ls m ++ syms ls (m + 1) k) ++ [.int .i64 (k : Int)]))
    (hg : (Value.slice a (tot ls m + rank ls (m + 1) k) c).ownBlock = some g ∨ wr.heap.size ≤ g) :
    Ry w (w1.setCell ⟨B, 16, none⟩ (.slice (some ⟨g, 0, none⟩) (tot ls m + rank ls (m + 1) k + 1) cap)) B ls m (k + 1) := by
  obtain ⟨sv, lv, h1, h2, h3, h4, h5⟩ := h.sz
  obtain rfl : sv = .slice a (tot ls m + rank ls (m + 1) k) c := by
    have := h1.cell16
    rw [ha] at this
    exact (Option.some.inj this).symm
  have hBw := h1.blk
  have hgB : g ≠ B := by
    rcases hg with e | e
    · exact h4 g e
    · omega
  have hkeep : ∀ i, lv.ownBlock = some i → (w1.setCell ⟨B, 16, none⟩ (.slice (some ⟨g, 0, none⟩) (tot ls m + rank ls (m + 1) k + 1) cap)).heap[i]? = wr.heap[i]? := fun i hi => by
    rw [Below.heap_setCell _ _ _ _ (h5 i hi).1, hf.block i (h2.lt i hi).2 (h5 i hi).2]
  refine ⟨⟨.slice (some ⟨g, 0, none⟩) (tot ls m + rank ls (m + 1) k + 1) cap, lv, (h1.keep hf (fun e => h4 B e rfl)).set16 _, ownsRow_fr h2 hkeep, ?_, fun g' e => ?_, fun g' e => ⟨(h5 g' e).1, fun e2 => ?_⟩⟩, ?_, h.lob⟩
  · simp only [rank, syms, if_pos hz, ← List.append_assoc]
    have e : cellsI (rkd ls m ++ syms ls (m + 1) k ++ [k]) = cellsI (rkd ls m ++ syms ls (m + 1) k) ++ [.int .i64 (k : Int)] := by simp [cellsI]
    rw [e, ← Nat.add_assoc]
    refine ownsRow_fr hown fun i hi => ?_
    have : i = g := by simpa [Value.ownBlock] using hi.symm
    subst this
    exact Below.heap_setCell _ _ _ _ hgB
  · have : g' = g := by simpa [Value.ownBlock] using e.symm
    subst this; exact hgB
  · have : g' = g := by simpa [Value.ownBlock] using e2.symm
    subst this
    rcases hg with e3 | e3
    · exact (h5 g' e).2 e3
    · have := (h2.lt g' e).2; omega
  · have hlt := h3.lt
    exact h.fr.join_new ((hf.trans (Fr.of_setCell w1 ⟨B, 16, none⟩ _)).mono fun i _ hi => by
      have := h.lob
      rcases hi with hi | hi
      · exact (hlt i hi).1
      · simp at hi; omega)
theorem Rk.done {w wr : World} {B : Nat} {ls : List Int} (h : Rk w wr B ls ls.length) (h320 : ls.length ≤ 320) : ∃ lv, Rs wr B (.slice none 0 0) lv (cnt ls) ∧ wr.ownsRow w.heap.size 3 1 lv ls.length (cellsZ ls) ∧ ∀ g, lv.ownBlock = some g → g ≠ B := by
  obtain ⟨lv, cs, h1, h2, h3, h4, h5, h6, h7⟩ := h.sz
  refine ⟨lv, ⟨cs, h1, h2, h3, h4, ⟨rank ls 0 ls.length, ?_, h5 0 (by omega)⟩, fun i _ h9 => h5 i h9⟩, by simpa using h6, h7⟩
  have := rank_le ls 0 ls.length
  omega
theorem codeOk_cases {ls : List Int} (h : codeOk ls) (h0 : ¬ frk ls 15 = 0) : tot ls 15 = 0 ∨ (tot ls 15 = 1 ∧ cnt ls 1 = 1) := h.elim (fun h => absurd h h0) id
set_option maxHeartbeats 3200000 in
set_option maxRecDepth 100000 in
theorem refNew_c (a : Option Addr) (c : Nat) (ls : List Int) (w : World) (hl : LiesI w a ls) (h320 : ls.length ≤ 320) (Q : Ending → World → Prop)
    (hbad : ¬ good ls → ∀ w', Fr (fun _ => False) w w' → Q (.returned (.tuple #[.pointer none, .int .i64 1])) w')
    (hno : good ls → ¬ codeOk ls → ∀ w', Fr (fun _ => False) w w' → Q (.returned (.tuple #[.pointer none, .int .i64 4])) w')
    (hyes : good ls → codeOk ls → ∀ w' B, Rc w' w.heap.size w'.heap.size B ls → Fr (fun _ => False) w w' → Q (.returned (.tuple #[.pointer (some ⟨B, 0, none⟩), .int .i64 0])) w') :
    Calls Tryz.prog 42 #[.slice a ls.length c] w Q := by
  obtain ⟨i0, hi, hz0, hz1, hz2⟩ := info_parts Tryz.info3
  have Hl := hide hl
  have Hbad := hide hbad
  have Hno := hide hno
  have Hyes := hide hyes
  clear hl hbad hno hyes
  go_enter Tryz.func42, Tryz.ntmps42
  go_wp2
  obtain ⟨B, hB⟩ : ∃ B, B = w.heap.size := ⟨_, rfl⟩
  have hst : ∀ cs : Array Value, cs = #[.int .i64 0, .int .i64 0, .int .i64 0, .int .i64 0, .int .i64 0, .int .i64 0, .int .i64 0, .int .i64 0, .int .i64 0, .int .i64 0, .int .i64 0, .int .i64 0, .int .i64 0, .int .i64 0, .int .i64 0, .int .i64 0, .slice none 0 0, .slice none 0 0] →
      Rk w (w.alloc (.cells cs 106)) B ls 0 := by
    intro cs hcs
    subst hcs
    refine ⟨⟨.slice none 0 0, _, heap_alloc_at hB, rfl, rfl, rfl, fun i h2 => ?_, World.ownsRow_nil _ _ _ _, fun g e => by cases e⟩, Fr.of_alloc _ _, by omega⟩
    simp only [rank]
    rcases (by omega : i = 0 ∨ i = 1 ∨ i = 2 ∨ i = 3 ∨ i = 4 ∨ i = 5 ∨ i = 6 ∨ i = 7 ∨ i = 8 ∨ i = 9 ∨ i = 10 ∨ i = 11 ∨ i = 12 ∨ i = 13 ∨ i = 14 ∨ i = 15) with rfl | rfl | rfl | rfl | rfl | rfl | rfl | rfl | rfl | rfl | rfl | rfl | rfl | rfl | rfl | rfl <;> rfl
  have Hst := hide (hst _ rfl)
  rw [← hB]
  have HB := hide hB
  clear hst hB
  go_loopw [5, 6] (fun mn i wr => ∃ k : Nat, k ≤ ls.length ∧ i = .int .i64 (k : Int) ∧ mn = .int .i64 (totk ls k 15 : Nat) ∧ Rk w wr B ls k ∧ Hid (∀ i, i < k → 0 ≤ at0 ls i ∧ at0 ls i ≤ 15)) (fun _ i _ => ls.length - (intOf i).toNat)
  case atStart => exact ⟨0, Nat.zero_le _, rfl, by rw [totk_zero]; rfl, Hst.out, fun i hi => absurd hi (Nat.not_lt_zero _)⟩
  case round =>
    obtain ⟨k, hk, rfl, rfl, hR, Hgd⟩ := hrel
    have hL := Hl.out.keep hR.fr (fun _ _ _ h => h)
    by_cases hlt : k < ls.length
    · obtain ⟨ad, rfl, hc⟩ := hL k hlt
      by_cases h0 : at0 ls k < 0
      · have HR := hide hR
        clear hR hL
        go_wp2
        exact Hbad.out (fun h => by have := (h.2 k hlt).1; omega) _ HR.out.fr
      · by_cases h15 : 15 < at0 ls k
        · have HR := hide hR
          clear hR hL
          go_wp2
          exact Hbad.out (fun h => by have := (h.2 k hlt).2; omega) _ HR.out.fr
        · obtain ⟨n, hn⟩ : ∃ n : Nat, at0 ls k = (n : Int) := ⟨(at0 ls k).toNat, by omega⟩
          obtain ⟨la, lc, f17, fown, fap, fcells, ffr, fB⟩ := hR.facts
          have hq := fcells n (by omega)
          have hf := ffr n
          have hf17 := ffr 17
          have hr := rank_le ls n k
          have hn1 : n < 16 := by omega
          have hn0 : (0 : Int) ≤ (n : Int) := by omega
          have hn15 : ¬ (15 : Int) < (n : Int) := by omega
          have hn16 : (n : Int) < 16 := by omega
          have hn00 : ¬ (n : Int) < 0 := by omega
          have hadlt : (ad.add k).block < wr.heap.size := World.block_lt_of_cell? _ _ hc
          have hne : (ad.add k).block ≠ B := by
            obtain ⟨ad', e', hc'⟩ := Hl.out k hlt
            cases e'
            have := World.block_lt_of_cell? _ _ hc'
            have := hR.lob
            omega
          have Hadn : Hid (∀ g, (Value.slice la k lc).ownBlock = some g → g ≠ (ad.add k).block) := by
            intro g e
            obtain ⟨ad', e', hc'⟩ := Hl.out k hlt
            cases e'
            have := World.block_lt_of_cell? _ _ hc'
            have := (fown.lt g e).1
            omega
          have Hgd2 : Hid (∀ i, i < k + 1 → 0 ≤ at0 ls i ∧ at0 ls i ≤ 15) := by
            intro i hi
            rcases Nat.lt_or_ge i k with h | h
            · exact Hgd.out i h
            · have : i = k := by omega
              subst this
              omega
          rw [hn] at hc
          have HR := hide hR
          have Hn := hide hn
          have Hown := hide fown
          have Hap := hide fap
          have hm := totk_succ ls 15 k
          rw [hn] at hm
          have hmle : totk ls k 15 ≤ 1000 := by
            have : ∀ j, totk ls j 15 ≤ j := by
              intro j
              induction j with
              | zero => rw [totk_zero]; exact Nat.le_refl _
              | succ j ih => rw [totk_succ]; split <;> omega
            have := this k
            omega
          obtain ⟨r, hr0⟩ : ∃ r, r = rank ls n k := ⟨_, rfl⟩
          rw [← hr0] at hr hq
          have Hr := hide hr0
          have Hm := hide hm
          clear hL hR h0 h15 hn fown fap fcells ffr hr0 hm
          go_wp2
          go_region
          obtain ⟨w2, hw2⟩ : ∃ w2, w2 = (wr.setCell ⟨B, n, none⟩ (.int .i64 ((r : Int) + 1))).drew := ⟨_, rfl⟩
          have hF2 : Fr (fun i => i = B) wr w2 := by
            rw [hw2]
            exact ((Fr.of_setCell wr ⟨B, n, none⟩ _).trans (Fr.of_drewN _ 1)).mono fun i _ hi => by simpa using hi
          have c17 : w2.cell? ⟨B, 17, none⟩ = some (.slice la k lc) := by
            rw [hw2]
            show (wr.setCell ⟨B, n, none⟩ (.int .i64 ((r : Int) + 1))).cell? ⟨B, 17, none⟩ = _
            rw [World.cell?_setCell_other _ _ _ _ (by intro e; cases e; omega)]
            exact f17
          have z17 : w2.frozen? ⟨B, 17, none⟩ = false := by
            rw [hw2]
            show (wr.setCell ⟨B, n, none⟩ (.int .i64 ((r : Int) + 1))).frozen? ⟨B, 17, none⟩ = _
            simpa using hf17
          have cad : w2.cell? (ad.add k) = some (.int .i64 (n : Int)) := by
            rw [World.cell?_of_block (w := wr) (hF2.block _ hadlt hne)]
            exact hc
          have Hown2 : Hid (w2.ownsRow w.heap.size 3 1 (.slice la k lc) k (cellsZ (ls.take k))) := ownsRow_fr Hown.out fun g hg => hF2.block g (Hown.out.lt g hg).2 (Hap.out g hg)
          have hw2s : w.heap.size ≤ w2.heap.size := Nat.le_trans HR.out.fr.size hF2.size
          have hBw2 : B < w2.heap.size := Nat.lt_of_lt_of_le fB hF2.size
          have hadw2 : (ad.add k).block < w2.heap.size := Nat.lt_of_lt_of_le hadlt hF2.size
          rw [← hw2]
          have HS2 : Hid (∀ o, (((w2.alloc o).drew).cell? ⟨B, 17, none⟩ = some (.slice la k lc) ∧ ((w2.alloc o).drew).cell? (ad.add k) = some (.int .i64 (n : Int))) ∧ ((w2.alloc o).drew).frozen? ⟨B, 17, none⟩ = false) := by
            intro o
            refine ⟨⟨?_, ?_⟩, ?_⟩
            · exact (World.cell?_alloc_lt _ _ _ hBw2).trans c17
            · exact (World.cell?_alloc_lt _ _ _ hadw2).trans cad
            · exact (World.frozen?_alloc_past o B 17 hBw2).trans z17
          have Hc17 := hide f17
          have Hw2 := hide hw2
          have HF2 := hide hF2
          clear hc hq hf hf17 f17 hw2 hF2
          have hnc : 0 < (n : Int) ∨ ¬ 0 < (n : Int) := by omega
          rcases hnc with hnc | hnc
          all_goals
            go_wp2
            go_region_law ((refine step_append_lies _ (by rfl) _ _ _ (by rfl) w.heap.size 3 i0 (.int .i64 0) 1 8 Tryz.underlying81 hi hz0 hz1 hz2 rfl (by decide) (.slice la k lc) k (cellsZ (ls.take k)) (by rfl) (own_drew Hown2.out _) ⟨w2.heap.size, 0, none⟩ 1 1 [.int .i64 (n : Int)] (by rfl) rfl (news_one _ _ _) (fun x hx => by simp at hx; subst hx; rfl) (by decide) (by unfold maxLen; omega) (by omega) (by simp; omega) (w2.heap.size + 1) (by simp) ?_; intro g cap w3 hown3 hgrow hat hlt3; have z3 := (hgrow.frozen_far ⟨B, 17, none⟩ (by simp; omega) (fun e => Hap.out B e.symm rfl)).trans (HS2.out _).2; obtain ⟨x3, c3⟩ : ∃ x3, w3.cell? ⟨B, 17, none⟩ = some x3 := ⟨_, (hgrow.cell_far ⟨B, 17, none⟩ (by simp; omega) (fun e => Hap.out B e.symm rfl)).trans (HS2.out _).1.1⟩))
            all_goals
              have hF3 : Fr (fun i => (Value.slice la k lc).ownBlock = some i) w2 w3 := ((((Fr.of_alloc w2 _).join (Fr.of_drewN _ 1)).trans (Fr.of_grown hgrow)).mono fun i _ h => h.elim (fun h => h.elim) id)
              rw [Hw2.out, Hr.out] at hF3
              have hk2 := HR.out.step (q := 1) hlt hn1 Hn.out Hc17.out hF3 hown3 (hat.elim Or.inl (fun e => Or.inr (by have := HF2.out.size; omega)))
              have Hk2 := hide hk2
              clear hk2 hF3 hown3 hgrow hat z3 c3
              go_wp2
              go_roundw
              case rel =>
                refine ⟨k + 1, by omega, by go_num, ?_, Hk2.out, Hgd2⟩
                have hm := Hm.out
                rw [hm]
                first | rw [if_pos (by omega)] | rw [if_neg (by omega)]
                go_num
              case measure => simp [intOf]; omega
    · have e : k = ls.length := by omega
      subst e
      have hg : good ls := ⟨h320, Hgd.out⟩
      obtain ⟨lv, s1, s2, s3⟩ := hR.done h320
      have hc0 : ∃ x, wr.cell? ⟨B, 0, none⟩ = some x := by
        obtain ⟨cs, ho, _, _, _, ⟨x, _, hx⟩, _⟩ := s1.eobj
        exact ⟨_, cell_of ho hx⟩
      obtain ⟨x0, hc0⟩ := hc0
      have hf0 := s1.frozen 0
      have Hg := hide hg
      have HR := hide hR
      have S1 := hide s1
      have S2 := hide s2
      have S3 := hide s3
      clear hR hL hg s1 s2 s3 Hgd
      go_wp2
      obtain ⟨w1, hw1⟩ : ∃ w1, w1 = wr.setCell ⟨B, 0, none⟩ (.int .i64 0) := ⟨_, rfl⟩
      have hF1 : Fr (fun _ => False) w w1 := by
        rw [hw1]
        exact HR.out.fr.join_new ((Fr.of_setCell wr ⟨B, 0, none⟩ (.int .i64 0)).mono fun i _ hi => by have := HR.out.lob; simp at hi; omega)
      have hs1 : Rs w1 B (.slice none 0 0) lv (cnt ls) := by rw [hw1]; exact S1.out.set0
      have hs2 : w1.ownsRow w.heap.size 3 1 lv ls.length (cellsZ ls) := by
        rw [hw1]
        exact ownsRow_fr S2.out fun i hi => Below.heap_setCell _ _ _ _ (S3.out i hi)
      have HF1 := hide hF1
      have R1 := hide hs1
      have R2 := hide hs2
      have hmany : totk ls ls.length 15 = tot ls 15 := rfl
      rw [← hw1, hmany]
      clear hF1 hs1 hs2 hw1 hmany hc0 hf0
      go_loop [7, 8] (fun lf n => ∃ m s : Nat, m ≤ 15 ∧ Hid (s = m + 1) ∧ n = .int .i64 (s : Int) ∧ lf = .int .i64 (frk ls m) ∧ 0 ≤ frk ls m) (fun _ n => 16 - (intOf n).toNat)
      case atStart => exact ⟨0, 1, Nat.zero_le _, rfl, rfl, rfl, by show (0 : Int) ≤ 1; decide⟩
      case round =>
        obtain ⟨m, s, hm, Hm, rfl, rfl, hnn⟩ := hrel
        by_cases hlt2 : m < 15
        · have hs := Hm.out
          have hcell := R1.out.cell (i := s) (by omega) (by omega)
          have hfb := fr_bound ls h320 (n := m) (by omega)
          have hcl := cnt_le ls s
          have hs15 : (s : Int) ≤ 15 := by omega
          have hs16 : (s : Int) < 16 := by omega
          have hfs : Hid (2 * frk ls m - (cnt ls s : Nat) = frk ls (m + 1)) := by rw [frk_succ, hs]; rfl
          obtain ⟨F, hF⟩ : ∃ F : Int, F = frk ls m := ⟨_, rfl⟩
          rw [← hF] at hfb hnn hfs ⊢
          have HF := hide hF
          clear hs hF
          by_cases hneg : 2 * F - (cnt ls s : Int) < 0
          · go_wp2
            refine Hno.out Hg.out (fun hok => ?_) _ HF1.out
            have := fr_nonneg ls hok (n := m + 1) (by omega)
            have := hfs.out
            omega
          · go_wp2
            go_round
            case rel => exact ⟨m + 1, s + 1, by omega, by have := Hm.out; show s + 1 = m + 1 + 1; omega, by go_num, by rw [hfs.out], by rw [← hfs.out]; omega⟩
            case measure => simp [intOf]; omega
        · have e : m = 15 := by omega
          subst e
          have hs15 : ¬ (s : Int) ≤ 15 := by have := Hm.out; omega
          have hc1 := R1.out.cell (i := 1) (by omega) (by omega)
          by_cases hok : codeOk ls
          · have Hok := hide hok
            have hcs : (¬ 0 < frk ls 15) ∨ (0 < frk ls 15 ∧ (((tot ls 15 : Nat) : Int) == 0) = true) ∨ ((0 < frk ls 15 ∧ (((tot ls 15 : Nat) : Int) == 0) = false) ∧ (((tot ls 15 : Nat) : Int) == 1) = true ∧ (((cnt ls 1 : Nat) : Int) == 1) = true) := by
              rcases Int.lt_or_le 0 (frk ls 15) with h | h
              · rcases codeOk_cases hok (by omega) with h2 | ⟨h2, h3⟩
                · exact Or.inr (Or.inl ⟨h, by simp [h2]⟩)
                · exact Or.inr (Or.inr ⟨⟨h, by simp [h2]⟩, by simp [h2], by simp [h3]⟩)
              · exact Or.inl (by omega)
            have hst : Ry w w1 B ls 0 0 := ⟨⟨.slice none 0 0, lv, R1.out, R2.out, World.ownsRow_nil _ _ _ _, (fun g e => by cases e), (fun g e => ⟨S3.out g e, by simp [Value.ownBlock]⟩)⟩, HF1.out, HR.out.lob⟩
            have Hst2 := hide hst
            clear hok hst
            rcases hcs with h1 | ⟨h1, h2⟩ | ⟨⟨h1, h2⟩, h3, h4⟩
            all_goals
              go_wp2
              go_loopw [9, 10] (fun n _ wr => ∃ m s : Nat, m ≤ 15 ∧ Hid (s = m + 1) ∧ n = .int .i64 (s : Int) ∧ Ry w wr B ls m 0) (fun n _ _ => 16 - (intOf n).toNat)
              case atStart => exact ⟨0, 1, Nat.zero_le _, rfl, rfl, Hst2.out⟩
              case round =>
                obtain ⟨m, s, hm, Hm2, rfl, hY⟩ := hrel
                by_cases hlt2 : m < 15
                · have hs15 : (s : Int) ≤ 15 := by have := Hm2.out; omega
                  have hs15' : decide ((s : Int) ≤ 15) = true := decide_eq_true hs15
                  have HY := hide hY
                  clear hY
                  go_wp2
                  go_loopw [10] (fun i wr => ∃ k : Nat, k ≤ ls.length ∧ i = .int .i64 (k : Int) ∧ Ry w wr B ls m k) (fun i _ => ls.length - (intOf i).toNat)
                  case atStart => exact ⟨0, Nat.zero_le _, rfl, HY.out⟩
                  case round =>
                    obtain ⟨k, hk, rfl, hY⟩ := hrel
                    have hL := Hl.out.keep hY.fr (fun _ _ _ h => h)
                    by_cases hlt3 : k < ls.length
                    · obtain ⟨ad, rfl, hc⟩ := hL k hlt3
                      by_cases hz : at0 ls k = ((m + 1 : Nat) : Int)
                      · obtain ⟨sv, lv2, y1, y2, y3, y4, y5⟩ := hY.sz
                        obtain ⟨a0, c0, rfl⟩ := ownsRow_shape y3
                        have hb16 := y1.cell16
                        have hfb := y1.frozen 16
                        have hq : (at0 ls k == (s : Int)) = true := by rw [Hm2.out]; simpa using hz
                        have hlen := tot_le ls m
                        have hr := rank_le ls (m + 1) k
                        have hBw := y1.blk
                        have Hz2 := hide hz
                        have HYY := hide hY
                        have Y1 := hide y1
                        have Y3 := hide y3
                        have Y4 := hide y4
                        have hwz : w.heap.size ≤ wr.heap.size := hY.fr.size
                        obtain ⟨N, hN⟩ : ∃ N, N = tot ls m + rank ls (m + 1) k := ⟨_, rfl⟩
                        rw [← hN] at hb16 Y1 Y3 Y4
                        have hNb : N ≤ 1000 := by omega
                        have HN := hide hN
                        clear hN hL hz hY y1 y2 y3 y4 y5
                        go_wp2_with (at_builtin; go_must (refine wpList_append_lies _ rfl _ _ 81 rfl w.heap.size 3 i0 (.int .i64 0) 1 8 Tryz.underlying81 hi hz0 hz1 hz2 rfl (by decide) (.slice a0 N c0) N (cellsI (rkd ls m ++ syms ls (m + 1) k)) rfl (Y3.out.alloc _) ⟨wr.heap.size, 0, none⟩ 1 1 [.int .i64 (k : Int)] rfl rfl (cell_one_new _ _ _) (fun x hx => by simp at hx; subst hx; rfl) (by decide) (by unfold maxLen; omega) (by omega) (by simp; omega) (wr.heap.size + 1) (by simp) ?_); intro g cap w3 hown1 hgrow hat hlt1
                                     have hF1 : Fr (fun i => (Value.slice a0 N c0).ownBlock = some i) wr w3 := ((Fr.of_alloc _ _).trans (Fr.of_grown hgrow)).mono fun i _ h => h.elim (fun h => h.elim) id
                                     have hY1 := Y1.out.keep hF1 (fun e => Y4.out B e rfl)
                                     have q16 := hY1.cell16
                                     have z16 := hY1.frozen 16
                                     have Hown1 := hide hown1
                                     have HFF := hide hF1
                                     have Hat := hide hat
                                     clear hown1 hgrow hat hlt1 hF1 hY1)
                        have hst := HFF.out
                        have how := Hown1.out
                        have hgs : (Value.slice a0 N c0).ownBlock = some g ∨ wr.heap.size ≤ g := by
                          rcases Hat.out with h | h
                          · exact Or.inl h
                          · exact Or.inr (by omega)
                        have hN := HN.out
                        subst hN
                        have hgv := HYY.out.step Hz2.out Y1.out.cell16 hst how hgs
                        go_roundw
                        case rel => exact ⟨k + 1, by omega, by go_num, hgv⟩
                        case measure => simp [intOf]; omega
                      · have hq : (at0 ls k == (s : Int)) = false := beq_false_of_ne (by rw [Hm2.out]; exact hz)
                        have HY2 := hide (hY.skip hz)
                        clear hL hY hz
                        go_wp2
                        go_roundw
                        case rel => exact ⟨k + 1, by omega, by go_num, HY2.out⟩
                        case measure => simp [intOf]; omega
                    · have e : k = ls.length := by omega
                      subst e
                      have HY2 := hide hY.size
                      clear hL hY
                      go_wp2
                      go_roundw
                      case rel => exact ⟨m + 1, s + 1, by omega, by have := Hm2.out; show s + 1 = m + 1 + 1; omega, by go_num, HY2.out⟩
                      case measure => simp [intOf]; omega
                · have e : m = 15 := by omega
                  subst e
                  have hs15 : ¬ (s : Int) ≤ 15 := by have := Hm2.out; omega
                  have HY := hide hY
                  clear hY
                  go_wp2
                  obtain ⟨sv, lv2, y1, y2, y3, y4, y5⟩ := HY.out.sz
                  have y3' : wr.ownsRow w.heap.size 3 1 sv (tot ls 15) (cellsI (rkd ls 15)) := by simpa [rank, syms] using y3
                  exact Hyes.out Hg.out Hok.out wr B ⟨HY.out.lob, y1.blk, Nat.le_refl _, Hg.out, Hok.out, sv, lv2, y1, y3', fun g hg => (y3.lt g hg).2, y2, fun g hg => (y2.lt g hg).2⟩ HY.out.fr
          · have Hok := hide hok
            have hcs : (0 < frk ls 15 ∧ (((tot ls 15 : Nat) : Int) == 0) = false) ∧ ((((tot ls 15 : Nat) : Int) == 1) = false ∨ ((((tot ls 15 : Nat) : Int) == 1) = true ∧ (((cnt ls 1 : Nat) : Int) == 1) = false)) := by
              have h1 : ¬ frk ls 15 = 0 := fun h => hok (Or.inl h)
              have h2 : ¬ tot ls 15 = 0 := fun h => hok (Or.inr (Or.inl h))
              refine ⟨⟨by omega, beq_false_of_ne (by omega)⟩, ?_⟩
              by_cases h3 : tot ls 15 = 1
              · exact Or.inr ⟨by simp [h3], beq_false_of_ne (fun h4 => hok (Or.inr (Or.inr ⟨h3, by omega⟩)))⟩
              · exact Or.inl (beq_false_of_ne (by omega))
            clear hok
            obtain ⟨⟨h1, h2⟩, h3⟩ := hcs
            rcases h3 with h3 | ⟨h3, h4⟩
            all_goals
              go_wp2
              exact Hno.out Hg.out Hok.out _ HF1.out
end Go.Proofs.YtdpmpllbdoefdaaGreatDoor
namespace Go.Proofs.YtdpmpllbdoefdaaGreatDoor
open Go.RowKit
structure TkNo (ls : List Int) (V L p er m : Nat) : Prop where
  ge : ∀ k, k ≤ m → nx ls k ≤ rd V p k
  le : m ≤ 15
  fits : p + m ≤ L
  why : (er = 4 ∧ tot ls 15 ≤ tot ls m) ∨ (er = 2 ∧ tot ls m < tot ls 15 ∧ L < p + m + 1)
theorem TkNo.tk {ls : List Int} {V L p er m : Nat} (h : TkNo ls V L p er m) : tk ls V L p = .error er := by
  have key : ∀ d, d ≤ m → tkFrom ls V L p (15 - (m - d)) (m - d) = .error er := by
    intro d
    induction d with
    | zero =>
      intro _
      rcases Nat.lt_or_ge m 15 with h15 | h15
      · rw [show 15 - (m - 0) = (14 - m) + 1 by omega, show m - 0 = m by omega]
        simp only [tkFrom]
        rcases h.why with ⟨rfl, h1⟩ | ⟨rfl, h1, h2⟩
        · rw [if_pos h1]
        · rw [if_neg (by omega), if_pos h2]
      · have e : m = 15 := by have := h.le; omega
        subst e
        rcases h.why with ⟨rfl, h1⟩ | ⟨rfl, h1, h2⟩
        · rfl
        · omega
    | succ d ih =>
      intro hd
      have i := ih (by omega)
      have hle := h.le
      have hf := h.fits
      rw [show 15 - (m - (d + 1)) = (15 - (m - d)) + 1 by omega]
      simp only [tkFrom]
      rw [show m - (d + 1) + 1 = m - d by omega]
      have h1 := h.ge (m - d) (by omega)
      have h2 := tot_mono ls (show m - (d + 1) ≤ m by omega)
      by_cases hq : tot ls 15 ≤ tot ls (m - (d + 1))
      · rw [if_pos hq]
        rcases h.why with ⟨rfl, _⟩ | ⟨rfl, h3, _⟩
        · rfl
        · omega
      · rw [if_neg hq, if_neg (by omega), if_neg (by omega)]
        exact i
  have := key m (Nat.le_refl _)
  rw [Nat.sub_self] at this
  exact this
theorem Hit.tk {ls : List Int} {V L p n y : Nat} (h : Hit ls V L p n) (hy : (rkd ls 15)[hitAt ls V p n]? = some y) : tk ls V L p = .ok (y, p + n) := by
  have h1 := h.idx.2.2
  have hn : 1 ≤ n := h.one
  have h15 : n ≤ 15 := h.most
  have hf := h.fits
  have ht : tot ls (n - 1) < tot ls 15 := by
    unfold hitAt at h1
    omega
  have key : ∀ d, d ≤ n - 1 → tkFrom ls V L p (15 - (n - 1 - d)) (n - 1 - d) = .ok (y, p + n) := by
    intro d
    induction d with
    | zero =>
      intro _
      rw [show 15 - (n - 1 - 0) = (15 - n) + 1 by omega]
      simp only [tkFrom]
      rw [show n - 1 - 0 = n - 1 by omega, show n - 1 + 1 = n by omega, if_neg (by omega), if_neg (by omega), if_pos h.lt]
      rw [List.getD_eq_getElem?_getD, hy]
      rfl
    | succ d ih =>
      intro hd
      have i := ih (by omega)
      rw [show 15 - (n - 1 - (d + 1)) = (15 - (n - 1 - d)) + 1 by omega]
      simp only [tkFrom]
      rw [show n - 1 - (d + 1) + 1 = n - 1 - d by omega]
      have h2 := h.ge (n - 1 - d) (by omega)
      have h3 := tot_mono ls (show n - 1 - (d + 1) ≤ n - 1 by omega)
      rw [if_neg (by omega), if_neg (by omega), if_neg (by omega)]
      exact i
  have := key (n - 1) (Nat.le_refl _)
  rw [Nat.sub_self] at this
  exact this
theorem own_cellI {w : World} {lo n : Nat} {a : Option Addr} {c : Nat} {xs : List Nat} (h : w.ownsRow lo 3 1 (.slice a n c) n (cellsI xs)) {j x : Nat} (hx : xs[j]? = some x) : ∃ ad, a = some ad ∧ w.cell? (ad.add j) = some (.int .i64 (x : Int)) := by
  rcases h.2 with ⟨hv, e0⟩ | ⟨g, cap, cur, hv, hg, hh, hr⟩
  · have hl := h.1
    have hj := (List.getElem?_eq_some_iff.1 hx).1
    simp [cellsI] at hl
    omega
  · cases hv
    refine ⟨⟨g, 0, none⟩, rfl, ?_⟩
    refine h.cells (g := g) rfl j _ ?_
    simp [cellsI, hx]
theorem or_bit (R b : Nat) (hR : R ≤ 1000000) (hb : b < 2) : bits .or .i64 ((R : Int) * 2) (b : Int) = ((2 * R + b : Nat) : Int) := by
  have h := or_i64' 1 b (2 * R) (by omega) (by omega) (by omega)
  have e : ((R : Int) * 2) = ((2 * R : Nat) : Int) := by simp; omega
  rw [e, h]; simp
end Go.Proofs.YtdpmpllbdoefdaaGreatDoor
namespace Go.Proofs.YtdpmpllbdoefdaaGreatDoor
open Go.RowKit
theorem nx_same (ls : List Int) (m : Nat) : ∀ d, tot ls (m + d) = tot ls m → nx ls (m + d) = nx ls m * 2 ^ d := by
  intro d
  induction d with
  | zero => intro _; simp
  | succ d ih =>
    intro h
    have h1 := tot_mono ls (show m ≤ m + d by omega)
    have h2 : tot ls (m + (d + 1)) = tot ls (m + d) + cnt ls (m + d + 1) := tot_succ ls (m + d)
    have h3 : nx ls (m + (d + 1)) = 2 * nx ls (m + d) + cnt ls (m + d + 1) := nx_succ ls (m + d)
    rw [h3, ih (by omega), show cnt ls (m + d + 1) = 0 by omega, Nat.pow_succ]
    simp only [Nat.add_zero]
    rw [Nat.mul_comm (2 ^ d) 2]
    exact Nat.mul_left_comm _ _ _
theorem nx0_le (ls : List Int) (V p : Nat) : ∀ k, k ≤ 0 → nx ls k ≤ rd V p k := by
  intro k hk
  have : k = 0 := by omega
  subst this
  rw [nx_zero]
  exact Nat.zero_le _
theorem more_left {ls : List Int} (hok : codeOk ls) (h0 : ¬ tot ls 15 = 0) {V p m : Nat} (hm : m ≤ 15) (hge : nx ls m ≤ rd V p m) (hone : tot ls 15 = 1 → m = 0) : tot ls m < tot ls 15 := by
  have hle := tot_mono ls hm
  rcases Nat.lt_or_ge (tot ls m) (tot ls 15) with h | h
  · exact h
  exfalso
  rcases hok with hf | hf | ⟨hf, _⟩
  · have e := nx_same ls m (15 - m) (by rw [show m + (15 - m) = 15 by omega]; omega)
    rw [show m + (15 - m) = 15 by omega] at e
    have h2 := fr_nx ls 15
    rw [hf] at h2
    have h3 : nx ls 15 = 2 ^ 15 := by
      have : ((nx ls 15 : Nat) : Int) = ((2 ^ 15 : Nat) : Int) := by simpa using h2
      omega
    have h4 := rd_lt V p m
    have h5 : (2:Nat) ^ 15 = 2 ^ m * 2 ^ (15 - m) := by rw [← Nat.pow_add, show m + (15 - m) = 15 by omega]
    have h6 : nx ls m < 2 ^ m := by omega
    have h7 := Nat.mul_lt_mul_of_pos_right h6 (show 0 < 2 ^ (15 - m) from Nat.pow_pos (by decide))
    omega
  · exact h0 hf
  · have := hone hf
    subst this
    rw [tot_zero] at h
    omega
theorem nx_half (ls : List Int) (n : Nat) : 2 * nx ls n ≤ tot ls n * 2 ^ n := by
  induction n with
  | zero => simp [nx_zero, tot_zero]
  | succ n ih =>
    rw [nx_succ, tot_succ, Nat.pow_succ, Nat.add_mul]
    have h1 := pow_pos2 n
    have h2 : cnt ls (n + 1) * 1 ≤ cnt ls (n + 1) * 2 ^ n := Nat.mul_le_mul_left _ h1
    rw [← Nat.mul_assoc, ← Nat.mul_assoc]
    omega
theorem one_word {ls : List Int} (h : codeOk ls) (h1 : tot ls 15 = 1) : cnt ls 1 = 1 := by
  rcases h with h | h | h
  · exfalso
    have h2 := nx_half ls 15
    have h3 := fr_nx ls 15
    rw [h, Int.zero_add] at h3
    have h4 : nx ls 15 = 2 ^ 15 := by exact_mod_cast h3
    rw [h1, h4] at h2
    exact absurd h2 (by decide)
  · omega
  · exact h.2
set_option maxHeartbeats 1600000 in
set_option maxRecDepth 100000 in
theorem rtake_Q (lo hi M R : Nat) (ls : List Int) (sv : Value) (bs : List Nat) (p : Nat) (w : World) (hC : Rc w lo hi M ls) (hB : Rf w R sv bs p false) (hap : hi ≤ R ∨ R < lo) (Q : Ending → World → Prop)
    (hhit : ∀ n y w', Hit ls (leNum bs) (8 * bs.length) p n → (rkd ls 15)[hitAt ls (leNum bs) p n]? = some y → Rf w' R sv bs (p + n) false → Fr (fun k => k = R) w w' → Q (.returned (.tuple #[.int .i64 (y : Int), .int .i64 0])) w')
    (hno : ∀ (er m : Nat) w', TkNo ls (leNum bs) (8 * bs.length) p er m → Fr (fun k => k = R) w w' → Q (.returned (.tuple #[.int .i64 0, .int .i64 er])) w') :
    Calls Tryz.prog 43 #[.pointer (some ⟨M, 0, none⟩), .pointer (some ⟨R, 0, none⟩)] w Q := by
  have h320 := hC.egood.1
  have hok := hC.eok
  obtain ⟨V, hV⟩ : ∃ V, V = leNum bs := ⟨_, rfl⟩
  have Hbit : Hid (∀ W pp, Rf W R sv bs pp false → pp + 1 ≤ 8 * bs.length → Calls Tryz.prog 27 #[.pointer (some ⟨R, 0, none⟩), .int .i64 1] W fun e w' => e = .returned (.tuple #[.int .i64 (lowBits V pp 1 : Nat), .bool true]) ∧ Rf w' R sv bs (pp + 1) false ∧ Fr (fun k => k = R) W w') := by
    intro W pp hR hle
    rw [hV]
    exact ref_take_low W R sv bs pp 1 hR (by omega) hle
  rw [← hV] at hhit hno
  obtain ⟨sv0, lv0, k1, k2, k3, k4, k5⟩ := hC.eobj
  obtain ⟨sa, sc, rfl⟩ := ownsRow_shape k2
  have hs16 := k1.cell16
  have HC := hide hC
  have HB := hide hB
  have Hap := hide hap
  have Hhit := hide hhit
  have Hno := hide hno
  have Hok := hide hok
  have htb15 := tot_le ls 15
  have Hcs : Hid (∀ w1, Fr (fun k => k = R) w w1 → Rs w1 M (.slice sa (tot ls 15) sc) lv0 (cnt ls) ∧ w1.ownsRow lo 3 1 (.slice sa (tot ls 15) sc) (tot ls 15) (cellsI (rkd ls 15))) := by
    intro w1 hf
    have hx := hC.esz
    refine ⟨k1.keep hf (fun e => by have := hC.elo; have := hC.ehi; omega), ownsRow_fr k2 fun k hk => hf.block k (by have := k3 k hk; omega) (fun e => ?_)⟩
    have := k3 k hk
    have := (k2.lt k hk).1
    omega
  clear hC hB hap hhit hno hV hok k1 k2 k3 k4 k5
  by_cases h0 : tot ls 15 = 0
  · have hq : (((tot ls 15 : Nat) : Int) == 0) = true := by simp [h0]
    have Hn := hide (fun w' => Hno.out 4 0 w' ⟨nx0_le ls V p, by omega, HB.out.epos, Or.inl ⟨rfl, by rw [h0]; exact Nat.zero_le _⟩⟩)
    clear h0
    go_enter Tryz.func43, Tryz.ntmps43
    go_wp2
    exact Hn.out _ (Fr.refl _ _)
  · have hq : (((tot ls 15 : Nat) : Int) == 0) = false := beq_false_of_ne (by omega)
    go_enter Tryz.func43, Tryz.ntmps43
    go_wp2
    go_loopw [6, 7, 8, 9, 10, 11] (fun rv fv av zv _ _ wr => ∃ m s : Nat, m ≤ 15 ∧ Hid (s = m + 1) ∧ zv = .int .i64 (s : Int) ∧ rv = .int .i64 (rd V p m : Nat) ∧ fv = .int .i64 (nx ls m : Nat) ∧ av = .int .i64 (tot ls m : Nat) ∧ Hid (∀ k, k ≤ m → nx ls k ≤ rd V p k) ∧ Hid (tot ls 15 = 1 → m = 0) ∧ Rf wr R sv bs (p + m) false ∧ Fr (fun k => k = R) w wr) (fun _ _ _ zv _ _ _ => 17 - (intOf zv).toNat)
    case atStart => exact ⟨0, 1, Nat.zero_le _, rfl, rfl, rfl, rfl, rfl, fun k hk => by have : k = 0 := by omega
                                                                                        subst this; rw [nx_zero]; exact Nat.zero_le _, fun _ => rfl, HB.out, Fr.refl _ _⟩
    case round =>
      obtain ⟨m, s, hm, Hs, rfl, rfl, rfl, rfl, Hge, Hone, hR, hF⟩ := hrel
      have hnb := nx_bound ls h320 (n := m) (by omega)
      have htb := tot_le ls m
      have hrb : rd V p m ≤ 32768 := by
        have h1 := rd_lt V p m
        have h2 : (2:Nat) ^ m ≤ 2 ^ 15 := Nat.pow_le_pow_right (by decide) hm
        have h3 : (2:Nat) ^ 15 = 32768 := by decide
        omega
      have HR := hide hR
      have HF := hide hF
      by_cases hm15 : m < 15
      · have hs15 : (s : Int) ≤ 15 := by have := Hs.out; omega
        have hs16' : (s : Int) < 16 := by omega
        by_cases hfit : p + m + 1 ≤ 8 * bs.length
        · obtain ⟨b, hb⟩ : ∃ b, b = lowBits V (p + m) 1 := ⟨_, rfl⟩
          have hb2 : b < 2 := by rw [hb]; exact bit_lt _ _
          obtain ⟨X, hRd⟩ : ∃ X, X = rd V p m := ⟨_, rfl⟩
          obtain ⟨F, hFn⟩ : ∃ F, F = nx ls m := ⟨_, rfl⟩
          obtain ⟨T, hTt⟩ : ∃ T, T = tot ls m := ⟨_, rfl⟩
          obtain ⟨R2, hR2⟩ : ∃ R2, R2 = 2 * X + b := ⟨_, rfl⟩
          have e2 : rd V p (m + 1) = R2 := by rw [hR2, hRd, hb]; rfl
          have hor := or_bit X b (by omega) hb2
          rw [← hR2] at hor
          have hcb := cnt_le ls s
          have hnx : nx ls (m + 1) = 2 * F + cnt ls s := by rw [nx_succ, ← hFn, Hs.out]
          have htt : tot ls (m + 1) = T + cnt ls s := by rw [tot_succ, ← hTt, Hs.out]
          have hFR : F ≤ X := by rw [hFn, hRd]; exact Hge.out m (Nat.le_refl _)
          have hR2b : R2 ≤ 100000 := by omega
          have hRb : X ≤ 32768 := by omega
          have hTb : T ≤ 1000 := by omega
          have hFb : F ≤ 10485760 := by omega
          have hF2R : 2 * F ≤ R2 := by omega
          have Hbit2 := hide (Hbit.out wr (p + m) hR hfit)
          rw [← hb] at Hbit2
          obtain ⟨c, hc⟩ : ∃ c, c = cnt ls s := ⟨_, rfl⟩
          rw [← hc] at hnx htt hcb
          rw [← hRd, ← hFn, ← hTt]
          have E2 := hide e2
          have HRd := hide hRd
          have HFn := hide hFn
          have HTt := hide hTt
          have Hnx := hide hnx
          have Htt := hide htt
          have Hc := hide hc
          clear hR hF hb hRd hFn hTt hR2 e2 hnx htt hc hnb hrb htb
          go_wp2_with fail
          refine Hbit2.out.mono ?_
          rintro e w1 ⟨rfl, hR1, hF1⟩
          have HR1 := hide hR1
          have HF1 := hide (HF.out.join hF1)
          obtain ⟨d1, d2⟩ := Hcs.out w1 HF1.out
          have hcn := d1.cell (i := s) (by have := Hs.out; omega) (by omega)
          rw [← Hc.out] at hcn
          have hd16 := d1.cell16
          by_cases hlt : R2 < 2 * F + c
          · have hit : Hit ls V (8 * bs.length) p (m + 1) := ⟨by omega, by omega, by omega, by rw [E2.out, Hnx.out]; exact hlt, fun k hk => Hge.out k (by omega)⟩
            obtain ⟨i1, i2, i3⟩ := hit.idx
            obtain ⟨y, hy⟩ : ∃ y, (rkd ls 15)[hitAt ls V p (m + 1)]? = some y := ⟨_, List.getElem?_eq_getElem (by rw [rkd_length]; exact i3)⟩
            obtain ⟨ad, rfl, had⟩ := own_cellI d2 hy
            obtain ⟨I, hI⟩ : ∃ I, I = hitAt ls V p (m + 1) := ⟨_, rfl⟩
            have hI2 : (I : Int) = (T : Int) + R2 - 2 * F := by
              have e1 := HFn.out
              have e2 := HTt.out
              have e3 := E2.out
              have e4 : hitAt ls V p (m + 1) = T + (R2 - 2 * F) := by
                unfold hitAt
                rw [e3, show m + 1 - 1 = m by omega, ← e1, ← e2]
              omega
            have hi3 : I < tot ls 15 := by rw [hI]; exact i3
            rw [← hI] at had
            have Hyes := hide (Hhit.out (m + 1) y w1 hit hy HR1.out HF1.out)
            have hwi : IntKind.i64.wrap ((T : Int) + (R2 : Int) - (F : Int) * 2) = (I : Int) := by rw [wrap_i64_id _ (by omega) (by omega)]; omega
            have hii : (T : Int) + (R2 : Int) - (F : Int) * 2 = (I : Int) := by omega
            have hi0 : (I : Int) < (tot ls 15 : Nat) := by omega
            have hltI : (R2 : Int) - (F : Int) * 2 < (c : Int) := by omega
            clear d1 d2 hR1 hF1 hy hI hit i1 i2 i3 hI2
            go_wp2
            exact Hyes.out
          · have hltI : ¬ (R2 : Int) - (F : Int) * 2 < (c : Int) := by omega
            have Hge2 : Hid (∀ k, k ≤ m + 1 → nx ls k ≤ rd V p k) := by
              intro k hk
              rcases Nat.lt_or_ge k (m + 1) with h | h
              · exact Hge.out k (by omega)
              · have : k = m + 1 := by omega
                subst this
                rw [E2.out, Hnx.out]; omega
            by_cases hone : tot ls 15 = 1
            · have hq1 : (((tot ls 15 : Nat) : Int) == 1) = true := by simp [hone]
              have Hn := hide (fun w' => Hno.out 4 (m + 1) w' ⟨Hge2.out, by omega, HR1.out.epos, Or.inl ⟨rfl, by
                have h1 := tot_mono ls (show 1 ≤ m + 1 by omega)
                have h2 := one_word Hok.out hone
                have h3 : tot ls 1 = cnt ls 1 := by rw [show (1 : Nat) = 0 + 1 from rfl, tot_succ, tot_zero]; simp
                omega⟩⟩)
              clear d1 d2 hR1 hF1 hone
              go_wp2
              exact Hn.out _ HF1.out
            · have hq1 : (((tot ls 15 : Nat) : Int) == 1) = false := beq_false_of_ne (by omega)
              have Hone2 : Hid (tot ls 15 = 1 → m + 1 = 0) := fun h => absurd h hone
              clear d1 d2 hR1 hF1 hone
              go_wp2
              go_quiet (fail)
              go_wp2
              go_roundw
              case rel => exact ⟨m + 1, s + 1, by omega, by have := Hs.out; show s + 1 = m + 1 + 1; omega, by go_num, by rw [E2.out], by rw [Hnx.out]; go_num, by rw [Htt.out]; go_num, Hge2, Hone2, HR1.out.drewN _, HF1.out.join ((Fr.of_drewN w1 _).mono fun _ _ h => h.elim)⟩
              case measure => simp [intOf]; omega
        · have Hn := hide (fun w' => Hno.out 2 m w' ⟨Hge.out, hm, HR.out.epos, Or.inr ⟨rfl, more_left Hok.out h0 hm (Hge.out m (Nat.le_refl _)) (Hone.out), by omega⟩⟩)
          clear hR hF
          go_wp2_with fail
          refine (ref_take_no wr R sv bs (p + m) 1 false HR.out (Or.inr (by omega))).mono ?_
          rintro e w1 ⟨rfl, hR1, hF1⟩
          go_wp2
          exact Hn.out _ (HF.out.join hF1)
      · have e : m = 15 := by omega
        subst e
        have hs15 : ¬ (s : Int) ≤ 15 := by have := Hs.out; omega
        have Hn := hide (fun w' => Hno.out 4 15 w' ⟨Hge.out, hm, HR.out.epos, Or.inl ⟨rfl, Nat.le_refl _⟩⟩)
        clear hR hF
        go_wp2
        exact Hn.out _ HF.out
end Go.Proofs.YtdpmpllbdoefdaaGreatDoor
namespace Go.Proofs.YtdpmpllbdoefdaaGreatDoor
open Go.RowKit
theorem agree_le {V V' p q : Nat} (h : V % 2 ^ q = V' % 2 ^ q) (hp : p ≤ q) : V % 2 ^ p = V' % 2 ^ p := by
  have hd : (2:Nat) ^ p ∣ 2 ^ q := Nat.pow_dvd_pow 2 hp
  rw [← Nat.mod_mod_of_dvd V hd, ← Nat.mod_mod_of_dvd V' hd, h]
theorem lowBits_agree {V V' p n q : Nat} (h : V % 2 ^ q = V' % 2 ^ q) (hp : p + n ≤ q) : lowBits V p n = lowBits V' p n := by
  have := agree_le h hp
  unfold lowBits
  rw [← Nat.mod_mul_right_div_self, ← Nat.mod_mul_right_div_self, ← Nat.pow_add, this]
theorem rd_agree {V V' p q : Nat} (h : V % 2 ^ q = V' % 2 ^ q) : ∀ k, p + k ≤ q → rd V p k = rd V' p k := by
  intro k
  induction k with
  | zero => intro _; rfl
  | succ k ih =>
    intro hk
    show 2 * rd V p k + lowBits V (p + k) 1 = 2 * rd V' p k + lowBits V' (p + k) 1
    rw [ih (by omega), lowBits_agree h (by omega)]
structure Gd {α : Type} (x : Rdr α) : Prop where
  mono : ∀ {V L p : Nat} {a : α} {q : Nat}, x V L p = .ok (a, q) → p ≤ q
  fit : ∀ {V L p : Nat} {a : α} {q : Nat}, x V L p = .ok (a, q) → p ≤ L → L % 8 = 0 → q ≤ L
  same : ∀ {V L p : Nat} {a : α} {q V' L' : Nat}, x V L p = .ok (a, q) → q ≤ L' → V % 2 ^ q = V' % 2 ^ q → x V' L' p = .ok (a, q)
  cut : ∀ {V L p : Nat} {a : α} {q V' L' : Nat}, x V L p = .ok (a, q) → p ≤ L' → L' % 8 = 0 → L' < q → V % 2 ^ L' = V' % 2 ^ L' → x V' L' p = .error 2
theorem Gd.ret {α : Type} (a : α) : Gd (ret a) where
  mono h := by cases h; exact Nat.le_refl _
  fit h hp _ := by cases h; exact hp
  same h _ _ := by cases h; rfl
  cut h hp _ hq _ := by cases h; omega
theorem Gd.bad {α : Type} (er : Nat) : Gd (bad er : Rdr α) where
  mono h := by cases h
  fit h := by cases h
  same h := by cases h
  cut h := by cases h
theorem Gd.algn : Gd algn where
  mono h := by cases h; omega
  fit h hp _ := by cases h; omega
  same h _ _ := by cases h; rfl
  cut h hp _ hq _ := by cases h; omega
theorem Gd.tkn (n : Nat) : Gd (tkn n) where
  mono h := by have := tkn_inv h; omega
  fit h hp _ := by have := tkn_inv h; omega
  same h hq hv := by
    obtain ⟨h1, h2, h3⟩ := tkn_inv h
    rw [tkn_ok (by omega), h2, h3, lowBits_agree hv (by omega)]
  cut h hp _ hq hv := by
    obtain ⟨h1, h2, h3⟩ := tkn_inv h
    rw [tkn_err (by omega)]
theorem Gd.andThen {α β : Type} {x : Rdr α} {f : α → Rdr β} (hx : Gd x) (hf : ∀ a, Gd (f a)) : Gd (andThen x f) where
  mono h := by
    obtain ⟨a, m, h1, h2⟩ := then_inv h
    exact Nat.le_trans (hx.mono h1) ((hf a).mono h2)
  fit h hp hL := by
    obtain ⟨a, m, h1, h2⟩ := then_inv h
    exact (hf a).fit h2 (hx.fit h1 hp hL) hL
  same h hq hv := by
    obtain ⟨a, m, h1, h2⟩ := then_inv h
    have h3 := (hf a).mono h2
    rw [then_ok (hx.same h1 (by omega) (agree_le hv h3))]
    exact (hf a).same h2 hq hv
  cut {V L p b q V' L'} h hp hL hq hv := by
    obtain ⟨a, m, h1, h2⟩ := then_inv h
    rcases Nat.lt_or_ge L' m with hm | hm
    · rw [then_err (hx.cut h1 hp hL hm hv)]
    · rw [then_ok (hx.same h1 hm (agree_le hv hm))]
      exact (hf a).cut h2 hm hL hq hv
theorem tkFrom_good (ls : List Int) {V L p : Nat} : ∀ f m {a q : Nat}, tkFrom ls V L p f m = .ok (a, q) → p + m < q ∧ q ≤ L ∧
    (∀ {V' L' : Nat}, q ≤ L' → V % 2 ^ q = V' % 2 ^ q → tkFrom ls V' L' p f m = .ok (a, q)) ∧
    (∀ {V' L' : Nat}, L' < q → V % 2 ^ L' = V' % 2 ^ L' → tkFrom ls V' L' p f m = .error 2) := by
  intro f
  induction f with
  | zero => intro m a q h; cases h
  | succ f ih =>
    intro m a q h
    simp only [tkFrom] at h
    by_cases h1 : tot ls 15 ≤ tot ls m
    · rw [if_pos h1] at h; cases h
    rw [if_neg h1] at h
    by_cases h2 : L < p + m + 1
    · rw [if_pos h2] at h; cases h
    rw [if_neg h2] at h
    by_cases h3 : rd V p (m + 1) < nx ls (m + 1)
    · rw [if_pos h3] at h
      simp only [Except.ok.injEq, Prod.mk.injEq] at h
      obtain ⟨rfl, rfl⟩ := h
      refine ⟨by omega, by omega, fun {V' L'} hq hv => ?_, fun {V' L'} hq hv => ?_⟩
      · simp only [tkFrom]
        have hr := rd_agree hv (p := p) (m + 1) (Nat.le_refl _)
        rw [if_neg h1, if_neg (by omega), ← hr, if_pos h3]
        unfold hitAt
        rw [hr]
      · simp only [tkFrom]
        rw [if_neg h1, if_pos (by omega)]
    · rw [if_neg h3] at h
      obtain ⟨i1, i2, i3, i4⟩ := ih (m + 1) h
      refine ⟨by omega, i2, fun {V' L'} hq hv => ?_, fun {V' L'} hq hv => ?_⟩
      · simp only [tkFrom]
        have hr := rd_agree hv (p := p) (m + 1) (by omega)
        rw [if_neg h1, if_neg (by omega), ← hr, if_neg h3]
        exact i3 hq hv
      · simp only [tkFrom]
        rw [if_neg h1]
        by_cases h4 : L' < p + m + 1
        · rw [if_pos h4]
        · have hr := rd_agree hv (p := p) (m + 1) (by omega)
          rw [if_neg h4, ← hr, if_neg h3]
          exact i4 hq hv
theorem Gd.tk (ls : List Int) : Gd (tk ls) where
  mono h := by have := tkFrom_good ls _ _ h; omega
  fit h _ _ := (tkFrom_good ls _ _ h).2.1
  same h hq hv := (tkFrom_good ls _ _ h).2.2.1 hq hv
  cut h _ _ hq hv := (tkFrom_good ls _ _ h).2.2.2 hq hv
theorem Gd.ite {α : Type} {c : Prop} [Decidable c] {x y : Rdr α} (hx : Gd x) (hy : Gd y) : Gd (if c then x else y) := by
  split <;> assumption
theorem Gd.rung (i lot : Nat) : Gd (rung i lot) := .ite (.ret _) (.andThen (.tkn _) fun _ => .ret _)
theorem Gd.rlen (s : Nat) : Gd (rlen s) := .ite (.bad _) (.ite (.ret _) (.andThen (.rung _ _) fun _ => .ret _))
theorem Gd.rdist (dl : List Int) (o : Nat) : Gd (rdist dl o) := .andThen (.tk _) fun _ => .ite (.bad _) (.andThen (.rung _ _) fun _ => .ite (.bad _) (.ret _))
theorem Gd.word (ll dl : List Int) (o : Nat) : Gd (word ll dl o) :=
  .andThen (.tk _) fun _ => .ite (.ret _) (.ite (.ret _) (.andThen (.rlen _) fun _ => .andThen (.rdist _ _) fun _ => .ret _))
theorem Gd.rep (s : Nat) (acc : List Int) : Gd (rep s acc) :=
  .ite (.andThen (.tkn _) fun _ => .ite (.bad _) (.ret _)) (.ite (.andThen (.tkn _) fun _ => .ret _) (.ite (.andThen (.tkn _) fun _ => .ret _) (.ret _)))
theorem Gd.lens (cl : List Int) (n : Nat) : ∀ f acc, Gd (lens cl n f acc) := by
  intro f
  induction f with
  | zero => intro acc; exact .bad _
  | succ f ih => intro acc; exact .ite (.ret _) (.andThen (.tk _) fun _ => .andThen (.rep _ _) fun _ => .ite (.bad _) (ih _))
theorem Gd.told : ∀ k i cl, Gd (told k i cl) := by
  intro k
  induction k with
  | zero => intro i cl; exact .ret _
  | succ k ih => intro i cl; exact .andThen (.tkn _) fun _ => ih _ _
theorem Gd.own : Gd own := .andThen (.tkn _) fun _ => .andThen (.tkn _) fun _ => .andThen (.tkn _) fun _ =>
  .ite (.bad _) (.andThen (.told _ _ _) fun _ => .ite (.andThen (.lens _ _ _ _) fun _ => .ite (.ret _) (.bad _)) (.bad _))
theorem Gd.storedHead : Gd storedHead := .andThen .algn fun _ => .andThen (.tkn _) fun _ => .andThen (.tkn _) fun _ => .ite (.ret _) (.bad _)
theorem Gd.kindOf (k : Nat) : Gd (kindOf k) := .ite (.andThen .storedHead fun _ => .ret _) (.ite (.ret _) (.ite (.andThen .own fun _ => .ret _) (.bad _)))
theorem Gd.head : Gd head := .andThen (.tkn _) fun _ => .andThen (.tkn _) fun _ => .andThen (.kindOf _) fun _ => .ret _
theorem adv_read (s : St) : (∃ a, (∀ V L, adv V L s = a) ∧ ∀ s', (a = .go s' ∨ a = .put s') → s'.p = s.p) ∨
    ∃ (α : Type) (x : Rdr α) (k : α → Nat → Ax), Gd x ∧ (∀ a q s', (k a q = .go s' ∨ k a q = .put s') → s'.p = q) ∧ (∀ a q, k a q ≠ .done) ∧ ∀ V L, adv V L s = match x V L s.p with
      | .error er => .fail er
      | .ok (a, q) => k a q := by
  obtain ⟨p, last, out, pl⟩ := s
  cases pl with
  | ahead =>
    by_cases hl : last = true
    · exact Or.inl ⟨.done, fun V L => by simp [adv, hl], fun s' h => by rcases h with h | h <;> cases h⟩
    · refine Or.inr ⟨_, head, fun h q => .go ⟨q, h.1, out, h.2⟩, .head, fun a q s' h => ?_, fun a q h => (by cases h), fun V L => by simp only [adv, hl]; cases head V L p <;> rfl⟩
      rcases h with h | h <;> cases h; rfl
  | stored n =>
    by_cases hn : n = 0
    · exact Or.inl ⟨.go ⟨p, last, out, .ahead⟩, fun V L => by simp [adv, hn], fun s' h => by rcases h with h | h <;> cases h; rfl⟩
    · refine Or.inr ⟨_, tkn 8, fun b q => .put ⟨q, last, out ++ [b], .stored (n - 1)⟩, .tkn _, fun a q s' h => ?_, fun a q h => (by cases h), fun V L => by simp only [adv, hn]; cases tkn 8 V L p <;> rfl⟩
      rcases h with h | h <;> cases h; rfl
  | coded ll dl =>
    refine Or.inr ⟨_, word ll dl out.length, fun y q => match y with
      | .lit b => .put ⟨q, last, out ++ [b], .coded ll dl⟩
      | .fin => .go ⟨q, last, out, .ahead⟩
      | .row n d => .go ⟨q, last, out, .row n d ll dl⟩, .word _ _ _, fun a q s' h => ?_, fun a q h => ?_, fun V L => ?_⟩
    · cases a <;> rcases h with h | h <;> cases h <;> rfl
    · cases a <;> cases h
    · simp only [adv]
      split <;> rename_i h <;> simp only [h]
  | row n d ll dl =>
    exact Or.inl ⟨_, fun V L => rfl, fun s' h => by rcases h with h | h <;> cases h; rfl⟩
theorem adv_mono {V L : Nat} {s s' : St} (h : adv V L s = .go s' ∨ adv V L s = .put s') : s.p ≤ s'.p := by
  rcases adv_read s with ⟨a, ha, hb⟩ | ⟨α, x, k, gx, hk, hd, he⟩
  · rw [hb s' (by rw [ha] at h; exact h)]; exact Nat.le_refl _
  · rw [he] at h
    cases hx : x V L s.p with
    | error er => simp only [hx] at h; rcases h with h | h <;> cases h
    | ok aq =>
      simp only [hx] at h
      rw [hk _ _ _ h]; exact gx.mono hx
theorem Runs.pos_le {V L most : Nat} {s : St} {x : List Nat} {p : Nat} (h : Runs V L most s (.ok (x, p))) : s.p ≤ p := by
  generalize hr : (Except.ok (x, p) : Except Nat (List Nat × Nat)) = r at h
  induction h with
  | fail _ => cases hr
  | done h => cases hr; exact Nat.le_refl _
  | go h1 _ ih => exact Nat.le_trans (adv_mono (Or.inl h1)) (ih hr)
  | put h1 _ h2 ih => exact Nat.le_trans (adv_mono (Or.inr h1)) (ih hr)
  | full _ _ => cases hr
theorem Runs.end_le {V L most : Nat} {s : St} {x : List Nat} {p : Nat} (h : Runs V L most s (.ok (x, p))) (hL : L % 8 = 0) (hs : s.p ≤ L) : p ≤ L := by
  generalize hr : (Except.ok (x, p) : Except Nat (List Nat × Nat)) = r at h
  have key : ∀ s s' : St, (adv V L s = .go s' ∨ adv V L s = .put s') → s.p ≤ L → s'.p ≤ L := by
    intro s s' ha hs
    rcases adv_read s with ⟨a', ha', hb⟩ | ⟨α, x, k, gx, hk, hd, he⟩
    · rw [hb s' (by rw [ha'] at ha; exact ha)]; exact hs
    · rw [he] at ha
      cases hx : x V L s.p with
      | error er => simp only [hx] at ha; rcases ha with h | h <;> cases h
      | ok aq =>
        simp only [hx] at ha
        rw [hk _ _ _ ha]; exact gx.fit (a := aq.1) (q := aq.2) hx hs hL
  induction h with
  | fail _ => cases hr
  | done h => cases hr; exact hs
  | go h1 h2 ih => exact ih (key _ _ (Or.inl h1) hs) hr
  | put h1 h3 h2 ih => exact ih (key _ _ (Or.inr h1) hs) hr
  | full _ _ => cases hr
theorem Runs.pos_three {V L most : Nat} {x : List Nat} {p : Nat} (h : Runs V L most init (.ok (x, p))) : 3 ≤ p := by
  have hd : adv V L init = match head V L 0 with
    | .error er => .fail er
    | .ok (h, q) => .go ⟨q, h.1, [], h.2⟩ := rfl
  have h3 : ∀ a q, head V L 0 = .ok (a, q) → 3 ≤ q := by
    intro a q h
    obtain ⟨l, m1, h1, h2⟩ := then_inv h
    obtain ⟨k, m2, h3, h4⟩ := then_inv h2
    have e1 := tkn_inv h1
    have e2 := tkn_inv h3
    have := (Gd.andThen (.kindOf k) fun pl => .ret (decide (l = 1), pl)).mono h4
    omega
  cases h with
  | done h => rw [hd] at h; split at h <;> cases h
  | go h1 h2 =>
    rw [hd] at h1
    split at h1
    · cases h1
    · next a q hh =>
      cases h1
      have := h3 _ _ hh
      have := h2.pos_le
      simp only at this
      omega
  | put h1 _ _ => rw [hd] at h1; split at h1 <;> cases h1
end Go.Proofs.YtdpmpllbdoefdaaGreatDoor
namespace Go.Proofs.YtdpmpllbdoefdaaGreatDoor
open Go.RowKit
theorem Fr.none {S : Nat → Prop} {w : World} (k : Nat) : Fr S w (w.drewN k) := (Fr.of_drewN w k).mono fun _ _ h => h.elim
theorem moved_of {B q : Nat} {w : World} {x : Int} (h : x = (q : Nat)) : Moved B q w (w.setCell ⟨B, 1, none⟩ (.int .i64 x)) := by
  subst h
  exact ⟨0, rfl⟩
theorem cell_blk {w w' : World} {a : Addr} (h : w'.heap[a.block]? = w.heap[a.block]?) : w'.cell? a = w.cell? a := by
  unfold World.cell?
  rw [h]
theorem cell_lt {w : World} {a : Addr} {v : Value} (h : w.cell? a = some v) : a.block < w.heap.size := World.block_lt_of_cell? w _ h
theorem calls_args {P : Program} {f : FuncId} {args args' : Array Value} {w : World} {Q : Ending → World → Prop} (h : Calls P f args w Q) (e : args' = args) : Calls P f args' w Q := by rw [e]; exact h
theorem tkn_lt {n V L p x q : Nat} (h : tkn n V L p = .ok (x, q)) : x < 2 ^ n := by
  rw [(tkn_inv h).2.1]
  exact lowBits_lt _ _ _
theorem heap_set {w : World} {b o : Nat} {cs : Array Value} {T : TypeId} {fz : Nat × Nat} (v : Value) (h : w.heap[b]? = some (.cells cs T fz)) : (w.setCell ⟨b, o, none⟩ v).heap[b]? = some (.cells (cs.setIfInBounds o v) T fz) :=
  heap_setCell_own v h
abbrev Fl (lo : Nat) (w w' : World) : Prop := Fr (fun k => lo ≤ k) w w'
theorem fr_set (w : World) (M o : Nat) (v : Value) : Fr (fun k => k = M) w (w.setCell ⟨M, o, none⟩ v) := Fr.of_setCell w ⟨M, o, none⟩ v
theorem wrap_u8 (x : Int) (h0 : 0 ≤ x) (h1 : x < 256) : IntKind.u8.wrap x = x := by
  show x % 256 = x
  omega
theorem out_snoc {out : List Nat} {b : Nat} (h : ∀ x ∈ out, x < 256) (hb : b < 256) : ∀ x ∈ out ++ [b], x < 256 := by
  intro x hx
  simp only [List.mem_append, List.mem_singleton] at hx
  rcases hx with hx | hx
  · exact h x hx
  · omega
theorem own_lies {w : World} {lo n : Nat} {a : Option Addr} {c : Nat} {zs : List Int} (h : w.ownsRow lo 3 1 (.slice a n c) n (cellsZ zs)) : LiesI w a zs := by
  intro j hj
  rcases h.2 with ⟨hv, e0⟩ | ⟨g, cap, cur, hv, hg, hh, hr⟩
  · have hl := h.1
    simp [cellsZ] at hl
    omega
  · cases hv
    refine ⟨⟨g, 0, none⟩, rfl, h.cells (g := g) rfl j _ ?_⟩
    simp [cellsZ, at0, List.getElem?_eq_getElem hj]
theorem syms_lt (ls : List Int) (n m : Nat) : ∀ x ∈ syms ls n m, x < m := by
  intro x hx
  obtain ⟨k, hk⟩ := List.mem_iff_getElem?.1 hx
  exact ((syms_idx ls n m k x).1 hk).1
theorem rkd_lt (ls : List Int) : ∀ n, ∀ x ∈ rkd ls n, x < ls.length := by
  intro n
  induction n with
  | zero => intro x hx; simp [rkd] at hx
  | succ n ih =>
    intro x hx
    have e : rkd ls (n + 1) = rkd ls n ++ syms ls (n + 1) ls.length := rfl
    rw [e, List.mem_append] at hx
    rcases hx with hx | hx
    · exact ih x hx
    · exact syms_lt ls _ _ x hx
theorem tk_lt {ls : List Int} {V L p y q : Nat} (h : tk ls V L p = .ok (y, q)) (hl : 0 < ls.length) : y < ls.length := by
  have key : ∀ f m, tkFrom ls V L p f m = .ok (y, q) → y < ls.length := by
    intro f
    induction f with
    | zero => intro m h; cases h
    | succ f ih =>
      intro m h
      simp only [tkFrom] at h
      split at h
      · cases h
      split at h
      · cases h
      split at h
      · simp only [Except.ok.injEq, Prod.mk.injEq] at h
        rw [← h.1, List.getD_eq_getElem?_getD]
        cases hk : (rkd ls 15)[hitAt ls V p (m + 1)]? with
        | none => exact hl
        | some x => exact rkd_lt ls 15 x (List.mem_of_getElem? hk)
      · exact ih _ h
  exact key 15 0 h
def fine (zs : List Int) : Prop := ∀ i, i < zs.length → 0 ≤ at0 zs i ∧ at0 zs i ≤ 15
theorem at0_append_left {a b : List Int} {i : Nat} (h : i < a.length) : at0 (a ++ b) i = at0 a i := by
  unfold at0
  simp [List.getD_eq_getElem?_getD, List.getElem?_append_left h]
theorem fine_rep {acc : List Int} {v : Int} (t : Nat) (hf : fine acc) (hv : 0 ≤ v ∧ v ≤ 15) : fine (acc ++ List.replicate t v) := by
  intro i hi
  rcases Nat.lt_or_ge i acc.length with h | h
  · rw [at0_append_left h]; exact hf i h
  · have e : at0 (acc ++ List.replicate t v) i = v := by
      unfold at0
      rw [List.getD_eq_getElem?_getD, List.getElem?_append_right h, List.getElem?_replicate]
      rw [if_pos (by simp at hi; omega)]
      rfl
    rw [e]; exact hv
def lenOf : Value → Nat
  | .slice _ n _ => n
  | _ => 0
theorem cellsZ_snoc (zs : List Int) (v : Int) : cellsZ zs ++ [.int .i64 v] = cellsZ (zs ++ [v]) := by simp [cellsZ]
theorem rep_snoc (acc : List Int) (v : Int) (i : Nat) : (acc ++ List.replicate i v) ++ [v] = acc ++ List.replicate (i + 1) v := by
  rw [List.append_assoc, List.replicate_succ']
theorem order_lt (i : Nat) : order.getD i 0 < 19 := by
  rcases Nat.lt_or_ge i 19 with h | h
  · have : ∀ i : Fin 19, order.getD i.1 0 < 19 := by decide
    exact this ⟨i, h⟩
  · rw [List.getD_eq_getElem?_getD, List.getElem?_eq_none (by exact h)]
    decide
theorem fine_zero : fine zero19 := fun i hi => by
  have e : at0 zero19 i = 0 := by
    unfold at0 zero19
    rw [List.getD_eq_getElem?_getD, List.getElem?_replicate]
    split <;> rfl
  omega
theorem fine_set {cl : List Int} {j x : Nat} (h : fine cl) (hx : x ≤ 15) : fine (cl.set j (x : Int)) := fun i hi => by
  have hi' : i < cl.length := by simpa using hi
  have h1 := h i hi'
  unfold at0 at h1 ⊢
  rw [List.getD_eq_getElem?_getD, List.getElem?_set]
  split
  · split
    · simp; omega
    · simp
  · rw [← List.getD_eq_getElem?_getD]; exact h1
theorem LiesI.fr {w w' : World} {a : Option Addr} {zs : List Int} (h : LiesI w a zs) (hF : Fr (fun _ => False) w w') : LiesI w' a zs := fun j hj => by
  obtain ⟨ad, e, hc⟩ := h j hj
  exact ⟨ad, e, by rw [cell_blk (hF.block _ (cell_lt hc) (fun h => h))]; exact hc⟩
theorem len_take {l : List Int} {n : Nat} (h : n ≤ l.length) : (l.take n).length = n := by simp; omega
theorem at0_take {l : List Int} {n j : Nat} (h : j < n) : at0 (l.take n) j = at0 l j := by
  unfold at0
  rw [List.getD_eq_getElem?_getD, List.getD_eq_getElem?_getD, List.getElem?_take, if_pos h]
theorem at0_drop (l : List Int) (n j : Nat) : at0 (l.drop n) j = at0 l (n + j) := by
  unfold at0
  rw [List.getD_eq_getElem?_getD, List.getD_eq_getElem?_getD, List.getElem?_drop]
theorem lies_take {w : World} {a : Option Addr} {l : List Int} (n : Nat) (h : LiesI w a l) : LiesI w a (l.take n) := fun j hj => by
  have hj' : j < n ∧ j < l.length := by simp at hj; omega
  rw [at0_take hj'.1]
  exact h j hj'.2
theorem lies_drop {w : World} {g : Nat} {l : List Int} (n : Nat) (h : LiesI w (some ⟨g, 0, none⟩) l) : LiesI w (some ⟨g, n, none⟩) (l.drop n) := fun j hj => by
  obtain ⟨ad, e, hc⟩ := h (n + j) (by simp at hj; omega)
  cases e
  refine ⟨_, rfl, ?_⟩
  rw [at0_drop, ← hc, add_none, add_none, Nat.zero_add]
theorem good_take {l : List Int} {n : Nat} (h : fine l) (hn : n ≤ 320) : good (l.take n) := ⟨by simp; omega, fun i hi => by
  have hj' : i < n ∧ i < l.length := by simp at hi; omega
  rw [at0_take hj'.1]
  exact h i hj'.2⟩
theorem good_drop {l : List Int} {n : Nat} (h : fine l) (hn : l.length ≤ n + 320) : good (l.drop n) := ⟨by simp; omega, fun i hi => by
  rw [at0_drop]
  exact h (n + i) (by simp at hi; omega)⟩
theorem Fl0 {S : Nat → Prop} {w w' : World} (h : Fr (fun _ => False) w w') : Fr S w w' := h.mono fun _ _ h => h.elim
theorem fixL_at (i : Nat) : at0 fixL i = if i < 144 then 8 else if i < 256 then 9 else if i < 280 then 7 else if i < 288 then 8 else 0 := by
  unfold at0 fixL
  rw [List.getD_eq_getElem?_getD]
  by_cases h1 : i < 144
  · rw [if_pos h1, List.getElem?_append_left (by simpa using h1), List.getElem?_replicate, if_pos h1]; rfl
  rw [if_neg h1, List.getElem?_append_right (by simp; omega), List.length_replicate]
  by_cases h2 : i < 256
  · rw [if_pos h2, List.getElem?_append_left (by simp; omega), List.getElem?_replicate, if_pos (by omega)]; rfl
  rw [if_neg h2, List.getElem?_append_right (by simp; omega), List.length_replicate]
  by_cases h3 : i < 280
  · rw [if_pos h3, List.getElem?_append_left (by simp; omega), List.getElem?_replicate, if_pos (by omega)]; rfl
  rw [if_neg h3, List.getElem?_append_right (by simp; omega), List.length_replicate]
  by_cases h4 : i < 288
  · rw [if_pos h4, List.getElem?_replicate, if_pos (by omega)]; rfl
  · rw [if_neg h4, List.getElem?_eq_none (by simp; omega)]; rfl
theorem fixD_at (i : Nat) : at0 fixD i = if i < 32 then 5 else 0 := by
  unfold at0 fixD
  rw [List.getD_eq_getElem?_getD, List.getElem?_replicate]
  split <;> rfl
theorem fixL_len : fixL.length = 288 := by
  unfold fixL
  rw [List.length_append, List.length_append, List.length_append, List.length_replicate, List.length_replicate, List.length_replicate, List.length_replicate]
theorem fixD_len : fixD.length = 32 := by
  unfold fixD
  rw [List.length_replicate]
theorem fixL_rank (n k : Nat) (hk : k ≤ 288) : rank fixL n k = (if n = 8 then min k 144 + (k - 280) else if n = 9 then min k 256 - min k 144 else if n = 7 then min k 280 - min k 256 else 0) + (if n = 0 then 0 else 0) := by
  induction k with
  | zero => simp [rank]
  | succ k ih =>
    have e : rank fixL n (k + 1) = rank fixL n k + if at0 fixL k = (n : Int) then 1 else 0 := rfl
    rw [e, ih (by omega), fixL_at]
    simp only [Nat.min_def]
    repeat' split
    all_goals omega
theorem fixL_cnt (n : Nat) : cnt fixL n = if n = 8 then 152 else if n = 9 then 112 else if n = 7 then 24 else 0 := by
  unfold cnt
  rw [fixL_len, fixL_rank n 288 (by omega)]
  simp only [Nat.min_def]
  repeat' split
  all_goals omega
theorem fixD_rank (n k : Nat) (hk : k ≤ 32) : rank fixD n k = if n = 5 then k else 0 := by
  induction k with
  | zero => simp [rank]
  | succ k ih =>
    have e : rank fixD n (k + 1) = rank fixD n k + if at0 fixD k = (n : Int) then 1 else 0 := rfl
    rw [e, ih (by omega), fixD_at]
    repeat' split
    all_goals omega
theorem fixD_cnt (n : Nat) : cnt fixD n = if n = 5 then 32 else 0 := by
  unfold cnt
  rw [fixD_len, fixD_rank n 32 (by omega)]
theorem fixL_fr (n c : Nat) (h : cnt fixL (n + 1) = c) : frk fixL (n + 1) = 2 * frk fixL n - (c : Int) := by rw [frk_succ, h]
theorem fixL_ok : codeOk fixL := by
  refine Or.inl ?_
  have e0 : frk fixL 0 = 1 := rfl
  have e1 := fixL_fr 0 0 (by rw [fixL_cnt]; rfl)
  have e2 := fixL_fr 1 0 (by rw [fixL_cnt]; rfl)
  have e3 := fixL_fr 2 0 (by rw [fixL_cnt]; rfl)
  have e4 := fixL_fr 3 0 (by rw [fixL_cnt]; rfl)
  have e5 := fixL_fr 4 0 (by rw [fixL_cnt]; rfl)
  have e6 := fixL_fr 5 0 (by rw [fixL_cnt]; rfl)
  have e7 := fixL_fr 6 24 (by rw [fixL_cnt]; rfl)
  have e8 := fixL_fr 7 152 (by rw [fixL_cnt]; rfl)
  have e9 := fixL_fr 8 112 (by rw [fixL_cnt]; rfl)
  have e10 := fixL_fr 9 0 (by rw [fixL_cnt]; rfl)
  have e11 := fixL_fr 10 0 (by rw [fixL_cnt]; rfl)
  have e12 := fixL_fr 11 0 (by rw [fixL_cnt]; rfl)
  have e13 := fixL_fr 12 0 (by rw [fixL_cnt]; rfl)
  have e14 := fixL_fr 13 0 (by rw [fixL_cnt]; rfl)
  have e15 := fixL_fr 14 0 (by rw [fixL_cnt]; rfl)
  simp only [Nat.reduceAdd] at *
  omega
theorem fixD_fr (n c : Nat) (h : cnt fixD (n + 1) = c) : frk fixD (n + 1) = 2 * frk fixD n - (c : Int) := by rw [frk_succ, h]
theorem fixD_ok : codeOk fixD := by
  refine Or.inl ?_
  have e0 : frk fixD 0 = 1 := rfl
  have e1 := fixD_fr 0 0 (by rw [fixD_cnt]; rfl)
  have e2 := fixD_fr 1 0 (by rw [fixD_cnt]; rfl)
  have e3 := fixD_fr 2 0 (by rw [fixD_cnt]; rfl)
  have e4 := fixD_fr 3 0 (by rw [fixD_cnt]; rfl)
  have e5 := fixD_fr 4 32 (by rw [fixD_cnt]; rfl)
  have e6 := fixD_fr 5 0 (by rw [fixD_cnt]; rfl)
  have e7 := fixD_fr 6 0 (by rw [fixD_cnt]; rfl)
  have e8 := fixD_fr 7 0 (by rw [fixD_cnt]; rfl)
  have e9 := fixD_fr 8 0 (by rw [fixD_cnt]; rfl)
  have e10 := fixD_fr 9 0 (by rw [fixD_cnt]; rfl)
  have e11 := fixD_fr 10 0 (by rw [fixD_cnt]; rfl)
  have e12 := fixD_fr 11 0 (by rw [fixD_cnt]; rfl)
  have e13 := fixD_fr 12 0 (by rw [fixD_cnt]; rfl)
  have e14 := fixD_fr 13 0 (by rw [fixD_cnt]; rfl)
  have e15 := fixD_fr 14 0 (by rw [fixD_cnt]; rfl)
  simp only [Nat.reduceAdd] at *
  omega
theorem fixL_good : good fixL := ⟨by rw [fixL_len]; omega, fun i _ => by rw [fixL_at]; repeat' split
                                                                         all_goals omega⟩
theorem fixD_good : good fixD := ⟨by rw [fixD_len]; omega, fun i _ => by rw [fixD_at]; split <;> omega⟩
def RowAt (w : World) (D : Nat) (zs : List Int) : Prop := w.heap[D]? = some (.cells (cellsZ zs).toArray 3 (0, 0))
theorem RowAt.lies {w : World} {D : Nat} {zs : List Int} (h : RowAt w D zs) : LiesI w (some ⟨D, 0, none⟩) zs := fun j hj => ⟨_, rfl, by
  rw [add_none, Nat.zero_add]
  exact cell_of h (by simp [cellsZ, at0, List.getElem?_eq_getElem hj])⟩
def cellI (w : World) (b o : Nat) : Nat := match w.cell? ⟨b, o, none⟩ with
  | some (.int _ x) => x.toNat
  | _ => 0
def outOf : Except Nat (List Nat × Nat) → List Nat
  | .ok (out, _) => out
  | .error _ => []
def usedOf : Except Nat (List Nat × Nat) → Nat
  | .ok (_, p) => (p + 7) / 8
  | .error _ => 0
def errOf : Except Nat (List Nat × Nat) → Nat
  | .ok _ => 0
  | .error er => er
theorem lies_own {w : World} {lo : Nat} {v : Value} {bs : List Nat} (h : w.ownsRow lo 5 1 v bs.length (cellsOf bs)) : Lies w v bs := by
  rcases h.2 with ⟨rfl, hn⟩ | ⟨g, cap, cur, hv, hg⟩
  · exact Or.inl ⟨rfl, List.eq_nil_of_length_eq_zero hn⟩
  · exact Or.inr ⟨_, _, hv, fun j u hu => h.cells (g := g) (by rw [hv]; rfl) j u hu⟩
def AllOk (bs : List Nat) (most : Int) (r : Except Nat (List Nat × Nat)) : Prop :=
  (most < 0 ∧ r = .error 1) ∨ (0 ≤ most ∧ Runs (leNum bs) (8 * bs.length) most.toNat init r)
theorem Runs.out_most {V L most : Nat} {s : St} {r : Except Nat (List Nat × Nat)} (h : Runs V L most s r) (hs : s.out.length ≤ most) : (outOf r).length ≤ most := by
  induction h with
  | fail _ => exact Nat.zero_le _
  | done _ => exact hs
  | go h1 _ ih => exact ih (by rw [adv_go_out h1]; exact hs)
  | put h1 h2 _ ih => exact ih (by rw [adv_put_out h1]; omega)
  | full _ _ => exact Nat.zero_le _
def strOf (bs : List Nat) : ByteArray := ⟨(bs.map UInt8.ofNat).toArray⟩
theorem str_lies {w : World} {sv : Value} {bs : List Nat} (h : Lies w sv bs) (hlt : ∀ b ∈ bs, b < 256) : (convert 22 9 sv).run Tryz.prog w = .ok (.string (strOf bs)) w := by
  rcases h with ⟨rfl, rfl⟩ | ⟨ad, c, rfl, hc⟩
  · rw [run_convert_bytes_string w 22 9 5 none 0 0 Tryz.underlying22 Tryz.underlying5 Tryz.underlying9]
    rfl
  · have := run_convert_bytes_back (P := Tryz.prog) w 22 9 5 ad c (bs.map UInt8.ofNat) Tryz.underlying22 Tryz.underlying5 Tryz.underlying9 (fun j hj => by
      have hj' : j < bs.length := by simpa using hj
      have hb := hlt bs[j] (List.getElem_mem hj')
      rw [hc j (.int .u8 ((bs[j] : Nat) : Int)) (by simp [cellsOf, List.getElem?_eq_getElem hj'])]
      simp
      omega)
    rw [List.length_map] at this
    exact this
theorem adv_bytes {V L : Nat} {s s' : St} (h : adv V L s = .put s') (hs : ∀ x ∈ s.out, x < 256) : ∀ x ∈ s'.out, x < 256 := by
  obtain ⟨p, last, out, pl⟩ := s
  simp only at hs
  cases pl with
  | ahead =>
    simp only [adv] at h
    split at h
    · cases h
    · split at h <;> cases h
  | stored n =>
    simp only [adv] at h
    split at h
    · cases h
    · split at h
      · cases h
      · next b q hh =>
        cases h
        exact out_snoc hs (tkn_lt hh)
  | coded ll dl =>
    simp only [adv] at h
    cases hh : word ll dl out.length V L p with
    | error er => simp only [hh] at h; cases h
    | ok aq =>
      obtain ⟨y, q⟩ := aq
      simp only [hh] at h
      cases y with
      | lit b =>
        cases h
        refine out_snoc hs ?_
        obtain ⟨c, m, h1, h2⟩ := then_inv hh
        by_cases hc : c < 256
        · rw [if_pos hc] at h2; cases h2; exact hc
        · rw [if_neg hc] at h2
          by_cases hc2 : c = 256
          · rw [if_pos hc2] at h2; cases h2
          · rw [if_neg hc2] at h2
            obtain ⟨_, _, _, h4⟩ := then_inv h2
            obtain ⟨_, _, _, h6⟩ := then_inv h4
            cases h6
      | fin => cases h
      | row n d => cases h
  | row n d ll dl =>
    simp only [adv] at h
    cases h
    refine out_snoc hs ?_
    rw [List.getD_eq_getElem?_getD]
    cases hk : out[out.length - d]? with
    | none => simp
    | some x => exact hs x (List.mem_of_getElem? hk)
theorem Runs.bytes {V L most : Nat} {s : St} {r : Except Nat (List Nat × Nat)} (h : Runs V L most s r) (hs : ∀ x ∈ s.out, x < 256) : ∀ x ∈ outOf r, x < 256 := by
  induction h with
  | fail _ => intro x hx; cases hx
  | done _ => exact hs
  | go h1 _ ih => exact ih (by rw [adv_go_out h1]; exact hs)
  | put h1 _ _ ih => exact ih (adv_bytes h1 hs)
  | full _ _ => intro x hx; cases hx
theorem AllOk.bytes {bs : List Nat} {most : Int} {r : Except Nat (List Nat × Nat)} (h : AllOk bs most r) : ∀ x ∈ outOf r, x < 256 := by
  rcases h with ⟨_, rfl⟩ | ⟨_, h2⟩
  · intro x hx; cases hx
  · exact h2.bytes (fun x hx => by cases hx)
theorem AllOk.det {bs : List Nat} {most : Int} {r r' : Except Nat (List Nat × Nat)} (h : AllOk bs most r) (h' : AllOk bs most r') : r = r' := by
  rcases h with ⟨h1, rfl⟩ | ⟨h1, h2⟩
  · rcases h' with ⟨_, rfl⟩ | ⟨h3, _⟩
    · rfl
    · omega
  · rcases h' with ⟨h3, _⟩ | ⟨_, h4⟩
    · omega
    · exact h2.det h4
theorem lies_fr {w w' : World} {sv : Value} {bs : List Nat} (h : Lies w sv bs) (hF : Fr (fun _ => False) w w') : Lies w' sv bs := by
  rcases h with h | ⟨ad, c, h1, h2⟩
  · exact Or.inl h
  · exact Or.inr ⟨ad, c, h1, fun j u hu => by
      have := h2 j u hu
      rw [cell_blk (hF.block _ (cell_lt this) (fun h => h))]
      exact this⟩
structure Ne0 {α : Type} (x : Rdr α) : Prop where
  ne : ∀ {V L p er : Nat}, x V L p = .error er → er ≠ 0
theorem Ne0.ret {α : Type} (a : α) : Ne0 (ret a) := ⟨fun h => by cases h⟩
theorem Ne0.bad {α : Type} {er : Nat} (he : er ≠ 0) : Ne0 (bad er : Rdr α) := ⟨fun h => by cases h; exact he⟩
theorem Ne0.algn : Ne0 algn := ⟨fun h => by cases h⟩
theorem Ne0.tkn (n : Nat) : Ne0 (tkn n) := ⟨fun h => by
  unfold Go.Proofs.YtdpmpllbdoefdaaGreatDoor.tkn at h
  split at h
  · cases h
  · cases h; omega⟩
theorem Ne0.andThen {α β : Type} {x : Rdr α} {f : α → Rdr β} (hx : Ne0 x) (hf : ∀ a, Ne0 (f a)) : Ne0 (andThen x f) := ⟨fun {V L p er} h => by
  unfold Go.Proofs.YtdpmpllbdoefdaaGreatDoor.andThen at h
  split at h
  · next a q _ => exact (hf a).ne h
  · next e he => cases h; exact hx.ne he⟩
theorem Ne0.ite {α : Type} {c : Prop} [Decidable c] {x y : Rdr α} (hx : Ne0 x) (hy : Ne0 y) : Ne0 (if c then x else y) := by
  split <;> assumption
theorem Ne0.tk (ls : List Int) : Ne0 (tk ls) := ⟨fun {V L p er} h => by
  have key : ∀ f m, tkFrom ls V L p f m = .error er → er ≠ 0 := by
    intro f
    induction f with
    | zero => intro m h; cases h; omega
    | succ f ih =>
      intro m h
      simp only [tkFrom] at h
      split at h
      · cases h; omega
      split at h
      · cases h; omega
      split at h
      · cases h
      · exact ih _ h
  exact key 15 0 h⟩
theorem append_any {w : World} {ops : Array Oper} {rest : List Oper} {o : Oper} {a : Act} {Q : Exit → Act → World → Prop} (hgd : o.guard = none) (s x : Operand)
    (ho : o.op = .call { callee := .builtin .append, args := #[s, x], argTypes := #[22, 22] }) (base : Nat) (v : Value) (n : Nat) (xs : List Value) (hs : a.eval s = v) (hown : w.ownsRow base 5 1 v n xs)
    (sv : Value) (bs : List Nat) (hx : a.eval x = sv) (hl : Lies w sv bs) (h63 : n + bs.length ≤ 2147483648) (hbase : base ≤ w.heap.size)
    (h : ∀ v' w', w'.ownsRow base 5 1 v' (n + bs.length) (xs ++ cellsOf bs) → Below base w w' → wpList Tryz.prog ops Q rest (a.put o.dst v') w') : wpList Tryz.prog ops Q (o :: rest) a w := by
  obtain ⟨i0, hi, hz0, hz1, hz2⟩ := info_parts Tryz.info5
  rcases hl with ⟨rfl, rfl⟩ | ⟨ad, c, rfl, hc⟩
  · refine wpList_append_own_none hgd s x 22 ho base 5 i0 1 Tryz.underlying22 hi v n xs hs hown hx ?_
    refine h v w ?_ (Below.refl _ _)
    simpa [cellsOf] using hown
  · refine wpList_append_own w hgd s x 22 ho base 5 i0 (.int .u8 0) 1 1 Tryz.underlying22 hi hz0 hz1 hz2 rfl (by decide) v n xs hs hown ad bs.length c (cellsOf bs) hx (by simp [cellsOf_length]) hc (cellsOf_one bs) (by unfold maxLen; omega) (by omega) hbase ?_
    intro v' w' h1 h2 _
    exact h v' w' h1 (Below.grown (Below.refl _ _) h2 hbase (fun k hk => (hown.lt k hk).1))
theorem Fr.join' {a b c : World} (h : Fr (fun _ => False) a b) (k : Below a.heap.size b c) : Fr (fun _ => False) a c :=
  (h.trans (Fr.of_below k)).mono fun i hi e => e.elim id (fun e => by omega)
end Go.Proofs.YtdpmpllbdoefdaaGreatDoor
namespace Go.Proofs.YtdpmpllbdoefdaaGreatDoor
open Go.RowKit
structure Mk where
  sym : Nat
  further : Nat
  size : Nat
def Lad (x lot s : Nat) : Prop := x / 2 ^ s < 2 * lot ∧ (0 < s → 2 * lot ≤ x / 2 ^ (s - 1))
theorem Lad.det {x lot s t : Nat} (h : Lad x lot s) (k : Lad x lot t) : s = t := by
  have key : ∀ {s t : Nat}, Lad x lot s → Lad x lot t → ¬ s < t := by
    intro s t h k hlt
    have h1 := k.2 (by omega)
    have h2 : x / 2 ^ (t - 1) ≤ x / 2 ^ s := Nat.div_le_div_left (Nat.pow_le_pow_right (by decide) (by omega)) (pow_pos2 _)
    have := h.1
    omega
  have a := key h k
  have b := key k h
  omega
def lsz (lot : Nat) : Nat → Nat → Nat
  | 0, _ => 0
  | f + 1, x => if x < 2 * lot then 0 else lsz lot f (x / 2) + 1
theorem lsz_lad (lot : Nat) (hl : 1 ≤ lot) : ∀ (f x : Nat), x < 2 ^ f → Lad x lot (lsz lot f x) := by
  intro f
  induction f with
  | zero => intro x hx; exact ⟨by simp [lsz]; omega, fun h => by simp [lsz] at h⟩
  | succ f ih =>
    intro x hx
    simp only [lsz]
    split
    · exact ⟨by simpa using ‹x < 2 * lot›, fun h => by omega⟩
    · next h =>
      obtain ⟨h1, h2⟩ := ih (x / 2) (by rw [Nat.pow_succ] at hx; omega)
      refine ⟨?_, fun _ => ?_⟩
      · rw [Nat.pow_succ, Nat.mul_comm, ← Nat.div_div_eq_div_mul]; exact h1
      · rw [Nat.add_sub_cancel]
        by_cases h0 : lsz lot f (x / 2) = 0
        · rw [h0]; simpa using h
        · obtain ⟨k, hk⟩ : ∃ k, lsz lot f (x / 2) = k + 1 := ⟨lsz lot f (x / 2) - 1, by omega⟩
          have := h2 (by omega)
          rw [hk] at this ⊢
          rw [Nat.add_sub_cancel, Nat.div_div_eq_div_mul] at this
          rw [Nat.pow_succ, Nat.mul_comm (2 ^ k)]
          exact this
def ladder (x lot : Nat) : Mk := ⟨lsz lot 16 x * lot + x / 2 ^ lsz lot 16 x, x % 2 ^ lsz lot 16 x, lsz lot 16 x⟩
theorem ladder_of {x lot s : Nat} (hx : x < 65536) (hl : 1 ≤ lot) (h : Lad x lot s) : ladder x lot = ⟨s * lot + x / 2 ^ s, x % 2 ^ s, s⟩ := by
  have := h.det (lsz_lad lot hl 16 x hx)
  unfold ladder
  rw [← this]
theorem lad_lot {x lot s : Nat} (h : Lad x lot s) (hs : 0 < s) : lot ≤ x / 2 ^ s := by
  have h1 := h.2 hs
  obtain ⟨k, rfl⟩ : ∃ k, s = k + 1 := ⟨s - 1, by omega⟩
  rw [Nat.add_sub_cancel] at h1
  rw [Nat.pow_succ, ← Nat.div_div_eq_div_mul]
  omega
theorem rung_read {t : Bt} (ht : t.ok) {x lot s W L : Nat} (hl : 1 ≤ lot) (h : Lad x lot s) (hu : (t.put (x % 2 ^ s) s).of W L) : rung (s * lot + x / 2 ^ s) lot W L t.p = .ok (x, t.p + s) := by
  unfold rung
  by_cases hs : s = 0
  · subst hs
    have h1 := h.1
    simp only [Nat.pow_zero, Nat.div_one] at h1 ⊢
    rw [if_pos (by omega)]
    simp [ret]
  · have h1 := h.1
    have h2 := lad_lot h (by omega)
    obtain ⟨q, hq⟩ : ∃ q, q = x / 2 ^ s - lot := ⟨_, rfl⟩
    have e1 : s * lot + x / 2 ^ s = q + (s + 1) * lot := by rw [Nat.add_mul]; omega
    have e2 : (s * lot + x / 2 ^ s) / lot = s + 1 := by rw [e1, Nat.add_mul_div_right _ _ (by omega), Nat.div_eq_of_lt (by omega)]; omega
    have e3 : (s * lot + x / 2 ^ s) % lot = q := by rw [e1, Nat.add_mul_mod_self_right, Nat.mod_eq_of_lt (by omega)]
    have e4 : ¬ s * lot + x / 2 ^ s < 2 * lot := by
      have : 2 * lot ≤ (s + 1) * lot := Nat.mul_le_mul_right lot (by omega)
      omega
    rw [if_neg e4, e2, e3, Nat.add_sub_cancel, then_ok (Bt.tkn ht hu)]
    show Except.ok ((lot + q) * 2 ^ s + x % 2 ^ s, t.p + s) = _
    rw [show lot + q = x / 2 ^ s by omega, Nat.mul_comm, Nat.div_add_mod]
def lenMark (l : Nat) : Mk := if l = 258 then ⟨285, 0, 0⟩ else ⟨(ladder (l - 3) 4).sym + 257, (ladder (l - 3) 4).further, (ladder (l - 3) 4).size⟩
def dstMark (b : Nat) : Mk := ladder (b - 1) 2
theorem lenMark_ok : ∀ l, 3 ≤ l → l ≤ 258 → 257 ≤ (lenMark l).sym ∧ (lenMark l).sym ≤ 285 ∧ (lenMark l).size ≤ 5 ∧ (lenMark l).further < 2 ^ (lenMark l).size := by
  have h : ∀ k : Fin 256, 257 ≤ (lenMark (k.val + 3)).sym ∧ (lenMark (k.val + 3)).sym ≤ 285 ∧ (lenMark (k.val + 3)).size ≤ 5 ∧ (lenMark (k.val + 3)).further < 2 ^ (lenMark (k.val + 3)).size := by decide +kernel
  intro l h1 h2
  have := h ⟨l - 3, by omega⟩
  simpa [show l - 3 + 3 = l by omega] using this
theorem dstMark_ok (b : Nat) (h1 : 1 ≤ b) (h2 : b ≤ 32768) : (dstMark b).sym < 30 ∧ (dstMark b).size ≤ 13 ∧ (dstMark b).further < 2 ^ (dstMark b).size := by
  have hlad := lsz_lad 2 (by omega) 16 (b - 1) (by omega)
  unfold dstMark ladder
  generalize lsz 2 16 (b - 1) = s at hlad
  have hs : s ≤ 13 := by
    rcases Nat.lt_or_ge 13 s with h | h
    · have h3 := hlad.2 (by omega)
      have h4 : (b - 1) / 2 ^ (s - 1) ≤ (b - 1) / 2 ^ 13 := Nat.div_le_div_left (Nat.pow_le_pow_right (by decide) (by omega)) (by decide)
      have h5 : (b - 1) / 2 ^ 13 < 4 := by omega
      omega
    · exact h
  have h1 := hlad.1
  exact ⟨by show s * 2 + (b - 1) / 2 ^ s < 30; omega, hs, Nat.mod_lt _ (pow_pos2 s)⟩
theorem rlen_read {t : Bt} (ht : t.ok) {l W L : Nat} (h1 : 3 ≤ l) (h2 : l ≤ 258) (hu : (t.put (lenMark l).further (lenMark l).size).of W L) : rlen (lenMark l).sym W L t.p = .ok (l, t.p + (lenMark l).size) := by
  have hm := lenMark_ok l h1 h2
  unfold rlen
  rw [if_neg (by omega)]
  by_cases h : l = 258
  · subst h
    rfl
  · have e : (lenMark l) = ⟨(ladder (l - 3) 4).sym + 257, (ladder (l - 3) 4).further, (ladder (l - 3) 4).size⟩ := by unfold lenMark; rw [if_neg h]
    have hlad := lsz_lad 4 (by omega) 16 (l - 3) (by omega)
    have hne : (lenMark l).sym ≠ 285 := by
      have hall : ∀ k : Fin 255, (lenMark (k.val + 3)).sym ≠ 285 := by decide +kernel
      have := hall ⟨l - 3, by omega⟩
      simpa [show l - 3 + 3 = l by omega] using this
    rw [if_neg hne]
    rw [e] at hu ⊢
    have := rung_read ht (by omega) hlad hu
    have e2 : (ladder (l - 3) 4).sym + 257 - 257 = lsz 4 16 (l - 3) * 4 + (l - 3) / 2 ^ lsz 4 16 (l - 3) := by rw [Nat.add_sub_cancel]; rfl
    show andThen (rung ((ladder (l - 3) 4).sym + 257 - 257) 4) (fun x => ret (3 + x)) W L t.p = _
    rw [e2, then_ok this]
    show Except.ok (3 + (l - 3), _) = _
    rw [show 3 + (l - 3) = l by omega]
    rfl
structure Cok (ls : List Int) : Prop where
  good : good ls
  code : codeOk ls
theorem wd_pow {ls : List Int} (h : Cok ls) {i : Nat} (hi : i < ls.length) (hz : 1 ≤ at0 ls i) : wd ls i < 2 ^ (at0 ls i).toNat := by
  have h1 := wd_lt ls hi hz
  have h2 := fr_nx ls (at0 ls i).toNat
  have h3 := fr_nonneg ls h.code (n := (at0 ls i).toNat) (by have := (h.good.2 i hi).2; omega)
  have e : ((2 : Int) ^ (at0 ls i).toNat) = ((2 ^ (at0 ls i).toNat : Nat) : Int) := by simp
  rw [e] at h2
  omega
def wn (ls : List Int) (i : Nat) : Nat := (at0 ls i).toNat
def putW (t : Bt) (ls : List Int) (i : Nat) : Bt := t.word (wd ls i) (wn ls i)
theorem tk_read {t : Bt} (ht : t.ok) {ls : List Int} (h : Cok ls) {i W L : Nat} (hi : i < ls.length) (hz : 1 ≤ at0 ls i) (hu : (putW t ls i).of W L) : tk ls W L t.p = .ok (i, t.p + wn ls i) := by
  obtain ⟨a1, a2⟩ := Bt.rd ht (wd_pow h hi hz) hu
  obtain ⟨h2, h3⟩ := hit_word h.good (V := W) (L := L) (p := t.p) (i := i) hi hz a2 a1
  exact h2.tk h3
def putM (t : Bt) (ls : List Int) (m : Mk) : Bt := (putW t ls m.sym).put m.further m.size
theorem putW_ok {t : Bt} (ht : t.ok) (ls : List Int) (i : Nat) : (putW t ls i).ok := Bt.word_ok ht
theorem putW_le {t : Bt} (ht : t.ok) (ls : List Int) (i : Nat) : t.le (putW t ls i) := Bt.put_le ht
theorem putM_ok {t : Bt} (ht : t.ok) (ls : List Int) {m : Mk} (hm : m.further < 2 ^ m.size) : (putM t ls m).ok := Bt.put_ok (putW_ok ht ls _) hm
theorem putM_le {t : Bt} (ht : t.ok) (ls : List Int) (m : Mk) : t.le (putM t ls m) := (putW_le ht ls _).trans (Bt.put_le (putW_ok ht ls _))
theorem putM_p (t : Bt) (ls : List Int) (m : Mk) : (putM t ls m).p = t.p + wn ls m.sym + m.size := rfl
structure Pc where
  lit : Nat
  len : Nat
  back : Nat
def Pc.play (p : Pc) (out : List Nat) : List Nat := if p.len = 0 then out ++ [p.lit] else grow p.back p.len out
def Pc.may (p : Pc) (out : List Nat) : Prop := (p.len = 0 ∧ p.lit < 256) ∨ (3 ≤ p.len ∧ p.len ≤ 258 ∧ 1 ≤ p.back ∧ p.back ≤ 32768 ∧ p.back ≤ out.length)
def plays : List Pc → List Nat → List Nat
  | [], out => out
  | p :: ps, out => plays ps (p.play out)
def mays : List Pc → List Nat → Prop
  | [], _ => True
  | p :: ps, out => p.may out ∧ mays ps (p.play out)
theorem plays_snoc (ps : List Pc) (p : Pc) (out : List Nat) : plays (ps ++ [p]) out = p.play (plays ps out) := by
  induction ps generalizing out with
  | nil => rfl
  | cons q ps ih => exact ih _
theorem mays_snoc (ps : List Pc) (p : Pc) (out : List Nat) : mays (ps ++ [p]) out ↔ mays ps out ∧ p.may (plays ps out) := by
  induction ps generalizing out with
  | nil => simp [mays, plays]
  | cons q ps ih => simp only [List.cons_append, mays, plays, ih, and_assoc]
def Pc.told (p : Pc) (ll dl : List Int) : Prop := if p.len = 0 then 1 ≤ at0 ll p.lit ∧ p.lit < ll.length else (1 ≤ at0 ll (lenMark p.len).sym ∧ (lenMark p.len).sym < ll.length) ∧ 1 ≤ at0 dl (dstMark p.back).sym ∧ (dstMark p.back).sym < dl.length
def Pc.put (p : Pc) (ll dl : List Int) (t : Bt) : Bt := if p.len = 0 then putM t ll ⟨p.lit, 0, 0⟩ else putM (putM t ll (lenMark p.len)) dl (dstMark p.back)
theorem put_nought (t : Bt) : t.put 0 0 = t := by simp [Bt.put]
theorem Pc.put_ok {p : Pc} {out : List Nat} (hm : p.may out) {ll dl : List Int} {t : Bt} (ht : t.ok) : (p.put ll dl t).ok ∧ t.le (p.put ll dl t) := by
  unfold Pc.put
  rcases hm with ⟨h0, _⟩ | ⟨h3, h4, h5, h6, _⟩
  · rw [if_pos h0]; exact ⟨putM_ok ht _ (by show 0 < 2 ^ 0; decide), putM_le ht _ _⟩
  · rw [if_neg (by omega)]
    have a := putM_ok ht ll (lenMark_ok _ h3 h4).2.2.2
    exact ⟨putM_ok a _ (dstMark_ok _ h5 h6).2.2, (putM_le ht _ _).trans (putM_le a _ _)⟩
theorem grow_of_len (d n : Nat) (out : List Nat) : out.length ≤ (grow d n out).length := by rw [grow_len]; omega
theorem piece_leads {p : Pc} {ll dl : List Int} (hl : Cok ll) (hd : Cok dl) {t : Bt} (ht : t.ok) {out : List Nat} (last : Bool) (hm : p.may out) (htold : p.told ll dl) :
    Leads (p.put ll dl t) ⟨t.p, last, out, .coded ll dl⟩ ⟨(p.put ll dl t).p, last, p.play out, .coded ll dl⟩ := by
  rcases hm with ⟨h0, h256⟩ | ⟨h3, h4, h5, h6, h7⟩
  · unfold Pc.put Pc.play
    unfold Pc.told at htold
    rw [if_pos h0] at htold ⊢
    rw [if_pos h0]
    refine Leads.put fun W L hu => ?_
    have e : putM t ll ⟨p.lit, 0, 0⟩ = putW t ll p.lit := put_nought _
    rw [e] at hu ⊢
    have h1 := tk_read ht hl htold.2 htold.1 hu
    have hw : word ll dl out.length W L t.p = .ok (.lit p.lit, t.p + wn ll p.lit) := by
      unfold word
      rw [then_ok h1, if_pos h256]
      rfl
    simp only [adv, hw]
    rfl
  · unfold Pc.put Pc.play
    unfold Pc.told at htold
    have hne : ¬ p.len = 0 := by omega
    rw [if_neg hne] at htold ⊢
    rw [if_neg hne]
    obtain ⟨⟨a1, a2⟩, b1, b2⟩ := htold
    have hlm := lenMark_ok _ h3 h4
    have hdm := dstMark_ok _ h5 h6
    have k1 := putM_ok ht ll hlm.2.2.2
    refine Leads.trans (s' := ⟨(putM (putM t ll (lenMark p.len)) dl (dstMark p.back)).p, last, out, .row p.len p.back ll dl⟩) (Leads.go fun W L hu => ?_) ?_ (grow_of_len _ _ _)
    · have u2 : (putM t ll (lenMark p.len)).of W L := (putM_le k1 dl _).of hu
      have u1 : (putW t ll (lenMark p.len).sym).of W L := (Bt.put_le (putW_ok ht _ _)).of u2
      have u3 : (putW (putM t ll (lenMark p.len)) dl (dstMark p.back).sym).of W L := (Bt.put_le (putW_ok k1 _ _)).of hu
      have r1 := tk_read ht hl a2 a1 u1
      have r2 := rlen_read (putW_ok ht ll (lenMark p.len).sym) h3 h4 u2
      have r3 := tk_read k1 hd b2 b1 u3
      have hlad := lsz_lad 2 (by omega) 16 (p.back - 1) (by omega)
      have r4 := rung_read (putW_ok k1 dl (dstMark p.back).sym) (by omega) hlad hu
      have hdist : rdist dl out.length W L (putM t ll (lenMark p.len)).p = .ok (p.back, (putM (putM t ll (lenMark p.len)) dl (dstMark p.back)).p) := by
        unfold rdist
        rw [then_ok r3, if_neg (by omega)]
        have r4' : rung (dstMark p.back).sym 2 W L ((putM t ll (lenMark p.len)).p + wn dl (dstMark p.back).sym) = .ok (p.back - 1, (putM (putM t ll (lenMark p.len)) dl (dstMark p.back)).p) := r4
        rw [then_ok r4', if_neg (by omega)]
        show Except.ok (1 + (p.back - 1), _) = _
        rw [show 1 + (p.back - 1) = p.back by omega]
      have hw : word ll dl out.length W L t.p = .ok (.row p.len p.back, (putM (putM t ll (lenMark p.len)) dl (dstMark p.back)).p) := by
        unfold word
        rw [then_ok r1, if_neg (by omega), if_neg (by omega)]
        have r2' : rlen (lenMark p.len).sym W L (t.p + wn ll (lenMark p.len).sym) = .ok (p.len, (putM t ll (lenMark p.len)).p) := r2
        rw [then_ok r2', then_ok hdist]
        rfl
      simp only [adv, hw]
    · obtain ⟨k, hk⟩ : ∃ k, p.len = k + 1 := ⟨p.len - 1, by omega⟩
      rw [hk]
      exact row_leads _ _ _ _ _ _ _ _
def puts (ll dl : List Int) : List Pc → Bt → Bt
  | [], t => t
  | p :: ps, t => puts ll dl ps (p.put ll dl t)
theorem play_len {p : Pc} {out : List Nat} : out.length ≤ (p.play out).length := by
  unfold Pc.play
  split
  · simp
  · exact grow_of_len _ _ _
theorem plays_len (ps : List Pc) (out : List Nat) : out.length ≤ (plays ps out).length := by
  induction ps generalizing out with
  | nil => exact Nat.le_refl _
  | cons p ps ih => exact Nat.le_trans play_len (ih _)
theorem puts_ok {ll dl : List Int} (ps : List Pc) {t : Bt} (ht : t.ok) {out : List Nat} (hm : mays ps out) : (puts ll dl ps t).ok ∧ t.le (puts ll dl ps t) := by
  induction ps generalizing t out with
  | nil => exact ⟨ht, Bt.le_refl ht⟩
  | cons p ps ih =>
    obtain ⟨h1, h2⟩ := hm
    obtain ⟨k1, k2⟩ := h1.elim (fun h => Pc.put_ok (out := out) (Or.inl h) (ll := ll) (dl := dl) ht) (fun h => Pc.put_ok (out := out) (Or.inr h) ht)
    obtain ⟨k3, k4⟩ := ih k1 h2
    exact ⟨k3, k2.trans k4⟩
theorem puts_leads {ll dl : List Int} (hl : Cok ll) (hd : Cok dl) (last : Bool) (ps : List Pc) {t : Bt} (ht : t.ok) {out : List Nat} (hm : mays ps out) (htold : ∀ p ∈ ps, p.told ll dl) :
    Leads (puts ll dl ps t) ⟨t.p, last, out, .coded ll dl⟩ ⟨(puts ll dl ps t).p, last, plays ps out, .coded ll dl⟩ := by
  induction ps generalizing t out with
  | nil => exact Leads.refl _ _
  | cons p ps ih =>
    obtain ⟨h1, h2⟩ := hm
    obtain ⟨k1, k2⟩ := Pc.put_ok h1 (ll := ll) (dl := dl) ht
    obtain ⟨k3, k4⟩ := puts_ok (ll := ll) (dl := dl) ps k1 h2
    exact ((piece_leads hl hd ht last h1 (htold p (by simp))).more k4).trans (ih k1 h2 (fun q hq => htold q (by simp [hq]))) (plays_len _ _)
theorem fin_leads {ll dl : List Int} (hl : Cok ll) {t : Bt} (ht : t.ok) (last : Bool) (out : List Nat) (h1 : 1 ≤ at0 ll 256) (h2 : 256 < ll.length) :
    Leads (putW t ll 256) ⟨t.p, last, out, .coded ll dl⟩ ⟨(putW t ll 256).p, last, out, .ahead⟩ :=
  Leads.go fun W L hu => by
    have r := tk_read ht hl h2 h1 hu
    have hw : word ll dl out.length W L t.p = .ok (.fin, t.p + wn ll 256) := by
      unfold word
      rw [then_ok r]
      rfl
    simp only [adv, hw]
    rfl
def putP (ll dl : List Int) (ps : List Pc) (t : Bt) : Bt := putW (puts ll dl ps t) ll 256
theorem putP_leads {ll dl : List Int} (hl : Cok ll) (hd : Cok dl) (last : Bool) (ps : List Pc) {t : Bt} (ht : t.ok) {out : List Nat} (hm : mays ps out) (htold : ∀ p ∈ ps, p.told ll dl) (h1 : 1 ≤ at0 ll 256) (h2 : 256 < ll.length) :
    Leads (putP ll dl ps t) ⟨t.p, last, out, .coded ll dl⟩ ⟨(putP ll dl ps t).p, last, plays ps out, .ahead⟩ := by
  obtain ⟨k1, k2⟩ := puts_ok (ll := ll) (dl := dl) ps ht hm
  exact ((puts_leads hl hd last ps ht hm htold).more (putW_le k1 _ _)).trans (fin_leads hl k1 last _ h1 h2) (Nat.le_refl _)
end Go.Proofs.YtdpmpllbdoefdaaGreatDoor
namespace Go.Proofs.YtdpmpllbdoefdaaGreatDoor
open Go.RowKit
structure Wt (T : TypeId) (w : World) (B o : Nat) (cs : Array Value) (g : Option Nat) (t : Bt) : Prop where
  ex : ∃ os, Wo T w B o cs g os t.p ∧ LowSt os t.p ∧ leNum os = t.v
theorem Wt.ok {T : TypeId} {w : World} {B o : Nat} {cs : Array Value} {g : Option Nat} {t : Bt} (h : Wt T w B o cs g t) : t.ok := by
  obtain ⟨os, _, h2, h3⟩ := h.ex
  show t.v < 2 ^ t.p
  rw [← h3]
  exact h2.num
theorem Wt.keep {T : TypeId} {w w' : World} {B o : Nat} {cs : Array Value} {g : Option Nat} {t : Bt} (h : Wt T w B o cs g t) {S : Nat → Prop} (f : Fr S w w') (hB : ¬ S B) (hg : ∀ k, g = some k → ¬ S k) : Wt T w' B o cs g t := by
  obtain ⟨os, h1, h2, h3⟩ := h.ex
  exact ⟨os, h1.keep f hB hg, h2, h3⟩
theorem Wt.lts {T : TypeId} {w : World} {B o : Nat} {cs : Array Value} {g : Option Nat} {t : Bt} (h : Wt T w B o cs g t) : (∀ k, g = some k → k < w.heap.size) ∧ B < w.heap.size := by
  obtain ⟨os, h1, _, _⟩ := h.ex
  exact h1.lts
theorem Wt.blk {T : TypeId} {w : World} {B o : Nat} {cs : Array Value} {g : Option Nat} {t : Bt} (h : Wt T w B o cs g t) : w.heap[B]? = some (.cells cs T (0, 0)) ∧ ∀ k, g = some k → k ≠ B := by
  obtain ⟨os, h1, _, _⟩ := h.ex
  obtain ⟨ov, h2, _⟩ := h1.eobj
  exact ⟨h2, h1.eap⟩
structure Go2 (T : TypeId) (w w' : World) (B o : Nat) (cs cs' : Array Value) (g g' : Option Nat) (t' : Bt) : Prop where
  wt : Wt T w' B o cs' g' t'
  cs : Cs2 o cs cs'
  fr : Fr (fun i => i = B ∨ g = some i) w w'
  own : g' = g ∨ ∃ k, g' = some k ∧ w.heap.size ≤ k
theorem own_trans {w w1 : World} {S : Nat → Prop} {g g1 g2 : Option Nat} (f : Fr S w w1) (h : g1 = g ∨ ∃ k, g1 = some k ∧ w.heap.size ≤ k) (k : g2 = g1 ∨ ∃ k, g2 = some k ∧ w1.heap.size ≤ k) : g2 = g ∨ ∃ k, g2 = some k ∧ w.heap.size ≤ k := by
  rcases k with rfl | ⟨j, rfl, hj⟩
  · exact h
  · exact Or.inr ⟨j, rfl, Nat.le_trans f.size hj⟩
theorem fr_trans {B : Nat} {g g1 : Option Nat} {w w1 w2 : World} (hF : Fr (fun i => i = B ∨ g = some i) w w1) (hG : g1 = g ∨ ∃ k, g1 = some k ∧ w.heap.size ≤ k) (h1 : Fr (fun i => i = B ∨ g1 = some i) w1 w2) : Fr (fun i => i = B ∨ g = some i) w w2 :=
  (hF.trans h1).mono (fun i hi h => by
    rcases h with h | h | h
    · exact h
    · exact Or.inl h
    · rcases hG with rfl | ⟨k, rfl, hk⟩
      · exact Or.inr h
      · cases h; omega)
theorem Go2.trans {T : TypeId} {w w1 w2 : World} {B o : Nat} {cs cs1 cs2 : Array Value} {g g1 g2 : Option Nat} {t1 t2 : Bt} (h : Go2 T w w1 B o cs cs1 g g1 t1) (k : Go2 T w1 w2 B o cs1 cs2 g1 g2 t2) : Go2 T w w2 B o cs cs2 g g2 t2 :=
  ⟨k.wt, h.cs.trans k.cs, fr_trans h.fr h.own k.fr, own_trans h.fr h.own k.own⟩
theorem low_put_t (T : TypeId) (B o : Nat) (cs : Array Value) (g : Option Nat) (t : Bt) (n : Nat) (x : Int) (w : World) (h : Wt T w B o cs g t) (hwr : t.p ≤ 2147480000) (hn : n ≤ 24) :
    Calls Tryz.prog 115 #[.pointer (some ⟨B, o, none⟩), .int .i64 x, .int .i64 n] w fun e w' => e = .returned (.tuple #[]) ∧ ∃ cs' g', Go2 T w w' B o cs cs' g g' (t.put (lowBits (numOf x) 0 n) n) := by
  obtain ⟨os, h1, h2, h3⟩ := h.ex
  refine (low_putO T B o cs g os t.p n x w h1 h2 hwr hn).mono ?_
  rintro e w' ⟨rfl, cs', g', os', k1, k2, k3, k4, k5, k6⟩
  exact ⟨rfl, cs', g', ⟨os', k1, k3, by rw [k4, h3]; rfl⟩, k2, k5, k6⟩
theorem num_nat (x t n : Nat) (h : x < 18446744073709551616) : lowBits (numOf (x : Int)) t n = x / 2 ^ t % 2 ^ n := by
  unfold lowBits numOf
  rw [Int.emod_eq_of_lt (by omega) (by omega)]
  simp
theorem word_step2 (s : Bt) (x n j : Nat) (hj : j < n) : (s.put (rev j (x / 2 ^ (n - j))) j).put (x / 2 ^ (n - 1 - j) % 2) 1 = s.put (rev (j + 1) (x / 2 ^ (n - (j + 1)))) (j + 1) := by
  have e2 : n - j = (n - (j + 1)) + 1 := by omega
  have e3 : n - 1 - j = n - (j + 1) := by omega
  have e4 : x / 2 ^ (n - (j + 1)) / 2 = x / 2 ^ (n - j) := by rw [Nat.div_div_eq_div_mul, e2, Nat.pow_succ]
  simp only [Bt.put]
  rw [rev_snoc, e4, ← e3, Nat.add_mul, Nat.mul_assoc, ← Nat.pow_add, Nat.add_comm j s.p, Nat.add_assoc, Nat.add_assoc]
set_option maxHeartbeats 1600000 in
set_option maxRecDepth 100000 in
theorem hput_t (T : TypeId) (lo hi C B o i : Nat) (cs : Array Value) (ls : List Int) (g : Option Nat) (t : Bt) (w : World) (hC : Cd w lo hi C ls) (hW : Wt T w B o cs g t) (hwn : t.p ≤ 2147470000) (hi' : i < ls.length) (hz : 1 ≤ at0 ls i) :
    Calls Tryz.prog 117 #[.pointer (some ⟨C, 0, none⟩), .pointer (some ⟨B, o, none⟩), .int .i64 (i : Int)] w fun e w' => e = .returned (.bool true) ∧ ∃ cs' g', Go2 T w w' B o cs cs' g g' (putW t ls i) := by
  have hL15 : wn ls i ≤ 15 := by have := (hC.egood.2 i hi').2; unfold wn; omega
  have hL : at0 ls i = (wn ls i : Int) := by unfold wn; omega
  have hwb := wd_bound hC.egood hi' (by omega)
  have hwlt : wd ls i < 2 ^ wn ls i := wd_pow ⟨hC.egood, hC.eok⟩ hi' hz
  have CW := hide (word_yes lo hi C i (wn ls i) ls w hC hi' hL (by omega))
  show Calls _ _ _ _ fun e w' => e = .returned (.bool true) ∧ ∃ cs' g', Go2 T w w' B o cs cs' g g' (t.word (wd ls i) (wn ls i))
  obtain ⟨W, hWd⟩ : ∃ W, W = wd ls i := ⟨_, rfl⟩
  have hL1 : 1 ≤ wn ls i := by omega
  generalize wn ls i = L at *
  rw [← hWd] at CW hwb hwlt ⊢
  have HW := hide hW
  have hL0 : (0 : Int) < (L : Int) := by omega
  have Hlt := hide hwlt
  have Hok := hide hW.ok
  clear hC hW hL hWd hwlt hz
  go_enter Tryz.func117, Tryz.ntmps117
  go_wp2_with fail
  refine CW.out.mono ?_
  rintro e w1 ⟨rfl, hF1⟩
  have HF1 := hide hF1
  clear hF1
  go_wp2
  go_loopw [8] (fun zv wr => ∃ (q j : Nat) (cs1 : Array Value) (g1 : Option Nat), q + j = L ∧ zv = .int .i64 (q : Int) ∧ Go2 T w wr B o cs cs1 g g1 (t.put (rev j (W / 2 ^ (L - j))) j)) (fun zv _ => (intOf zv).toNat)
  case atStart =>
    refine ⟨L, 0, cs, g, rfl, rfl, ⟨?_, Cs2.refl _ _, HF1.out.mono fun _ _ h => h.elim, Or.inl rfl⟩⟩
    have : t.put (rev 0 (W / 2 ^ (L - 0))) 0 = t := by simp [rev, Bt.put]
    rw [this]
    exact HW.out.keep HF1.out (fun h => h) (fun _ _ h => h)
  case round =>
    obtain ⟨q, j, cs1, g1, hq, rfl, hP⟩ := hrel
    cases q with
    | zero =>
      have HP := hide hP
      clear hP
      go_wp2
      go_ret
      obtain rfl : j = L := by omega
      refine ⟨rfl, cs1, g1, ?_⟩
      have := HP.out
      rw [Nat.sub_self, Nat.pow_zero, Nat.div_one] at this
      exact this
    | succ q =>
      obtain ⟨Y, hY⟩ : ∃ Y, Y = W / 2 ^ q := ⟨_, rfl⟩
      have hsh : ((W : Int) / 2 ^ q) = (Y : Int) := by rw [hY]; simp
      have hYb : Y ≤ 10485760 := by rw [hY]; exact Nat.le_trans (Nat.div_le_self _ _) hwb
      have HP := hide hP
      have HY := hide hY
      have hq15 : q ≤ 15 := by omega
      have hjl : j < L := by omega
      have Hq : Hid (q = L - 1 - j) := by show q = _; omega
      have Hp : Hid ((t.put (rev j (W / 2 ^ (L - j))) j).p ≤ 2147480000) := by show t.p + j ≤ _; omega
      clear hP hY
      go_wp2_with fail
      refine (low_put_t T B o cs1 g1 _ 1 (Y : Int) wr HP.out.wt Hp.out (by omega)).mono ?_
      rintro e2 w2 ⟨rfl, cs2, g2, hG2⟩
      have hst := HP.out.trans hG2
      rw [num_nat Y 0 1 (by omega), Nat.pow_zero, Nat.div_one, Nat.pow_one, HY.out, Hq.out, word_step2 t W L j hjl] at hst
      have Hst := hide hst
      clear hG2 hst
      go_wp2
      go_roundw
      case rel => exact ⟨q, j + 1, cs2, g2, by omega, rfl, Hst.out⟩
      case measure => simp [intOf]
end Go.Proofs.YtdpmpllbdoefdaaGreatDoor
namespace Go.Proofs.YtdpmpllbdoefdaaGreatDoor
open Go.RowKit
def putHead (t : Bt) (last : Bool) (kind : Nat) : Bt := (t.put (if last then 1 else 0) 1).put kind 2
theorem last_lt (last : Bool) : (if last then 1 else 0) < 2 ^ 1 := by cases last <;> decide
theorem putHead_ok {t : Bt} (ht : t.ok) (last : Bool) {kind : Nat} (hk : kind < 4) : (putHead t last kind).ok := Bt.put_ok (Bt.put_ok ht (last_lt last)) hk
theorem putHead_le {t : Bt} (ht : t.ok) (last : Bool) (kind : Nat) : t.le (putHead t last kind) := (Bt.put_le ht).trans (Bt.put_le (Bt.put_ok ht (last_lt last)))
theorem putHead_p (t : Bt) (last : Bool) (kind : Nat) : (putHead t last kind).p = t.p + 3 := by show t.p + 1 + 2 = _; omega
theorem head_read {t : Bt} (ht : t.ok) (last : Bool) {kind W L : Nat} {pl : Pl} {q : Nat} (hu : (putHead t last kind).of W L) (hk : kindOf kind W L (t.p + 3) = .ok (pl, q)) : head W L t.p = .ok ((last, pl), q) := by
  have k1 : (t.put (if last then 1 else 0) 1).ok := Bt.put_ok ht (last_lt last)
  have r1 := Bt.tkn ht ((Bt.put_le k1).of hu)
  have r2 := Bt.tkn k1 hu
  refine (then_ok r1).trans ((then_ok r2).trans ?_)
  have e : (t.put (if last then 1 else 0) 1).p + 2 = t.p + 3 := by show t.p + 1 + 2 = _; omega
  rw [e, then_ok hk]
  show Except.ok ((decide ((if last then 1 else 0) = 1), pl), q) = _
  cases last <;> rfl
theorem head_leads {t u : Bt} (ht : t.ok) (last : Bool) {kind : Nat} (out : List Nat) {pl : Pl} {q : Nat} (hle : (putHead t last kind).le u) (hk : ∀ W L, u.of W L → kindOf kind W L (t.p + 3) = .ok (pl, q)) :
    Leads u ⟨t.p, false, out, .ahead⟩ ⟨q, last, out, pl⟩ :=
  Leads.go fun W L hu => by
    have := head_read ht last (hle.of hu) (hk W L hu)
    simp [adv, this]
def putBytes : List Nat → Bt → Bt
  | [], t => t
  | b :: bs, t => putBytes bs (t.put b 8)
theorem putBytes_ok {bs : List Nat} (h : ∀ b ∈ bs, b < 256) {t : Bt} (ht : t.ok) : (putBytes bs t).ok ∧ t.le (putBytes bs t) ∧ (putBytes bs t).p = t.p + 8 * bs.length := by
  induction bs generalizing t with
  | nil => exact ⟨ht, Bt.le_refl ht, rfl⟩
  | cons b bs ih =>
    have k : (t.put b 8).ok := Bt.put_ok ht (h b (by simp))
    obtain ⟨a1, a2, a3⟩ := ih (fun x hx => h x (by simp [hx])) k
    refine ⟨a1, (Bt.put_le ht).trans a2, ?_⟩
    show (putBytes bs (t.put b 8)).p = _
    rw [a3]
    show t.p + 8 + 8 * bs.length = t.p + 8 * (bs.length + 1)
    omega
theorem putBytes_snoc (bs : List Nat) (b : Nat) (t : Bt) : putBytes (bs ++ [b]) t = (putBytes bs t).put b 8 := by
  induction bs generalizing t with
  | nil => rfl
  | cons c bs ih => exact ih _
theorem bytes_leads {bs : List Nat} (h : ∀ b ∈ bs, b < 256) {t : Bt} (ht : t.ok) (last : Bool) (out : List Nat) :
    Leads (putBytes bs t) ⟨t.p, last, out, .stored bs.length⟩ ⟨(putBytes bs t).p, last, out ++ bs, .ahead⟩ := by
  induction bs generalizing t out with
  | nil => exact Leads.go fun W L _ => by simp [adv, putBytes]
  | cons b bs ih =>
    have hb := h b (by simp)
    have k : (t.put b 8).ok := Bt.put_ok ht hb
    obtain ⟨a1, a2, a3⟩ := putBytes_ok (bs := bs) (fun x hx => h x (by simp [hx])) k
    have := ih (fun x hx => h x (by simp [hx])) k (out ++ [b])
    refine Leads.trans (s' := ⟨(t.put b 8).p, last, out ++ [b], .stored bs.length⟩) (Leads.put fun W L hu => ?_) ?_ (by simp)
    · have r := Bt.tkn ht (a2.of hu)
      simp only [adv, List.length_cons, r]
      rw [if_neg (by omega)]
      rfl
    · have e : out ++ b :: bs = out ++ [b] ++ bs := by simp
      rw [e]
      exact this
def padTo (p : Nat) : Nat := (8 - p % 8) % 8
theorem padTo_eq (p : Nat) : (p + 7) / 8 * 8 = p + padTo p := by unfold padTo; omega
def putStored (t : Bt) (last : Bool) (raw : List Nat) : Bt :=
  putBytes raw ((((putHead t last 0).put 0 (padTo (t.p + 3))).put raw.length 16).put (65535 - raw.length) 16)
theorem putStored_ok {t : Bt} (ht : t.ok) (last : Bool) {raw : List Nat} (hr : raw.length ≤ 65535) (hb : ∀ b ∈ raw, b < 256) : (putStored t last raw).ok ∧ t.le (putStored t last raw) ∧ (putStored t last raw).p = t.p + 3 + padTo (t.p + 3) + 32 + 8 * raw.length := by
  have k1 := putHead_ok ht last (kind := 0) (by decide)
  have k2 : ((putHead t last 0).put 0 (padTo (t.p + 3))).ok := Bt.put_ok k1 (pow_pos2 _)
  have k3 : (((putHead t last 0).put 0 (padTo (t.p + 3))).put raw.length 16).ok := Bt.put_ok k2 (by omega)
  have k4 : ((((putHead t last 0).put 0 (padTo (t.p + 3))).put raw.length 16).put (65535 - raw.length) 16).ok := Bt.put_ok k3 (by omega)
  obtain ⟨a1, a2, a3⟩ := putBytes_ok hb k4
  refine ⟨a1, (putHead_le ht last 0).trans ((Bt.put_le k1).trans ((Bt.put_le k2).trans ((Bt.put_le k3).trans a2))), ?_⟩
  show (putBytes raw _).p = _
  rw [a3]
  show (putHead t last 0).p + padTo (t.p + 3) + 16 + 16 + 8 * raw.length = _
  rw [putHead_p]
theorem stored_leads {t : Bt} (ht : t.ok) (last : Bool) {raw : List Nat} (hr : raw.length ≤ 65535) (hb : ∀ b ∈ raw, b < 256) (out : List Nat) :
    Leads (putStored t last raw) ⟨t.p, false, out, .ahead⟩ ⟨(putStored t last raw).p, last, out ++ raw, .ahead⟩ := by
  have k1 := putHead_ok ht last (kind := 0) (by decide)
  have k2 : ((putHead t last 0).put 0 (padTo (t.p + 3))).ok := Bt.put_ok k1 (pow_pos2 _)
  have k3 : (((putHead t last 0).put 0 (padTo (t.p + 3))).put raw.length 16).ok := Bt.put_ok k2 (by omega)
  have k4 : ((((putHead t last 0).put 0 (padTo (t.p + 3))).put raw.length 16).put (65535 - raw.length) 16).ok := Bt.put_ok k3 (by omega)
  obtain ⟨a1, a2, a3⟩ := putBytes_ok hb k4
  have e2 : ((putHead t last 0).put 0 (padTo (t.p + 3))).p = t.p + 3 + padTo (t.p + 3) := by show (putHead t last 0).p + _ = _; rw [putHead_p]
  have e3 : (((putHead t last 0).put 0 (padTo (t.p + 3))).put raw.length 16).p = t.p + 3 + padTo (t.p + 3) + 16 := by show ((putHead t last 0).put 0 (padTo (t.p + 3))).p + 16 = _; rw [e2]
  have e4 : ((((putHead t last 0).put 0 (padTo (t.p + 3))).put raw.length 16).put (65535 - raw.length) 16).p = t.p + 3 + padTo (t.p + 3) + 32 := by show (((putHead t last 0).put 0 (padTo (t.p + 3))).put raw.length 16).p + 16 = _; rw [e3]
  refine Leads.trans (head_leads (kind := 0) (pl := .stored raw.length) (q := t.p + 3 + padTo (t.p + 3) + 32) ht last out ((Bt.put_le k1).trans ((Bt.put_le k2).trans ((Bt.put_le k3).trans a2))) ?_) ?_ (by simp)
  · intro W L hu
    have u4 := a2.of hu
    have u3 := (Bt.put_le k3).of u4
    have r3 := Bt.tkn k2 u3
    have r4 := Bt.tkn k3 u4
    rw [e2] at r3
    rw [e3] at r4
    have ra : algn W L (t.p + 3) = .ok ((), t.p + 3 + padTo (t.p + 3)) := by
      show Except.ok ((), (t.p + 3 + 7) / 8 * 8) = _
      rw [padTo_eq]
    have hs : storedHead W L (t.p + 3) = .ok (raw.length, t.p + 3 + padTo (t.p + 3) + 32) := by
      refine (then_ok ra).trans ((then_ok r3).trans ((then_ok r4).trans ?_))
      rw [if_pos (by omega)]
      rfl
    show andThen storedHead (fun n => ret (Pl.stored n)) W L (t.p + 3) = _
    rw [then_ok hs]
    rfl
  · have := bytes_leads hb k4 last out
    rw [e4] at this
    exact this
def putFixed (t : Bt) (last : Bool) (ps : List Pc) : Bt := putP fixL fixD ps (putHead t last 1)
theorem fixL_cok : Cok fixL := ⟨fixL_good, fixL_ok⟩
theorem fixD_cok : Cok fixD := ⟨fixD_good, fixD_ok⟩
theorem fix_told {p : Pc} {out : List Nat} (hm : p.may out) : p.told fixL fixD := by
  unfold Pc.told
  rcases hm with ⟨h0, h1⟩ | ⟨h3, h4, h5, h6, _⟩
  · rw [if_pos h0, fixL_len, fixL_at]
    refine ⟨?_, by omega⟩
    repeat' split
    all_goals omega
  · have h := lenMark_ok _ h3 h4
    have h' := dstMark_ok _ h5 h6
    rw [if_neg (by omega), fixL_len, fixL_at, fixD_len, fixD_at]
    refine ⟨⟨?_, by omega⟩, ?_, by omega⟩
    · repeat' split
      all_goals omega
    · rw [if_pos (by omega)]; omega
theorem mays_mem {ps : List Pc} {out : List Nat} (h : mays ps out) : ∀ p ∈ ps, ∃ o, p.may o := by
  induction ps generalizing out with
  | nil => intro p hp; cases hp
  | cons q ps ih =>
    intro p hp
    rcases List.mem_cons.1 hp with rfl | hp
    · exact ⟨out, h.1⟩
    · exact ih h.2 p hp
theorem fixed_leads {t : Bt} (ht : t.ok) (last : Bool) {ps : List Pc} {out : List Nat} (hm : mays ps out) :
    (putFixed t last ps).ok ∧ t.le (putFixed t last ps) ∧ Leads (putFixed t last ps) ⟨t.p, false, out, .ahead⟩ ⟨(putFixed t last ps).p, last, plays ps out, .ahead⟩ := by
  have k1 := putHead_ok ht last (kind := 1) (by decide)
  obtain ⟨k2, k3⟩ := puts_ok (ll := fixL) (dl := fixD) ps k1 hm
  have hle : (putHead t last 1).le (putFixed t last ps) := k3.trans (putW_le k2 _ _)
  refine ⟨putW_ok k2 _ _, (putHead_le ht last 1).trans hle, ?_⟩
  refine Leads.trans (head_leads (kind := 1) (pl := .coded fixL fixD) (q := t.p + 3) ht last out hle (fun W L _ => rfl)) ?_ (plays_len _ _)
  have := putP_leads fixL_cok fixD_cok last ps k1 hm (fun p hp => by obtain ⟨o, ho⟩ := mays_mem hm p hp; exact fix_told ho) (by rw [fixL_at]; decide) (by rw [fixL_len]; decide)
  rw [putHead_p] at this
  exact this
def putTold : List Nat → Bt → Bt
  | [], t => t
  | x :: xs, t => putTold xs (t.put x 3)
theorem putTold_ok {xs : List Nat} (h : ∀ x ∈ xs, x < 8) {t : Bt} (ht : t.ok) : (putTold xs t).ok ∧ t.le (putTold xs t) ∧ (putTold xs t).p = t.p + 3 * xs.length := by
  induction xs generalizing t with
  | nil => exact ⟨ht, Bt.le_refl ht, rfl⟩
  | cons b bs ih =>
    have k : (t.put b 3).ok := Bt.put_ok ht (h b (by simp))
    obtain ⟨a1, a2, a3⟩ := ih (fun x hx => h x (by simp [hx])) k
    refine ⟨a1, (Bt.put_le ht).trans a2, ?_⟩
    show (putTold bs (t.put b 3)).p = _
    rw [a3]
    show t.p + 3 + 3 * bs.length = t.p + 3 * (bs.length + 1)
    omega
theorem putTold_snoc (xs : List Nat) (x : Nat) (t : Bt) : putTold (xs ++ [x]) t = (putTold xs t).put x 3 := by
  induction xs generalizing t with
  | nil => rfl
  | cons c bs ih => exact ih _
def sets : List Nat → Nat → List Int → List Int
  | [], _, cl => cl
  | x :: xs, i, cl => sets xs (i + 1) (cl.set (order.getD i 0) (x : Int))
theorem told_read {xs : List Nat} (h : ∀ x ∈ xs, x < 8) {t : Bt} (ht : t.ok) {W L : Nat} (hu : (putTold xs t).of W L) (i : Nat) (cl : List Int) : told xs.length i cl W L t.p = .ok (sets xs i cl, (putTold xs t).p) := by
  induction xs generalizing t i cl with
  | nil => rfl
  | cons x xs ih =>
    have k : (t.put x 3).ok := Bt.put_ok ht (h x (by simp))
    obtain ⟨a1, a2, a3⟩ := putTold_ok (xs := xs) (fun y hy => h y (by simp [hy])) k
    have r := Bt.tkn ht (a2.of hu)
    show andThen (tkn 3) (fun x => told xs.length (i + 1) (cl.set (order.getD i 0) (x : Int))) W L t.p = _
    rw [then_ok r]
    exact ih (fun y hy => h y (by simp [hy])) k hu (i + 1) _
def RepOk (ls : List Int) (i : Nat) (m : Mk) (n : Nat) : Prop :=
  (m.sym ≤ 15 ∧ m.size = 0 ∧ m.further = 0 ∧ n = 1 ∧ at0 ls i = (m.sym : Int)) ∨
  (m.sym = 16 ∧ m.size = 2 ∧ m.further < 4 ∧ n = 3 + m.further ∧ 0 < i ∧ ∀ k, k < n → at0 ls (i + k) = at0 ls (i - 1)) ∨
  (m.sym = 17 ∧ m.size = 3 ∧ m.further < 8 ∧ n = 3 + m.further ∧ ∀ k, k < n → at0 ls (i + k) = 0) ∨
  (m.sym = 18 ∧ m.size = 7 ∧ m.further < 128 ∧ n = 11 + m.further ∧ ∀ k, k < n → at0 ls (i + k) = 0)
def Reps (ls : List Int) : Nat → List Mk → Prop
  | i, [] => i = ls.length
  | i, m :: ms => ∃ n, RepOk ls i m n ∧ i + n ≤ ls.length ∧ Reps ls (i + n) ms
theorem RepOk.lt {ls : List Int} {i : Nat} {m : Mk} {n : Nat} (h : RepOk ls i m n) : m.further < 2 ^ m.size ∧ m.sym < 19 ∧ 1 ≤ n := by
  rcases h with ⟨a, b, c, d, _⟩ | ⟨a, b, c, d, _⟩ | ⟨a, b, c, d, _⟩ | ⟨a, b, c, d, _⟩
  · rw [b, c]; exact ⟨by decide, by omega, by omega⟩
  · rw [b]; exact ⟨by omega, by omega, by omega⟩
  · rw [b]; exact ⟨by omega, by omega, by omega⟩
  · rw [b]; exact ⟨by omega, by omega, by omega⟩
theorem take_rep (ls : List Int) (i n : Nat) (v : Int) (h : i + n ≤ ls.length) (hv : ∀ k, k < n → at0 ls (i + k) = v) : ls.take i ++ List.replicate n v = ls.take (i + n) := by
  induction n with
  | zero => simp
  | succ n ih =>
    rw [List.replicate_succ', ← List.append_assoc, ih (by omega) (fun k hk => hv k (by omega)), ← Nat.add_assoc, List.take_succ_eq_append_getElem (by omega)]
    have := hv n (by omega)
    unfold at0 at this
    rw [List.getD_eq_getElem?_getD, List.getElem?_eq_getElem (by omega)] at this
    simp at this
    rw [this]
theorem rep_read {ls : List Int} {i : Nat} {m : Mk} {n : Nat} (h : RepOk ls i m n) (hi : i + n ≤ ls.length) {t : Bt} (ht : t.ok) {W L : Nat} (hu : (t.put m.further m.size).of W L) :
    ∃ v, rep m.sym (ls.take i) W L t.p = .ok ((v, n), t.p + m.size) ∧ ls.take i ++ List.replicate n v = ls.take (i + n) := by
  have hl : (ls.take i).length = i := by simp; omega
  rcases h with ⟨a, b, c, d, e⟩ | ⟨a, b, c, d, e, f⟩ | ⟨a, b, c, d, e⟩ | ⟨a, b, c, d, e⟩
  · refine ⟨(m.sym : Int), ?_, take_rep ls i n _ hi (fun k hk => ?_)⟩
    · unfold rep
      rw [if_neg (by omega), if_neg (by omega), if_neg (by omega), d, b]
      rfl
    · have : k = 0 := by omega
      subst this
      exact e
  · refine ⟨at0 ls (i - 1), ?_, take_rep ls i n _ hi f⟩
    have r := Bt.tkn ht hu
    rw [b] at r
    unfold rep
    rw [if_pos a, then_ok r, hl, if_neg (by omega), b]
    have : at0 (ls.take i) (i - 1) = at0 ls (i - 1) := by
      unfold at0
      simp only [List.getD_eq_getElem?_getD]
      rw [List.getElem?_take_of_lt (by omega)]
    rw [this, d]
    rfl
  · refine ⟨0, ?_, take_rep ls i n _ hi e⟩
    have r := Bt.tkn ht hu
    rw [b] at r
    unfold rep
    rw [if_neg (by omega), if_pos a, then_ok r, b, d]
    rfl
  · refine ⟨0, ?_, take_rep ls i n _ hi e⟩
    have r := Bt.tkn ht hu
    rw [b] at r
    unfold rep
    rw [if_neg (by omega), if_neg (by omega), if_pos a, then_ok r, b, d]
    rfl
def putMarks (cl : List Int) : List Mk → Bt → Bt
  | [], t => t
  | m :: ms, t => putMarks cl ms (putM t cl m)
theorem putMarks_ok {cl ls : List Int} : ∀ (ms : List Mk) (i : Nat), Reps ls i ms → ∀ {t : Bt}, t.ok → (putMarks cl ms t).ok ∧ t.le (putMarks cl ms t) := by
  intro ms
  induction ms with
  | nil => intro i _ t ht; exact ⟨ht, Bt.le_refl ht⟩
  | cons m ms ih =>
    intro i ⟨n, h1, h2, h3⟩ t ht
    have k := putM_ok ht cl h1.lt.1
    obtain ⟨a1, a2⟩ := ih _ h3 k
    exact ⟨a1, (putM_le ht cl m).trans a2⟩
theorem lens_read {cl ls : List Int} (hc : Cok cl) (h19 : cl.length = 19) : ∀ (ms : List Mk) (i f : Nat), Reps ls i ms → i ≤ ls.length → (∀ m ∈ ms, 1 ≤ at0 cl m.sym) → ls.length + 1 ≤ f + i → ∀ {t : Bt}, t.ok → ∀ {W L : Nat}, (putMarks cl ms t).of W L →
    lens cl ls.length f (ls.take i) W L t.p = .ok (ls, (putMarks cl ms t).p) := by
  intro ms
  induction ms with
  | nil =>
    intro i f h hi _ hf t ht W L hu
    have h : i = ls.length := h
    obtain ⟨g, rfl⟩ : ∃ g, f = g + 1 := ⟨f - 1, by omega⟩
    subst h
    simp only [lens]
    rw [List.take_length, if_pos (Nat.le_refl _)]
    rfl
  | cons m ms ih =>
    intro i f ⟨n, h1, h2, h3⟩ hi hz hf t ht W L hu
    obtain ⟨l1, l2, l3⟩ := h1.lt
    obtain ⟨g, rfl⟩ : ∃ g, f = g + 1 := ⟨f - 1, by omega⟩
    have hl : (ls.take i).length = i := by simp; omega
    have k := putM_ok ht cl l1
    obtain ⟨a1, a2⟩ := putMarks_ok (cl := cl) ms _ h3 k
    have u1 := a2.of hu
    have r1 := tk_read ht hc (by rw [h19]; exact l2) (hz m (by simp)) ((Bt.put_le (putW_ok ht _ _)).of u1)
    obtain ⟨v, r2, r3⟩ := rep_read h1 h2 (putW_ok ht cl m.sym) u1
    simp only [lens]
    rw [hl, if_neg (by omega), then_ok r1]
    have r2' : rep m.sym (ls.take i) W L (t.p + wn cl m.sym) = .ok ((v, n), (putM t cl m).p) := r2
    rw [then_ok r2', if_neg (by omega), r3]
    exact ih (i + n) g h3 h2 (fun m hm => hz m (by simp [hm])) (by omega) k hu
structure Own (ll dl cl : List Int) (xs : List Nat) (ms : List Mk) : Prop where
  l1 : 257 ≤ ll.length
  l2 : ll.length ≤ 286
  d1 : 1 ≤ dl.length
  d2 : dl.length ≤ 30
  x1 : 4 ≤ xs.length
  x2 : xs.length ≤ 19
  x8 : ∀ x ∈ xs, x < 8
  set : sets xs 0 zero19 = cl
  c19 : cl.length = 19
  cok : Cok cl
  lok : Cok ll
  dok : Cok dl
  fin : 1 ≤ at0 ll 256
  reps : Reps (ll ++ dl) 0 ms
  word : ∀ m ∈ ms, 1 ≤ at0 cl m.sym
def putCodes (ll dl cl : List Int) (xs : List Nat) (ms : List Mk) (t : Bt) : Bt :=
  putMarks cl ms (putTold xs (((t.put (ll.length - 257) 5).put (dl.length - 1) 5).put (xs.length - 4) 4))
theorem putCodes_ok {ll dl cl : List Int} {xs : List Nat} {ms : List Mk} (h : Own ll dl cl xs ms) {t : Bt} (ht : t.ok) : (putCodes ll dl cl xs ms t).ok ∧ t.le (putCodes ll dl cl xs ms t) := by
  have k1 : (t.put (ll.length - 257) 5).ok := Bt.put_ok ht (by have := h.l2; omega)
  have k2 : ((t.put (ll.length - 257) 5).put (dl.length - 1) 5).ok := Bt.put_ok k1 (by have := h.d2; omega)
  have k3 : (((t.put (ll.length - 257) 5).put (dl.length - 1) 5).put (xs.length - 4) 4).ok := Bt.put_ok k2 (by have := h.x2; omega)
  obtain ⟨a1, a2, _⟩ := putTold_ok h.x8 k3
  obtain ⟨b1, b2⟩ := putMarks_ok (cl := cl) ms 0 h.reps a1
  exact ⟨b1, (Bt.put_le ht).trans ((Bt.put_le k1).trans ((Bt.put_le k2).trans (a2.trans b2)))⟩
theorem own_read {ll dl cl : List Int} {xs : List Nat} {ms : List Mk} (h : Own ll dl cl xs ms) {t : Bt} (ht : t.ok) {W L : Nat} (hu : (putCodes ll dl cl xs ms t).of W L) : own W L t.p = .ok ((ll, dl), (putCodes ll dl cl xs ms t).p) := by
  have k1 : (t.put (ll.length - 257) 5).ok := Bt.put_ok ht (by have := h.l2; omega)
  have k2 : ((t.put (ll.length - 257) 5).put (dl.length - 1) 5).ok := Bt.put_ok k1 (by have := h.d2; omega)
  have k3 : (((t.put (ll.length - 257) 5).put (dl.length - 1) 5).put (xs.length - 4) 4).ok := Bt.put_ok k2 (by have := h.x2; omega)
  obtain ⟨a1, a2, _⟩ := putTold_ok h.x8 k3
  obtain ⟨b1, b2⟩ := putMarks_ok (cl := cl) ms 0 h.reps a1
  have u4 := b2.of hu
  have u3 := a2.of u4
  have u2 := (Bt.put_le k2).of u3
  have u1 := (Bt.put_le k1).of u2
  have r1 := Bt.tkn ht u1
  have r2 := Bt.tkn k1 u2
  have r3 := Bt.tkn k2 u3
  refine (then_ok r1).trans ((then_ok r2).trans ((then_ok r3).trans ?_))
  have q1 := h.l1
  have q2 := h.l2
  have q3 := h.d1
  have q4 := h.d2
  have q5 := h.x1
  unfold ownB
  rw [if_neg (by omega)]
  have r4 := told_read h.x8 k3 u4 0 zero19
  rw [h.set] at r4
  rw [show 4 + (xs.length - 4) = xs.length by omega]
  have r4' : told xs.length 0 zero19 W L (((t.put (ll.length - 257) 5).put (dl.length - 1) 5).p + 4) = .ok (cl, (putTold xs (((t.put (ll.length - 257) 5).put (dl.length - 1) 5).put (xs.length - 4) 4)).p) := r4
  rw [then_ok r4', if_pos h.cok.code]
  have el : 257 + (ll.length - 257) + (1 + (dl.length - 1)) = (ll ++ dl).length := by rw [List.length_append]; omega
  have r5 := lens_read h.cok h.c19 ms 0 ((ll ++ dl).length + 1) h.reps (Nat.zero_le _) h.word (by omega) a1 hu
  rw [List.take_zero] at r5
  rw [el, then_ok r5, show 257 + (ll.length - 257) = ll.length by omega, List.take_left, List.drop_left]
  have e256 : at0 (ll ++ dl) 256 = at0 ll 256 := by
    unfold at0
    simp only [List.getD_eq_getElem?_getD]
    rw [List.getElem?_append_left (by omega)]
  rw [if_pos ⟨h.lok.code, h.dok.code, by rw [e256]; have := h.fin; omega⟩]
  rfl
def putOwn (t : Bt) (last : Bool) (ll dl cl : List Int) (xs : List Nat) (ms : List Mk) (ps : List Pc) : Bt := putP ll dl ps (putCodes ll dl cl xs ms (putHead t last 2))
theorem own_leads {t : Bt} (ht : t.ok) (last : Bool) {ll dl cl : List Int} {xs : List Nat} {ms : List Mk} (h : Own ll dl cl xs ms) {ps : List Pc} {out : List Nat} (hm : mays ps out) (htold : ∀ p ∈ ps, p.told ll dl) :
    (putOwn t last ll dl cl xs ms ps).ok ∧ t.le (putOwn t last ll dl cl xs ms ps) ∧ Leads (putOwn t last ll dl cl xs ms ps) ⟨t.p, false, out, .ahead⟩ ⟨(putOwn t last ll dl cl xs ms ps).p, last, plays ps out, .ahead⟩ := by
  have k1 := putHead_ok ht last (kind := 2) (by decide)
  obtain ⟨c1, c2⟩ := putCodes_ok h k1
  obtain ⟨k2, k3⟩ := puts_ok (ll := ll) (dl := dl) ps c1 hm
  have hle : (putCodes ll dl cl xs ms (putHead t last 2)).le (putOwn t last ll dl cl xs ms ps) := k3.trans (putW_le k2 _ _)
  refine ⟨putW_ok k2 _ _, (putHead_le ht last 2).trans (c2.trans hle), ?_⟩
  refine Leads.trans (head_leads (kind := 2) (pl := .coded ll dl) (q := (putCodes ll dl cl xs ms (putHead t last 2)).p) ht last out (c2.trans hle) (fun W L hu => ?_)) ?_ (plays_len _ _)
  · have r := own_read h k1 (hle.of hu)
    rw [putHead_p] at r
    show andThen own (fun c => ret (Pl.coded c.1 c.2)) W L (t.p + 3) = _
    rw [then_ok r]
    rfl
  · exact putP_leads h.lok h.dok last ps c1 hm htold h.fin (by have := h.l1; omega)
end Go.Proofs.YtdpmpllbdoefdaaGreatDoor
namespace Go.Proofs.YtdpmpllbdoefdaaGreatDoor
open Go.RowKit
structure Pn (T : TypeId) (w : World) (B o : Nat) (cs : Array Value) (g : Option Nat) (t : Bt) : Prop where
  wt : Wt T w B o cs g t
  wr : cs[o + 4]? = some (.int .i64 (t.p : Int))
structure Cs3 (o : Nat) (cs cs' : Array Value) : Prop where
  size : cs'.size = cs.size
  keep : ∀ i, i ≠ o + 2 → i ≠ o + 2 + 1 → i ≠ o + 4 → cs'[i]? = cs[i]?
theorem Cs3.refl (o : Nat) (cs : Array Value) : Cs3 o cs cs := ⟨rfl, fun _ _ _ _ => rfl⟩
theorem Cs3.trans {o : Nat} {a b c : Array Value} (h : Cs3 o a b) (k : Cs3 o b c) : Cs3 o a c := ⟨k.size.trans h.size, fun i h1 h2 h3 => (k.keep i h1 h2 h3).trans (h.keep i h1 h2 h3)⟩
structure PGo (T : TypeId) (w w' : World) (B o : Nat) (cs cs' : Array Value) (g g' : Option Nat) (t' : Bt) : Prop where
  pn : Pn T w' B o cs' g' t'
  cs : Cs3 o cs cs'
  fr : Fr (fun i => i = B ∨ g = some i) w w'
  own : g' = g ∨ ∃ k, g' = some k ∧ w.heap.size ≤ k
theorem PGo.trans {T : TypeId} {w w1 w2 : World} {B o : Nat} {cs cs1 cs2 : Array Value} {g g1 g2 : Option Nat} {t1 t2 : Bt} (h : PGo T w w1 B o cs cs1 g g1 t1) (k : PGo T w1 w2 B o cs1 cs2 g1 g2 t2) : PGo T w w2 B o cs cs2 g g2 t2 :=
  ⟨k.pn, h.cs.trans k.cs, fr_trans h.fr h.own k.fr, own_trans h.fr h.own k.own⟩
theorem PGo.start {T : TypeId} {w w1 : World} {B o : Nat} {cs : Array Value} {g : Option Nat} {t : Bt} (h : Pn T w B o cs g t) (f : Fr (fun _ => False) w w1) : PGo T w w1 B o cs cs g g t :=
  ⟨⟨h.wt.keep f (fun e => e) (fun _ _ e => e), h.wr⟩, Cs3.refl _ _, f.mono fun _ _ e => e.elim, Or.inl rfl⟩
theorem PGo.then {T : TypeId} {w w1 w2 : World} {B o : Nat} {cs cs1 : Array Value} {g g1 : Option Nat} {t1 : Bt} (h : PGo T w w1 B o cs cs1 g g1 t1) (f : Fr (fun _ => False) w1 w2) : PGo T w w2 B o cs cs1 g g1 t1 := h.trans (PGo.start h.pn f)
theorem pen_set {T : TypeId} {w w1 : World} {B o : Nat} {cs cs1 : Array Value} {g g1 : Option Nat} {t1 : Bt} {v : Value} (h : Go2 T w w1 B o cs cs1 g g1 t1) (hv : cs1[o + 4]? = some v) :
    PGo T w (w1.setCell ⟨B, o + 4, none⟩ (.int .i64 (t1.p : Int))) B o cs (cs1.setIfInBounds (o + 4) (.int .i64 (t1.p : Int))) g g1 t1 := by
  obtain ⟨os, ⟨⟨ov, h1, h2, h3, h4, h5⟩, h6⟩, h7, h8⟩ := h.wt.ex
  have f : Fr (fun i => i = B) w1 (w1.setCell ⟨B, o + 4, none⟩ (.int .i64 (t1.p : Int))) := (Fr.of_setCell w1 ⟨B, o + 4, none⟩ _).mono fun _ _ e => e
  refine ⟨⟨⟨os, ⟨⟨ov, heap_setCell_own _ h1, ?_, ?_, ?_, h5⟩, h6⟩, h7, h8⟩, get_set _ hv⟩, ?_, ?_, h.own⟩
  · rw [Array.getElem?_setIfInBounds_ne (by omega)]; exact h2
  · rw [Array.getElem?_setIfInBounds_ne (by omega)]; exact h3
  · exact ownsRow_fr h4 fun k hk => f.block k (h4.lt k hk).2 (fun e => h6 k (h5 ▸ hk) e)
  · exact ⟨by simp [h.cs.size], fun i i1 i2 i3 => by rw [Array.getElem?_setIfInBounds_ne (Ne.symm i3)]; exact h.cs.keep i i1 i2⟩
  · exact (h.fr.trans f).mono fun i _ e => e.elim id Or.inl
set_option maxHeartbeats 400000 in
set_option maxRecDepth 100000 in
theorem pput_c (T : TypeId) (B o : Nat) (cs : Array Value) (g : Option Nat) (t : Bt) (n : Nat) (x : Int) (w : World) (h : Pn T w B o cs g t) (hp : t.p ≤ 2147480000) (hn : n ≤ 24) :
    Calls Tryz.prog 101 #[.pointer (some ⟨B, o, none⟩), .int .i64 x, .int .i64 n] w fun e w' => e = .returned (.tuple #[]) ∧ ∃ cs' g', PGo T w w' B o cs cs' g g' (t.put (lowBits (numOf x) 0 n) n) := by
  have H := hide h
  have hpi : (t.p : Int) ≤ 2147480000 := by omega
  have hni : (n : Int) ≤ 24 := by omega
  clear h
  go_enter Tryz.func101, Tryz.ntmps101
  go_wp2_with fail
  refine (low_put_t T B o cs g t n x w H.out.wt hp hn).mono ?_
  rintro e w1 ⟨rfl, cs1, g1, hG⟩
  have e4 : cs1[o + 4]? = some (.int .i64 (t.p : Int)) := (hG.cs.keep (o + 4) (by omega) (by omega)).trans H.out.wr
  have hb := hG.wt.blk.1
  have c4 := cell_of (o := o + 4) hb e4
  have f4 := frozen_of (o := o + 4) hb
  have HG := hide hG
  have He := hide e4
  clear hG e4 hb
  go_wp2
  go_end0
  have := pen_set HG.out He.out
  have e : ((t.put (lowBits (numOf x) 0 n) n).p : Int) = (t.p : Int) + (n : Int) := by show ((t.p + n : Nat) : Int) = _; omega
  rw [e] at this
  exact ⟨rfl, _, _, this⟩
abbrev codeV (a : Option Addr) (n c C : Nat) : Value := .agg #[.slice a n c, .pointer (some ⟨C, 0, none⟩)]
abbrev mkV (m : Mk) : Value := .agg #[.int .i64 (m.sym : Int), .int .i64 (m.further : Int), .int .i64 (m.size : Int)]
theorem mark_mid {T : TypeId} {B o A sy fu sz L : Nat} {cs cs4 : Array Value} {ls : List Int} {g g4 : Option Nat} {t : Bt} {w w3 w4 : World} (hL : L = wn ls sy) (h : Pn T w B o cs g t) (hs3 : A + 1 < w3.heap.size) (hB : (∀ k, g = some k → k < A) ∧ B < A)
    (hB2 : w3.heap[A + 1]? = some (.cells #[.int .i64 (sy : Int), .int .i64 (fu : Int), .int .i64 (sz : Int)] 158 (0, 0))) (hP : PGo T w w3.drew B o cs cs g g t) (hG4 : Go2 T w3.drew w4 B o cs cs4 g g4 (putW t ls sy)) :
    w4.cell? ⟨B, o + 4, none⟩ = some (.int .i64 (t.p : Int)) ∧ w4.frozen? ⟨B, o + 4, none⟩ = false ∧ w4.cell? ⟨A + 1, 1, none⟩ = some (.int .i64 (fu : Int)) ∧ w4.cell? ⟨A + 1, 2, none⟩ = some (.int .i64 (sz : Int)) ∧
    (w4.setCell ⟨B, o + 4, none⟩ (.int .i64 ((t.p : Int) + (L : Int)))).cell? ⟨A + 1, 1, none⟩ = some (.int .i64 (fu : Int)) ∧ (w4.setCell ⟨B, o + 4, none⟩ (.int .i64 ((t.p : Int) + (L : Int)))).cell? ⟨A + 1, 2, none⟩ = some (.int .i64 (sz : Int)) ∧
    ∃ cs6, Hid (PGo T w (w4.setCell ⟨B, o + 4, none⟩ (.int .i64 ((t.p : Int) + (L : Int)))) B o cs cs6 g g4 (putW t ls sy)) := by
  have hnB : ¬ (A + 1 = B ∨ g = some (A + 1)) := by
    obtain ⟨b1, b2⟩ := hB
    rintro (e | e)
    · omega
    · have := b1 _ e; omega
  have hB4 := (hG4.fr.block (A + 1) hs3 hnB).trans (((Fr.of_drewN w3 1).block (A + 1) hs3 (fun e => e)).trans hB2)
  have q1 := cell_of (o := 1) hB4 rfl
  have q2 := cell_of (o := 2) hB4 rfl
  have e4 : cs4[o + 4]? = some (.int .i64 (t.p : Int)) := (hG4.cs.keep (o + 4) (by omega) (by omega)).trans h.wr
  have hb4 := hG4.wt.blk.1
  have hne : ¬ A + 1 = B := fun e => hnB (Or.inl e)
  have hps := pen_set hG4 e4
  have ep : ((putW t ls sy).p : Int) = (t.p : Int) + (L : Int) := by show ((t.p + wn ls sy : Nat) : Int) = _; rw [← hL]; omega
  rw [ep] at hps
  exact ⟨cell_of (o := o + 4) hb4 e4, frozen_of (o := o + 4) hb4, q1, q2, by rw [cell_blk (Below.heap_setCell _ _ _ _ hne)]; exact q1, by rw [cell_blk (Below.heap_setCell _ _ _ _ hne)]; exact q2, _, hP.trans hps⟩
theorem mark_keep {T : TypeId} {B o A sy fu sz C n c : Nat} {a : Option Addr} {cs cs4 : Array Value} {g g4 : Option Nat} {t4 : Bt} {w3 w4 : World} (hB : (∀ k, g = some k → k < A) ∧ B < A) (hs : A < w3.heap.size)
    (hB1 : w3.heap[A]? = some (.cells #[.slice a n c, .pointer (some ⟨C, 0, none⟩)] 125 (0, 0))) (hB2 : w3.heap[A + 1]? = some (.cells #[.int .i64 (sy : Int), .int .i64 (fu : Int), .int .i64 (sz : Int)] 158 (0, 0))) (hG4 : Go2 T w3.drew w4 B o cs cs4 g g4 t4) :
    w4.cell? ⟨A, 1, none⟩ = some (.pointer (some ⟨C, 0, none⟩)) ∧ w4.cell? ⟨A + 1, 0, none⟩ = some (.int .i64 (sy : Int)) := by
  obtain ⟨b1, b2⟩ := hB
  have k1 := (hG4.fr.block A hs (by rintro (e | e); omega; have := b1 _ e; omega)).trans hB1
  have k2 := (hG4.fr.block (A + 1) (lt_of hB2) (by rintro (e | e); omega; have := b1 _ e; omega)).trans hB2
  exact ⟨cell_of (o := 1) k1 rfl, cell_of (o := 0) k2 rfl⟩
set_option maxHeartbeats 800000 in
set_option maxRecDepth 100000 in
theorem putMark_c (T : TypeId) (lo hi C B o : Nat) (cs : Array Value) (ls : List Int) (g : Option Nat) (t : Bt) (m : Mk) (a : Option Addr) (n c : Nat) (w : World) (hC : Cd w lo hi C ls) (h : Pn T w B o cs g t) (hp : t.p ≤ 2147460000) (hm : m.sym < ls.length) (hz : 1 ≤ at0 ls m.sym) (hs : m.size ≤ 13) (hf : m.further < 2 ^ m.size) :
    Calls Tryz.prog 102 #[.pointer (some ⟨B, o, none⟩), codeV a n c C, mkV m] w fun e w' => e = .returned (.tuple #[]) ∧ ∃ cs' g', PGo T w w' B o cs cs' g g' (putM t ls m) := by
  obtain ⟨sy, fu, sz⟩ := m
  simp only at hm hz hs hf
  have H := hide h
  have HC := hide hC
  obtain ⟨L, hL⟩ : ∃ L : Nat, L = wn ls sy := ⟨_, rfl⟩
  have hLa : at0 ls sy = (L : Int) := by rw [hL]; unfold wn; omega
  have hL15 : L ≤ 15 := by have := (hC.egood.2 sy hm).2; omega
  have HL := hide hL
  have Hz := hide hz
  have Hfu := hide hf
  obtain ⟨w2, hw2⟩ : ∃ w2, w2 = (w.alloc (.cells #[.slice a n c, .pointer (some ⟨C, 0, none⟩)] 125)).alloc (.cells #[.int .i64 (sy : Int), .int .i64 (fu : Int), .int .i64 (sz : Int)] 158) := ⟨_, rfl⟩
  have hF2 : Fr (fun _ => False) w w2 := by rw [hw2]; exact (Fr.of_alloc _ _).join (Fr.of_alloc _ _)
  have hA1 : w2.heap[w.heap.size]? = some (.cells #[.slice a n c, .pointer (some ⟨C, 0, none⟩)] 125 (0, 0)) := by
    rw [hw2]
    exact ((Fr.of_alloc (w.alloc _) _).block w.heap.size (by simp) (fun e => e)).trans (heap_alloc_at rfl)
  have hA2 : w2.heap[w.heap.size + 1]? = some (.cells #[.int .i64 (sy : Int), .int .i64 (fu : Int), .int .i64 (sz : Int)] 158 (0, 0)) := by
    rw [hw2]
    exact heap_alloc_at (by simp)
  have HF2 := hide hF2
  have HA1 := hide hA1
  have HA2 := hide hA2
  have Hw2 := hide hw2
  have HC2 := hide (hC.keep hF2 (fun _ _ _ e => e))
  have hs1 : w.heap.size + 1 < w2.heap.size := lt_of hA2
  have hBw := h.wt.lts
  have HBw := hide hBw
  clear h hC hL hz hf hF2 hA1 hA2 hw2 hBw
  go_enter Tryz.func102, Tryz.ntmps102
  go_wp2_with fail
  rw [← Hw2.out]
  refine (word_yes lo hi C sy L ls w2 HC2.out hm hLa (by have := Hz.out; omega)).mono ?_
  rintro e w3 ⟨rfl, hF3⟩
  have HF3 := hide (HF2.out.join hF3)
  have HC3 := hide (HC2.out.keep hF3 (fun _ _ _ e => e))
  have hB1 := (hF3.block w.heap.size (by omega) (fun e => e)).trans HA1.out
  have hB2 := (hF3.block (w.heap.size + 1) hs1 (fun e => e)).trans HA2.out
  have k1 := cell_of (o := 1) hB1 rfl
  have k2 := cell_of (o := 0) hB2 rfl
  have HB2 := hide hB2
  have HB1 := hide hB1
  have hs3 : w.heap.size + 1 < w3.heap.size := lt_of hB2
  have HP3 := hide (PGo.start H.out HF3.out)
  have Hp3 : Hid (t.p ≤ 2147470000) := by show _ ≤ _; omega
  clear hF3 hB1 hB2
  have hpi : (t.p : Int) ≤ 2147460000 := by omega
  have hLi : (L : Int) ≤ 15 := by omega
  have k1d : (w3.drew).cell? ⟨w.heap.size, 1, none⟩ = some (.pointer (some ⟨C, 0, none⟩)) := k1
  have k2d : (w3.drew).cell? ⟨w.heap.size + 1, 0, none⟩ = some (.int .i64 (sy : Int)) := k2
  have HCd : Hid (Cd w3.drew lo hi C ls) := HC3.out.keep (Fr.of_drewN w3 1) (fun _ _ _ e => e)
  have HPd : Hid (PGo T w w3.drew B o cs cs g g t) := HP3.out.then (Fr.of_drewN w3 1)
  go_wp2
  refine wp_region_held_drew (S := fun W' => W'.cell? ⟨w.heap.size, 1, none⟩ = some (.pointer (some ⟨C, 0, none⟩)) ∧ W'.cell? ⟨w.heap.size + 1, 0, none⟩ = some (.int .i64 (sy : Int))) (by kernel_rfl) ⟨k1d, k2d⟩ (fun hHeld => ?_)
  refine wpAnyH_take (i := 0) (v := ?v0) rfl (by kernel_rfl) (by kernel_rfl) (by kernel_rfl) (fun _ _ _ h => h) (Or.inl ⟨by rfl, ?hy0⟩) hHeld ?rest0
  case hy0 => (intro W hSw; (try dsimp only at hSw); obtain ⟨hSa, hSb⟩ := hSw; go_simp; all_goals (with_reducible rfl))
  change wpAnyH _ _ _ _ _ _ _ (Act.put _ (some 18) _) _
  simp only [Act.put, List.setIfInBounds_toArray, List.set_cons_zero, List.set_cons_succ]
  refine wpAnyH_take (i := 2) (v := ?v2) rfl (by kernel_rfl) (by kernel_rfl) (by kernel_rfl) (fun _ _ _ h => h) (Or.inl ⟨by rfl, ?hy2⟩) hHeld ?rest2
  case hy2 => (intro W hSw; (try dsimp only at hSw); obtain ⟨hSa, hSb⟩ := hSw; go_simp; all_goals (with_reducible rfl))
  change wpAnyH _ _ _ _ _ _ _ (Act.put _ (some 20) _) _
  simp only [Act.put, List.setIfInBounds_toArray, List.set_cons_zero, List.set_cons_succ]
  refine wpAnyH_take (i := 5) (v := ?v5) rfl (by kernel_rfl) (by kernel_rfl) (by kernel_rfl) (fun _ _ _ h => h) (Or.inl ⟨by rfl, ?hy5⟩) hHeld ?rest5
  case hy5 => (intro W hSw; (try dsimp only at hSw); obtain ⟨hSa, hSb⟩ := hSw; go_simp; all_goals (with_reducible rfl))
  change wpAnyH _ _ _ _ _ _ _ (Act.put _ (some 23) _) _
  simp only [Act.put, List.setIfInBounds_toArray, List.set_cons_zero, List.set_cons_succ]
  refine wpAnyH_take (i := 1) (v := ?v1) rfl (by kernel_rfl) (by kernel_rfl) (by kernel_rfl) (fun _ _ _ h => h) (Or.inl ⟨by rfl, ?hy1⟩) hHeld ?rest1
  case hy1 => (intro W hSw; (try dsimp only at hSw); obtain ⟨hSa, hSb⟩ := hSw; go_simp; all_goals (with_reducible rfl))
  change wpAnyH _ _ _ _ _ _ _ (Act.put _ (some 19) _) _
  simp only [Act.put, List.setIfInBounds_toArray, List.set_cons_zero, List.set_cons_succ]
  refine wpAnyH_take (i := 3) (v := ?v3) rfl (by kernel_rfl) (by kernel_rfl) (by kernel_rfl) (fun _ _ _ h => h) (Or.inl ⟨by rfl, ?hy3⟩) hHeld ?rest3
  case hy3 => (intro W hSw; (try dsimp only at hSw); obtain ⟨hSa, hSb⟩ := hSw; go_simp; all_goals (with_reducible rfl))
  change wpAnyH _ _ _ _ _ _ _ (Act.put _ (some 21) _) _
  simp only [Act.put, List.setIfInBounds_toArray, List.set_cons_zero, List.set_cons_succ]
  refine wpAnyH_take (i := 6) (v := ?v6) rfl (by kernel_rfl) (by kernel_rfl) (by kernel_rfl) (fun _ _ _ h => h) (Or.inl ⟨by rfl, ?hy6⟩) hHeld ?rest6
  case hy6 => (intro W hSw; (try dsimp only at hSw); obtain ⟨hSa, hSb⟩ := hSw; go_simp; all_goals (with_reducible rfl))
  change wpAnyH _ _ _ _ _ _ _ (Act.put _ (some 24) _) _
  simp only [Act.put, List.setIfInBounds_toArray, List.set_cons_zero, List.set_cons_succ]
  refine wpAnyH_take (i := 4) (v := ?v4) rfl (by kernel_rfl) (by kernel_rfl) (by kernel_rfl) (fun _ _ _ h => h) (Or.inl ⟨by rfl, ?hy4⟩) hHeld ?rest4
  case hy4 => (intro W hSw; (try dsimp only at hSw); obtain ⟨hSa, hSb⟩ := hSw; go_simp; all_goals (with_reducible rfl))
  change wpAnyH _ _ _ _ _ _ _ (Act.put _ (some 22) _) _
  simp only [Act.put, List.setIfInBounds_toArray, List.set_cons_zero, List.set_cons_succ]
  refine wpAnyH_ready (rs := [7]) (by kernel_rfl) (by simp) ?_
  refine AllReadyH.cons rfl (fun K hK => ?_) AllReadyH.nil
  try simp only [List.getElem_toArray, List.getElem_cons_succ, List.getElem_cons_zero]
  go_simp
  refine (hput_t T lo hi C B o sy cs ls g t _ HCd.out HPd.out.pn.wt Hp3.out hm Hz.out).mono ?_
  rintro e w4 ⟨rfl, cs4, g4, hG4⟩
  obtain ⟨c4, f4, q1, q2, q1b, q2b, HPS⟩ := mark_mid (L := L) HL.out H.out hs3 HBw.out HB2.out HPd.out hG4
  have hS4 := mark_keep HBw.out (by omega) HB1.out HB2.out hG4
  clear hG4
  refine hK.out _ _ hS4 (fun hHeld => ?_)
  clear hK K
  refine wpAnyH_done (by kernel_rfl) ?_ _
  have Hpp : Hid ((putW t ls sy).p ≤ 2147480000) := by show t.p + wn ls sy ≤ _; rw [← HL.out]; omega
  go_wp2_with fail
  obtain ⟨cs6, HPS⟩ := HPS
  refine (pput_c T B o cs6 g4 (putW t ls sy) sz (fu : Int) _ HPS.out.pn Hpp.out (by omega)).mono ?_
  rintro e w5 ⟨rfl, cs5, g5, hG5⟩
  have hfin := HPS.out.trans hG5
  rw [num_nat fu 0 sz (by have := Hfu.out; have h2 : (2:Nat) ^ sz ≤ 2 ^ 13 := Nat.pow_le_pow_right (by decide) hs; omega), Nat.pow_zero, Nat.div_one, Nat.mod_eq_of_lt Hfu.out] at hfin
  go_wp2
  go_end0
  exact ⟨rfl, cs5, g5, hfin⟩
end Go.Proofs.YtdpmpllbdoefdaaGreatDoor
namespace Go.Proofs.YtdpmpllbdoefdaaGreatDoor
open Go.RowKit
def Far (a : Option Addr) (w : World) (B : Nat) (g : Option Nat) : Prop := ∀ ad, a = some ad → ad.block ≠ B ∧ g ≠ some ad.block ∧ ad.block < w.heap.size
theorem Far.go {a : Option Addr} {T : TypeId} {w w' : World} {B o : Nat} {cs cs' : Array Value} {g g' : Option Nat} {t' : Bt} (h : Far a w B g) (k : PGo T w w' B o cs cs' g g' t') : Far a w' B g' := by
  intro ad e
  obtain ⟨h1, h2, h3⟩ := h ad e
  refine ⟨h1, ?_, Nat.lt_of_lt_of_le h3 k.fr.size⟩
  rcases k.own with rfl | ⟨j, rfl, hj⟩
  · exact h2
  · intro e
    have := Option.some.inj e
    omega
theorem lies_frS {w w' : World} {S : Nat → Prop} {sv : Value} {bs : List Nat} (h : Lies w sv bs) (hF : Fr S w w') (hn : ∀ ad n c, sv = .slice (some ad) n c → ad.block < w.heap.size → ¬ S ad.block) : Lies w' sv bs := by
  rcases h with h | ⟨ad, c, rfl, h2⟩
  · exact Or.inl h
  · refine Or.inr ⟨ad, c, rfl, fun j u hu => ?_⟩
    have h3 := h2 j u hu
    have hb : (ad.add j).block = ad.block := by unfold Addr.add; split <;> rfl
    rw [cell_blk (hF.block _ (cell_lt h3) (by rw [hb]; exact hn ad _ _ rfl (by rw [← hb]; exact cell_lt h3)))]
    exact h3
theorem lies_go {a : Option Addr} {n c : Nat} {bs : List Nat} {T : TypeId} {w w' : World} {B o : Nat} {cs cs' : Array Value} {g g' : Option Nat} {t' : Bt} (h : Lies w (.slice a n c) bs) (hf : Far a w B g) (k : PGo T w w' B o cs cs' g g' t') : Lies w' (.slice a n c) bs :=
  lies_frS h k.fr fun ad _ _ e _ hS => by
    cases e
    obtain ⟨h1, h2, _⟩ := hf ad rfl
    rcases hS with e | e
    · exact h1 e
    · exact h2 e
theorem pad_bits (q : Nat) : bits .and .i64 (-(q : Int)) 7 = (padTo q : Int) := by
  have := mask_i64 (-(q : Int)) 3 (by decide)
  rw [show (2:Int) ^ 3 - 1 = 7 from rfl, show (2:Int) ^ 3 = 8 from rfl] at this
  rw [this]
  unfold padTo
  omega
set_option maxHeartbeats 400000 in
set_option maxRecDepth 100000 in
theorem toByte_c (T : TypeId) (B o : Nat) (cs : Array Value) (g : Option Nat) (t : Bt) (m : Nat) (w : World) (h : Pn T w B o cs g t) (hp : t.p ≤ 2147480000) (hm : m ≤ 24) :
    Calls Tryz.prog 78 #[.pointer (some ⟨B, o, none⟩), .int .i64 (m : Int)] w fun e w' => e = .returned (.int .i64 (padTo (t.p + m) : Nat)) ∧ w = w' := by
  have c4 := cell_of (o := o + 4) h.wt.blk.1 h.wr
  have hpb := pad_bits (t.p + m)
  have e : -(((t.p + m : Nat)) : Int) = -((t.p : Int) + (m : Int)) := by omega
  rw [e] at hpb
  have hpi : (t.p : Int) ≤ 2147480000 := by omega
  have hmi : (m : Int) ≤ 24 := by omega
  clear h e
  go_enter Tryz.func78, Tryz.ntmps78
  go_wp2
  go_ret
  exact ⟨rfl, rfl⟩
set_option maxHeartbeats 400000 in
set_option maxRecDepth 100000 in
theorem putHead_c (T : TypeId) (B o : Nat) (cs : Array Value) (g : Option Nat) (t : Bt) (last : Bool) (kind : Nat) (w : World) (h : Pn T w B o cs g t) (hp : t.p ≤ 2147470000) (hk : kind < 4) :
    Calls Tryz.prog 79 #[.pointer (some ⟨B, o, none⟩), .bool last, .int .i64 (kind : Int)] w fun e w' => e = .returned (.tuple #[]) ∧ ∃ cs' g', PGo T w w' B o cs cs' g g' (putHead t last kind) := by
  have H := hide h
  clear h
  cases last
  · go_enter Tryz.func79, Tryz.ntmps79
    go_wp2_with fail
    refine (pput_c T B o cs g t 1 0 w H.out (by omega) (by omega)).mono ?_
    rintro e w1 ⟨rfl, cs1, g1, hG⟩
    have HG := hide hG
    have Hp : Hid ((t.put (lowBits (numOf 0) 0 1) 1).p ≤ 2147480000) := by show t.p + 1 ≤ _; omega
    clear hG
    go_wp2_with fail
    refine (pput_c T B o cs1 g1 _ 2 (kind : Int) w1 HG.out.pn Hp.out (by omega)).mono ?_
    rintro e w2 ⟨rfl, cs2, g2, hG2⟩
    have hfin := HG.out.trans hG2
    rw [num_nat kind 0 2 (by omega), Nat.pow_zero, Nat.div_one, Nat.mod_eq_of_lt (show kind < 2 ^ 2 from hk)] at hfin
    go_wp2
    go_end0
    exact ⟨rfl, cs2, g2, hfin⟩
  · go_enter Tryz.func79, Tryz.ntmps79
    go_wp2_with fail
    refine (pput_c T B o cs g t 1 1 w H.out (by omega) (by omega)).mono ?_
    rintro e w1 ⟨rfl, cs1, g1, hG⟩
    have HG := hide hG
    have Hp : Hid ((t.put (lowBits (numOf 1) 0 1) 1).p ≤ 2147480000) := by show t.p + 1 ≤ _; omega
    clear hG
    go_wp2_with fail
    refine (pput_c T B o cs1 g1 _ 2 (kind : Int) w1 HG.out.pn Hp.out (by omega)).mono ?_
    rintro e w2 ⟨rfl, cs2, g2, hG2⟩
    have hfin := HG.out.trans hG2
    rw [num_nat kind 0 2 (by omega), Nat.pow_zero, Nat.div_one, Nat.mod_eq_of_lt (show kind < 2 ^ 2 from hk)] at hfin
    go_wp2
    go_end0
    exact ⟨rfl, cs2, g2, hfin⟩
theorem not_i64 (m : Nat) (h : m < 9223372036854775808) : bits .xor .i64 (if IntKind.i64.signed = true then -1 else 9223372036854775807) (m : Int) = -(m : Int) - 1 := by
  rw [if_pos (show IntKind.i64.signed = true from rfl)]
  have e0 : BitVec.ofInt 64 (-1) = BitVec.allOnes 64 := by decide
  have e1 : (BitVec.ofInt 64 (m : Int)).toNat = m := by rw [BitVec.toNat_ofInt]; omega
  have e2 : (BitVec.ofInt 64 (-1) ^^^ BitVec.ofInt 64 (m : Int)).toNat = 18446744073709551615 - m := by
    rw [e0, BitVec.allOnes_xor, BitVec.toNat_not, e1]
  show IntKind.i64.wrap (((BitVec.ofInt 64 (-1) ^^^ BitVec.ofInt 64 (m : Int)).toNat : Nat) : Int) = _
  rw [e2]
  simp [IntKind.wrap, IntKind.bits, IntKind.signed]
  omega
theorem num_not (m : Nat) (h : m ≤ 65535) : lowBits (numOf (-(m : Int) - 1)) 0 16 = 65535 - m := by
  unfold lowBits numOf
  have : ((-(m : Int) - 1) % 18446744073709551616).toNat = 18446744073709551615 - m := by omega
  rw [this]
  omega
theorem num_zero (n : Nat) : lowBits (numOf 0) 0 n = 0 := by
  rw [show (0 : Int) = ((0 : Nat) : Int) from rfl, num_nat 0 0 n (by decide)]
  simp
theorem lies_at {w : World} {a : Option Addr} {n c : Nat} {bs : List Nat} (h : Lies w (.slice a n c) bs) (hn : n = bs.length) {i : Nat} (hi : i < n) : ∃ ad, a = some ad ∧ w.cell? (ad.add i) = some (.int .u8 ((bs.getD i 0 : Nat) : Int)) := by
  rcases h with ⟨h1, rfl⟩ | ⟨ad, c', h1, h2⟩
  · simp at hn; omega
  · cases h1
    refine ⟨ad, rfl, h2 i _ ?_⟩
    have : i < bs.length := by omega
    simp [cellsOf, List.getElem?_map, List.getElem?_eq_getElem this]
theorem getD_lt {bs : List Nat} (h : ∀ b ∈ bs, b < 256) (i : Nat) : bs.getD i 0 < 256 := by
  rw [List.getD_eq_getElem?_getD]
  cases hk : bs[i]? with
  | none => simp
  | some x => exact h x (List.mem_of_getElem? hk)
theorem take_getD (bs : List Nat) (i : Nat) (h : i < bs.length) : bs.take (i + 1) = bs.take i ++ [bs.getD i 0] := by
  rw [List.take_succ_eq_append_getElem h]
  simp [List.getElem?_eq_getElem h]
def putRaw (t : Bt) (raw : List Nat) : Bt := putBytes raw (((t.put 0 (padTo t.p)).put raw.length 16).put (65535 - raw.length) 16)
set_option maxHeartbeats 1600000 in
set_option maxRecDepth 100000 in
theorem putRaw_c (T : TypeId) (B o : Nat) (cs : Array Value) (g : Option Nat) (t : Bt) (a : Option Addr) (n c : Nat) (raw : List Nat) (w : World) (h : Pn T w B o cs g t) (hp : t.p ≤ 2000000000) (hl : Lies w (.slice a n c) raw) (hn : n = raw.length) (hr : n ≤ 65535) (hb : ∀ b ∈ raw, b < 256) (hf : Far a w B g) :
    Calls Tryz.prog 80 #[.pointer (some ⟨B, o, none⟩), .slice a n c] w fun e w' => e = .returned (.tuple #[]) ∧ ∃ cs' g', PGo T w w' B o cs cs' g g' (putRaw t raw) := by
  have H := hide h
  have HL := hide hl
  have HF := hide hf
  have Hb := hide hb
  have Hn := hide hn
  have hni : (n : Int) ≤ 65535 := by omega
  obtain ⟨pd, hpd⟩ : ∃ pd, pd = padTo t.p := ⟨_, rfl⟩
  have hpd8 : pd ≤ 7 := by rw [hpd]; unfold padTo; omega
  have Hpd := hide hpd
  have hnot := not_i64 n (by omega)
  clear h hl hf hb hn hpd
  go_enter Tryz.func80, Tryz.ntmps80
  go_wp2_with fail
  refine (toByte_c T B o cs g t 0 w H.out (by omega) (by omega)).mono ?_
  rintro e w0 ⟨rfl, rfl⟩
  rw [Nat.add_zero, ← Hpd.out]
  go_wp2_with fail
  refine (pput_c T B o cs g t pd 0 w H.out (by omega) (by omega)).mono ?_
  rintro e w1 ⟨rfl, cs1, g1, hG1⟩
  rw [num_zero] at hG1
  have HG1 := hide hG1
  have Hp1 : Hid ((t.put 0 pd).p ≤ 2147480000) := by show t.p + pd ≤ _; omega
  clear hG1
  go_wp2_with fail
  refine (pput_c T B o cs1 g1 _ 16 (n : Int) w1 HG1.out.pn Hp1.out (by omega)).mono ?_
  rintro e w2 ⟨rfl, cs2, g2, hG2⟩
  rw [num_nat n 0 16 (by omega), Nat.pow_zero, Nat.div_one, Nat.mod_eq_of_lt (show n < 2 ^ 16 by omega)] at hG2
  have HG2 := hide (HG1.out.trans hG2)
  have Hp2 : Hid (((t.put 0 pd).put n 16).p ≤ 2147480000) := by show t.p + pd + 16 ≤ _; omega
  clear hG2
  go_wp2_with fail
  refine (pput_c T B o cs2 g2 _ 16 (-(n : Int) - 1) w2 HG2.out.pn Hp2.out (by omega)).mono ?_
  rintro e w3 ⟨rfl, cs3, g3, hG3⟩
  rw [num_not n hr] at hG3
  have HG3 := hide (HG2.out.trans hG3)
  obtain ⟨t3, ht3⟩ : ∃ t3, t3 = ((t.put 0 pd).put n 16).put (65535 - n) 16 := ⟨_, rfl⟩
  have hp3 : t3.p ≤ 2000000100 := by rw [ht3]; show t.p + pd + 16 + 16 ≤ _; omega
  rw [← ht3] at HG3
  have Ht3 := hide ht3
  clear hG3 ht3
  go_wp2_with fail
  go_loopw [5, 21] (fun _ ti wr => ∃ (i : Nat) (cs' : Array Value) (g' : Option Nat), ti = .int .i64 i ∧ i ≤ n ∧ PGo T w wr B o cs cs' g g' (putBytes (raw.take i) t3)) (fun _ ti _ => n - (intOf ti).toNat)
  case atStart => exact ⟨0, cs3, g3, rfl, by omega, by simpa [putBytes] using HG3.out⟩
  case round =>
    obtain ⟨i, cs4, g4, rfl, hi, hG⟩ := hrel
    by_cases hlt : i < n
    · have hlti : (i : Int) < (n : Int) := by omega
      have hl4 := lies_go HL.out HF.out hG
      obtain ⟨ad, rfl, hc⟩ := lies_at hl4 Hn.out hlt
      obtain ⟨s, hs⟩ : ∃ s, s = raw.getD i 0 := ⟨_, rfl⟩
      have hs256 : s < 256 := by rw [hs]; exact getD_lt Hb.out i
      rw [← hs] at hc
      have Hs := hide hs
      have HG := hide hG
      have hlr : (raw.take i).length = i := by have := Hn.out; simp; omega
      have hpp := (putBytes_ok (bs := raw.take i) (fun b hb => Hb.out b (List.mem_of_mem_take hb)) (t := t3) (by
        rw [Ht3.out]
        refine Bt.put_ok (Bt.put_ok (Bt.put_ok H.out.wt.ok (pow_pos2 _)) ?_) ?_
        · show n < 2 ^ 16; omega
        · show 65535 - n < 2 ^ 16; omega)).2.2
      have Hpp : Hid ((putBytes (raw.take i) t3).p ≤ 2147480000) := by show _ ≤ _; rw [hpp, hlr]; omega
      clear hs hG hl4 hpp
      go_wp2_with fail
      refine (pput_c T B o cs4 g4 _ 8 (s : Int) wr HG.out.pn Hpp.out (by omega)).mono ?_
      rintro e w5 ⟨rfl, cs5, g5, hG5⟩
      rw [num_nat s 0 8 (by omega), Nat.pow_zero, Nat.div_one, Nat.mod_eq_of_lt (show s < 2 ^ 8 by omega)] at hG5
      have hfin := HG.out.trans hG5
      have Hfin := hide hfin
      clear hG5 hfin
      go_wp2_with fail
      go_roundw
      case rel =>
        refine ⟨i + 1, cs5, g5, by go_num, by omega, ?_⟩
        rw [take_getD raw i (by have := Hn.out; omega), ← Hs.out, putBytes_snoc]
        exact Hfin.out
      case measure => simp [intOf]; omega
    · obtain rfl : i = n := by omega
      go_wp2
      go_end0
      refine ⟨rfl, cs4, g4, ?_⟩
      have e : raw.take i = raw := by rw [Hn.out, List.take_length]
      rw [e] at hG
      unfold putRaw
      rw [← Hn.out, ← Hpd.out, ← Ht3.out]
      exact hG
end Go.Proofs.YtdpmpllbdoefdaaGreatDoor
