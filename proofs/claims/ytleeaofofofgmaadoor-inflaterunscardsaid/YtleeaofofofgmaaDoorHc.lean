/-
  huff.New.
-/
import Derived.Test.YtleeaofofofgmaaDoorHb
namespace Go.Proofs.YtleeaofofofgmaaDoor
open Go.RowKit

theorem Sz.inc {w : World} {B n q : Nat} {wv rv : Value} {ls : List Int} {k : Nat} (h : Sz w B wv rv (fun i => rank ls i k)) (h2 : n < 16) (hz : at0 ls k = (n : Int)) :
    Sz ((w.setCell ⟨B, 1 + n, none⟩ (.int .i64 ((rank ls n k : Int) + 1))).drewN q) B wv rv (fun i => rank ls i (k + 1)) := by
  obtain ⟨cs, s1, s2, s3, s4, s5⟩ := h.eobj
  refine ⟨_, heap_setCell_own _ s1, by simpa using s2, ?_, ?_, fun i h1 h3 => ?_⟩
  · rw [Array.getElem?_setIfInBounds_ne (by omega)]; exact s3
  · rw [Array.getElem?_setIfInBounds_ne (by omega)]; exact s4
  · by_cases e : n = i
    · subst e
      rw [Array.getElem?_setIfInBounds_self_of_lt (by omega)]
      simp only [rank, if_pos hz]
      rfl
    · rw [Array.getElem?_setIfInBounds_ne (by omega), s5 i h1 h3]
      simp only [rank]
      rw [if_neg (by omega)]
      rfl

theorem Sz.pass {w : World} {B : Nat} {wv rv : Value} {ls : List Int} {k : Nat} (h : Sz w B wv rv (fun i => rank ls i k)) (hz : ¬ 0 < at0 ls k) : Sz w B wv rv (fun i => rank ls i (k + 1)) := by
  obtain ⟨cs, s1, s2, s3, s4, s5⟩ := h.eobj
  refine ⟨cs, s1, s2, s3, s4, fun i h1 h3 => ?_⟩
  rw [s5 i h1 h3]
  simp only [rank]
  rw [if_neg (by omega)]
  rfl

/-- What has turned blocks that are new has turned nothing. -/
theorem Fr.join_new {w a b : World} (f : Fr (fun _ => False) w a) (h : Fr (fun i => w.heap.size ≤ i) a b) : Fr (fun _ => False) w b :=
  (f.trans h).mono fun i hi h => by
    rcases h with h | h
    · exact h
    · omega

theorem ownsRow_base {w : World} {lo lo' : Nat} {e : TypeId} {size : Nat} {v : Value} {n : Nat} {xs : List Value} (h : w.ownsRow lo e size v n xs) (hl : lo' ≤ lo) : w.ownsRow lo' e size v n xs := by
  obtain ⟨h1, h2⟩ := h
  refine ⟨h1, ?_⟩
  rcases h2 with h2 | ⟨g, cap, cur, hv, hg, r⟩
  · exact Or.inl h2
  · exact Or.inr ⟨g, cap, cur, hv, Nat.le_trans hl hg, r⟩

/-- A code as an object: it lies in the blocks from lo on, below hi. -/
structure Cd (w : World) (lo hi B : Nat) (ls : List Int) : Prop where
  elo : lo ≤ B
  ehi : B < hi
  esz : hi ≤ w.heap.size
  egood : good ls
  eok : codeOk ls
  eobj : ∃ D rv, Sz w B (.slice (some ⟨D, 0, none⟩) ls.length ls.length) rv (cnt ls) ∧ w.ownsRow lo 3 1 rv (tot ls 15) (cellsI (rkd ls 15)) ∧ (∀ g, rv.ownBlock = some g → g < hi) ∧ lo ≤ D ∧ D < hi ∧ Wds w D ls 15 0

theorem Cd.keep {w w' : World} {lo hi B : Nat} {ls : List Int} (h : Cd w lo hi B ls) {S : Nat → Prop} (f : Fr S w w') (hS : ∀ k, lo ≤ k → k < hi → ¬ S k) : Cd w' lo hi B ls := by
  obtain ⟨D, rv, h1, h2, h3, h4, h5, ws, h6, h7⟩ := h.eobj
  have hsz := h.esz
  refine ⟨h.elo, h.ehi, Nat.le_trans h.esz f.size, h.egood, h.eok, D, rv, h1.keep f (hS B h.elo h.ehi), ?_, h3, h4, h5, ws, ?_, h7⟩
  · exact ownsRow_fr h2 fun k hk => f.block k (by have := h3 k hk; omega) (hS k (h2.lt k hk).1 (h3 k hk))
  · rw [f.block D (by omega) (hS D h4 h5)]; exact h6

set_option maxHeartbeats 400000 in
theorem new_arg (a : Option Addr) (c : Nat) (ls : List Int) (w : World) (hl : LiesI w a ls) (hlen : (ls.length : Int) ≤ 9223372036854775807) (hg : ¬ good ls) :
    Calls Tryd.prog 69 #[.slice a ls.length c] w fun e w' => e = .returned (.tuple #[.pointer none, .int .i64 1]) ∧ w = w' := by
  have Hl := hide hl
  have Hg := hide hg
  clear hl hg
  go_enter Tryd.func69, Tryd.ntmps69
  go_wp2_with (go_at_call 73; refine (mayLens_no a c ls _ Hl.out hlen Hg.out).mono ?_; rintro e w' ⟨rfl, rfl⟩)
  go_ret2
  exact ⟨rfl, rfl⟩

set_option maxHeartbeats 1600000 in
set_option maxRecDepth 100000 in
theorem new_sizes (a : Option Addr) (c : Nat) (ls : List Int) (w : World) (hl : LiesI w a ls) (hg : good ls) (Q : Ending → World → Prop)
    (hno : ¬ codeOk ls → ∀ w', Fr (fun _ => False) w w' → Q (.returned (.tuple #[.pointer none, .int .i64 4])) w')
    (hyes : codeOk ls → ∀ w' B, Cd w' w.heap.size w'.heap.size B ls → Fr (fun _ => False) w w' → Q (.returned (.tuple #[.pointer (some ⟨B, 0, none⟩), .int .i64 0])) w') :
    Calls Tryd.prog 69 #[.slice a ls.length c] w Q := by
  have h320 := hg.1
  have Hl := hide hl
  have Hg := hide hg
  have Hno := hide hno
  have Hyes := hide hyes
  clear hl hg hno hyes
  go_enter Tryd.func69, Tryd.ntmps69
  go_wp2_with (go_at_call 73; refine (mayLens_ok a c ls _ Hl.out Hg.out).mono ?_; rintro e w' ⟨rfl, rfl⟩)
  obtain ⟨B, hB⟩ : ∃ B, B = w.heap.size := ⟨_, rfl⟩
  have hst : ∀ cs : Array Value, cs = #[.slice none 0 0, .int .i64 0, .int .i64 0, .int .i64 0, .int .i64 0, .int .i64 0, .int .i64 0, .int .i64 0, .int .i64 0, .int .i64 0, .int .i64 0, .int .i64 0, .int .i64 0, .int .i64 0, .int .i64 0, .int .i64 0, .int .i64 0, .slice none 0 0] →
      Sz (w.alloc (.cells cs 98)) B (.slice none 0 0) (.slice none 0 0) (fun i => rank ls i 0) := by
    intro cs hcs
    subst hcs
    refine ⟨_, heap_alloc_at hB, rfl, rfl, rfl, fun i h1 h2 => ?_⟩
    simp only [rank]
    rcases (by omega : i = 1 ∨ i = 2 ∨ i = 3 ∨ i = 4 ∨ i = 5 ∨ i = 6 ∨ i = 7 ∨ i = 8 ∨ i = 9 ∨ i = 10 ∨ i = 11 ∨ i = 12 ∨ i = 13 ∨ i = 14 ∨ i = 15) with rfl | rfl | rfl | rfl | rfl | rfl | rfl | rfl | rfl | rfl | rfl | rfl | rfl | rfl | rfl <;> rfl
  have Hst := hide (hst _ rfl)
  rw [← hB]
  have HB := hide hB
  clear hst hB
  go_loopw [6, 14] (fun _ i wr => ∃ k : Nat, k ≤ ls.length ∧ i = .int .i64 (k : Int) ∧ Sz wr B (.slice none 0 0) (.slice none 0 0) (fun i => rank ls i k) ∧ Fr (fun _ => False) w wr) (fun _ i _ => ls.length - (intOf i).toNat)
  case atStart => exact ⟨0, Nat.zero_le _, rfl, Hst.out, Fr.of_alloc _ _⟩
  case round =>
    obtain ⟨k, hk, rfl, hS, hF⟩ := hrel
    have hL := Hl.out.keep hF (fun _ _ _ h => h)
    by_cases hlt : k < ls.length
    · obtain ⟨ad, rfl, hc⟩ := hL k hlt
      obtain ⟨h0, h15⟩ := Hg.out.2 k hlt
      by_cases hz : 0 < at0 ls k
      · obtain ⟨n, hn⟩ : ∃ n : Nat, at0 ls k = (n : Int) := ⟨(at0 ls k).toNat, by omega⟩
        have hq := hS.cell (i := n) (by omega) (by omega)
        have hf := hS.frozen (1 + n)
        have hr := rank_le ls n k
        rw [hn] at hc
        have HS := hide hS
        have Hn := hide hn
        have hn0 : (0 : Int) < (n : Int) := by omega
        have hn1 : n < 16 := by omega
        have hn2 : (n : Int) < 16 := by omega
        have HF := hide hF
        obtain ⟨r, hr0⟩ : ∃ r, r = rank ls n k := ⟨_, rfl⟩
        rw [← hr0] at hr hq
        have Hr := hide hr0
        clear hS hL hn hz h0 h15 hr0 hF
        go_wp2
        go_region
        all_goals
          go_wp2
          go_roundw
          case rel =>
            have hs := HS.out.inc (q := 1) hn1 Hn.out
            have hr := Hr.out
            rw [← hr] at hs
            exact ⟨k + 1, by omega, by go_num, hs, HF.out.join_new (((Fr.of_setCell wr ⟨B, 1 + n, none⟩ (.int .i64 ((r : Int) + 1))).trans (Fr.of_drewN _ 1)).mono fun i _ h => by have := HB.out; simp at h; omega)⟩
          case measure => simp [intOf]; omega
      · have HS2 := hide (hS.pass hz)
        have hz' : at0 ls k ≤ 0 := by omega
        clear hS hL
        go_wp2
        go_roundw
        case rel => exact ⟨k + 1, by omega, by go_num, HS2.out, hF⟩
        case measure => simp [intOf]; omega
    · have e : k = ls.length := by omega
      subst e
      have hS2 : Sz wr B (.slice none 0 0) (.slice none 0 0) (cnt ls) := hS
      have HS := hide hS2
      have HF := hide hF
      have HL := hide hL
      by_cases hok : codeOk ls
      · have Hok := hide hok
        clear hS hS2 hL hF hok
        go_wp2_with fail
        refine (mayBe_c B _ _ ls _ HS.out h320 true (by simp [Hok.out])).mono ?_
        rintro e w1 ⟨rfl, rfl⟩
        go_wp2_with fail
        refine (giveWords_c B a c ls _ HS.out HL.out (fun ad e hne hb => ?_) Hg.out).mono ?_
        · have hlen : 0 < ls.length := List.length_pos_iff.2 hne
          obtain ⟨ad', e', hc⟩ := Hl.out 0 hlen
          rw [e] at e'
          cases e'
          have := World.block_lt_of_cell? _ _ hc
          rw [add_block, hb, HB.out] at this
          omega
        · rintro e w2 ⟨rfl, D, hG⟩
          go_wp2
          obtain ⟨rv, g1, g2, g3⟩ := hG.sz
          have hwz := HF.out.size
          have hBw := HB.out
          have hlob := hG.lob
          have hlod := hG.lod
          obtain ⟨ws, w6, w7⟩ := hG.wds
          refine Hyes.out Hok.out w2 B ⟨by omega, Nat.lt_of_lt_of_le hG.lob hG.fr.size, Nat.le_refl _, Hg.out, Hok.out, D, rv, g1, ?_, fun g hg => (g2.lt g hg).2, by omega, lt_of w6, ws, w6, w7⟩ ?_
          · have g2' : w2.ownsRow wr.heap.size 3 1 rv (tot ls 15) (cellsI (rkd ls 15)) := by simpa [rank, syms] using g2
            exact ownsRow_base g2' (by omega)
          · exact (HF.out.trans hG.fr).mono fun i hi h => by
              rcases h with h | h
              · exact h
              · omega
      · have Hok := hide hok
        clear hS hS2 hL hF hok
        go_wp2_with fail
        refine (mayBe_c B _ _ ls _ HS.out h320 false (by simp [Hok.out])).mono ?_
        rintro e w1 ⟨rfl, rfl⟩
        go_wp2
        exact Hno.out Hok.out _ HF.out

theorem Wds.cells {w : World} {D : Nat} {ls : List Int} (h : Wds w D ls 15 0) (hg : good ls) {i : Nat} (hi : i < ls.length) :
    w.cell? ⟨D, i * 2, none⟩ = some (.int .i64 (if 0 < at0 ls i then (wd ls i : Nat) else 0)) ∧ w.cell? ⟨D, i * 2 + 1, none⟩ = some (.int .i64 (at0 ls i)) := by
  obtain ⟨ws, h1, h2, h3⟩ := h
  have hgi := hg.2 i hi
  obtain ⟨h4, h5⟩ := h3 i hi
  refine ⟨?_, ?_⟩
  · rw [cell_of h1 h4]
    simp only [wA, given_end hg hi]
    rfl
  · rw [cell_of h1 h5]
    simp only [sA, given_end hg hi]
    split
    · rfl
    · congr 2; omega

theorem ret_word {a b : Int} {s n : Int} {x y : Bool} (h1 : a = b) (h2 : s = n) (h3 : x = y) : Ending.returned (.tuple #[.int .i64 a, .int .i64 s, .bool x]) = .returned (.tuple #[.int .i64 b, .int .i64 n, .bool y]) := by rw [h1, h2, h3]
end Go.Proofs.YtleeaofofofgmaaDoor
