/-
  Frames; a reader of bits as an object.
-/
import Derived.Test.YtdbgolklgiadeaaBd
namespace Go.Proofs.Ytdbgolklgiadeaa
open Go.RowKit

/-- From w to w' only the blocks of S have turned (and new ones have come). -/
structure Fr (S : Nat → Prop) (w w' : World) : Prop where
  os : w'.os = w.os
  tape : w'.tape = w.tape
  output : w'.output = w.output
  size : w.heap.size ≤ w'.heap.size
  block : ∀ k, k < w.heap.size → ¬ S k → w'.heap[k]? = w.heap[k]?

theorem Fr.refl (S : Nat → Prop) (w : World) : Fr S w w := ⟨rfl, rfl, rfl, Nat.le_refl _, fun _ _ _ => rfl⟩

theorem Fr.trans {S S' : Nat → Prop} {a b c : World} (h : Fr S a b) (k : Fr S' b c) : Fr (fun i => S i ∨ S' i) a c :=
  ⟨k.os.trans h.os, k.tape.trans h.tape, k.output.trans h.output, Nat.le_trans h.size k.size, fun i hi hs =>
    (k.block i (Nat.lt_of_lt_of_le hi h.size) (fun x => hs (Or.inr x))).trans (h.block i hi (fun x => hs (Or.inl x)))⟩

/-- S may be widened on old blocks. -/
theorem Fr.mono {S S' : Nat → Prop} {a b : World} (h : Fr S a b) (hs : ∀ k, k < a.heap.size → S k → S' k) : Fr S' a b :=
  ⟨h.os, h.tape, h.output, h.size, fun i hi hn => h.block i hi (fun x => hn (hs i hi x))⟩

theorem Fr.below {S : Nat → Prop} {a b : World} (h : Fr S a b) {B : Nat} (hB : B ≤ a.heap.size) (hs : ∀ k, S k → B ≤ k) : Below B a b :=
  ⟨h.os, h.tape, h.output, h.size, fun k hk => h.block k (by omega) (fun x => by have := hs k x; omega)⟩

theorem Fr.of_below {B : Nat} {a b : World} (h : Below B a b) : Fr (fun k => B ≤ k) a b :=
  ⟨h.os, h.tape, h.output, h.size, fun k _ hn => h.block k (by omega)⟩

theorem Fr.of_drewN (w : World) (k : Nat) : Fr (fun _ => False) w (w.drewN k) := ⟨rfl, rfl, rfl, Nat.le_refl _, fun _ _ _ => rfl⟩

theorem Fr.of_setCell (w : World) (a : Addr) (v : Value) : Fr (fun k => k = a.block) w (w.setCell a v) :=
  ⟨rfl, rfl, rfl, by simp [World.setCell], fun k _ hn => Below.heap_setCell _ _ _ _ hn⟩

theorem Fr.of_alloc (w : World) (o : Obj) : Fr (fun _ => False) w (w.alloc o) :=
  ⟨rfl, rfl, rfl, by simp, fun k hk _ => Below.heap_alloc _ _ _ hk⟩

theorem Fr.of_moved {B p : Nat} {w w' : World} (h : Moved B p w w') : Fr (fun k => k = B) w w' := by
  obtain ⟨k, rfl⟩ := h.eq
  exact (((Fr.of_setCell w ⟨B, 1, none⟩ (.int .i64 p))).trans (Fr.of_drewN _ k)).mono (fun i _ hi => by simpa using hi)

/-- A reader (Low: T = 84) that lies in the blocks from lo on, below hi: what it reads, where it stands, what it has written. -/
structure Rd (T : TypeId) (w : World) (lo hi B : Nat) (bs : List Nat) (pos : Nat) (ov : Value) (wr : Int) : Prop where
  elo : lo ≤ B
  ehi : B < hi
  esz : hi ≤ w.heap.size
  epos : pos ≤ 8 * bs.length
  ebytes : ∀ b ∈ bs, b < 256
  elen : bs.length ≤ 2147483648
  eobj : ∃ v, w.heap[B]? = some (.cells #[v, .int .i64 pos, ov, .int .i64 wr] T (0, 0)) ∧ w.ownsRow lo 5 1 v bs.length (cellsOf bs) ∧ ∀ k, v.ownBlock = some k → k ≠ B ∧ k < hi

theorem ownsRow_fr {w w' : World} {lo : Nat} {e : TypeId} {size : Nat} {v : Value} {n : Nat} {xs : List Value} (h : w.ownsRow lo e size v n xs) (hs : ∀ k, v.ownBlock = some k → w'.heap[k]? = w.heap[k]?) : w'.ownsRow lo e size v n xs := by
  obtain ⟨h1, h2⟩ := h
  refine ⟨h1, ?_⟩
  rcases h2 with h2 | ⟨g, cap, cur, hv, hg, hh, r⟩
  · exact Or.inl h2
  · exact Or.inr ⟨g, cap, cur, hv, hg, by rw [hs g (by rw [hv]; rfl)]; exact hh, r⟩

theorem Rd.keep {T : TypeId} {w w' : World} {lo hi B : Nat} {bs : List Nat} {pos : Nat} {ov : Value} {wr : Int} (h : Rd T w lo hi B bs pos ov wr) {S : Nat → Prop} (f : Fr S w w') (hS : ∀ k, lo ≤ k → k < hi → ¬ S k) : Rd T w' lo hi B bs pos ov wr := by
  obtain ⟨v, h1, h2, h3⟩ := h.eobj
  have hsz := h.esz
  have hlo := h.elo
  have hhi := h.ehi
  refine ⟨h.elo, h.ehi, Nat.le_trans h.esz f.size, h.epos, h.ebytes, h.elen, v, ?_, ?_, h3⟩
  · rw [f.block B (by omega) (hS B h.elo h.ehi)]; exact h1
  · refine ownsRow_fr h2 fun k hk => f.block k (by have := (h3 k hk).2; omega) (hS k ?_ (h3 k hk).2)
    exact (h2.lt k hk).1

theorem add_none (b o i : Nat) : (⟨b, o, none⟩ : Addr).add i = ⟨b, o + i, none⟩ := by
  unfold Addr.add
  split
  · next h => subst h; rfl
  · rfl

/-- What Take's contracts want of a reader. -/
theorem Rd.facts {T : TypeId} {w : World} {lo hi B : Nat} {bs : List Nat} {pos : Nat} {ov : Value} {wr : Int} (h : Rd T w lo hi B bs pos ov wr) :
    ∃ a c, w.cell? ⟨B, 0, none⟩ = some (.slice a bs.length c) ∧ w.cell? ⟨B, 1, none⟩ = some (.int .i64 pos) ∧ w.frozen? ⟨B, 1, none⟩ = false ∧ Bytes w B a bs := by
  obtain ⟨v, h1, h2, h3⟩ := h.eobj
  have hf : w.frozen? ⟨B, 1, none⟩ = false := by simp [World.frozen?, h1]
  have hc1 : w.cell? ⟨B, 1, none⟩ = some (.int .i64 pos) := by simp [World.cell?, h1]
  have hc0 : w.cell? ⟨B, 0, none⟩ = some v := by simp [World.cell?, h1]
  rcases h2.2 with ⟨rfl, hn⟩ | ⟨g, cap, cur, rfl, hg, hh, hr, hm, hs, ht⟩
  · exact ⟨none, 0, by rw [hc0, hn], hc1, hf, Or.inl (List.eq_nil_of_length_eq_zero hn)⟩
  · refine ⟨some ⟨g, 0, none⟩, cap, hc0, hc1, hf, Or.inr ⟨g, 0, rfl, (h3 g rfl).1, fun i hi => ?_⟩⟩
    have := h2.cells (g := g) rfl i (.int .u8 ((bs.getD i 0 : Nat) : Int)) (by
      simp [cellsOf, List.getElem?_map, List.getElem?_eq_getElem hi])
    rw [add_none] at this; exact this

theorem Rd.moved {T : TypeId} {w w' : World} {lo hi B : Nat} {bs : List Nat} {pos p : Nat} {ov : Value} {wr : Int} (h : Rd T w lo hi B bs pos ov wr) (hm : Moved B p w w') (hp : p ≤ 8 * bs.length) : Rd T w' lo hi B bs p ov wr := by
  obtain ⟨v, h1, h2, h3⟩ := h.eobj
  have f := Fr.of_moved hm
  refine ⟨h.elo, h.ehi, Nat.le_trans h.esz f.size, hp, h.ebytes, h.elen, v, ?_, ?_, h3⟩
  · obtain ⟨k, rfl⟩ := hm.eq
    show (w.heap.modify B _)[B]? = _
    simp [Array.getElem?_modify, h1]
  · have hsz := h.esz
    exact ownsRow_fr h2 fun k hk => f.block k (by have := (h3 k hk).2; omega) (h3 k hk).1

set_option maxHeartbeats 400000 in
set_option maxRecDepth 100000 in
theorem newLow_c (sv : Value) (bs : List Nat) (w : World) (h : Lies w sv bs) (hlt : ∀ b ∈ bs, b < 256) (hlen : bs.length ≤ 2147483648) :
    Calls Try.prog 30 #[sv] w fun e w' => ∃ B, e = .returned (.pointer (some ⟨B, 0, none⟩)) ∧ Rd 84 w' w.heap.size w'.heap.size B bs 0 (.slice none 0 0) 0 ∧ Fr (fun _ => False) w w' := by
  have Hlt := hide hlt
  clear hlt
  go_enter Try.func30, Try.ntmps30
  go_wp2_with (go_at_call 33; refine (clone_c sv bs _ h hlen).mono ?_; rintro e w1 ⟨a, c, rfl, hown, hbel⟩)
  go_ret
  refine ⟨_, rfl, ⟨hbel.size, by simp, Nat.le_refl _, by simp, Hlt.out, hlen, _, heap_alloc_new _ _, hown.alloc _, fun k hk => ?_⟩, ?_⟩
  · have := (hown.lt k hk).2
    simp; omega
  · exact (((Fr.of_below hbel).trans (Fr.of_alloc _ _)).mono (fun k hk h => by simp at h; omega))

/-- Low.Take at an object. -/
theorem low_take (w : World) (lo hi B : Nat) (bs : List Nat) (pos n : Nat) (ov : Value) (wr : Int) (h : Rd 84 w lo hi B bs pos ov wr) (hn : n ≤ 24) (hle : pos + n ≤ 8 * bs.length) :
    Calls Try.prog 44 #[.pointer (some ⟨B, 0, none⟩), .int .i64 n] w fun e w' => e = .returned (.int .i64 (lowBits (leNum bs) pos n : Nat)) ∧ Rd 84 w' lo hi B bs (pos + n) ov wr ∧ Fr (fun k => k = B) w w' := by
  obtain ⟨a, c, f0, f1, f2, f3⟩ := h.facts
  exact (low_take_ok B c a bs pos n w f0 f1 f2 f3 h.ebytes h.elen hn hle).mono fun e w' ⟨he, hm⟩ => ⟨he, h.moved hm hle, Fr.of_moved hm⟩

theorem Rd.drewN {T : TypeId} {w : World} {lo hi B : Nat} {bs : List Nat} {pos : Nat} {ov : Value} {wr : Int} (h : Rd T w lo hi B bs pos ov wr) (k : Nat) : Rd T (w.drewN k) lo hi B bs pos ov wr :=
  h.keep (Fr.of_drewN w k) (fun _ _ _ h => h)

theorem low_take_no (w : World) (lo hi B : Nat) (bs : List Nat) (pos : Nat) (n : Int) (ov : Value) (wr : Int) (h : Rd 84 w lo hi B bs pos ov wr) (hbad : (n < 0 ∨ 24 < n) ∨ (8 * bs.length : Nat) < pos + n) :
    Calls Try.prog 44 #[.pointer (some ⟨B, 0, none⟩), .int .i64 n] w fun e w' => (∃ er, e = errPanic er) ∧ ∃ k, w.drewN k = w' := by
  obtain ⟨a, c, f0, f1, f2, f3⟩ := h.facts
  exact low_take_bad B c bs.length a pos n w f0 f1 h.elen h.epos hbad

theorem low_left (w : World) (lo hi B : Nat) (bs : List Nat) (pos : Nat) (ov : Value) (wr : Int) (h : Rd 84 w lo hi B bs pos ov wr) :
    Calls Try.prog 41 #[.pointer (some ⟨B, 0, none⟩)] w fun e w' => e = .returned (.int .i64 (8 * bs.length - pos)) ∧ ∃ k, w' = w.drewN k := by
  obtain ⟨a, c, f0, f1, f2, f3⟩ := h.facts
  have h1 := h.elen
  have h2 := h.epos
  exact low_left_c B bs.length c a pos w f0 f1 (by omega) (by omega) (by omega)

theorem cell_of {w : World} {b o : Nat} {cs : Array Value} {T : TypeId} {v : Value} (h : w.heap[b]? = some (.cells cs T (0, 0))) (hv : cs[o]? = some v) : w.cell? ⟨b, o, none⟩ = some v := by
  simp [World.cell?, h, hv]

theorem frozen_of {w : World} {b o : Nat} {cs : Array Value} {T : TypeId} (h : w.heap[b]? = some (.cells cs T (0, 0))) : w.frozen? ⟨b, o, none⟩ = false := by
  simp [World.frozen?, h]

theorem lt_of {w : World} {b : Nat} {o : Obj} (h : w.heap[b]? = some o) : b < w.heap.size := by
  rcases Nat.lt_or_ge b w.heap.size with hlt | hge
  · exact hlt
  · rw [Array.getElem?_eq_none hge] at h; cases h

theorem heap_setCell_own {w : World} {b o : Nat} {cs : Array Value} {T : TypeId} {fz : Nat × Nat} (v : Value) (h : w.heap[b]? = some (.cells cs T fz)) : (w.setCell ⟨b, o, none⟩ v).heap[b]? = some (.cells (cs.setIfInBounds o v) T fz) := by
  show (w.heap.modify b _)[b]? = _
  simp [Array.getElem?_modify, h]

theorem heap_setCell_one {w : World} {b : Nat} {u : Value} {T : TypeId} {fz : Nat × Nat} (v : Value) (h : w.heap[b]? = some (.cells #[u] T fz)) : (w.setCell ⟨b, 0, none⟩ v).heap[b]? = some (.cells #[v] T fz) := heap_setCell_own v h

theorem Fr.join {S : Nat → Prop} {a b c : World} (h : Fr S a b) (k : Fr S b c) : Fr S a c := (h.trans k).mono fun _ _ h => h.elim id id

theorem lies_lit (w : World) (bs : List Nat) (c : Nat) : Lies (w.alloc (.cells (cellsOf bs).toArray 5)) (.slice (some ⟨w.heap.size, 0, none⟩) bs.length c) bs := by
  refine Or.inr ⟨_, c, rfl, fun j u hu => ?_⟩
  rw [add_none]
  simpa using hu

theorem size_alloc (w : World) (o : Obj) : (w.alloc o).heap.size = w.heap.size + 1 := by simp

theorem heap_alloc_at {w : World} {o : Obj} {n : Nat} (h : n = w.heap.size) : (w.alloc o).heap[n]? = some o := by rw [h]; exact heap_alloc_new _ _
end Go.Proofs.Ytdbgolklgiadeaa
