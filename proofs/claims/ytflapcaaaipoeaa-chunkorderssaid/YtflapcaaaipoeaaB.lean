import Derived.Test.YtflapcaaaipoeaaA
import Derived.Laws.IdiomStrings
import Derived.ProofKit
namespace Go.Proofs.Ytflapcaaaipoeaa
open Go.RowKit

/-- From w to w' only the blocks of S have turned (and new ones have come). -/
structure Fr (S : Nat → Prop) (w w' : World) : Prop where
  os : w'.os = w.os
  tape : w'.tape = w.tape
  output : w'.output = w.output
  size : w.heap.size ≤ w'.heap.size
  block : ∀ k, k < w.heap.size → ¬ S k → w'.heap[k]? = w.heap[k]?

theorem Fr.refl (S : Nat → Prop) (w : World) : Fr S w w := ⟨rfl, rfl, rfl, Nat.le_refl _, fun _ _ _ => rfl⟩
theorem Fr.trans {S S' : Nat → Prop} {a b c : World} (h : Fr S a b) (k : Fr S' b c) : Fr (fun i => S i ∨ S' i) a c :=
  ⟨k.os.trans h.os, k.tape.trans h.tape, k.output.trans h.output, Nat.le_trans h.size k.size, fun i hi hs =>
    (k.block i (Nat.lt_of_lt_of_le hi h.size) (fun x => hs (Or.inr x))).trans (h.block i hi (fun x => hs (Or.inl x)))⟩
/-- S may be widened on old blocks. -/
theorem Fr.mono {S S' : Nat → Prop} {a b : World} (h : Fr S a b) (hs : ∀ k, k < a.heap.size → S k → S' k) : Fr S' a b :=
  ⟨h.os, h.tape, h.output, h.size, fun i hi hn => h.block i hi (fun x => hn (hs i hi x))⟩
theorem Fr.below {S : Nat → Prop} {a b : World} (h : Fr S a b) {B : Nat} (hB : B ≤ a.heap.size) (hs : ∀ k, S k → B ≤ k) : Below B a b :=
  ⟨h.os, h.tape, h.output, h.size, fun k hk => h.block k (by omega) (fun x => by have := hs k x; omega)⟩
theorem Fr.of_below {B : Nat} {a b : World} (h : Below B a b) : Fr (fun k => B ≤ k) a b :=
  ⟨h.os, h.tape, h.output, h.size, fun k _ hn => h.block k (by omega)⟩
theorem Fr.of_drewN (w : World) (k : Nat) : Fr (fun _ => False) w (w.drewN k) := ⟨rfl, rfl, rfl, Nat.le_refl _, fun _ _ _ => rfl⟩
theorem Fr.of_setCell (w : World) (a : Addr) (v : Value) : Fr (fun k => k = a.block) w (w.setCell a v) :=
  ⟨rfl, rfl, rfl, by simp [World.setCell], fun k _ hn => Below.heap_setCell _ _ _ _ hn⟩
theorem Fr.of_alloc (w : World) (o : Obj) : Fr (fun _ => False) w (w.alloc o) :=
  ⟨rfl, rfl, rfl, by simp, fun k hk _ => Below.heap_alloc _ _ _ hk⟩
theorem Fr.join {S : Nat → Prop} {a b c : World} (h : Fr S a b) (k : Fr S b c) : Fr S a c := (h.trans k).mono fun _ _ h => h.elim id id

theorem lt_of {w : World} {b : Nat} {o : Obj} (h : w.heap[b]? = some o) : b < w.heap.size := by
  rcases Nat.lt_or_ge b w.heap.size with hlt | hge
  · exact hlt
  · rw [Array.getElem?_eq_none hge] at h; cases h
theorem cell_fr {S : Nat → Prop} {w w' : World} (f : Fr S w w') {a : Addr} {v : Value} (h : w.cell? a = some v) (hS : ¬ S a.block) : w'.cell? a = some v := by
  have hb := World.block_lt_of_cell? w a h
  simp only [World.cell?] at h ⊢
  rw [f.block a.block hb hS]; exact h
theorem add_none (b o i : Nat) : (⟨b, o, none⟩ : Addr).add i = ⟨b, o + i, none⟩ := by
  unfold Addr.add
  split
  · next h => subst h; rfl
  · rfl
theorem add_block (ad : Addr) (i : Nat) : (ad.add i).block = ad.block := by
  unfold Addr.add
  split <;> rfl

theorem IsTab.keep {S : Nat → Prop} {w w' : World} {T : Nat} (h : IsTab w T) (f : Fr S w w') (hS : ¬ S T) : IsTab w' T :=
  fun i hi => cell_fr f (h i hi) hS
theorem IsTab.lt {w : World} {T : Nat} (h : IsTab w T) : T < w.heap.size := World.block_lt_of_cell? w _ (h 0 (by decide))
theorem Lies.keep {S : Nat → Prop} {w w' : World} {a : Option Addr} {bs : List Nat} (h : Lies w a bs) (f : Fr S w w') (hS : ∀ k, k < w.heap.size → ¬ S k) : Lies w' a bs := by
  refine ⟨h.1, fun j hj => ?_⟩
  obtain ⟨ad, e, hc⟩ := h.2 j hj
  exact ⟨ad, e, cell_fr f hc (hS _ (World.block_lt_of_cell? w _ hc))⟩
theorem Lies.nil (w : World) (a : Option Addr) : Lies w a [] := ⟨by simp, by simp⟩

/-- The bytes of a string. -/
def strBytes (s : ByteArray) : List Nat := s.data.toList.map UInt8.toNat
theorem strBytes_length (s : ByteArray) : (strBytes s).length = s.size := by simp [strBytes]
theorem strBytes_lt (s : ByteArray) : ∀ b ∈ strBytes s, b < 256 := by
  intro b hb
  simp only [strBytes, List.mem_map] at hb
  obtain ⟨x, _, rfl⟩ := hb
  exact x.toNat_lt

/-- A string as bytes: new memory. -/
theorem conv_c (w : World) (s : ByteArray) : ∃ cap w', (convert 9 22 (.string s)).run Try.prog w = .ok (.slice (some ⟨w.heap.size, 0, none⟩) (strBytes s).length cap) w' ∧ Fr (fun _ => False) w w' ∧ Lies w' (some ⟨w.heap.size, 0, none⟩) (strBytes s) := by
  refine ⟨_, _, by rw [strBytes_length]; exact run_bytes_of_string w 9 22 5 s Try.underlying9 Try.underlying22 Try.underlying5, (Fr.of_drewN w 1).join (Fr.of_alloc _ _), strBytes_lt s, fun j hj => ⟨_, rfl, ?_⟩⟩
  rw [strBytes_length] at hj
  rw [add_none]
  have hsz : j < s.data.size := hj
  have hn := heap_alloc_new (w.drewN 1) (.cells (bytesRow s (grownCap w s.size 0 5)) 5 ((bytesRow s (grownCap w s.size 0 5)).size, (bytesRow s (grownCap w s.size 0 5)).size + 1))
  have hn' : ((w.drewN 1).alloc (.cells (bytesRow s (grownCap w s.size 0 5)) 5 ((bytesRow s (grownCap w s.size 0 5)).size, (bytesRow s (grownCap w s.size 0 5)).size + 1))).heap[w.heap.size]? = some (.cells (bytesRow s (grownCap w s.size 0 5)) 5 ((bytesRow s (grownCap w s.size 0 5)).size, (bytesRow s (grownCap w s.size 0 5)).size + 1)) := hn
  have hr : (bytesRow s (grownCap w s.size 0 5))[0 + j]? = some (.int .u8 (((strBytes s).getD j 0 : Nat) : Int)) := by
    rw [Nat.zero_add]
    unfold bytesRow
    rw [Array.getElem?_append_left (by simpa using hsz)]
    simp only [strBytes, List.getD_eq_getElem?_getD, Array.getElem?_map, List.getElem?_map, Array.getElem?_toList]
    rw [Array.getElem?_eq_getElem hsz]
    rfl
  show World.cell? _ _ = _
  unfold World.cell?
  simp only []
  rw [hn']
  exact hr

theorem more_0 (T : Nat) (a : Option Addr) (c : Nat) (bs : List Nat) (w : World) (ht : IsTab w T) (hl : Lies w a bs) (hlen : bs.length ≤ 2147483648) :
    Calls Try.prog 40 #[.pointer (some ⟨T, 0, none⟩), .int .u32 0, .slice a bs.length c] w fun e w' => e = .returned (.int .u32 ((crc 0#32 bs).toNat : Int)) ∧ w = w' := more_c T 0#32 a c bs w ht hl hlen
theorem refMore_0 (a : Option Addr) (c : Nat) (bs : List Nat) (w : World) (hl : Lies w a bs) (hlen : bs.length ≤ 2147483648) :
    Calls Try.prog 39 #[.int .u32 0, .slice a bs.length c] w fun e w' => e = .returned (.int .u32 ((crc 0#32 bs).toNat : Int)) ∧ w = w' := refMore_c 0#32 a c bs w hl hlen

set_option maxHeartbeats 400000 in
theorem chunk_c (T : Nat) (kind : ByteArray) (a : Option Addr) (c : Nat) (bs : List Nat) (w : World) (ht : IsTab w T) (hk : (strBytes kind).length ≤ 2147483648) (hl : Lies w a bs) (hlen : bs.length ≤ 2147483648) :
    Calls Try.prog 29 #[.pointer (some ⟨T, 0, none⟩), .string kind, .slice a bs.length c] w fun e w' => e = .returned (.int .u32 ((crc 0#32 (strBytes kind ++ bs)).toNat : Int)) ∧ Fr (fun _ => False) w w' := by
  obtain ⟨cap, w1, hcv, hf, hl1⟩ := conv_c w kind
  have Hf := hide hf
  have Ht := hide (ht.keep hf (fun h => h))
  have Hl := hide (hl.keep hf (fun _ _ h => h))
  have Hl1 := hide hl1
  clear hf ht hl hl1
  go_enter Try.func29, Try.ntmps29
  go_wp2_with fail
  refine (more_0 T _ cap (strBytes kind) w1 Ht.out Hl1.out hk).mono ?_
  rintro e w' ⟨rfl, rfl⟩
  go_wp2_with fail
  refine (more_c T _ a c bs w1 Ht.out Hl.out hlen).mono ?_
  rintro e w' ⟨rfl, rfl⟩
  go_wp2
  go_ret
  exact ⟨ret_int (by rw [crc_append]), Hf.out⟩

set_option maxHeartbeats 400000 in
theorem chunkSum_c (kind : ByteArray) (a : Option Addr) (c : Nat) (bs : List Nat) (w : World) (hk : (strBytes kind).length ≤ 2147483648) (hl : Lies w a bs) (hlen : bs.length ≤ 2147483648) :
    Calls Try.prog 25 #[.string kind, .slice a bs.length c] w fun e w' => e = .returned (.int .u32 ((crc 0#32 (strBytes kind ++ bs)).toNat : Int)) ∧ Fr (fun _ => False) w w' := by
  obtain ⟨cap, w1, hcv, hf, hl1⟩ := conv_c w kind
  have Hf := hide hf
  have Hl := hide (hl.keep hf (fun _ _ h => h))
  have Hl1 := hide hl1
  clear hf hl hl1
  go_enter Try.func25, Try.ntmps25
  go_wp2_with fail
  refine (refMore_0 _ cap (strBytes kind) w1 Hl1.out hk).mono ?_
  rintro e w' ⟨rfl, rfl⟩
  go_wp2_with fail
  refine (refMore_c _ a c bs w1 Hl.out hlen).mono ?_
  rintro e w' ⟨rfl, rfl⟩
  go_wp2
  go_ret
  exact ⟨ret_int (by rw [crc_append]), Hf.out⟩
end Go.Proofs.Ytflapcaaaipoeaa
