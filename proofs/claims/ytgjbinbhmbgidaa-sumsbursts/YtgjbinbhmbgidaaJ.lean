/-
  SumsBursts: data that are unlike only within 32 bits have unlike sums.
-/
import Derived.Test.YtgjbinbhmbgidaaG
namespace Go.Proofs.Ytgjbinbhmbgidaa
open Go.RowKit

/-- A row of bytes that lies alone in a block, from its beginning on. -/
def Row (w : World) (g : Nat) (l : List Nat) : Prop := ∃ cs : Array Value, w.heap[g]? = some (.cells cs 5 (0, 0)) ∧ l.length ≤ cs.size ∧ ∀ i, i < l.length → cs[i]? = some (.int .u8 ((l.getD i 0 : Nat) : Int))

theorem cell_below {w w' : World} {b o : Nat} {v : Value} {ob : Obj} (h : w.cell? ⟨b, o, none⟩ = some v) (hb : Below w.heap.size (w.alloc ob) w') : w'.cell? ⟨b, o, none⟩ = some v := by
  have hlt := World.block_lt_of_cell? w _ h
  rw [hb.cell hlt, World.cell?_alloc_lt _ _ _ hlt]
  exact h
theorem Row.of_own {w : World} {lo : Nat} {v : Value} {n : Nat} {bs : List Nat} (h : w.ownsRow lo 5 1 v n (cellsOf bs)) (hn : n = bs.length) (h0 : 0 < bs.length) : ∃ g c, v = .slice (some ⟨g, 0, none⟩) n c ∧ lo ≤ g ∧ n ≤ c ∧ Row w g bs := by
  rcases h.2 with ⟨_, e0⟩ | ⟨g, cap, cur, hv, hg, hh, hr, hm, hs, ht⟩
  · omega
  · refine ⟨g, cap, hv, hg, hr, cur, hh, by omega, fun i hi => ?_⟩
    have : (cellsOf bs)[i]? = cur[i]? := by
      rw [← ht, List.getElem?_take, if_pos (by omega), Array.getElem?_toList]
    rw [← this]
    simp [cellsOf, List.getElem?_eq_getElem hi]
theorem Row.cell {w : World} {g : Nat} {l : List Nat} (h : Row w g l) (j : Nat) (hj : j < l.length) : w.cell? ⟨g, j, none⟩ = some (.int .u8 ((l.getD j 0 : Nat) : Int)) ∧ w.frozen? ⟨g, j, none⟩ = false := by
  obtain ⟨cs, h1, h2, h3⟩ := h
  exact ⟨cell_of h1 (h3 j hj), frozen_of h1⟩
theorem Row.set {w : World} {g : Nat} {l : List Nat} (h : Row w g l) (j b : Nat) (hj : j < l.length) : Row (w.setCell ⟨g, j, none⟩ (.int .u8 (b : Int))) g (l.set j b) := by
  obtain ⟨cs, h1, h2, h3⟩ := h
  refine ⟨_, heap_setCell_own _ h1, by simpa using h2, fun i hi => ?_⟩
  rw [List.length_set] at hi
  rw [Array.getElem?_setIfInBounds, List.getD_eq_getElem?_getD, List.getElem?_set]
  by_cases e : j = i
  · subst e
    simp [hj, show j < cs.size by omega]
  · rw [if_neg e, if_neg e, h3 i hi, List.getD_eq_getElem?_getD]
theorem Row.lies {w : World} {g : Nat} {l : List Nat} (h : Row w g l) (hb : ∀ b ∈ l, b < 256) : Lies w (some ⟨g, 0, none⟩) l :=
  ⟨hb, fun j hj => ⟨_, rfl, by rw [add_none, Nat.zero_add]; exact (h.cell j hj).1⟩⟩

theorem ret_bool {a b : Bool} (h : a = b) : Ending.returned (.bool a) = .returned (.bool b) := by rw [h]
theorem bit_test (y k : Nat) (hy : y < 4294967296) : (bits .and .u32 ((y : Int) / 2 ^ k) 1 == 1) = y.testBit k := by
  have e : (y : Int) / 2 ^ k = ((y / 2 ^ k : Nat) : Int) := by simp
  have hl : y / 2 ^ k ≤ y := Nat.div_le_self _ _
  rw [e, show (1 : Int) = ((1 : Nat) : Int) from rfl, u32_and_nat _ _ (by omega) (by decide), Nat.and_one_is_mod, Nat.testBit_eq_decide_div_mod_eq]
  rcases Nat.mod_two_eq_zero_or_one (y / 2 ^ k) with h | h <;> rw [h] <;> rfl
theorem flip_u8 (b t : Nat) (hb : b < 256) (ht : t < 8) : bits .xor .u8 (b : Int) (2 ^ t % 256) = ((b ^^^ 2 ^ t : Nat) : Int) := by
  have h1 : (2 : Nat) ^ t < 256 := by
    have := Nat.pow_lt_pow_right (a := 2) (by decide) ht
    simpa using this
  have e : ((2 : Int) ^ t % 256) = ((2 ^ t : Nat) : Int) := by
    have e1 : ((2 : Int) ^ t) = ((2 ^ t : Nat) : Int) := by simp
    rw [e1]; exact Int.emod_eq_of_lt (Int.natCast_nonneg _) (Int.ofNat_lt.2 h1)
  rw [e, u8_xor_nat _ _ hb h1]

set_option maxHeartbeats 1600000 in
theorem bursts_main (kind : ByteArray) (a : Option Addr) (c : Nat) (bs : List Nat) (x y : Nat) (w : World) (hl : Lies w a bs) (hnil : a = none → c = 0 ∧ bs = []) (h0 : (kind.size : Int) ≤ 100) (h1 : (4 : Int) ≤ (bs.length : Int)) (h2 : (bs.length : Int) ≤ 4000)
    (hx : x < 4294967296) (hy : y < 4294967296) (hy0 : y ≠ 0) :
    Calls Try.prog 6 #[.string kind, .slice a bs.length c, .agg #[.int .u32 (x : Int), .int .u32 (y : Int)]] w fun e w' => e = .returned (.bool true) ∧ Fr (fun _ => False) w w' := by
  have hwx : IntKind.i64.wrap (x : Int) = (x : Int) := by simp [IntKind.wrap, IntKind.bits, IntKind.signed]; omega
  have HK : Hid ((strBytes kind).length ≤ 2147483648) := by show _ ≤ _; rw [strBytes_length]; omega
  have hy0' : ((y : Int) == 0) = false := beq_false_of_ne (by omega)
  go_enter Try.func6, Try.ntmps6
  go_wp2_with fail
  refine (awake_c _).mono ?_
  rintro e w1 ⟨rfl, hf1⟩
  have hB : w1.heap[w.heap.size]? = some (.cells #[.int .u32 (x : Int), .int .u32 (y : Int)] 35) := by
    rw [hf1.block _ (by simp) (fun h => h)]; exact heap_alloc_new _ _
  have HB := hide hB
  have c1 : w1.cell? ⟨w.heap.size, 1, none⟩ = some (.int .u32 (y : Int)) := cell_of (o := 1) hB rfl
  have Hf1 := hide ((Fr.of_alloc w (.cells #[.int .u32 (x : Int), .int .u32 (y : Int)] 35)).join hf1)
  clear hB hf1
  go_wp2_with fail
  refine (new_c w1).mono ?_
  rintro e w2 ⟨T, rfl, ht, hf⟩
  have hB := (hf.block _ (lt_of HB.out) (fun h => h)).trans HB.out
  have HB2 := hide hB
  have d1 : w2.cell? ⟨w.heap.size, 1, none⟩ = some (.int .u32 (y : Int)) := cell_of (o := 1) hB rfl
  have d0 : w2.cell? ⟨w.heap.size, 0, none⟩ = some (.int .u32 (x : Int)) := cell_of (o := 0) hB rfl
  have Ht := hide ht
  have Hf := hide (Hf1.out.join hf)
  have Hl := hide (hl.keep Hf.out (fun _ _ h => h))
  clear ht hf hB HB c1 Hf1
  have hnat : 8 * bs.length - 31 > 0 := by omega
  have hpi : (x : Int) % (8 * (bs.length : Int) - 31) = ((x % (8 * bs.length - 31) : Nat) : Int) := by
    rw [Int.natCast_emod]; congr 1; omega
  have hp : x % (8 * bs.length - 31) < 8 * bs.length - 31 := Nat.mod_lt _ hnat
  generalize x % (8 * bs.length - 31) = p at hp hpi
  go_wp2_with (at_builtin; go_must (refine append_any rfl _ _ rfl w2.heap.size (.slice (some ⟨w2.heap.size, 0, none⟩) 0 0) 0 [] rfl (World.ownsRow_made _ #[] 0 (Nat.le_refl _) (by unfold maxLen; omega) rfl) a c bs rfl (Hl.out.keep (Fr.of_alloc _ _) (fun _ _ h => h)) hnil (by omega) (by simp) ?_); intro v3 w3 hown hbel
               have e0 := cell_below d0 hbel
               have e1 := cell_below d1 hbel
               obtain ⟨g, cg, rfl, hg, hcg, hrow⟩ := Row.of_own hown (by omega) (by omega)
               have Hbel := hide hbel
               have Hrow := hide hrow
               clear hbel hown hrow)
  rw [hpi]
  clear hpi e0 d0 hl
  have HF3 : Hid (Fr (fun _ => False) w2 w3) := (Fr.of_below ((Below.refl w2.heap.size w2).alloc (Nat.le_refl _) _ |>.trans Hbel.out)).mono fun k hk h => by omega
  have hg3 := lt_of Hrow.out.choose_spec.1
  go_loopw [10] (fun i wr => ∃ k : Nat, k ≤ 32 ∧ i = .int .i64 k ∧ Row wr g (turned bs p y k) ∧ Fr (fun _ => False) w2 wr) (fun i _ => 32 - (intOf i).toNat)
  case atStart => exact ⟨0, by omega, rfl, Hrow.out, HF3.out⟩
  case round =>
    obtain ⟨k, hk, rfl, hR, hF⟩ := hrel
    clear HF3 Hrow Hbel e1
    by_cases hlt : k < 32
    · have q1 := cell_fr hF d1 (fun h => h)
      have hlen := turned_length bs p y k
      have hj : (p + k) / 8 < (turned bs p y k).length := by rw [hlen]; omega
      obtain ⟨r1, r2⟩ := hR.cell _ hj
      have HR := hide hR
      have HF := hide hF
      clear hR hF d1
      have h0 : (0 : Int) ≤ (k : Int) := by omega
      have h3 : ((p : Int) + (k : Int)) / 8 = (((p + k) / 8 : Nat) : Int) := by omega
      have h4 : ((p : Int) + (k : Int)) % 8 = (((p + k) % 8 : Nat) : Int) := by omega
      have hjl : ((((p + k) / 8 : Nat) : Int)) < (bs.length : Int) := by omega
      have ht8 : (p + k) % 8 < 8 := by omega
      have hb := turned_byte bs p y k Hl.out.1 _ (getD_mem _ _ hj)
      have HN : Hid (turned bs p y (k + 1) = if y.testBit k then (turned bs p y k).set ((p + k) / 8) ((turned bs p y k).getD ((p + k) / 8) 0 ^^^ 2 ^ ((p + k) % 8)) else turned bs p y k) := rfl
      have HJ := hide hj
      have HLN := hide hlen
      clear hj hlen
      generalize turned bs p y k = l at *
      generalize (p + k) / 8 = j at *
      generalize (p + k) % 8 = t at *
      generalize l.getD j 0 = b at *
      have h5 : (0 : Int) ≤ (j : Int) := by omega
      have HT := hide (bit_test y k hy)
      have HX := hide (flip_u8 b t hb ht8)
      go_wp2
      · next h =>
        rw [HT.out] at h
        go_roundw
        case rel =>
          refine ⟨k + 1, by omega, by go_num, ?_, ?_⟩
          · rw [HN.out, if_pos h, HX.out]
            exact HR.out.set j _ HJ.out
          · exact (HF.out.trans (Fr.of_setCell wr ⟨g, j, none⟩ _)).mono fun i hi h => by
              rcases h with h | h
              · exact h
              · simp only at h; omega
        case measure => simp [intOf]; omega
      · next h =>
        rw [HT.out] at h
        go_roundw
        case rel =>
          refine ⟨k + 1, by omega, by go_num, ?_, HF.out⟩
          rw [HN.out, if_neg (by rw [h]; decide)]
          exact HR.out
        case measure => simp [intOf]; omega
    · have e : k = 32 := by omega
      subst e
      have hL := Hl.out.keep hF (fun _ _ h => h)
      have hT := Ht.out.keep hF (fun h => h)
      have hL2 := hR.lies (turned_byte bs p y 32 hL.1)
      have hlen := turned_length bs p y 32
      have HE : Hid (crc 0#32 (strBytes kind ++ bs) ≠ crc 0#32 (strBytes kind ++ turned bs p y 32)) := by
        intro h
        rw [← crc_append, ← crc_append] at h
        have h1 : crcR (~~~ crc 0#32 (strBytes kind)) bs = crcR (~~~ crc 0#32 (strBytes kind)) (turned bs p y 32) := by
          have := congrArg (fun z => ~~~ z) h
          simpa [crc] using this
        exact burst_bytes _ bs p y hL.1 (by omega) hy0 hy h1
      have Q1 : Hid (Calls Try.prog 12 #[.pointer (some ⟨T, 0, none⟩), .string kind, .slice a bs.length c] wr fun e w' => e = .returned (.int .u32 ((crc 0#32 (strBytes kind ++ bs)).toNat : Int)) ∧ Fr (fun _ => False) wr w') := chunk_c T kind a c bs wr hT HK.out hL (by omega)
      have Q2 : Hid (∀ W, Fr (fun _ => False) wr W → Calls Try.prog 12 #[.pointer (some ⟨T, 0, none⟩), .string kind, .slice (some ⟨g, 0, none⟩) bs.length cg] W fun e w' => e = .returned (.int .u32 ((crc 0#32 (strBytes kind ++ turned bs p y 32)).toNat : Int)) ∧ Fr (fun _ => False) W w') := fun W f => by
        have := chunk_c T kind (some ⟨g, 0, none⟩) cg (turned bs p y 32) W (hT.keep f (fun h => h)) HK.out (hL2.keep f (fun _ _ h => h)) (by omega)
        rw [hlen] at this
        exact this
      have HF := hide (Hf.out.join hF)
      clear hL hT hL2 hlen hR hF d1 Hf Hl Ht HB2
      generalize crc 0#32 (strBytes kind ++ bs) = sA at HE Q1
      generalize crc 0#32 (strBytes kind ++ turned bs p y 32) = sB at HE Q2
      have he : ((sA.toNat : Int) == (sB.toNat : Int)) = false := beq_false_of_ne fun h => HE.out (BitVec.eq_of_toNat_eq (by omega))
      go_wp2_with fail
      refine Q1.out.mono ?_
      rintro e w5 ⟨rfl, hf5⟩
      have Q3 := hide (Q2.out w5 hf5)
      have HF5 := hide (HF.out.join hf5)
      clear hf5 Q2
      go_wp2_with fail
      refine Q3.out.mono ?_
      rintro e w6 ⟨rfl, hf6⟩
      go_wp2
      go_ret
      exact ⟨ret_bool (by show (!((sA.toNat : Int) == (sB.toNat : Int))) = true; rw [he]; rfl), HF5.out.join hf6⟩

set_option maxHeartbeats 400000 in
theorem bursts_kind (kind : ByteArray) (a : Option Addr) (len c : Nat) (x y : Int) (w : World) (h : (100 : Int) < (kind.size : Int)) :
    Calls Try.prog 6 #[.string kind, .slice a len c, .agg #[.int .u32 x, .int .u32 y]] w fun e w' => e = .returned (.bool true) ∧ Fr (fun _ => False) w w' := by
  go_enter Try.func6, Try.ntmps6
  go_wp2_with fail
  refine (awake_c _).mono ?_
  rintro e w1 ⟨rfl, hf1⟩
  have Hf1 := hide ((Fr.of_alloc w (.cells #[.int .u32 x, .int .u32 y] 35)).join hf1)
  clear hf1
  go_wp2
  go_ret
  exact ⟨rfl, Hf1.out⟩

set_option maxHeartbeats 400000 in
theorem bursts_short (kind : ByteArray) (a : Option Addr) (len c : Nat) (x y : Int) (w : World) (h0 : (kind.size : Int) ≤ 100) (h : (len : Int) < 4) :
    Calls Try.prog 6 #[.string kind, .slice a len c, .agg #[.int .u32 x, .int .u32 y]] w fun e w' => e = .returned (.bool true) ∧ Fr (fun _ => False) w w' := by
  go_enter Try.func6, Try.ntmps6
  go_wp2_with fail
  refine (awake_c _).mono ?_
  rintro e w1 ⟨rfl, hf1⟩
  have Hf1 := hide ((Fr.of_alloc w (.cells #[.int .u32 x, .int .u32 y] 35)).join hf1)
  clear hf1
  go_wp2
  go_ret
  exact ⟨rfl, Hf1.out⟩

set_option maxHeartbeats 400000 in
theorem bursts_long (kind : ByteArray) (a : Option Addr) (len c : Nat) (x y : Int) (w : World) (h0 : (kind.size : Int) ≤ 100) (h1 : (4 : Int) ≤ (len : Int)) (h : (4000 : Int) < (len : Int)) :
    Calls Try.prog 6 #[.string kind, .slice a len c, .agg #[.int .u32 x, .int .u32 y]] w fun e w' => e = .returned (.bool true) ∧ Fr (fun _ => False) w w' := by
  go_enter Try.func6, Try.ntmps6
  go_wp2_with fail
  refine (awake_c _).mono ?_
  rintro e w1 ⟨rfl, hf1⟩
  have Hf1 := hide ((Fr.of_alloc w (.cells #[.int .u32 x, .int .u32 y] 35)).join hf1)
  clear hf1
  go_wp2
  go_ret
  exact ⟨rfl, Hf1.out⟩

set_option maxHeartbeats 400000 in
theorem bursts_none (kind : ByteArray) (a : Option Addr) (len c : Nat) (x y : Int) (w : World) (h0 : (kind.size : Int) ≤ 100) (h1 : (4 : Int) ≤ (len : Int)) (h2 : (len : Int) ≤ 4000) (h : y = 0) :
    Calls Try.prog 6 #[.string kind, .slice a len c, .agg #[.int .u32 x, .int .u32 y]] w fun e w' => e = .returned (.bool true) ∧ Fr (fun _ => False) w w' := by
  subst h
  go_enter Try.func6, Try.ntmps6
  go_wp2_with fail
  refine (awake_c _).mono ?_
  rintro e w1 ⟨rfl, hf1⟩
  have hB : w1.heap[w.heap.size]? = some (.cells #[.int .u32 x, .int .u32 0] 35) := by
    rw [hf1.block _ (by simp) (fun h => h)]; exact heap_alloc_new _ _
  have c1 : w1.cell? ⟨w.heap.size, 1, none⟩ = some (.int .u32 0) := cell_of (o := 1) hB rfl
  clear hB
  have Hf1 := hide ((Fr.of_alloc w (.cells #[.int .u32 x, .int .u32 0] 35)).join hf1)
  clear hf1
  go_wp2
  go_ret
  exact ⟨rfl, Hf1.out⟩

theorem u32_nat {n : Int} (h : (Lit.int .u32 n).wf = true) : ∃ x : Nat, n = (x : Int) ∧ x < 4294967296 := by
  have hb := bounds_u32 h
  exact ⟨n.toNat, by omega, by omega⟩

theorem sumsBursts_walk (s0 : ByteArray) (a1 : Option Addr) (len1 cap1 : Nat) (z1 : List Int) (a2 b2 : Int) (w : World) (w1 : IsRow .u8 w a1 len1 cap1 z1) (w2 : (Lit.int .u32 a2).wf = true) (y2 : (Lit.int .u32 b2).wf = true) :
    Calls Try.prog 6 #[.string s0, .slice a1 len1 cap1, .agg #[.int .u32 a2, .int .u32 b2]] w fun e w' => e = .returned (.bool true) ∧ Below w.heap.size w w' := by
  have fin : Calls Try.prog 6 #[.string s0, .slice a1 len1 cap1, .agg #[.int .u32 a2, .int .u32 b2]] w fun e w' => e = .returned (.bool true) ∧ Fr (fun _ => False) w w' := by
    by_cases h : (100 : Int) < (s0.size : Int)
    · exact bursts_kind s0 a1 len1 cap1 a2 b2 w h
    · by_cases h1 : (len1 : Int) < 4
      · exact bursts_short s0 a1 len1 cap1 a2 b2 w (by omega) h1
      · by_cases h2 : (4000 : Int) < (len1 : Int)
        · exact bursts_long s0 a1 len1 cap1 a2 b2 w (by omega) (by omega) h2
        · by_cases h3 : b2 = 0
          · exact bursts_none s0 a1 len1 cap1 a2 b2 w (by omega) (by omega) (by omega) h3
          · obtain ⟨x, rfl, hx⟩ := u32_nat w2
            obtain ⟨y, rfl, hy⟩ := u32_nat y2
            obtain ⟨e, hl⟩ := w1.bytes
            have := bursts_main s0 a1 cap1 (bytesOf len1 z1) x y w hl w1.nil (by omega) (by omega) (by omega) hx hy (by omega)
            rw [e] at this
            exact this
  exact fin.mono fun e w' ⟨he, f⟩ => ⟨he, f.below (Nat.le_refl _) (fun k h => h.elim)⟩
end Go.Proofs.Ytgjbinbhmbgidaa
