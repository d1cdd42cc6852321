/-
  SumsParts: an Adler sum of parts is that of the whole.
-/
import Derived.Test.YtgjbinbhmbgidaaE
import Derived.Test.YtgjbinbhmbgidaaF
namespace Go.Proofs.Ytgjbinbhmbgidaa
open Go.RowKit

set_option maxHeartbeats 400000 in
theorem parts_long (a : Option Addr) (len c : Nat) (x y : Int) (w : World) (h : (3000 : Int) < (len : Int)) :
    Calls Try.prog 5 #[.slice a len c, .int .u16 x, .int .u16 y] w fun e w' => e = .returned (.bool true) ∧ Fr (fun _ => False) w w' := by
  go_enter Try.func5, Try.ntmps5
  go_wp2_with fail
  refine (awake_c w).mono ?_
  rintro e w1 ⟨rfl, hf1⟩
  have Hf1 := hide hf1
  clear hf1
  go_wp2
  go_ret
  exact ⟨rfl, Hf1.out⟩

theorem Fr.of_below_new {a b : World} (h : Below a.heap.size a b) : Fr (fun _ => False) a b := (Fr.of_below h).mono fun k hk h => by omega

theorem adler1_lo (bs : List Nat) : adler 1 bs % 65536 < 65521 ∧ adler 1 bs / 65536 < 65521 := by
  have h := adR_lt (halves 1) bs 65521 (by decide) (by decide) (by decide)
  simp only [adler, ofHalves]
  omega

set_option maxHeartbeats 1600000 in
theorem parts_main (a : Option Addr) (c : Nat) (bs : List Nat) (x y : Nat) (w : World) (hl : Lies w a bs) (hnil : a = none → c = 0 ∧ bs = []) (h1 : (bs.length : Int) ≤ 3000) (hx : x < 65536) (hy : y < 65536) :
    Calls Try.prog 5 #[.slice a bs.length c, .int .u16 (x : Int), .int .u16 (y : Int)] w fun e w' => e = .returned (.bool true) ∧ Fr (fun _ => False) w w' := by
  have hwx : IntKind.i64.wrap (x : Int) = (x : Int) := by simp [IntKind.wrap, IntKind.bits, IntKind.signed]; omega
  have hwy : IntKind.i64.wrap (y : Int) = (y : Int) := by simp [IntKind.wrap, IntKind.bits, IntKind.signed]; omega
  have hb1 := hl.1
  go_enter Try.func5, Try.ntmps5
  go_wp2_with fail
  refine (awake_c w).mono ?_
  rintro e w1 ⟨rfl, hf1⟩
  have Hf1 := hide hf1
  have Hl := hide (hl.keep hf1 (fun _ _ h => h))
  clear hf1 hl
  go_wp2_with (at_builtin; refine append_any rfl _ _ rfl w1.heap.size (.slice (some ⟨w1.heap.size, 0, none⟩) 0 0) 0 [] rfl (World.ownsRow_made _ #[] 0 (Nat.le_refl _) (by unfold maxLen; omega) rfl) a c bs rfl (Hl.out.keep (Fr.of_alloc _ _) (fun _ _ h => h)) hnil (by omega) (by simp) ?_; intro v2 w2 hown hbel)
  have Hown : Hid (w2.ownsRow w1.heap.size 5 1 v2 (bs.length + 0) (cellsOf (bs ++ List.replicate 0 255))) := by
    have h := hown
    rw [Nat.zero_add, List.nil_append] at h
    show World.ownsRow _ _ _ _ _ _ _
    simpa using h
  have Hbel : Hid (Below w1.heap.size w1 w2) := ((Below.refl _ _).alloc (Nat.le_refl _) _).trans hbel
  clear hown hbel
  have hy9 : (y : Int) % 9000 ≤ 9000 := by omega
  go_loopw [8, 9] (fun v i wr => ∃ k : Nat, (k : Int) ≤ (y : Int) % 9000 ∧ i = .int .i64 k ∧ wr.ownsRow w1.heap.size 5 1 v (bs.length + k) (cellsOf (bs ++ List.replicate k 255)) ∧ Below w1.heap.size w1 wr) (fun _ i _ => 9000 - (intOf i).toNat)
  case atStart => exact ⟨0, by omega, rfl, Hown.out, Hbel.out⟩
  case round =>
    obtain ⟨k, hk, rfl, hown, hbel⟩ := hrel
    clear Hown Hbel
    by_cases hlt : (k : Int) < (y : Int) % 9000
    · have Hbel := hide hbel
      have hsz := hbel.size
      clear hbel
      go_wp2_with (at_builtin; go_must (refine append_any rfl _ _ rfl w1.heap.size _ (bs.length + k) (cellsOf (bs ++ List.replicate k 255)) rfl (hown.alloc _) (some ⟨wr.heap.size, 0, none⟩) 1 [255] rfl (lies_lit wr [255] _ rfl (by decide) _) (fun h => by cases h) (by simp; omega) (by simp; omega) ?_); intro v3 w3 hown3 hbel3)
      go_roundw
      case rel =>
        refine ⟨k + 1, by omega, by go_num, ?_, (Hbel.out.alloc hsz _).trans hbel3⟩
        rw [cellsOf_append] at hown3
        rw [List.replicate_succ', ← List.append_assoc]
        exact hown3
      case measure => simp [intOf]; omega
    · obtain ⟨a', c', rfl, hc'⟩ := ownsRow_shape hown
      have hcs : (bs ++ List.replicate k 255).length = bs.length + k := by simp
      have hbb : ∀ b ∈ bs ++ List.replicate k 255, b < 256 := by
        intro b hb
        rcases List.mem_append.1 hb with h | h
        · exact hb1 b h
        · rw [(List.mem_replicate.1 h).2]; decide
      have hL := own_lies hown hcs.symm hbb
      have Hf := hide (Hf1.out.join (Fr.of_below_new hbel))
      have hm : bs.length + k ≤ 12000 := by omega
      have hk9 : (y : Int) % 9000 ≤ (k : Int) := by omega
      generalize bs ++ List.replicate k 255 = cs at hcs hbb hL hown
      rw [← hcs] at hc' hm ⊢
      have hp : x % (cs.length + 1) ≤ cs.length := Nat.le_of_lt_succ (Nat.mod_lt _ (Nat.succ_pos _))
      have hpi : (x : Int) % ((cs.length : Int) + 1) = ((x % (cs.length + 1) : Nat) : Int) := by simp
      have HT := hide (hL.take (x % (cs.length + 1)))
      have HD := hide (hL.drop (x % (cs.length + 1)) c' hp hc')
      have HL := hide hL
      clear hL hown hbel hcs
      generalize x % (cs.length + 1) = p at hp hpi HT HD
      have h2 : (0 : Int) ≤ (p : Int) := by omega
      have h3 : (p : Int) ≤ (cs.length : Int) := by omega
      have h4 : (cs.length : Int) ≤ (c' : Int) := by omega
      have h5 : (cs.length : Int) ≤ 12000 := by omega
      have HP : Hid (adler (adler 1 (cs.take p)) (cs.drop p) = adler 1 cs) := by
        show _ = _
        rw [adler_append, List.take_append_drop]
      have q1 : ∀ n : Nat, Calls Try.prog 15 #[.int .u32 1, .slice a' p c'] (wr.drewN n) fun e w' => e = .returned (.int .u32 (adler 1 (cs.take p) : Int)) ∧ ∃ n, w' = wr.drewN n := by
        intro n
        have := adlerMore_c 1 a' c' (cs.take p) (wr.drewN n) (by decide) (HT.out.keep (Fr.of_drewN wr n) (fun _ _ h => h)) (by simp; omega)
        rw [List.length_take, Nat.min_eq_left hp] at this
        exact this.mono fun e w' ⟨he, hw⟩ => ⟨he, n, hw.symm⟩
      have q2 : ∀ n : Nat, Calls Try.prog 15 #[.int .u32 (adler 1 (cs.take p) : Int), .slice (if c' = p then a' else a'.map (·.add p)) (cs.length - p) (c' - p)] (wr.drewN n) fun e w' => e = .returned (.int .u32 (adler 1 cs : Int)) ∧ ∃ n, w' = wr.drewN n := by
        intro n
        have := adlerMore_c (adler 1 (cs.take p)) _ (c' - p) (cs.drop p) (wr.drewN n) (adler_lt _ _ (by decide)) (HD.out.keep (Fr.of_drewN wr n) (fun _ _ h => h)) (by simp; omega)
        rw [List.length_drop, HP.out] at this
        exact this.mono fun e w' ⟨he, hw⟩ => ⟨he, n, hw.symm⟩
      have h6 : p ≤ c' := by omega
      clear HT HD HP
      generalize adler 1 (cs.take p) = s1 at q1 q2
      have Q1 := hide q1
      have Q2 := hide q2
      clear q1 q2
      go_wp2
      go_quiet ((go_at_call 15; first | (refine calls_args (Q1.out _) ?_; rfl) | (refine calls_args (Q2.out _) ?_; rfl)))
      generalize (if c' = p then a' else a'.map (·.add p)) = ad2
      have HA := hide (adler1_lo cs)
      have HB := hide (adler_lt 1 cs (by decide))
      have HL2 := hide (HL.out.keep (Fr.of_drewN wr nq) (fun _ _ h => h))
      have Hf2 := hide (Hf.out.join (Fr.of_drewN wr nq))
      have HC := hide (and_low (adler 1 cs) (adler_lt 1 cs (by decide)))
      have R1 : Hid (Calls Try.prog 17 #[.slice a' cs.length c'] (wr.drewN nq) fun e w' => e = .returned (.int .u32 (adler 1 cs : Int)) ∧ wr.drewN nq = w') := adler_c a' c' cs (wr.drewN nq) HL2.out (by omega)
      have R2 : Hid (Calls Try.prog 16 #[.int .u32 1, .slice a' cs.length c'] (wr.drewN nq) fun e w' => e = .returned (.int .u32 (adler 1 cs : Int)) ∧ wr.drewN nq = w') := refAdler_c 1 a' c' cs (wr.drewN nq) (by decide) HL2.out (by omega)
      clear HL2 HL Q1 Q2
      generalize adler 1 cs = A at *
      have hb : (A : Int) / 65536 < 65521 := by have := HA.out.2; omega
      have hA : A < 4294967296 := HB.out
      have hlo : bits .and .u32 (A : Int) 65535 = (A : Int) % 65536 := by rw [HC.out]; omega
      have hlo2 : (A : Int) % 65536 < 65521 := by have := HA.out.1; omega
      go_wp2_with fail
      refine R1.out.mono ?_
      rintro e w' ⟨rfl, rfl⟩
      go_wp2_with fail
      refine R2.out.mono ?_
      rintro e w' ⟨rfl, rfl⟩
      go_wp2
      go_ret
      exact ⟨rfl, Hf2.out⟩

theorem IsRow.nil {w : World} {a : Option Addr} {len cap : Nat} {zs : List Int} (h : IsRow .u8 w a len cap zs) : a = none → cap = 0 ∧ bytesOf len zs = [] := by
  intro e
  rcases h with ⟨_, rfl, rfl, rfl⟩ | ⟨x, rfl, _⟩
  · exact ⟨rfl, rfl⟩
  · cases e
theorem u16_of {n : Int} (h : (Lit.int .u16 n).wf = true) : ∃ x : Nat, n = (x : Int) ∧ x < 65536 := by
  have hb := bounds_u16 h
  exact ⟨n.toNat, by omega, by omega⟩

theorem sumsParts_walk (a0 : Option Addr) (len0 cap0 : Nat) (z0 : List Int) (a1 a2 : Int) (w : World) (w0 : IsRow .u8 w a0 len0 cap0 z0) (w1 : (Lit.int .u16 a1).wf = true) (w2 : (Lit.int .u16 a2).wf = true) :
    Calls Try.prog 5 #[.slice a0 len0 cap0, .int .u16 a1, .int .u16 a2] w fun e w' => e = .returned (.bool true) ∧ Below w.heap.size w w' := by
  have fin : Calls Try.prog 5 #[.slice a0 len0 cap0, .int .u16 a1, .int .u16 a2] w fun e w' => e = .returned (.bool true) ∧ Fr (fun _ => False) w w' := by
    by_cases h : (3000 : Int) < (len0 : Int)
    · exact parts_long a0 len0 cap0 a1 a2 w h
    · obtain ⟨x, rfl, hx⟩ := u16_of w1
      obtain ⟨y, rfl, hy⟩ := u16_of w2
      obtain ⟨e, hl⟩ := w0.bytes
      have := parts_main a0 cap0 (bytesOf len0 z0) x y w hl w0.nil (by omega) hx hy
      rw [e] at this
      exact this
  exact fin.mono fun e w' ⟨he, f⟩ => ⟨he, f.below (Nat.le_refl _) (fun k h => h.elim)⟩
end Go.Proofs.Ytgjbinbhmbgidaa
