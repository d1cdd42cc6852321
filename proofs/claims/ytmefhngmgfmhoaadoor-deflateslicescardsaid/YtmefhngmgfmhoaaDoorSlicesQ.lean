/-
  DeflateSlices: however the bytes are sliced, the stream is the same.
  Conditions: none.
-/
import Derived.Test.YtmefhngmgfmhoaaDoorQz7
import Derived.Deep.Matrix
import Derived.Laws.AppendOwnNone
import Derived.Lib.SmallJoins
import Derived.Test.YtmefhngmgfmhoaaDoorCards
import Derived.SevenTiedAt
/-
  The law on rows of one byte.
-/
namespace Go.Proofs.YtmefhngmgfmhoaaDoor
open Go.RowKit

theorem lies_rep {w : World} {D n : Nat} {cs : Array Value} {b : Nat} (h : w.heap[D]? = some (.cells cs 5 (0, 0))) (hc : ∀ i, i < n → cs[i]? = some (.int .u8 (b : Int))) : Lies w (.slice (some ⟨D, 0, none⟩) n n) (List.replicate n b) :=
  Or.inr ⟨⟨D, 0, none⟩, n, by rw [List.length_replicate], fun j u hu => by
    rw [add_none, Nat.zero_add]
    have hj : j < n := by
      have := (List.getElem?_eq_some_iff.1 hu).1
      simpa [cellsOf] using this
    have : u = .int .u8 (b : Int) := by
      simp [cellsOf, hj] at hu
      exact hu.symm
    rw [this]
    exact cell_of h (hc j hj)⟩

theorem str_same (bs : List Nat) : ((strOf bs).toList == (strOf bs).toList) = true := beq_self_eq_true _

set_option maxHeartbeats 1600000 in
set_option maxRecDepth 100000 in
theorem small_c (b many : Nat) (w : World) (hb : b < 256) (hm : many < 65536) (hg : Gw w) : Calls Tryd.prog 5 #[.int .u8 (b : Int), .int .u16 (many : Int)] w fun e w' => e = .returned (.bool true) ∧ Fr (fun _ => False) w w' := by
  have HG := hide hg
  obtain ⟨n, hn⟩ : ∃ n, n = 1000 + many := ⟨_, rfl⟩
  have hni : (1000 : Int) + (many : Int) = (n : Int) := by omega
  have hmi : (many : Int) < 65536 := by omega
  have hn1 : 1000 ≤ n := by omega
  have hn2 : n ≤ 100000 := by omega
  have hnb : (n : Int) ≤ 100000 := by omega
  have hmk := makeB n (by omega)
  obtain ⟨zs, hzs⟩ : ∃ zs, zs = (cellsOf (List.replicate n 0)).toArray := ⟨_, rfl⟩
  rw [← hzs] at hmk
  have hzl : zs.size = n := by rw [hzs]; simp [cellsOf]
  have Hzl := hide hzl
  have q1 : IntKind.i64.wrap (many : Int) = (many : Int) := wrap_i64_id _ (by omega) (by omega)
  clear hg hn hzs hzl
  go_enter Tryd.func5, Tryd.ntmps5
  go_wp2_with fail
  refine (awake_c w HG.out).mono ?_
  rintro e w0 ⟨rfl, hF0⟩
  have HF0 := hide hF0
  clear hF0
  go_wp2_with fail
  obtain ⟨w1, hw1⟩ : ∃ w1, w1 = w0.alloc (.cells zs 5) := ⟨_, rfl⟩
  obtain ⟨D, hD⟩ : ∃ D, D = w0.heap.size := ⟨_, rfl⟩
  have hF1 : Fr (fun _ => False) w0 w1 := by rw [hw1]; exact Fr.of_alloc _ _
  have hb1 : w1.heap[D]? = some (.cells zs 5 (0, 0)) := by rw [hw1]; exact heap_alloc_at hD
  have hwD : w.heap.size ≤ D := by rw [hD]; exact HF0.out.size
  rw [← hw1, ← hD]
  have HF1 := hide (HF0.out.join hF1)
  have Hb1 := hide hb1
  clear hw1 hD hF1 hb1 hmk q1
  go_loopw [7] (fun ti wr => ∃ (i : Nat) (cs : Array Value), ti = .int .i64 (i : Int) ∧ i ≤ n ∧ wr.heap[D]? = some (.cells cs 5 (0, 0)) ∧ cs.size = n ∧ Hid (∀ j, j < i → cs[j]? = some (.int .u8 (b : Int))) ∧ Fr (fun k => k = D) w1 wr) (fun ti _ => n - (intOf ti).toNat)
  case atStart => exact ⟨0, zs, rfl, Nat.zero_le _, Hb1.out, Hzl.out, fun j hj => by omega, Fr.refl _ _⟩
  case round =>
    obtain ⟨i, cs, rfl, hi, hblk, hsz, Hall, hF⟩ := hrel
    by_cases hlt : i < n
    · have hlti : (i : Int) < (n : Int) := by omega
      have c0 := cell_of (o := i) hblk (Array.getElem?_eq_getElem (show i < cs.size by omega))
      have f0 := frozen_of (o := i) hblk
      have hst := heap_setCell_own (o := i) (.int .u8 (b : Int)) hblk
      have Hst := hide hst
      have HF := hide hF
      obtain ⟨x, hx⟩ : ∃ x, x = cs[i] := ⟨_, rfl⟩
      rw [← hx] at c0
      have Hsz := hide hsz
      clear hst hF hblk hx hsz
      go_wp2
      go_roundw
      case rel =>
        refine ⟨i + 1, cs.setIfInBounds i (.int .u8 (b : Int)), by go_num, by omega, Hst.out, by simpa using Hsz.out, fun j hj => ?_, HF.out.join (Fr.of_setCell _ ⟨D, i, none⟩ _)⟩
        rw [Array.getElem?_setIfInBounds]
        by_cases e : i = j
        · rw [if_pos e, if_pos (by rw [Hsz.out]; omega)]
        · rw [if_neg e]; exact Hall.out j (by omega)
      case measure => simp [intOf]; omega
    · obtain rfl : i = n := by omega
      have hl := lies_rep hblk Hall.out
      have hB : ∀ x ∈ List.replicate i b, x < 256 := fun x hx => by rw [(List.mem_replicate.1 hx).2]; exact hb
      have hFw : Fr (fun _ => False) w wr := fr_false_new HF1.out hF (fun k e => by omega)
      have Hac := hide (all_c (some ⟨D, 0, none⟩) i i (List.replicate i b) wr hl List.length_replicate.symm (by omega) hB (HG.out.fr hFw).gl)
      have HFw := hide hFw
      have Hl := hide hl
      have HB := hide hB
      clear hblk hsz hF hl hB hFw
      go_wp2_with fail
      refine (calls_args Hac.out (by rfl)).mono ?_
      rintro e w2 ⟨os, ra, rc, hS, rfl, hown, hF2⟩
      have hsm := hS.small hb hn1 hn2
      have hL2 := own_lies5 hown
      have hby := hS.bytes
      obtain ⟨L, hL⟩ : ∃ L, L = os.length := ⟨_, rfl⟩
      have Hinf := hide (inflate_at HB.out hS [] (.slice ra os.length rc) i w2 (by rw [List.append_nil]; exact hL2) (by rw [List.append_nil]; exact hby) (by rw [List.append_nil]; omega) (by rw [List.length_replicate]; exact Nat.le_refl _) (by omega))
      rw [List.length_replicate, ← hL] at Hinf
      rw [← hL] at hsm ⊢
      have HF2 := hide hF2
      have hdiv : Int.tdiv (i : Int) 10 = ((i / 10 : Nat) : Int) := by rw [Int.tdiv_eq_ediv_of_nonneg (by omega)]; omega
      obtain ⟨dv, hdv⟩ : ∃ dv, dv = i / 10 := ⟨_, rfl⟩
      rw [← hdv] at hdiv hsm
      have hdvi : (dv : Int) ≤ 100000 := by omega
      have hLi : (L : Int) ≤ (dv : Int) + 64 := by omega
      clear hS hown hF2 hL2 hby hL
      go_wp2_with fail
      refine (calls_args Hinf.out (by rfl)).mono ?_
      rintro e w3 ⟨a3, c3, rfl, hL3, hF3⟩
      have s1 := str_lies hL3 HB.out
      have s2 := str_lies (lies_frS Hl.out (HF2.out.join hF3) fun _ _ _ _ _ hS => hS) HB.out
      have ss := str_same (List.replicate i b)
      generalize strOf (List.replicate i b) = sx at s1 s2 ss
      have HF3 := hide ((HFw.out.join HF2.out).join hF3)
      clear hF3 hL3 hdv hsm
      go_wp2
      go_ret
      exact ⟨rfl, HF3.out⟩
end Go.Proofs.YtmefhngmgfmhoaaDoor

/-
  The law on bytes in no order.
-/
namespace Go.Proofs.YtmefhngmgfmhoaaDoor
open Go.RowKit

/-- An own row of bytes, as it grows. -/
theorem fr_app5 {w w4 w5 : World} {o : Obj} {v : Value} {n : Nat} {xs : List Value} (h : Fr (fun _ => False) w w4) (hO : w4.ownsRow w.heap.size 5 1 v n xs) (hg : (w4.alloc o).grownBy w5 v.ownBlock) : Fr (fun _ => False) w w5 :=
  fr_false_new h ((Fr.of_alloc w4 o).trans (Fr.of_grown hg)) (fun i e => e.elim (fun e => e.elim) (fun e => (hO.lt i e).1))

theorem fr_app5' {w0 w4 w5 : World} {o : Obj} {v : Value} {n : Nat} {xs : List Value} (h : Fr (fun _ => False) w0 w4) (hO : w4.ownsRow w0.heap.size 5 1 v n xs) (hg : (w4.alloc o).grownBy w5 v.ownBlock) : Fr (fun _ => False) w0 w5 := fr_app5 h hO hg

set_option maxHeartbeats 3200000 in
set_option maxRecDepth 100000 in
theorem noise_c (n : Nat) (seed kinds : Int) (w : World) (hn : n < 65536) (hk : 0 ≤ kinds ∧ kinds < 256) (hg : Gw w) : Calls Tryd.prog 8 #[.int .u32 seed, .int .u16 (n : Int), .int .u8 kinds] w fun e w' => e = .returned (.bool true) ∧ Fr (fun _ => False) w w' := by
  obtain ⟨i0, hi0, hz0, hz1, hz2⟩ := info_parts Tryd.info5
  have HG := hide hg
  have hni : (n : Int) < 65536 := by omega
  have q1 : IntKind.i64.wrap (n : Int) = (n : Int) := wrap_i64_id _ (by omega) (by omega)
  clear hg
  go_enter Tryd.func8, Tryd.ntmps8
  go_wp2_with fail
  refine (awake_c w HG.out).mono ?_
  rintro e w0 ⟨rfl, hF0⟩
  have HF0 := hide hF0
  clear hF0
  go_wp2_with fail
  go_loopw [7, 8, 9, 10] (fun tx tb ti _ wr => ∃ (i : Nat) (x : Int) (bs : List Nat), ti = .int .i64 (i : Int) ∧ tx = .int .u32 x ∧ i ≤ n ∧ bs.length = i ∧ Hid (∀ b ∈ bs, b < 256) ∧ wr.ownsRow w0.heap.size 5 1 tb i (cellsOf bs) ∧ Fr (fun _ => False) w0 wr) (fun _ _ ti _ _ => n - (intOf ti).toNat)
  case atStart => exact ⟨0, seed, [], rfl, rfl, Nat.zero_le _, rfl, fun b hb => (by cases hb), World.ownsRow_nil _ _ _ _, Fr.refl _ _⟩
  case round =>
    obtain ⟨i, x, bs, rfl, rfl, hi, hbl, HB, hO, hF⟩ := hrel
    obtain ⟨va, vc, rfl⟩ := ownsRow_shape hO
    have hw0 : w0.heap.size ≤ wr.heap.size := hF.size
    have HO := hide hO
    have HF := hide hF
    have Hbl := hide hbl
    clear hO hF hbl
    by_cases hlt : i < n
    · have hlti : (i : Int) < (n : Int) := by omega
      go_upto_region 10 with fail
      obtain ⟨v, hv⟩ : ∃ v, v = (x * 1664525 + 1013904223) % 4294967296 / 16777216 := ⟨_, rfl⟩
      have hv0 : 0 ≤ v := by omega
      have hv1 : v < 256 := by omega
      rw [← hv]
      clear hv
      generalize (x * 1664525 % 4294967296 + 1013904223) % 4294967296 = x'
      by_cases hk0 : 0 < kinds
      · have hkz : ¬ kinds = 0 := by omega
        have hr0 : 0 ≤ Int.tmod v kinds := by rw [Int.tmod_eq_emod_of_nonneg hv0]; exact Int.emod_nonneg _ hkz
        have hr1 : Int.tmod v kinds < 256 := by
          rw [Int.tmod_eq_emod_of_nonneg hv0]
          have := Int.emod_lt_of_pos v hk0
          omega
        obtain ⟨b, hb⟩ : ∃ b : Nat, Int.tmod v kinds = (b : Int) := ⟨(Int.tmod v kinds).toNat, by omega⟩
        have hb256 : b < 256 := by omega
        have hbi : (b : Int) < 256 := by omega
        clear hr0 hr1
        go_upto_region 12 with fail
        go_wp2_with (at_builtin; go_must (refine wpList_append_lies _ rfl _ _ 23 rfl w0.heap.size 5 i0 (.int .u8 0) 1 1 Tryd.underlying23 hi0 hz0 hz1 hz2 rfl (by decide) (.slice va i vc) i (cellsOf bs) rfl (HO.out.alloc _) ⟨wr.heap.size, 0, none⟩ 1 1 [.int .u8 (b : Int)] rfl rfl (World.news_of_block (heap_alloc_at rfl)) (by simp [Value.oneCell']) (by decide) (by unfold maxLen; omega) (by omega) (by simp; omega) (wr.heap.size + 1) (by simp) ?_); intro gq cap w3 hown3 hgrow hat hlt3
                     have HF3 := hide (fr_app5' HF.out HO.out hgrow)
                     have HO3 := hide hown3
                     clear hown3 hgrow hat hlt3)
        go_roundw
        case rel => exact ⟨i + 1, x', bs ++ [b], by go_num, rfl, by omega, by rw [List.length_append, Hbl.out]; rfl, fun z hz => by rcases List.mem_append.1 hz with h | h; exact HB.out z h; rw [List.mem_singleton] at h; omega, by rw [show cellsOf (bs ++ [b]) = cellsOf bs ++ [.int .u8 (b : Int)] by simp [cellsOf]]; exact HO3.out, HF3.out⟩
        case measure => simp [intOf]; omega
      · have hkz : ¬ 0 < kinds := hk0
        obtain ⟨b, hb⟩ : ∃ b : Nat, v = (b : Int) := ⟨v.toNat, by omega⟩
        subst hb
        have hb256 : b < 256 := by omega
        go_upto_region 12 with fail
        go_wp2_with (at_builtin; go_must (refine wpList_append_lies _ rfl _ _ 23 rfl w0.heap.size 5 i0 (.int .u8 0) 1 1 Tryd.underlying23 hi0 hz0 hz1 hz2 rfl (by decide) (.slice va i vc) i (cellsOf bs) rfl (HO.out.alloc _) ⟨wr.heap.size, 0, none⟩ 1 1 [.int .u8 (b : Int)] rfl rfl (World.news_of_block (heap_alloc_at rfl)) (by simp [Value.oneCell']) (by decide) (by unfold maxLen; omega) (by omega) (by simp; omega) (wr.heap.size + 1) (by simp) ?_); intro gq cap w3 hown3 hgrow hat hlt3
                     have HF3 := hide (fr_app5' HF.out HO.out hgrow)
                     have HO3 := hide hown3
                     clear hown3 hgrow hat hlt3)
        go_roundw
        case rel => exact ⟨i + 1, x', bs ++ [b], by go_num, rfl, by omega, by rw [List.length_append, Hbl.out]; rfl, fun z hz => by rcases List.mem_append.1 hz with h | h; exact HB.out z h; rw [List.mem_singleton] at h; omega, by rw [show cellsOf (bs ++ [b]) = cellsOf bs ++ [.int .u8 (b : Int)] by simp [cellsOf]]; exact HO3.out, HF3.out⟩
        case measure => simp [intOf]; omega
    · obtain rfl : i = n := by omega
      have hO := HO.out
      rw [← Hbl.out] at hO
      have hl := own_lies5 hO
      rw [Hbl.out] at hl
      have Hac := hide (all_c va i vc bs wr hl Hbl.out.symm (by omega) HB.out ((HG.out.fr HF0.out).fr HF.out).gl)
      have HFw := hide (HF0.out.join HF.out)
      have Hl := hide hl
      clear hO hl hz0 hz1 hz2 hi0
      go_wp2_with fail
      refine (calls_args Hac.out (by rfl)).mono ?_
      rintro e w2 ⟨os, ra, rc, hS, rfl, hown, hF2⟩
      have hsm := hS.len HB.out
      have hL2 := own_lies5 hown
      have hby := hS.bytes
      obtain ⟨L, hL⟩ : ∃ L, L = os.length := ⟨_, rfl⟩
      have hmo : mostF bs.length ≤ 2147483648 := by unfold mostF; rw [Hbl.out]; omega
      have Hinf := hide (inflate_at HB.out hS [] (.slice ra os.length rc) i w2 (by rw [List.append_nil]; exact hL2) (by rw [List.append_nil]; exact hby) (by rw [List.append_nil]; omega) (by rw [Hbl.out]; exact Nat.le_refl _) (by omega))
      rw [Hbl.out, ← hL] at Hinf
      rw [Hbl.out] at hsm hmo
      rw [← hL] at hsm ⊢
      have HF2 := hide hF2
      clear hS hown hF2 hL2 hby hL
      go_wp2_with fail
      refine (calls_args Hinf.out (by rfl)).mono ?_
      rintro e w3 ⟨a3, c3, rfl, hL3, hF3⟩
      have s1 := str_lies (sv := .slice a3 i c3) hL3 HB.out
      have s2 := str_lies (lies_frS Hl.out (HF2.out.join hF3) fun _ _ _ _ _ hS => hS) HB.out
      have ss := str_same bs
      generalize strOf bs = sx at s1 s2 ss
      have HF3 := hide ((HFw.out.join HF2.out).join hF3)
      have Hmost := hide (most_c (i : Int) w3 (by omega))
      rw [Int.toNat_natCast] at Hmost
      obtain ⟨mo, hmo'⟩ : ∃ mo, mo = mostF i := ⟨_, rfl⟩
      rw [← hmo'] at Hmost hsm
      have hle : (L : Int) ≤ (mo : Int) := by omega
      clear hF3 hL3 hsm hmo hmo'
      go_wp2_with fail
      refine (calls_args Hmost.out (by rfl)).mono ?_
      rintro e w4 ⟨rfl, rfl⟩
      go_wp2
      go_ret
      exact ⟨rfl, HF3.out⟩
end Go.Proofs.YtmefhngmgfmhoaaDoor

/-
  Pieces that are repeated.
-/
namespace Go.Proofs.YtmefhngmgfmhoaaDoor
open Go.RowKit Go.ChangeShapes Go.WideShapes

/-- A slice of slices of bytes in memory: each cell a slice whose bytes lie there. -/
structure IsRows (w : World) (a : Option Addr) (len : Nat) (ls : List (List Nat)) : Prop where
  n : ls.length = len
  bytes : ∀ x ∈ ls, ∀ b ∈ x, b < 256
  lies : ∀ i, i < len → ∃ ad a' c', a = some ad ∧ w.cell? (ad.add i) = some (.slice a' (ls.getD i []).length c') ∧ Lies w (.slice a' (ls.getD i []).length c') (ls.getD i [])

theorem IsRows.fr {w w' : World} {a : Option Addr} {len : Nat} {ls : List (List Nat)} (h : IsRows w a len ls) (f : Fr (fun _ => False) w w') : IsRows w' a len ls := ⟨h.n, h.bytes, fun i hi => by
  obtain ⟨ad, a', c', e, hc, hl⟩ := h.lies i hi
  exact ⟨ad, a', c', e, (cell_blk (f.block _ (cell_lt hc) (fun e => e))).trans hc, lies_frS hl f fun _ _ _ _ _ hS => hS⟩⟩

theorem append_anyB {w : World} {ops : Array Oper} {rest : List Oper} {o : Oper} {a : Act} {Q : Exit → Act → World → Prop} (hgd : o.guard = none) (s x : Operand)
    (ho : o.op = .call { callee := .builtin .append, args := #[s, x], argTypes := #[23, 23] }) (base : Nat) (v : Value) (n : Nat) (xs : List Value) (hs : a.eval s = v) (hown : w.ownsRow base 5 1 v n xs)
    (sv : Value) (bs : List Nat) (hx : a.eval x = sv) (hl : Lies w sv bs) (h63 : n + bs.length ≤ 2147483648) (hbase : base ≤ w.heap.size)
    (h : ∀ v' w', w'.ownsRow base 5 1 v' (n + bs.length) (xs ++ cellsOf bs) → Below base w w' → wpList Tryd.prog ops Q rest (a.put o.dst v') w') : wpList Tryd.prog ops Q (o :: rest) a w := by
  obtain ⟨i0, hi, hz0, hz1, hz2⟩ := info_parts Tryd.info5
  rcases hl with ⟨rfl, rfl⟩ | ⟨ad, c, rfl, hc⟩
  · refine wpList_append_own_none hgd s x 23 ho base 5 i0 1 Tryd.underlying23 hi v n xs hs hown hx ?_
    refine h v w ?_ (Below.refl _ _)
    simpa [cellsOf] using hown
  · refine wpList_append_own w hgd s x 23 ho base 5 i0 (.int .u8 0) 1 1 Tryd.underlying23 hi hz0 hz1 hz2 rfl (by decide) v n xs hs hown ad bs.length c (cellsOf bs) hx (by simp [cellsOf_length]) hc (cellsOf_one bs) (by unfold maxLen; omega) (by omega) hbase ?_
    intro v' w' h1 h2 _
    exact h v' w' h1 (Below.grown (Below.refl _ _) h2 hbase (fun k hk => (hown.lt k hk).1))

/-- What Make answers. -/
def Made (w : World) (e : Ending) (w' : World) : Prop := Fr (fun _ => False) w w' ∧ (e = .returned (.tuple #[.slice none 0 0, .bool false]) ∨ ∃ out a c, e = .returned (.tuple #[.slice a out.length c, .bool true]) ∧ w'.ownsRow w.heap.size 5 1 (.slice a out.length c) out.length (cellsOf out) ∧ (∀ b ∈ out, b < 256) ∧ out.length ≤ 70000)

abbrev rowsV (ba : Option Addr) (bl bc : Nat) (ma : Option Addr) (ml mc : Nat) : Value := .agg #[.slice ba bl bc, .slice ma ml mc]

set_option maxHeartbeats 3200000 in
set_option maxRecDepth 100000 in
theorem make_c (ba : Option Addr) (bl bc : Nat) (ma : Option Addr) (ml mc : Nat) (ls : List (List Nat)) (ms : List Nat) (w : World) (hB : IsRows w ba bl ls) (hM : Lies w (.slice ma ml mc) ms) (hml : ml = ms.length) (hmb : ∀ b ∈ ms, b < 256) (hsm : ∀ i, i < bl → (ls.getD i []).length ≤ 140737488355328) :
    Calls Tryd.prog 10 #[rowsV ba bl bc ma ml mc] w (Made w) := by
  obtain ⟨K, hK⟩ : ∃ K, K = w.heap.size := ⟨_, rfl⟩
  obtain ⟨w1, hw1⟩ : ∃ w1, w1 = w.alloc (.cells #[.slice ba bl bc, .slice ma ml mc] 25) := ⟨_, rfl⟩
  have hF1 : Fr (fun _ => False) w w1 := by rw [hw1]; exact Fr.of_alloc _ _
  have hb1 : w1.heap[K]? = some (.cells #[.slice ba bl bc, .slice ma ml mc] 25 (0, 0)) := by rw [hw1]; exact heap_alloc_at hK
  have k0 := cell_of (o := 0) hb1 rfl
  have k1 := cell_of (o := 1) hb1 rfl
  have HB := hide (hB.fr hF1)
  have HM := hide (lies_frS hM hF1 fun _ _ _ _ _ hS => hS)
  have Hml := hide hml
  have Hmb := hide hmb
  have Hsm := hide hsm
  have HF1 := hide hF1
  have Hb1 := hide hb1
  have Hw1 := hide hw1
  have HK := hide hK
  clear hB hM hml hmb hsm hF1 hb1 hw1 hK
  by_cases h50 : 50 < bl
  · have hi : (50 : Int) < (bl : Int) := by omega
    clear k0 k1
    go_enter Tryd.func10, Tryd.ntmps10
    go_wp2_with fail
    go_ret2
    exact ⟨Fr.of_alloc _ _, Or.inl rfl⟩
  by_cases hmlb : ml < bl
  · have hi : ¬ (50 : Int) < (bl : Int) := by omega
    have hi2 : (ml : Int) < (bl : Int) := by omega
    clear k0 k1
    go_enter Tryd.func10, Tryd.ntmps10
    go_wp2_with fail
    go_ret2
    exact ⟨Fr.of_alloc _ _, Or.inl rfl⟩
  by_cases h100 : 100 < ml
  · have hi : ¬ (50 : Int) < (bl : Int) := by omega
    have hi2 : ¬ (ml : Int) < (bl : Int) := by omega
    have hi3 : (100 : Int) < (ml : Int) := by omega
    clear k0 k1
    go_enter Tryd.func10, Tryd.ntmps10
    go_wp2_with fail
    go_ret2
    exact ⟨Fr.of_alloc _ _, Or.inl rfl⟩
  have hi : ¬ (50 : Int) < (bl : Int) := by omega
  have hi2 : ¬ (ml : Int) < (bl : Int) := by omega
  have hi3 : ¬ (100 : Int) < (ml : Int) := by omega
  have hi4 : (bl : Int) ≤ 50 := by omega
  have hi5 : (ml : Int) ≤ 100 := by omega
  go_enter Tryd.func10, Tryd.ntmps10
  go_wp2_with fail
  rw [← Hw1.out, ← HK.out]
  clear hi hi2 hi3
  go_loopw [4, 5, 6] (fun tv ti _ wr => ∃ (i : Nat) (out : List Nat) (va : Option Addr) (vc : Nat), ti = .int .i64 (i : Int) ∧ i ≤ bl ∧ tv = .slice va out.length vc ∧ wr.ownsRow w1.heap.size 5 1 (.slice va out.length vc) out.length (cellsOf out) ∧ Hid (∀ b ∈ out, b < 256) ∧ out.length ≤ 70000 ∧ Fr (fun _ => False) w1 wr) (fun _ ti _ _ => bl - (intOf ti).toNat)
  case atStart => exact ⟨0, [], none, 0, rfl, Nat.zero_le _, rfl, World.ownsRow_nil _ _ _ _, fun b hb => (by cases hb), Nat.zero_le _, Fr.refl _ _⟩
  case round =>
    obtain ⟨i, out, va, vc, rfl, hib, rfl, hO, HBy, h7, hF⟩ := hrel
    have hbk := cells_at Hb1.out hF (fun e => e)
    clear k0 k1
    have k0 := cell_of (o := 0) hbk rfl
    have k1 := cell_of (o := 1) hbk rfl
    have HO := hide hO
    have HF := hide hF
    clear hO hF hbk
    by_cases hlt : i < bl
    · have hlti : (i : Int) < (bl : Int) := by omega
      have himl : i < ms.length := by have := Hml.out; omega
      have himi : (i : Int) < (ml : Int) := by have := Hml.out; omega
      go_wp2_with fail
      obtain ⟨cnt, hcnt⟩ : ∃ cnt, cnt = ms.getD i 0 := ⟨_, rfl⟩
      have hc256 : cnt < 256 := by
        rw [hcnt, List.getD_eq_getElem?_getD, List.getElem?_eq_getElem himl]
        exact Hmb.out _ (List.getElem_mem himl)
      have Hcnt := hide hcnt
      have hci : (cnt : Int) < 256 := by omega
      have HO2 := hide HO.out
      clear hcnt k0 k1
      obtain ⟨mad, hmad⟩ : ∃ mad, ma = some mad := by
        rcases HM.out with ⟨hv, e0⟩ | ⟨mad, c, hv, _⟩
        · rw [e0] at himl; cases himl
        · obtain ⟨e1, _, _⟩ := Value.slice.inj hv; exact ⟨mad, e1⟩
      subst hmad
      go_loopw [4, 6] (fun tv tk w2 => ∃ (k : Nat) (out2 : List Nat) (va2 : Option Addr) (vc2 : Nat), tk = .int .i64 (k : Int) ∧ k ≤ cnt ∧ tv = .slice va2 out2.length vc2 ∧ w2.ownsRow w1.heap.size 5 1 (.slice va2 out2.length vc2) out2.length (cellsOf out2) ∧ Hid (∀ b ∈ out2, b < 256) ∧ out2.length ≤ 70000 ∧ Fr (fun _ => False) w1 w2) (fun _ tk _ => cnt - (intOf tk).toNat)
      case atStart => exact ⟨0, out, va, vc, rfl, Nat.zero_le _, rfl, HO.out, HBy, h7, HF.out⟩
      case round =>
        obtain ⟨k, out2, va2, vc2, rfl, hkc, rfl, hO3, HBy2, h72, hF3⟩ := hrel
        have hbk := cells_at Hb1.out hF3 (fun e => e)
        have k0 := cell_of (o := 0) hbk rfl
        have k1 := cell_of (o := 1) hbk rfl
        have hmc : wr.cell? (mad.add i) = some (.int .u8 (cnt : Int)) := by
          have hl := lies_frS HM.out hF3 fun _ _ _ _ _ hS => hS
          rcases hl with ⟨hv, e0⟩ | ⟨ad', c, hv, hc⟩
          · rw [e0] at himl; cases himl
          · obtain ⟨e1, _, _⟩ := Value.slice.inj hv
            cases e1
            refine hc i _ ?_
            rw [Hcnt.out]
            simp [cellsOf, List.getElem?_eq_getElem himl]
        obtain ⟨bad, a', c', hbe, hbc, hbl⟩ := (HB.out.fr hF3).lies i hlt
        subst hbe
        obtain ⟨X, hX⟩ : ∃ X, X = ls.getD i [] := ⟨_, rfl⟩
        rw [← hX] at hbc hbl
        obtain ⟨N, hN⟩ : ∃ N, N = X.length := ⟨_, rfl⟩
        rw [← hN] at hbc hbl
        have HX := hide hX
        obtain ⟨L2, hL2⟩ : ∃ L2, L2 = out2.length := ⟨_, rfl⟩
        rw [← hL2] at hO3 h72 ⊢
        have hNb : N ≤ 140737488355328 := by rw [hN, hX]; exact Hsm.out i hlt
        have hNi : (N : Int) ≤ 140737488355328 := by omega
        have HO3 := hide hO3
        have HF3 := hide hF3
        have Hbl := hide hbl
        have HN := hide hN
        have HL2 := hide hL2
        have q1 : IntKind.i64.wrap (cnt : Int) = (cnt : Int) := wrap_i64_id _ (by omega) (by omega)
        have h72i : (L2 : Int) ≤ 70000 := by omega
        clear hO3 hF3 hbl hN hL2 hbk hX
        by_cases hkl : k < cnt
        · have hkli : (k : Int) < (cnt : Int) := by omega
          by_cases hbig : 70000 < L2 + N
          · have hbi : (70000 : Int) < (L2 : Int) + (N : Int) := by omega
            go_wp2_with fail
            go_ret2
            exact ⟨HF1.out.join HF3.out, Or.inl rfl⟩
          · have hbi : ¬ (70000 : Int) < (L2 : Int) + (N : Int) := by omega
            have hw1s : w1.heap.size ≤ wr.heap.size := HF3.out.size
            go_wp2_with (at_builtin; go_must (refine append_anyB rfl (.tmp 53) (.tmp 58) rfl w1.heap.size (.slice va2 L2 vc2) L2 (cellsOf out2) rfl HO3.out (.slice a' N c') X rfl Hbl.out (by rw [← HN.out]; omega) hw1s ?_); intro v4 w4 hown4 hbel4
                         obtain ⟨va4, vc4, rfl⟩ := ownsRow_shape hown4
                         have HF4 := hide (HF3.out.join' hbel4)
                         have HO4 := hide hown4
                         clear hown4 hbel4)
            go_roundw
            case rel =>
              have ho := HO4.out
              have el : L2 + X.length = (out2 ++ X).length := by rw [List.length_append, HL2.out]
              rw [el] at ho ⊢
              have ec : cellsOf out2 ++ cellsOf X = cellsOf (out2 ++ X) := by simp [cellsOf]
              rw [ec] at ho
              refine ⟨k + 1, out2 ++ X, va4, vc4, by go_num, by omega, rfl, ho, fun z hz => ?_, by rw [← el, ← HN.out]; omega, HF4.out⟩
              rcases List.mem_append.1 hz with h | h
              · exact HBy2.out z h
              · have hil : i < ls.length := by have := HB.out.n; omega
                exact HB.out.bytes _ (by rw [HX.out, List.getD_eq_getElem?_getD, List.getElem?_eq_getElem hil]; exact List.getElem_mem hil) z h
            case measure => simp [intOf]; omega
        · have hkli : ¬ (k : Int) < (cnt : Int) := by omega
          go_wp2_with fail
          go_roundw
          case rel =>
            have ho := HO3.out
            rw [HL2.out] at ho ⊢
            exact ⟨i + 1, out2, va2, vc2, by go_num, by omega, rfl, ho, HBy2, by rw [← HL2.out]; exact h72, HF3.out⟩
          case measure => simp [intOf]; omega
    · have hlti : ¬ (i : Int) < (bl : Int) := by omega
      go_wp2_with fail
      go_ret2
      have ho := HO.out
      exact ⟨HF1.out.join HF.out, Or.inr ⟨out, va, vc, rfl, ⟨ho.1, ho.2.imp id fun ⟨g, cap, cur, z1, z2, z3⟩ => ⟨g, cap, cur, z1, by have := HF1.out.size; omega, z3⟩⟩, HBy.out, h7⟩⟩
end Go.Proofs.YtmefhngmgfmhoaaDoor

/-
  The law that any bytes are read as they were.
-/
namespace Go.Proofs.YtmefhngmgfmhoaaDoor
open Go.RowKit

set_option maxHeartbeats 3200000 in
set_option maxRecDepth 100000 in
theorem back_c (ba : Option Addr) (bl bc : Nat) (ma : Option Addr) (ml mc : Nat) (ls : List (List Nat)) (ms : List Nat) (w : World) (hB : IsRows w ba bl ls) (hM : Lies w (.slice ma ml mc) ms) (hml : ml = ms.length) (hmb : ∀ b ∈ ms, b < 256) (hsm : ∀ i, i < bl → (ls.getD i []).length ≤ 140737488355328) (hg : Gw w) :
    Calls Tryd.prog 3 #[rowsV ba bl bc ma ml mc] w fun e w' => e = .returned (.bool true) ∧ Fr (fun _ => False) w w' := by
  obtain ⟨K, hK⟩ : ∃ K, K = w.heap.size := ⟨_, rfl⟩
  obtain ⟨w1, hw1⟩ : ∃ w1, w1 = w.alloc (.cells #[.slice ba bl bc, .slice ma ml mc] 25) := ⟨_, rfl⟩
  have hF1 : Fr (fun _ => False) w w1 := by rw [hw1]; exact Fr.of_alloc _ _
  have hb1 : w1.heap[K]? = some (.cells #[.slice ba bl bc, .slice ma ml mc] 25 (0, 0)) := by rw [hw1]; exact heap_alloc_at hK
  have HB := hide (hB.fr hF1)
  have HM := hide (lies_frS hM hF1 fun _ _ _ _ _ hS => hS)
  have Hml := hide hml
  have Hmb := hide hmb
  have Hsm := hide hsm
  have HG := hide (hg.fr hF1)
  have HF1 := hide hF1
  have Hb1 := hide hb1
  have Hw1 := hide hw1
  have HK := hide hK
  clear hB hM hml hmb hsm hF1 hb1 hw1 hK hg
  go_enter Tryd.func3, Tryd.ntmps3
  go_wp2_with fail
  rw [← Hw1.out, ← HK.out]
  refine (awake_c w1 HG.out).mono ?_
  rintro e w2 ⟨rfl, hF2⟩
  have hb2 := cells_at Hb1.out hF2 (fun e => e)
  have k0 := cell_of (o := 0) hb2 rfl
  have k1 := cell_of (o := 1) hb2 rfl
  have HF2 := hide (HF1.out.join hF2)
  have HG2 := hide (HG.out.fr hF2)
  have Hmk := hide (make_c ba bl bc ma ml mc ls ms w2 (HB.out.fr hF2) (lies_frS HM.out hF2 fun _ _ _ _ _ hS => hS) Hml.out Hmb.out Hsm.out)
  clear hF2 hb2
  go_wp2_with fail
  refine (calls_args Hmk.out (by rfl)).mono ?_
  rintro e w3 ⟨hF3, rfl | ⟨bs, a, c, rfl, hown, hby, h7⟩⟩
  · have HF3 := hide (HF2.out.join hF3)
    clear hF3 k0 k1
    go_wp2
    go_ret
    exact ⟨rfl, HF3.out⟩
  · have HF3 := hide (HF2.out.join hF3)
    have hl := own_lies5 hown
    have HG3 := hide (HG2.out.fr hF3)
    obtain ⟨n, hn⟩ : ∃ n, n = bs.length := ⟨_, rfl⟩
    have Hac := hide (all_c a bs.length c bs w3 hl rfl (by omega) hby HG3.out.gl)
    rw [← hn] at Hac h7 ⊢
    have Hl := hide hl
    have HBy := hide hby
    have Hn := hide hn
    clear hF3 hown hl hby hn k0 k1
    go_wp2_with fail
    refine (calls_args Hac.out (by rfl)).mono ?_
    rintro e w4 ⟨os, ra, rc, hS, rfl, hown, hF4⟩
    have hsm := hS.len HBy.out
    have hL2 := own_lies5 hown
    have hby2 := hS.bytes
    obtain ⟨L, hL⟩ : ∃ L, L = os.length := ⟨_, rfl⟩
    have hmo : mostF bs.length ≤ 2147483648 := by unfold mostF; rw [← Hn.out]; omega
    have Hinf := hide (inflate_at HBy.out hS [] (.slice ra os.length rc) n w4 (by rw [List.append_nil]; exact hL2) (by rw [List.append_nil]; exact hby2) (by rw [List.append_nil]; omega) (by rw [← Hn.out]; exact Nat.le_refl _) (by omega))
    rw [← Hn.out, ← hL] at Hinf
    rw [← Hn.out] at hsm
    rw [← hL] at hsm ⊢
    have HF4 := hide hF4
    clear hS hown hF4 hL2 hby2 hL hmo
    have hni : (n : Int) ≤ 70000 := by omega
    obtain ⟨q, hq⟩ : ∃ q, q = (n + 65534) / 65535 := ⟨_, rfl⟩
    have hdv : Int.tdiv ((n : Int) + 65534) 65535 = (q : Int) := by rw [Int.tdiv_eq_ediv_of_nonneg (by omega)]; omega
    obtain ⟨mo, hmo⟩ : ∃ mo, mo = mostF n := ⟨_, rfl⟩
    have hme : (n : Int) + 5 * (q : Int) + 5 = (mo : Int) := by rw [hmo]; unfold mostF; omega
    rw [← hmo] at hsm
    have hqi : (q : Int) ≤ 10 := by omega
    have hle : (L : Int) ≤ (mo : Int) := by omega
    have Hmo := hide hmo
    clear hq hmo hsm
    go_wp2_with fail
    refine (calls_args Hinf.out (by rfl)).mono ?_
    rintro e w5 ⟨a5, c5, rfl, hL5, hF5⟩
    have s1 := str_lies (sv := .slice a5 n c5) hL5 HBy.out
    have s2 := str_lies (sv := .slice a n c) (lies_frS (by rw [Hn.out]; exact Hl.out) (HF4.out.join hF5) fun _ _ _ _ _ hS => hS) HBy.out
    have ss := str_same bs
    generalize strOf bs = sx at s1 s2 ss
    have HF5 := hide ((HF3.out.join HF4.out).join hF5)
    have Hmost := hide (most_c (n : Int) w5 (by omega))
    rw [Int.toNat_natCast, ← Hmo.out] at Hmost
    clear hF5 hL5
    go_wp2_with fail
    refine (calls_args Hmost.out (by rfl)).mono ?_
    rintro e w6 ⟨rfl, rfl⟩
    go_wp2
    go_ret
    exact ⟨rfl, HF5.out⟩
end Go.Proofs.YtmefhngmgfmhoaaDoor

/-
  Pieces that are repeated, as they come in.
-/
namespace Go.Proofs.YtmefhngmgfmhoaaDoor
open Go.RowKit Go.ChangeShapes Go.WideShapes Go.ChangeAt Go.Deep

theorem wall_mem {H : Type} {P : Program} {e : TypeId} {d : DataW H} : ∀ {l : List (DataW H)}, d ∈ l → ∀ x ∈ DataW.weights P e d, x ∈ DataW.weightsAll P e l := by
  intro l
  induction l with
  | nil => intro h; cases h
  | cons y l ih =>
    intro h x hx
    simp only [DataW.weightsAll]
    rcases List.mem_cons.1 h with rfl | h
    · exact List.mem_append_left _ hx
    · exact List.mem_append_right _ (ih h x hx)

theorem open_rowsS {H : Type} {enc : TypeId × Value → H} {W : World} {held : Bool} {fuel : Nat} {v : Value} {x : DataW H × List MemPlace}
    (h : DataW.trod enc Tryd.prog W 0 (fun _ => true) held fuel 22 [v] = some x) (hw : (DataW.weights Tryd.prog 22 x.1).all (· ≤ reachBytes) = true) : ∃ a len cap ls, v = .slice a len cap ∧ IsRows W a len ls ∧ ∀ i, i < len → (ls.getD i []).length ≤ 140737488355328 := by
  rcases Go.Deep.open_int_rows Tryd.underlying22 Tryd.underlying23 Tryd.underlying5 (by kernel_rfl) (by kernel_rfl) h with ⟨hcs, _⟩ | ⟨a, len, cap, A, L, C, Z, hcs, _, hl, hm, hx, hr⟩
  · have := List.cons.inj hcs
    exact ⟨none, 0, 0, [], this.1, ⟨rfl, by simp, fun i hi => absurd hi (Nat.not_lt_zero _)⟩, fun i hi => absurd hi (Nat.not_lt_zero _)⟩
  · have hv := (List.cons.inj hcs).1
    have hrow : ∀ i, i < len → IsRow .u8 W (A i) (L i) (C i) (Z i) := by
      intro i hi
      obtain ⟨h1, h2, h3, h4, h5, h6, h7⟩ := hr i (by omega)
      cases hA : A i with
      | none =>
        have := h6 hA
        refine Or.inl ⟨rfl, by omega, this, List.eq_nil_of_length_eq_zero (by omega)⟩
      | some a' => exact Or.inr ⟨a', rfl, h2, h3, h4, fun j hj => (h7 a' hA).2 j (by omega), h5⟩
    have hget : ∀ i, i < len → ((List.range len).map fun r => bytesOf (L r) (Z r)).getD i [] = bytesOf (L i) (Z i) := by
      intro i hi
      simp [List.getD_eq_getElem?_getD, List.getElem?_map, List.getElem?_range hi]
    refine ⟨some a, len, cap, (List.range len).map fun r => bytesOf (L r) (Z r), hv, ⟨by simp, ?_, ?_⟩, ?_⟩
    · intro y hy
      simp only [List.mem_map, List.mem_range] at hy
      obtain ⟨i, hi, rfl⟩ := hy
      exact (hrow i hi).bytes.2.1
    · intro i hi
      obtain ⟨b1, b2, b3, _⟩ := (hrow i hi).bytes
      rw [hget i hi]
      exact ⟨a, A i, C i, rfl, by rw [b1]; exact (hr i (by omega)).1, b3⟩
    · intro i hi
      obtain ⟨b1, _⟩ := (hrow i hi).bytes
      rw [hget i hi, b1]
      obtain ⟨_, h2, _, h4, _, h6, _⟩ := hr i (by omega)
      cases hA : A i with
      | none => have := h6 hA; omega
      | some a' =>
        have hmem : (intRow .u8 (A i) (L i) (Z i) : DataW H) ∈ (List.range len).map fun r => intRow .u8 (A r) (L r) (Z r) := List.mem_map.2 ⟨i, List.mem_range.2 hi, rfl⟩
        have hwt : C i ∈ DataW.weights Tryd.prog 23 (intRow .u8 (A i) (L i) (Z i) : DataW H) := by
          rw [hA]
          simp only [intRow, DataW.weights, Tryd.underlying23]
          have e1 : Tryd.prog.bytesOf 5 = 1 := by kernel_rfl
          have e2 : (lits (H := H) .u8 ((Z i).take (L i))).length + (lits (H := H) .u8 ((Z i).drop (L i))).length = C i := by
            simp [lits]
            omega
          rw [e1, e2, Nat.mul_one]
          exact List.mem_cons_self
        have hin := wall_mem hmem _ hwt
        have hall : C i ∈ DataW.weights Tryd.prog 22 x.1 := by
          rw [hx]
          simp only [DataW.weights, Tryd.underlying22]
          exact List.mem_cons_of_mem _ (List.mem_append_left _ hin)
        have := List.all_eq_true.1 hw _ hall
        have hle : C i ≤ reachBytes := by simpa using this
        have : reachBytes ≤ 140737488355328 := by decide
        omega

set_option maxRecDepth 100000 in
/-- Rows that come in, opened. -/
theorem open_R {H : Type} {enc : TypeId × Value → H} {W : World} {b0 : Nat} {held : Bool} {v : Value} {d : DataW H} {p : List MemPlace} (hv : Value.okWide Tryd.prog W .any b0 25 v)
    (h : DataW.Trod enc Tryd.prog W 0 (fun _ => true) held 25 v d p) (hw : (DataW.weights Tryd.prog 25 d).all (· ≤ reachBytes) = true) :
    ∃ ba bl bc ma ml mc ls ms, v = rowsV ba bl bc ma ml mc ∧ IsRows W ba bl ls ∧ Lies W (.slice ma ml mc) ms ∧ ml = ms.length ∧ (∀ b ∈ ms, b < 256) ∧ ∀ i, i < bl → (ls.getD i []).length ≤ 140737488355328 := by
  obtain ⟨v0, v1, y0, y1, n, rfl, rfl, rfl, h0, h1⟩ := Go.Joins.open_agg2 Tryd.underlying25 (by kernel_rfl) (by kernel_rfl) hv h
  simp only [DataW.weights, Tryd.underlying25] at hw
  have hw0 : (DataW.weights Tryd.prog 22 y0.1).all (· ≤ reachBytes) = true := by
    rw [List.all_eq_true] at hw ⊢
    intro x hx
    exact hw x (by
      show x ∈ DataW.weightsEach Tryd.prog [22, 23] [y0.1, y1.1]
      simp only [DataW.weightsEach]
      exact List.mem_append_left _ hx)
  obtain ⟨ba, bl, bc, ls, rfl, r1, r2⟩ := open_rowsS (v := v0) h0 hw0
  have hb : ∃ ma ml mc zs, v1 = .slice ma ml mc ∧ IsRow .u8 W ma ml mc zs := by
    rcases open_ints Tryd.underlying23 Tryd.underlying5 (by kernel_rfl) h1 with ⟨hcs, _⟩ | ⟨x, l, c, zs, hcs, _, hl, hm, hz, _, hcell, hwz⟩
    · exact ⟨none, 0, 0, [], (List.cons.inj hcs).1, .inl ⟨rfl, rfl, rfl, rfl⟩⟩
    · exact ⟨some x, l, c, zs, (List.cons.inj hcs).1, .inr ⟨_, rfl, hl, hm, by simpa using hz, hcell, hwz⟩⟩
  obtain ⟨ma, ml, mc, zs, rfl, hz⟩ := hb
  obtain ⟨b1, b2, b3, _⟩ := hz.bytes
  rw [b1] at b3
  exact ⟨ba, bl, bc, ma, ml, mc, ls, bytesOf ml zs, rfl, r1, b3, b1.symm, b2, r2⟩
end Go.Proofs.YtmefhngmgfmhoaaDoor

/-
  The law that the same bytes give the same stream, and that a stream behind another one is read behind it.
-/
namespace Go.Proofs.YtmefhngmgfmhoaaDoor
open Go.RowKit

theorem own_low {w : World} {lo lo' n sz : Nat} {T : TypeId} {v : Value} {xs : List Value} (h : w.ownsRow lo T sz v n xs) (hl : lo' ≤ lo) : w.ownsRow lo' T sz v n xs :=
  ⟨h.1, h.2.imp id fun ⟨g, cap, cur, z1, z2, z3⟩ => ⟨g, cap, cur, z1, by omega, z3⟩⟩

theorem made_low {w w' : World} {e : Ending} (h : Made w e w') : Made w e w' := h

theorem lies_false {w w' : World} {sv : Value} {bs : List Nat} (h : Lies w sv bs) (f : Fr (fun _ => False) w w') : Lies w' sv bs := lies_frS h f fun _ _ _ _ _ hS => hS

theorem Stream.pos {bs os : List Nat} (hb : ∀ b ∈ bs, b < 256) (h : Stream bs os) : 1 ≤ os.length := by
  obtain ⟨t, tok, tb, tl⟩ := h.reads hb
  have hp : t.p ≤ 8 * os.length := by have := tb.len; omega
  have hof : t.of (leNum os) (8 * os.length) := ⟨by rw [tb.num]; exact Nat.mod_eq_of_lt tok, hp⟩
  have hd : Runs (leNum os) (8 * os.length) bs.length ⟨t.p, true, bs, .ahead⟩ (.ok (bs, t.p)) := Runs.done rfl
  have := Runs.pos_three (tl _ _ bs.length _ hof (Nat.le_refl _) hd)
  have := tb.len
  omega

theorem own_cap {w : World} {lo n c : Nat} {a : Option Addr} {xs : List Value} (h : w.ownsRow lo 5 1 (.slice a n c) n xs) : n ≤ c := by
  rcases h.2 with ⟨hv, e0⟩ | ⟨g, cap, cur, hv, _, _, hr, _⟩
  · omega
  · obtain ⟨_, _, e3⟩ := Value.slice.inj hv; omega

set_option maxHeartbeats 6400000 in
set_option maxRecDepth 100000 in
theorem same_c (ba : Option Addr) (bl bc : Nat) (ma : Option Addr) (ml mc : Nat) (ls : List (List Nat)) (ms : List Nat) (ba' : Option Addr) (bl' bc' : Nat) (ma' : Option Addr) (ml' mc' : Nat) (ls' : List (List Nat)) (ms' : List Nat) (w : World)
    (hB : IsRows w ba bl ls) (hM : Lies w (.slice ma ml mc) ms) (hml : ml = ms.length) (hmb : ∀ b ∈ ms, b < 256) (hsm : ∀ i, i < bl → (ls.getD i []).length ≤ 140737488355328)
    (hB' : IsRows w ba' bl' ls') (hM' : Lies w (.slice ma' ml' mc') ms') (hml' : ml' = ms'.length) (hmb' : ∀ b ∈ ms', b < 256) (hsm' : ∀ i, i < bl' → (ls'.getD i []).length ≤ 140737488355328) (hg : Gw w) :
    Calls Tryd.prog 7 #[rowsV ba bl bc ma ml mc, rowsV ba' bl' bc' ma' ml' mc'] w fun e w' => e = .returned (.bool true) ∧ Fr (fun _ => False) w w' := by
  obtain ⟨K, hK⟩ : ∃ K, K = w.heap.size := ⟨_, rfl⟩
  obtain ⟨w1, hw1⟩ : ∃ w1, w1 = (w.alloc (.cells #[.slice ba bl bc, .slice ma ml mc] 25)).alloc (.cells #[.slice ba' bl' bc', .slice ma' ml' mc'] 25) := ⟨_, rfl⟩
  have hF1 : Fr (fun _ => False) w w1 := by rw [hw1]; exact (Fr.of_alloc _ _).join (Fr.of_alloc _ _)
  have hb1 : w1.heap[K]? = some (.cells #[.slice ba bl bc, .slice ma ml mc] 25 (0, 0)) := by rw [hw1]; exact cells_at (heap_alloc_at hK) (Fr.of_alloc _ _) (fun e => e)
  have hb2 : w1.heap[K + 1]? = some (.cells #[.slice ba' bl' bc', .slice ma' ml' mc'] 25 (0, 0)) := by rw [hw1]; exact heap_alloc_at (by rw [hK]; simp)
  have HMk := hide (fun (W : World) (f : Fr (fun _ => False) w1 W) => make_c ba bl bc ma ml mc ls ms W (hB.fr (hF1.join f)) (lies_false hM (hF1.join f)) hml hmb hsm)
  have HMk' := hide (fun (W : World) (f : Fr (fun _ => False) w1 W) => make_c ba' bl' bc' ma' ml' mc' ls' ms' W (hB'.fr (hF1.join f)) (lies_false hM' (hF1.join f)) hml' hmb' hsm')
  have HG := hide (hg.fr hF1)
  have HF1 := hide hF1
  have Hb1 := hide hb1
  have Hb2 := hide hb2
  have Hw1 := hide hw1
  have HK := hide hK
  clear hB hM hml hmb hsm hB' hM' hml' hmb' hsm' hF1 hb1 hb2 hw1 hK hg
  go_enter Tryd.func7, Tryd.ntmps7
  go_wp2_with fail
  rw [← Hw1.out, ← HK.out]
  refine (awake_c w1 HG.out).mono ?_
  rintro e w2 ⟨rfl, hF2⟩
  have HF2 := hide hF2
  have hb := cells_at Hb1.out hF2 (fun e => e)
  have k0 := cell_of (o := 0) hb rfl
  have k1 := cell_of (o := 1) hb rfl
  clear hF2 hb
  go_wp2_with fail
  refine (calls_args (HMk.out w2 HF2.out) (by rfl)).mono ?_
  rintro e w3 ⟨hF3, h3⟩
  have HF3 := hide (HF2.out.join hF3)
  have hb := cells_at Hb2.out HF3.out (fun e => e)
  clear k0 k1
  have k0 := cell_of (o := 0) hb rfl
  have k1 := cell_of (o := 1) hb rfl
  have hs23 := HF2.out.size
  clear hF3 hb
  rcases h3 with rfl | ⟨x, xa, xc, rfl, hox, hbx, h7x⟩
  · go_wp2_with fail
    refine (calls_args (HMk'.out w3 HF3.out) (by rfl)).mono ?_
    rintro e w4 ⟨hF4, h4⟩
    have HF4 := hide (HF1.out.join (HF3.out.join hF4))
    clear hF4 k0 k1
    rcases h4 with rfl | ⟨y, ya, yc, rfl, _, _, _⟩
    · go_wp2
      go_ret
      exact ⟨rfl, HF4.out⟩
    · go_wp2
      go_ret
      exact ⟨rfl, HF4.out⟩
  obtain ⟨nx, hnx⟩ : ∃ nx, nx = x.length := ⟨_, rfl⟩
  have hlx := own_lies5 hox
  rw [← hnx] at hlx h7x ⊢
  have Hlx := hide hlx
  have Hbx := hide hbx
  have Hnx := hide hnx
  clear hlx hbx hox hnx
  go_wp2_with fail
  refine (calls_args (HMk'.out w3 HF3.out) (by rfl)).mono ?_
  rintro e w4 ⟨hF4, h4⟩
  have HF34 := hide hF4
  have HF4 := hide (HF3.out.join hF4)
  clear hF4 k0 k1
  rcases h4 with rfl | ⟨y, ya, yc, rfl, hoy, hby, h7y⟩
  · have HF := hide (HF1.out.join HF4.out)
    go_wp2
    go_ret
    exact ⟨rfl, HF.out⟩
  obtain ⟨ny, hny⟩ : ∃ ny, ny = y.length := ⟨_, rfl⟩
  have hly := own_lies5 hoy
  rw [← hny] at hly h7y ⊢
  have Hly := hide hly
  have Hby := hide hby
  have Hny := hide hny
  clear hly hby hoy hny
  have i1 : (nx : Int) ≤ 70000 := by omega
  have i2 : (ny : Int) ≤ 70000 := by omega
  by_cases hbig : 20000 < nx + ny
  · have hbi : (20000 : Int) < (nx : Int) + (ny : Int) := by omega
    have HF := hide (HF1.out.join HF4.out)
    go_wp2
    go_ret
    exact ⟨rfl, HF.out⟩
  have hbi : ¬ (20000 : Int) < (nx : Int) + (ny : Int) := by omega
  have HG4 := hide (HG.out.fr HF4.out)
  go_wp2_with fail
  refine (calls_args (all_c xa nx xc x w4 (lies_false Hlx.out HF34.out) Hnx.out (by omega) Hbx.out HG4.out.gl) (by rfl)).mono ?_
  rintro e w5 ⟨u, ua, uc, hSu, rfl, hou, hF5⟩
  have hlu := own_lies5 hou
  have hmu := hSu.len Hbx.out
  obtain ⟨U, hU⟩ : ∃ U, U = u.length := ⟨_, rfl⟩
  rw [← hU] at hlu hmu ⊢
  have HSu := hide hSu
  have Hlu := hide hlu
  have HU := hide hU
  have HF45 := hide hF5
  have HF5 := hide (HF4.out.join hF5)
  have HG5 := hide (HG4.out.fr hF5)
  have Hx5 := hide (lies_false Hlx.out (HF34.out.join hF5))
  have Hy5 := hide (lies_false Hly.out hF5)
  have hub : U ≤ 200000 := by rw [← Hnx.out] at hmu; unfold mostF at hmu; omega
  clear hSu hlu hU hF5 hou hmu
  go_wp2_with fail
  refine (calls_args (all_c ya ny yc y w5 Hy5.out Hny.out (by omega) Hby.out HG5.out.gl) (by rfl)).mono ?_
  rintro e w6 ⟨v, va, vc, hSv, rfl, hov, hF6⟩
  have hlv := own_lies5 hov
  have hmv := hSv.len Hby.out
  obtain ⟨V, hV⟩ : ∃ V, V = v.length := ⟨_, rfl⟩
  rw [← hV] at hlv hmv ⊢
  have hvb : V ≤ 200000 := by rw [← Hny.out] at hmv; unfold mostF at hmv; omega
  have HSv := hide hSv
  have HV := hide hV
  have HF6 := hide (HF5.out.join hF6)
  have HG6 := hide (HG5.out.fr hF6)
  have Hx6 := hide (lies_false Hx5.out hF6)
  have Hy6 := hide (lies_false Hy5.out hF6)
  have Hu6 := hide (lies_false Hlu.out hF6)
  have Hv6 := hide hlv
  clear hSv hlv hV hF6 hov hmv Hx5 Hy5 Hlu
  have O0 : Hid ((w6.alloc (.cells #[] 5)).ownsRow w6.heap.size 5 1 (.slice (some ⟨w6.heap.size, 0, none⟩) 0 0) 0 []) := World.ownsRow_made _ #[] 0 (Nat.le_refl _) (by unfold maxLen; omega) rfl
  have hs0 : w6.heap.size ≤ (w6.alloc (.cells #[] 5)).heap.size := by simp
  have FA : Hid (Fr (fun _ => False) w6 (w6.alloc (.cells #[] 5))) := Fr.of_alloc _ _
  have Hxa : Hid (Lies (w6.alloc (.cells #[] 5)) (.slice xa nx xc) x) := lies_false Hx6.out FA.out
  have hq : 0 + x.length ≤ 2147483648 := by rw [← Hnx.out]; omega
  go_wp2_with (at_builtin; refine append_anyB rfl (.tmp 48) (.tmp 49) rfl w6.heap.size (.slice (some ⟨w6.heap.size, 0, none⟩) 0 0) 0 [] rfl O0.out (.slice xa nx xc) x rfl Hxa.out hq hs0 ?_; intro v7 w7 hown7 hbel7
               obtain ⟨a7, c7, rfl⟩ := ownsRow_shape hown7
               have HF7 := hide (FA.out.join' hbel7)
               have Hown7 := hide hown7
               clear hown7 hbel7)
  have hown7 : w7.ownsRow w6.heap.size 5 1 (.slice a7 x.length c7) x.length (cellsOf x) := by
    have := Hown7.out
    rw [Nat.zero_add, List.nil_append] at this
    exact this
  have HG7 := hide (HG6.out.fr HF7.out)
  have hx4 : x.length ≤ 4194304 := by rw [← Hnx.out]; omega
  refine (calls_args (all_c a7 x.length c7 x w7 (own_lies5 hown7) rfl hx4 Hbx.out HG7.out.gl) (by rfl)).mono ?_
  rintro e w8 ⟨u2, ta, tc, hSt, rfl, hot, hF8⟩
  obtain rfl := hSt.det HSu.out
  have hlt := own_lies5 hot
  rw [← HU.out] at hlt ⊢
  have HF68 := hide (HF7.out.join hF8)
  have Ht8 := hide hlt
  have Hx8 := hide (lies_false Hx6.out HF68.out)
  have Hy8 := hide (lies_false Hy6.out HF68.out)
  have Hu8 := hide (lies_false Hu6.out HF68.out)
  have Hv8 := hide (lies_false Hv6.out HF68.out)
  obtain ⟨N, hN⟩ : ∃ N, N = (u2 ++ v).length := ⟨_, rfl⟩
  have Hcat := hide hN
  have hNe : N = U + V := by rw [hN, List.length_append, ← HU.out, ← HV.out]
  have Hby2 : Hid (∀ b ∈ u2 ++ v, b < 256) := fun b hb => by
    rcases List.mem_append.1 hb with h | h
    · exact HSu.out.bytes b h
    · exact HSv.out.bytes b h
  have hUi : (U : Int) ≤ 200000 := by omega
  have hVi : (V : Int) ≤ 200000 := by omega
  have hNi : (N : Int) ≤ 400000 := by omega
  have hUN : U ≤ N := by omega
  have hUNi : (U : Int) ≤ (N : Int) := by omega
  have hVpos : 1 ≤ V := by rw [HV.out]; exact HSv.out.pos Hby.out
  have HNe := hide hNe
  clear hSt hlt hF8 hot hown7 hN Hown7 O0 hs0 FA Hxa hq hNe
  have O9 : Hid ((w8.alloc (.cells #[] 5)).ownsRow w8.heap.size 5 1 (.slice (some ⟨w8.heap.size, 0, none⟩) 0 0) 0 []) := World.ownsRow_made _ #[] 0 (Nat.le_refl _) (by unfold maxLen; omega) rfl
  have hs9 : w8.heap.size ≤ (w8.alloc (.cells #[] 5)).heap.size := by simp
  have FA9 : Hid (Fr (fun _ => False) w8 (w8.alloc (.cells #[] 5))) := Fr.of_alloc _ _
  have Hua9 : Hid (Lies (w8.alloc (.cells #[] 5)) (.slice ua U uc) u2) := lies_false Hu8.out FA9.out
  have Hvb9 := hide Hv8.out
  have hqu9 : 0 + u2.length ≤ 2147483648 := by rw [← HU.out]; omega
  have hqv9 : 0 + u2.length + v.length ≤ 2147483648 := by rw [← HU.out, ← HV.out]; omega
  go_wp2_with (at_builtin; first
    | (refine append_anyB rfl (.tmp 53) (.tmp 54) rfl w8.heap.size (.slice (some ⟨w8.heap.size, 0, none⟩) 0 0) 0 [] rfl O9.out (.slice ua U uc) u2 rfl Hua9.out hqu9 hs9 ?_; intro vx9 wx9 hownx hbelx
       have F9a := hide (FA9.out.join' hbelx)
       have S9a := hide (lies_false Hvb9.out F9a.out)
       have Ow9a := hide hownx
       have Hs9a : Hid (w8.heap.size ≤ wx9.heap.size) := F9a.out.size
       clear hownx hbelx)
    | (refine append_anyB rfl (.tmp 55) (.tmp 56) rfl w8.heap.size vx9 (0 + u2.length) ([] ++ cellsOf u2) rfl Ow9a.out (.slice va V vc) v rfl S9a.out hqv9 Hs9a.out ?_; intro vy9 wy9 howny hbely
       have hown9 : wy9.ownsRow w8.heap.size 5 1 vy9 (u2 ++ v).length (cellsOf (u2 ++ v)) := by
         have e1 : 0 + u2.length + v.length = (u2 ++ v).length := by rw [List.length_append]; omega
         have e2 : [] ++ cellsOf u2 ++ cellsOf v = cellsOf (u2 ++ v) := by simp [cellsOf]
         rw [e1, e2] at howny
         exact howny
       obtain ⟨ay9, cy9, rfl⟩ := ownsRow_shape hown9
       have F9b := hide (F9a.out.join' hbely)
       have Ow9 := hide hown9
       rw [← Hcat.out] at Ow9 ⊢
       have hcy9 : N ≤ cy9 := own_cap Ow9.out
       have hcyi9 : (N : Int) ≤ (cy9 : Int) := by omega
       have hcu9 : ¬ cy9 = U := by have := HNe.out; omega
       clear howny hbely hown9))
  have Hi9 := hide (inflate_at Hbx.out HSu.out v (.slice ay9 N cy9) nx wy9 (by have := own_lies5 (bs := u2 ++ v) (by rw [← Hcat.out]; exact Ow9.out); rwa [← Hcat.out] at this) Hby2.out (by rw [← Hcat.out]; omega) (by rw [← Hnx.out]; exact Nat.le_refl _) (by omega))
  rw [← Hnx.out, ← HU.out] at Hi9
  have HF89 := hide F9b.out
  refine (calls_args Hi9.out (by rfl)).mono ?_
  rintro e w10 ⟨pa, pc, rfl, hlp, hF10⟩
  have HF810 := hide (HF89.out.join hF10)
  have Hp10 := hide hlp
  have Ht10 := hide (lies_false Ht8.out HF810.out)
  have Hx10 := hide (lies_false Hx8.out HF810.out)
  have Hy10 := hide (lies_false Hy8.out HF810.out)
  have Hu10 := hide (lies_false Hu8.out HF810.out)
  have Hv10 := hide (lies_false Hv8.out HF810.out)
  clear hlp hF10
  have OA : Hid ((w10.alloc (.cells #[] 5)).ownsRow w10.heap.size 5 1 (.slice (some ⟨w10.heap.size, 0, none⟩) 0 0) 0 []) := World.ownsRow_made _ #[] 0 (Nat.le_refl _) (by unfold maxLen; omega) rfl
  have hsA : w10.heap.size ≤ (w10.alloc (.cells #[] 5)).heap.size := by simp
  have FAA : Hid (Fr (fun _ => False) w10 (w10.alloc (.cells #[] 5))) := Fr.of_alloc _ _
  have HuaA : Hid (Lies (w10.alloc (.cells #[] 5)) (.slice ua U uc) u2) := lies_false Hu10.out FAA.out
  have HvbA := hide Hv10.out
  have hquA : 0 + u2.length ≤ 2147483648 := by rw [← HU.out]; omega
  have hqvA : 0 + u2.length + v.length ≤ 2147483648 := by rw [← HU.out, ← HV.out]; omega
  go_wp2_with (at_builtin; first
    | (refine append_anyB rfl (.tmp 65) (.tmp 66) rfl w10.heap.size (.slice (some ⟨w10.heap.size, 0, none⟩) 0 0) 0 [] rfl OA.out (.slice ua U uc) u2 rfl HuaA.out hquA hsA ?_; intro vxA wxA hownx hbelx
       have FAa := hide (FAA.out.join' hbelx)
       have SAa := hide (lies_false HvbA.out FAa.out)
       have OwAa := hide hownx
       have HsAa : Hid (w10.heap.size ≤ wxA.heap.size) := FAa.out.size
       clear hownx hbelx)
    | (refine append_anyB rfl (.tmp 67) (.tmp 68) rfl w10.heap.size vxA (0 + u2.length) ([] ++ cellsOf u2) rfl OwAa.out (.slice va V vc) v rfl SAa.out hqvA HsAa.out ?_; intro vyA wyA howny hbely
       have hownA : wyA.ownsRow w10.heap.size 5 1 vyA (u2 ++ v).length (cellsOf (u2 ++ v)) := by
         have e1 : 0 + u2.length + v.length = (u2 ++ v).length := by rw [List.length_append]; omega
         have e2 : [] ++ cellsOf u2 ++ cellsOf v = cellsOf (u2 ++ v) := by simp [cellsOf]
         rw [e1, e2] at howny
         exact howny
       obtain ⟨ayA, cyA, rfl⟩ := ownsRow_shape hownA
       have FAb := hide (FAa.out.join' hbely)
       have OwA := hide hownA
       rw [← Hcat.out] at OwA ⊢
       have hcyA : N ≤ cyA := own_cap OwA.out
       have hcyiA : (N : Int) ≤ (cyA : Int) := by omega
       have hcuA : ¬ cyA = U := by have := HNe.out; omega
       clear howny hbely hownA))
  have hra := raw_lies (b := U) (e := N) (bs := u2 ++ v) (by rw [← Hcat.out]; exact OwA.out) hUN (by rw [Hcat.out]; exact Nat.le_refl _)
  rw [if_neg hcuA] at hra
  have hdr : ((u2 ++ v).take N).drop U = v := by rw [Hcat.out, List.take_length, HU.out, List.drop_left]
  rw [hdr] at hra
  have HiA := hide (inflate_at Hby.out HSv.out [] (.slice (Option.map (fun x => x.add U) ayA) (N - U) (cyA - U)) ny wyA (by rw [List.append_nil]; exact hra.1) (by rw [List.append_nil]; exact HSv.out.bytes) (by rw [List.append_nil, ← HV.out]; omega) (by rw [← Hny.out]; exact Nat.le_refl _) (by omega))
  rw [← Hny.out, ← HV.out] at HiA
  have HFA := hide FAb.out
  clear hra hdr
  refine (calls_args HiA.out (by rfl)).mono ?_
  rintro e wz ⟨qa, qc, rfl, hlq, hFz⟩
  have HFz := hide (HFA.out.join hFz)
  have s1 := str_lies (lies_false Hu10.out HFz.out) HSu.out.bytes
  have s2 := str_lies (lies_false Ht10.out HFz.out) HSu.out.bytes
  have s3 := str_lies (lies_false Hp10.out HFz.out) Hbx.out
  have s4 := str_lies (lies_false Hx10.out HFz.out) Hbx.out
  have s5 := str_lies hlq Hby.out
  have s6 := str_lies (lies_false Hy10.out HFz.out) Hby.out
  have e1 := str_same u2
  have e2 := str_same x
  have e3 := str_same y
  generalize strOf u2 = su at s1 s2 e1
  generalize strOf x = sx at s3 s4 e2
  generalize strOf y = sy at s5 s6 e3
  have HFin := hide (HF1.out.join (HF6.out.join (HF68.out.join (HF810.out.join HFz.out))))
  clear hlq hFz
  go_wp2
  go_ret
  exact ⟨rfl, HFin.out⟩
end Go.Proofs.YtmefhngmgfmhoaaDoor

/-
  The law that however it is sliced the stream is the same, and that ahead of its end nothing is told.
-/
namespace Go.Proofs.YtmefhngmgfmhoaaDoor
open Go.RowKit

/-- A Machine of bs, wherever it stands: left is what it has not taken in. -/
inductive Mw (w : World) (lo M : Nat) (bs : List Nat) : Nat → Bool → Prop
  | work {taken : Nat} {s : Ms} : MSt w lo M bs taken s → taken ≤ bs.length → (taken < bs.length ∨ bs.length = 0) → Mw w lo M bs (bs.length - taken) false
  | done {os : List Nat} : Stream bs os → Md w lo M os → Mw w lo M bs 0 true

theorem Mw.keep {w w1 : World} {lo M : Nat} {bs : List Nat} {left : Nat} {d : Bool} (h : Mw w lo M bs left d) (f : Fr (fun _ => False) w w1) : Mw w1 lo M bs left d := by
  cases h with
  | work h1 h2 h3 => exact .work (h1.keep f (fun _ _ _ e => e) (fun e => e)) h2 h3
  | done h1 h2 => exact .done h1 (h2.keep f (fun _ _ _ e => e))

theorem Mw.cell {w : World} {lo M : Nat} {bs : List Nat} {left : Nat} {d : Bool} (h : Mw w lo M bs left d) : w.cell? ⟨M, 13, none⟩ = some (.bool d) := by
  cases h with
  | work h1 _ _ => obtain ⟨cs, N1, N2, g, hM⟩ := h1.ex; exact cell_of (o := 13) hM.blk hM.c13
  | done _ h2 => obtain ⟨cs, oa, oc, q1, _, _, q4⟩ := h2.ex; exact cell_of (o := 13) q1 q4

/-- What is left behind a step. -/
def leftF (left : Nat) (n : Int) : Nat := if 0 < n then left - min left n.toNat else left

theorem stepAny_c (lo M : Nat) (bs : List Nat) (left : Nat) (d : Bool) (n : Int) (w : World) (h : Mw w lo M bs left d) (hn2 : n ≤ 9223372036854775807) :
    Calls Tryd.prog 16 #[.pointer (some ⟨M, 0, none⟩), .int .i64 n] w fun e w' => ∃ d', e = .returned (.bool d') ∧ Fr (fun i => lo ≤ i) w w' ∧ Mw w' lo M bs (leftF left n) d' ∧ (n ≤ 0 → d' = d) ∧ (d = true → d' = true) ∧ (0 < n → (d' = true ↔ leftF left n = 0)) := by
  cases h with
  | @work taken s h1 h2 h3 =>
    by_cases hn : 0 < n
    · refine (step_on lo M taken bs s n w h1 h2 hn hn2).mono ?_
      have hl : leftF (bs.length - taken) n = bs.length - stepTo taken bs.length n := by unfold leftF stepTo; rw [if_pos hn, if_pos hn]; omega
      have hle : stepTo taken bs.length n ≤ bs.length := by unfold stepTo; rw [if_pos hn]; omega
      rintro e w' ⟨hF, ⟨z1, rfl, s', z2⟩ | ⟨z1, rfl, os, z2, z3⟩⟩
      · exact ⟨false, rfl, hF, by rw [hl]; exact .work z2 hle (Or.inl z1), fun h => by omega, fun h => h, fun _ => ⟨fun h => (by cases h), fun h => by omega⟩⟩
      · exact ⟨true, rfl, hF, by rw [hl, z1, Nat.sub_self]; exact .done z2 z3, fun h => by omega, fun _ => rfl, fun _ => ⟨fun _ => by omega, fun _ => rfl⟩⟩
    · refine (step_idle lo M taken bs s n w h1 (by omega)).mono ?_
      rintro e w' ⟨rfl, rfl⟩
      have hl : leftF (bs.length - taken) n = bs.length - taken := by unfold leftF; rw [if_neg hn]
      exact ⟨false, rfl, Fr.refl _ _, by rw [hl]; exact .work h1 h2 h3, fun _ => rfl, fun h => h, fun h => absurd h hn⟩
  | @done os h1 h2 =>
    refine (step_done lo M os n w h2).mono ?_
    rintro e w' ⟨rfl, rfl⟩
    have hl : leftF 0 n = 0 := by unfold leftF; split <;> omega
    exact ⟨true, rfl, Fr.refl _ _, by rw [hl]; exact .done h1 h2, fun _ => rfl, fun _ => rfl, fun _ => ⟨fun _ => hl, fun _ => rfl⟩⟩

/-- What Out answers of it. -/
theorem outAny_c (lo M : Nat) (bs : List Nat) (left : Nat) (d : Bool) (w : World) (hb : ∀ b ∈ bs, b < 256) (hlen : bs.length ≤ 4194304) (h : Mw w lo M bs left d) :
    Calls Tryd.prog 17 #[.pointer (some ⟨M, 0, none⟩)] w fun e w' => ∃ a c os, e = .returned (.slice a os.length c) ∧ w'.ownsRow w.heap.size 5 1 (.slice a os.length c) os.length (cellsOf os) ∧ Fr (fun _ => False) w w' ∧ (d = false → os = []) ∧ (d = true → Stream bs os) := by
  cases h with
  | work h1 _ _ =>
    obtain ⟨cs, N1, N2, g, hM⟩ := h1.ex
    refine (out_c M (.slice none 0 0) [] w (cell_of (o := 12) hM.blk hM.c12) (Or.inl ⟨rfl, rfl⟩) (by simp)).mono ?_
    rintro e w' ⟨a, c, rfl, ho, hF⟩
    exact ⟨a, c, [], rfl, ho, hF, fun _ => rfl, fun h => (by cases h)⟩
  | @done os h1 h2 =>
    obtain ⟨cs, oa, oc, q1, q2, q3, q4⟩ := h2.ex
    refine (out_c M (.slice oa os.length oc) os w (cell_of (o := 12) q1 q2) (own_lies5 q3) (by have := h1.len hb; unfold mostF at this; omega)).mono ?_
    rintro e w' ⟨a, c, rfl, ho, hF⟩
    exact ⟨a, c, os, rfl, ho, hF, fun h => (by cases h), fun _ => h1⟩
end Go.Proofs.YtmefhngmgfmhoaaDoor

/-
  The law that however it is sliced the stream is the same.
-/
namespace Go.Proofs.YtmefhngmgfmhoaaDoor
open Go.RowKit

theorem fr_own {w4 w5 w6 : World} (h : Fr (fun _ => False) w4 w5) (k : Fr (fun i => w4.heap.size ≤ i) w5 w6) : Fr (fun _ => False) w4 w6 := fr_false_new h k (fun _ e => e)

theorem Mw.left_le {w : World} {lo M : Nat} {bs : List Nat} {left : Nat} {d : Bool} (h : Mw w lo M bs left d) : left ≤ bs.length := by
  cases h with
  | work _ _ _ => omega
  | done _ _ => omega

theorem Mw.zero {w : World} {lo M : Nat} {bs : List Nat} {left : Nat} {d : Bool} (h : Mw w lo M bs left d) : (d = true → left = 0) ∧ (d = false → left = 0 → bs.length = 0) := by
  cases h with
  | work _ _ h3 => exact ⟨fun h => (by cases h), fun _ h => by omega⟩
  | done _ _ => exact ⟨fun _ => rfl, fun h => (by cases h)⟩

set_option maxHeartbeats 6400000 in
set_option maxRecDepth 100000 in
theorem slices_c (ba : Option Addr) (bl bc : Nat) (ma : Option Addr) (ml mc : Nat) (ls : List (List Nat)) (ms : List Nat) (sa : Option Addr) (sl sc : Nat) (st : List Int) (w : World)
    (hB : IsRows w ba bl ls) (hM : Lies w (.slice ma ml mc) ms) (hml : ml = ms.length) (hmb : ∀ b ∈ ms, b < 256) (hsm : ∀ i, i < bl → (ls.getD i []).length ≤ 140737488355328)
    (hS : LiesI w sa st) (hsl : sl = st.length) (hst : ∀ i, i < st.length → at0 st i ≤ 9223372036854775807 ∧ -9223372036854775808 ≤ at0 st i) (hg : Gw w) :
    Calls Tryd.prog 4 #[rowsV ba bl bc ma ml mc, .slice sa sl sc] w fun e w' => e = .returned (.bool true) ∧ Fr (fun _ => False) w w' := by
  obtain ⟨K, hK⟩ : ∃ K, K = w.heap.size := ⟨_, rfl⟩
  obtain ⟨w1, hw1⟩ : ∃ w1, w1 = w.alloc (.cells #[.slice ba bl bc, .slice ma ml mc] 25) := ⟨_, rfl⟩
  have hF1 : Fr (fun _ => False) w w1 := by rw [hw1]; exact Fr.of_alloc _ _
  have hb1 : w1.heap[K]? = some (.cells #[.slice ba bl bc, .slice ma ml mc] 25 (0, 0)) := by rw [hw1]; exact heap_alloc_at hK
  have HMk := hide (fun (W : World) (f : Fr (fun _ => False) w1 W) => make_c ba bl bc ma ml mc ls ms W (hB.fr (hF1.join f)) (lies_false hM (hF1.join f)) hml hmb hsm)
  have HS := hide (hS.fr hF1)
  have Hsl := hide hsl
  have Hst := hide hst
  have HG := hide (hg.fr hF1)
  have HF1 := hide hF1
  have Hb1 := hide hb1
  have Hw1 := hide hw1
  have HK := hide hK
  clear hB hM hml hmb hsm hF1 hb1 hw1 hK hg hS hsl hst
  go_enter Tryd.func4, Tryd.ntmps4
  go_wp2_with fail
  rw [← Hw1.out, ← HK.out]
  refine (awake_c w1 HG.out).mono ?_
  rintro e w2 ⟨rfl, hF2⟩
  have HF2 := hide hF2
  have hb := cells_at Hb1.out hF2 (fun e => e)
  have k0 := cell_of (o := 0) hb rfl
  have k1 := cell_of (o := 1) hb rfl
  clear hF2 hb
  go_wp2_with fail
  refine (calls_args (HMk.out w2 HF2.out) (by rfl)).mono ?_
  rintro e w3 ⟨hF3, h3⟩
  have HF3 := hide (HF2.out.join hF3)
  clear hF3 k0 k1
  rcases h3 with rfl | ⟨bs, xa, xc, rfl, hox, hbx, h7x⟩
  · have HF := hide (HF1.out.join HF3.out)
    go_wp2
    go_ret
    exact ⟨rfl, HF.out⟩
  obtain ⟨nx, hnx⟩ : ∃ nx, nx = bs.length := ⟨_, rfl⟩
  have hlx := own_lies5 hox
  rw [← hnx] at hlx h7x ⊢
  have Hlx := hide hlx
  have Hbx := hide hbx
  have Hnx := hide hnx
  have hnxi : (nx : Int) ≤ 70000 := by omega
  clear hlx hbx hox hnx
  by_cases h9 : 9000 < nx
  · have h9i : (9000 : Int) < (nx : Int) := by omega
    have HF := hide (HF1.out.join HF3.out)
    go_wp2
    go_ret
    exact ⟨rfl, HF.out⟩
  have h9i : ¬ (9000 : Int) < (nx : Int) := by omega
  by_cases hs1 : 100 < sl
  · have hsi : (100 : Int) < (sl : Int) := by omega
    have HF := hide (HF1.out.join HF3.out)
    go_wp2
    go_ret
    exact ⟨rfl, HF.out⟩
  have hsi : ¬ (100 : Int) < (sl : Int) := by omega
  have hsi2 : (sl : Int) ≤ 100 := by omega
  have HG3 := hide (HG.out.fr HF3.out)
  go_wp2_with fail
  refine (calls_args (new_c xa nx xc bs w3 Hlx.out Hnx.out (by omega) Hbx.out HG3.out.gl) (by rfl)).mono ?_
  rintro e w4 ⟨M, rfl, hM4, hF4⟩
  have hw4 : Mw w4 w3.heap.size M bs nx false := by
    have := Mw.work (bs := bs) hM4 (Nat.zero_le _) (by omega)
    rwa [Nat.sub_zero, ← Hnx.out] at this
  have HW4 := hide hw4
  have HF4 := hide hF4
  have hlen4 : bs.length ≤ 4194304 := by rw [← Hnx.out]; omega
  have Hlen4 := hide hlen4
  clear hM4 hF4 hw4 hlen4
  go_wp2_with fail
  go_loopw [8, 9, 10, 11] (fun tl ti _ _ wr => ∃ (i left : Nat) (d : Bool), ti = .int .i64 (i : Int) ∧ tl = .int .i64 (left : Int) ∧ i ≤ sl ∧ Mw wr w3.heap.size M bs left d ∧ Fr (fun _ => False) w3 wr) (fun _ ti _ _ _ => sl - (intOf ti).toNat)
  case atStart => exact ⟨0, nx, false, rfl, rfl, Nat.zero_le _, HW4.out, HF4.out⟩
  case round =>
    obtain ⟨i, left, d, rfl, rfl, hi, hW, hF⟩ := hrel
    have HW := hide hW
    have HF := hide hF
    have hll := hW.left_le
    rw [← Hnx.out] at hll
    clear hW hF
    by_cases hlt : i < sl
    · have hlti : (i : Int) < (sl : Int) := by omega
      have hil : i < st.length := by have := Hsl.out; omega
      obtain ⟨sad, rfl, hc⟩ := (HS.out.fr (HF3.out.join HF.out)) i hil
      obtain ⟨n, hn⟩ : ∃ n, n = at0 st i := ⟨_, rfl⟩
      have hnb := Hst.out i hil
      rw [← hn] at hc hnb
      obtain ⟨hnb1, hnb2⟩ := hnb
      have Hn := hide hn
      have hlli : (left : Int) ≤ 9000 := by omega
      clear hn
      go_wp2_with fail
      refine (calls_args (done_c M d wr HW.out.cell) (by rfl)).mono ?_
      rintro e wa ⟨rfl, rfl⟩
      go_wp2_with fail
      refine (calls_args (stepAny_c w3.heap.size M bs left d n wr HW.out hnb1) (by rfl)).mono ?_
      rintro e wb ⟨d', rfl, hFb, hWb, z1, z2, z3⟩
      have HWb := hide hWb
      have hfb := fr_own HF.out hFb
      have HFb := hide hfb
      obtain ⟨sad', e', hc'⟩ := (HS.out.fr (HF3.out.join hfb)) i hil
      cases e'
      rw [← Hn.out] at hc'
      have hz0 := hWb.zero
      have hlb := hWb.left_le
      rw [← Hnx.out] at hlb
      obtain ⟨l2, hl2⟩ : ∃ l2, l2 = leftF left n := ⟨_, rfl⟩
      rw [← hl2] at HWb hz0 hlb z3
      have Hdone := hide (done_c M d' wb HWb.out.cell)
      have Hout := hide (outAny_c w3.heap.size M bs l2 d' wb Hbx.out Hlen4.out HWb.out)
      have hl2i : (l2 : Int) ≤ 9000 := by omega
      clear hFb hWb hfb hc
      by_cases hn0 : 0 < n
      · have hn1 : ¬ n < 1 := by omega
        have hiff := z3 hn0
        have hl2v : l2 = left - min left n.toNat := by rw [hl2]; unfold leftF; rw [if_pos hn0]
        obtain ⟨m, hm⟩ : ∃ m, m = min left n.toNat := ⟨_, rfl⟩
        have hmin : (if n < (left : Int) then n else (left : Int)) = (m : Int) := by split <;> omega
        have hsub : (left : Int) - (m : Int) = (l2 : Int) := by omega
        have hmax : (if (0 : Int) < (l2 : Int) then (l2 : Int) else 0) = (l2 : Int) := by split <;> omega
        have hmax2 : (if (l2 : Int) < 0 then 0 else (l2 : Int)) = (l2 : Int) := by split <;> omega
        have hmi : (m : Int) ≤ 9000 := by omega
        have HL2 := hide hl2v
        clear z1 z3 hl2v hm
        cases d' with
        | true =>
          obtain rfl : l2 = 0 := hiff.1 rfl
          clear hiff hz0 hl2
          cases d
          · go_wp2_with fail
            refine (calls_args Hdone.out (by rfl)).mono ?_
            rintro e wc' ⟨rfl, rfl⟩
            go_wp2_with fail
            go_roundw
            case rel => exact ⟨i + 1, 0, true, by go_num, rfl, by omega, HWb.out, HFb.out⟩
            case measure => simp [intOf]; omega
          · go_wp2_with fail
            refine (calls_args Hdone.out (by rfl)).mono ?_
            rintro e wc' ⟨rfl, rfl⟩
            go_wp2_with fail
            go_roundw
            case rel => exact ⟨i + 1, 0, true, by go_num, rfl, by omega, HWb.out, HFb.out⟩
            case measure => simp [intOf]; omega
        | false =>
          have hl2p : l2 ≠ 0 := fun e => (by cases hiff.2 e)
          have hl2q : (0 : Int) < (l2 : Int) := by omega
          have hlq : (left : Int) - n = (l2 : Int) := by have := HL2.out; omega
          have hl2b : ((l2 : Int) == 0) = false := beq_false_of_ne (by omega)
          have hd : d = false := by cases d with
            | true => exact absurd (z2 rfl) (by decide)
            | false => rfl
          subst hd
          clear hiff hz0 hl2 z2
          go_wp2_with fail
          refine (calls_args Hdone.out (by rfl)).mono ?_
          rintro e wc' ⟨rfl, rfl⟩
          go_wp2_with fail
          refine (calls_args Hout.out (by rfl)).mono ?_
          rintro e wd ⟨oa, oc, os, rfl, _, hFd, hos, _⟩
          obtain rfl : os = [] := hos (by simp)
          have HWd := hide (HWb.out.keep hFd)
          have HFd := hide (HFb.out.join hFd)
          rw [List.length_nil]
          have hcd := (cell_blk (hFd.block _ (cell_lt hc') (fun e => e))).trans hc'
          clear hFd hos hc'
          go_wp2_with fail
          go_roundw
          case rel => exact ⟨i + 1, l2, false, by go_num, rfl, by omega, HWd.out, HFd.out⟩
          case measure => simp [intOf]; omega
      · have hn1 : n < 1 := by omega
        obtain rfl := z1 (by omega)
        have hl2v : l2 = left := by rw [hl2]; unfold leftF; rw [if_neg hn0]
        subst hl2v
        clear z1 z3 hl2 z2
        cases d' with
        | true =>
          obtain rfl : l2 = 0 := hz0.1 rfl
          clear hz0
          go_wp2_with fail
          refine (calls_args Hdone.out (by rfl)).mono ?_
          rintro e wc' ⟨rfl, rfl⟩
          go_wp2_with fail
          go_roundw
          case rel => exact ⟨i + 1, 0, true, by go_num, rfl, by omega, HWb.out, HFb.out⟩
          case measure => simp [intOf]; omega
        | false =>
          clear hz0
          go_wp2_with fail
          refine (calls_args Hdone.out (by rfl)).mono ?_
          rintro e wc' ⟨rfl, rfl⟩
          go_wp2_with fail
          refine (calls_args Hout.out (by rfl)).mono ?_
          rintro e wd ⟨oa, oc, os, rfl, _, hFd, hos, _⟩
          obtain rfl : os = [] := hos (by simp)
          have HWd := hide (HWb.out.keep hFd)
          have HFd := hide (HFb.out.join hFd)
          rw [List.length_nil]
          have hcd := (cell_blk (hFd.block _ (cell_lt hc') (fun e => e))).trans hc'
          clear hFd hos hc'
          by_cases hl0 : 0 < l2
          · have hl0i : (0 : Int) < (l2 : Int) := by omega
            go_wp2_with fail
            go_roundw
            case rel => exact ⟨i + 1, l2, false, by go_num, rfl, by omega, HWd.out, HFd.out⟩
            case measure => simp [intOf]; omega
          · obtain rfl : l2 = 0 := by omega
            go_wp2_with fail
            go_roundw
            case rel => exact ⟨i + 1, 0, false, by go_num, rfl, by omega, HWd.out, HFd.out⟩
            case measure => simp [intOf]; omega
    · have hlti : ¬ (i : Int) < (sl : Int) := by omega
      have hd0 : d = false → 0 + left ≤ nx := fun _ => by omega
      go_wp2_with fail
      go_loopw [12] (fun ti wr => ∃ (i left : Nat) (d : Bool), ti = .int .i64 (i : Int) ∧ Hid (d = false → i + left ≤ nx) ∧ i ≤ 10000 ∧ Mw wr w3.heap.size M bs left d ∧ Fr (fun _ => False) w3 wr) (fun ti _ => 10000 - (intOf ti).toNat)
      case atStart => exact ⟨0, left, d, rfl, hd0, by omega, HW.out, HF.out⟩
      case round =>
        obtain ⟨j, l, dj, rfl, Hdj, hj, hW, hF⟩ := hrel
        have HWj := hide hW
        have HFj := hide hF
        have hji : (j : Int) ≤ 10000 := by omega
        clear hW hF HW HF hd0
        cases dj with
        | false =>
          have hjl := Hdj.out rfl
          have hj1 : (j : Int) < 10000 := by omega
          go_wp2_with fail
          refine (calls_args (done_c M false wr HWj.out.cell) (by rfl)).mono ?_
          rintro e wa ⟨rfl, rfl⟩
          have hrem : (j : Int) % 50 = ((j % 50 : Nat) : Int) := by omega
          obtain ⟨r, hr⟩ : ∃ r, r = j % 50 := ⟨_, rfl⟩
          rw [← hr] at hrem
          have hr5 : (r : Int) < 50 := by omega
          have hr0 : (0 : Int) ≤ (r : Int) := by omega
          have hwr : IntKind.i64.wrap (1 + (r : Int)) = 1 + (r : Int) := wrap_i64_id _ (by omega) (by omega)
          clear hr hwr
          go_wp2_with fail
          refine (calls_args (stepAny_c w3.heap.size M bs l false (1 + (r : Int)) wr HWj.out (by omega)) (by rfl)).mono ?_
          rintro e wb ⟨d', rfl, hFb, hWb, _, _, z3⟩
          have hiff := z3 (by omega)
          have HWb := hide hWb
          have HFb := hide (fr_own HFj.out hFb)
          have hd' : d' = false → j + 1 + leftF l (1 + (r : Int)) ≤ nx := fun e => by
            have hne : leftF l (1 + (r : Int)) ≠ 0 := fun e2 => by rw [hiff.2 e2] at e; cases e
            unfold leftF at hne ⊢
            rw [if_pos (by omega)] at hne ⊢
            omega
          have Hd' := hide hd'
          clear hFb hWb z3 hiff hd'
          go_wp2_with fail
          go_roundw
          case rel => exact ⟨j + 1, _, d', by go_num, Hd'.out, by omega, HWb.out, HFb.out⟩
          case measure => simp [intOf]; omega
        | true =>
          have key : ∃ os, Stream bs os ∧ Md wr w3.heap.size M os := by
            cases HWj.out with
            | done h1 h2 => exact ⟨_, h1, h2⟩
          obtain ⟨os, hS1, hD1⟩ := key
          have Hdn := hide (fun (W : World) (f : Fr (fun _ => False) wr W) => done_c M true W (HWj.out.keep f).cell)
          have Hou := hide (fun (W : World) (f : Fr (fun _ => False) wr W) => outAny_c w3.heap.size M bs l true W Hbx.out Hlen4.out (HWj.out.keep f))
          have Hal := hide (fun (W : World) (f : Fr (fun _ => False) wr W) => all_c xa nx xc bs W (lies_false Hlx.out (HFj.out.join f)) Hnx.out (by omega) Hbx.out ((HG3.out.fr HFj.out).fr f).gl)
          clear hS1 hD1
          by_cases hj1 : j < 10000
          · have hj1i : (j : Int) < 10000 := by omega
            go_wp2_with fail
            refine (calls_args (Hdn.out wr (Fr.refl _ _)) (by rfl)).mono ?_
            rintro e wa ⟨rfl, rfl⟩
            go_wp2_with fail
            refine wp_region_held_drew (S := fun W' => Fr (fun _ => False) wr W') (by kernel_rfl) (Fr.of_drewN wr 1) (fun hHeld => ?_)
            obtain ⟨wz, hwz⟩ : ∃ W, W = wr.drew := ⟨_, rfl⟩
            rw [← hwz] at hHeld ⊢
            have HFc0 := hide hHeld
            clear hwz
            refine wpAnyH_take (i := 0) (v := ?v0_1) rfl (by kernel_rfl) (by kernel_rfl) (by kernel_rfl) (fun _ _ _ h => h) (Or.inl ⟨by rfl, ?hy0_1⟩) hHeld ?rest0_1
            case hy0_1 => (intro W hSw; (try dsimp only at hSw); go_simp; all_goals (with_reducible rfl))
            change wpAnyH _ _ _ _ _ _ _ (Act.put _ (some 135) _) _
            simp only [Act.put, List.setIfInBounds_toArray, List.set_cons_zero, List.set_cons_succ]
            refine wpAnyH_ready (rs := [1]) (by kernel_rfl) (by simp) ?_
            refine (AllReadyH.cons rfl (fun K hK => ?_) AllReadyH.nil)
            try simp only [List.getElem_toArray, List.getElem_cons_succ, List.getElem_cons_zero]
            go_simp
            refine (calls_args (Hdn.out _ HFc0.out) (by rfl)).mono ?_
            rintro e wq ⟨rfl, rfl⟩
            have HFc1 := hide HFc0.out
            refine hK.out _ _ HFc0.out (fun hHeld => ?_)
            clear hK K
            refine wpAnyH_take (i := 2) (v := ?v2_2) rfl (by kernel_rfl) (by kernel_rfl) (by kernel_rfl) (fun _ _ _ h => h) (Or.inl ⟨by rfl, ?hy2_2⟩) hHeld ?rest2_2
            case hy2_2 => (intro W hSw; (try dsimp only at hSw); go_simp; all_goals (with_reducible rfl))
            change wpAnyH _ _ _ _ _ _ _ (Act.put _ (some 137) _) _
            simp only [Act.put, List.setIfInBounds_toArray, List.set_cons_zero, List.set_cons_succ]
            refine wpAnyH_take (i := 3) (v := ?v3_3) rfl (by kernel_rfl) (by kernel_rfl) (by kernel_rfl) (fun _ _ _ h => h) (Or.inl ⟨by rfl, ?hy3_3⟩) hHeld ?rest3_3
            case hy3_3 => (intro W hSw; (try dsimp only at hSw); go_simp; all_goals (with_reducible rfl))
            change wpAnyH _ _ _ _ _ _ _ (Act.put _ (some 138) _) _
            simp only [Act.put, List.setIfInBounds_toArray, List.set_cons_zero, List.set_cons_succ]
            refine wpAnyH_take (i := 6) (v := ?v6_3) rfl (by kernel_rfl) (by kernel_rfl) (by kernel_rfl) (fun _ _ _ h => h) (Or.inl ⟨by rfl, ?hy6_3⟩) hHeld ?rest6_3
            case hy6_3 => (intro W hSw; (try dsimp only at hSw); go_simp; all_goals (with_reducible rfl))
            change wpAnyH _ _ _ _ _ _ _ (Act.put _ (some 141) _) _
            simp only [Act.put, List.setIfInBounds_toArray, List.set_cons_zero, List.set_cons_succ]
            refine wpAnyH_ready (rs := [4]) (by kernel_rfl) (by simp) ?_
            refine (AllReadyH.cons rfl (fun K hK => ?_) AllReadyH.nil)
            try simp only [List.getElem_toArray, List.getElem_cons_succ, List.getElem_cons_zero]
            go_simp
            refine (calls_args (Hou.out _ HFc1.out) (by rfl)).mono ?_
            rintro e wv2 ⟨oa, oc, os1, rfl, ho, hFo, _, hso⟩
            have hS1 := hso (by simp)
            have HLo := hide (own_lies5 ho)
            have HSo := hide hS1
            have HFc2 := hide (HFc1.out.join hFo)
            obtain ⟨sx, hsx⟩ : ∃ sx, sx = strOf os1 := ⟨_, rfl⟩
            have ss := str_same os1
            rw [← hsx] at ss
            have Hsx := hide hsx
            clear hsx ho hFo hso hS1
            refine hK.out _ _ HFc2.out (fun hHeld => ?_)
            clear hK K
            refine wpAnyH_ready (rs := [5, 7]) (by kernel_rfl) (by simp) ?_
            refine (AllReadyH.cons rfl (fun K hK => ?_) (AllReadyH.cons rfl (fun K hK => ?_) AllReadyH.nil))
            · skip
              try simp only [List.getElem_toArray, List.getElem_cons_succ, List.getElem_cons_zero]
              have s5 := str_lies HLo.out HSo.out.bytes
              rw [← Hsx.out] at s5
              go_simp
              clear s5
              have HFc3 := hide HFc2.out
              refine hK.out _ _ HFc2.out (fun hHeld => ?_)
              clear hK K
              refine wpAnyH_ready (rs := [7]) (by kernel_rfl) (by simp) ?_
              refine (AllReadyH.cons rfl (fun K hK => ?_) AllReadyH.nil)
              try simp only [List.getElem_toArray, List.getElem_cons_succ, List.getElem_cons_zero]
              go_simp
              refine (calls_args (Hal.out _ HFc3.out) (by rfl)).mono ?_
              rintro e wv4 ⟨os2, ra, rc, hS2, rfl, ho2, hFa⟩
              obtain rfl := hS2.det HSo.out
              have HLr := hide (own_lies5 ho2)
              have HFa := hide hFa
              have HFc4 := hide (HFc3.out.join hFa)
              clear hS2 ho2 hFa
              refine hK.out _ _ HFc4.out (fun hHeld => ?_)
              clear hK K
              refine wpAnyH_ready (rs := [8]) (by kernel_rfl) (by simp) ?_
              refine (AllReadyH.cons rfl (fun K hK => ?_) AllReadyH.nil)
              try simp only [List.getElem_toArray, List.getElem_cons_succ, List.getElem_cons_zero]
              have s8 := str_lies HLr.out HSo.out.bytes
              rw [← Hsx.out] at s8
              go_simp
              clear s8
              have HFc5 := hide HFc4.out
              refine hK.out _ _ HFc4.out (fun hHeld => ?_)
              clear hK K
              refine wpAnyH_take (i := 9) (v := ?v9_4) rfl (by kernel_rfl) (by kernel_rfl) (by kernel_rfl) (fun _ _ _ h => h) (Or.inl ⟨by rfl, ?hy9_4⟩) hHeld ?rest9_4
              case hy9_4 => (intro W hSw; (try dsimp only at hSw); go_simp; all_goals (with_reducible rfl))
              change wpAnyH _ _ _ _ _ _ _ (Act.put _ (some 144) _) _
              simp only [Act.put, List.setIfInBounds_toArray, List.set_cons_zero, List.set_cons_succ]
              refine wpAnyH_take (i := 10) (v := ?v10_5) rfl (by kernel_rfl) (by kernel_rfl) (by kernel_rfl) (fun _ _ _ h => h) (Or.inl ⟨by rfl, ?hy10_5⟩) hHeld ?rest10_5
              case hy10_5 => (intro W hSw; (try dsimp only at hSw); go_simp; all_goals (with_reducible rfl))
              change wpAnyH _ _ _ _ _ _ _ (Act.put _ (some 145) _) _
              simp only [Act.put, List.setIfInBounds_toArray, List.set_cons_zero, List.set_cons_succ]
              refine wpAnyH_take (i := 11) (v := ?v11_6) rfl (by kernel_rfl) (by kernel_rfl) (by kernel_rfl) (fun _ _ _ h => h) (Or.inl ⟨by rfl, ?hy11_6⟩) hHeld ?rest11_6
              case hy11_6 => (intro W hSw; (try dsimp only at hSw); go_simp; all_goals (with_reducible rfl))
              change wpAnyH _ _ _ _ _ _ _ (Act.put _ (some 4) _) _
              simp only [Act.put, List.setIfInBounds_toArray, List.set_cons_zero, List.set_cons_succ]
              refine wpAnyH_done (by kernel_rfl) ?_ _
              have HFe := hide (HF1.out.join (HF3.out.join (HFj.out.join HFc5.out)))
              go_wp2
              go_ret
              exact ⟨rfl, HFe.out⟩
            · skip
              try simp only [List.getElem_toArray, List.getElem_cons_succ, List.getElem_cons_zero]
              go_simp
              refine (calls_args (Hal.out _ HFc2.out) (by rfl)).mono ?_
              rintro e wv3 ⟨os2, ra, rc, hS2, rfl, ho2, hFa⟩
              obtain rfl := hS2.det HSo.out
              have HLr := hide (own_lies5 ho2)
              have HFa := hide hFa
              have HFc3 := hide (HFc2.out.join hFa)
              clear hS2 ho2 hFa
              refine hK.out _ _ HFc3.out (fun hHeld => ?_)
              clear hK K
              refine wpAnyH_ready (rs := [5, 8]) (by kernel_rfl) (by simp) ?_
              refine (AllReadyH.cons rfl (fun K hK => ?_) (AllReadyH.cons rfl (fun K hK => ?_) AllReadyH.nil))
              · skip
                try simp only [List.getElem_toArray, List.getElem_cons_succ, List.getElem_cons_zero]
                have s5 := str_lies (lies_false HLo.out HFa.out) HSo.out.bytes
                rw [← Hsx.out] at s5
                go_simp
                clear s5
                have HFc4 := hide HFc3.out
                refine hK.out _ _ HFc3.out (fun hHeld => ?_)
                clear hK K
                refine wpAnyH_ready (rs := [8]) (by kernel_rfl) (by simp) ?_
                refine (AllReadyH.cons rfl (fun K hK => ?_) AllReadyH.nil)
                try simp only [List.getElem_toArray, List.getElem_cons_succ, List.getElem_cons_zero]
                have s8 := str_lies HLr.out HSo.out.bytes
                rw [← Hsx.out] at s8
                go_simp
                clear s8
                have HFc5 := hide HFc4.out
                refine hK.out _ _ HFc4.out (fun hHeld => ?_)
                clear hK K
                refine wpAnyH_take (i := 9) (v := ?v9_7) rfl (by kernel_rfl) (by kernel_rfl) (by kernel_rfl) (fun _ _ _ h => h) (Or.inl ⟨by rfl, ?hy9_7⟩) hHeld ?rest9_7
                case hy9_7 => (intro W hSw; (try dsimp only at hSw); go_simp; all_goals (with_reducible rfl))
                change wpAnyH _ _ _ _ _ _ _ (Act.put _ (some 144) _) _
                simp only [Act.put, List.setIfInBounds_toArray, List.set_cons_zero, List.set_cons_succ]
                refine wpAnyH_take (i := 10) (v := ?v10_8) rfl (by kernel_rfl) (by kernel_rfl) (by kernel_rfl) (fun _ _ _ h => h) (Or.inl ⟨by rfl, ?hy10_8⟩) hHeld ?rest10_8
                case hy10_8 => (intro W hSw; (try dsimp only at hSw); go_simp; all_goals (with_reducible rfl))
                change wpAnyH _ _ _ _ _ _ _ (Act.put _ (some 145) _) _
                simp only [Act.put, List.setIfInBounds_toArray, List.set_cons_zero, List.set_cons_succ]
                refine wpAnyH_take (i := 11) (v := ?v11_9) rfl (by kernel_rfl) (by kernel_rfl) (by kernel_rfl) (fun _ _ _ h => h) (Or.inl ⟨by rfl, ?hy11_9⟩) hHeld ?rest11_9
                case hy11_9 => (intro W hSw; (try dsimp only at hSw); go_simp; all_goals (with_reducible rfl))
                change wpAnyH _ _ _ _ _ _ _ (Act.put _ (some 4) _) _
                simp only [Act.put, List.setIfInBounds_toArray, List.set_cons_zero, List.set_cons_succ]
                refine wpAnyH_done (by kernel_rfl) ?_ _
                have HFe := hide (HF1.out.join (HF3.out.join (HFj.out.join HFc5.out)))
                go_wp2
                go_ret
                exact ⟨rfl, HFe.out⟩
              · skip
                try simp only [List.getElem_toArray, List.getElem_cons_succ, List.getElem_cons_zero]
                have s8 := str_lies HLr.out HSo.out.bytes
                rw [← Hsx.out] at s8
                go_simp
                clear s8
                have HFc4 := hide HFc3.out
                refine hK.out _ _ HFc3.out (fun hHeld => ?_)
                clear hK K
                refine wpAnyH_ready (rs := [5]) (by kernel_rfl) (by simp) ?_
                refine (AllReadyH.cons rfl (fun K hK => ?_) AllReadyH.nil)
                try simp only [List.getElem_toArray, List.getElem_cons_succ, List.getElem_cons_zero]
                have s5 := str_lies (lies_false HLo.out HFa.out) HSo.out.bytes
                rw [← Hsx.out] at s5
                go_simp
                clear s5
                have HFc5 := hide HFc4.out
                refine hK.out _ _ HFc4.out (fun hHeld => ?_)
                clear hK K
                refine wpAnyH_take (i := 9) (v := ?v9_10) rfl (by kernel_rfl) (by kernel_rfl) (by kernel_rfl) (fun _ _ _ h => h) (Or.inl ⟨by rfl, ?hy9_10⟩) hHeld ?rest9_10
                case hy9_10 => (intro W hSw; (try dsimp only at hSw); go_simp; all_goals (with_reducible rfl))
                change wpAnyH _ _ _ _ _ _ _ (Act.put _ (some 144) _) _
                simp only [Act.put, List.setIfInBounds_toArray, List.set_cons_zero, List.set_cons_succ]
                refine wpAnyH_take (i := 10) (v := ?v10_11) rfl (by kernel_rfl) (by kernel_rfl) (by kernel_rfl) (fun _ _ _ h => h) (Or.inl ⟨by rfl, ?hy10_11⟩) hHeld ?rest10_11
                case hy10_11 => (intro W hSw; (try dsimp only at hSw); go_simp; all_goals (with_reducible rfl))
                change wpAnyH _ _ _ _ _ _ _ (Act.put _ (some 145) _) _
                simp only [Act.put, List.setIfInBounds_toArray, List.set_cons_zero, List.set_cons_succ]
                refine wpAnyH_take (i := 11) (v := ?v11_12) rfl (by kernel_rfl) (by kernel_rfl) (by kernel_rfl) (fun _ _ _ h => h) (Or.inl ⟨by rfl, ?hy11_12⟩) hHeld ?rest11_12
                case hy11_12 => (intro W hSw; (try dsimp only at hSw); go_simp; all_goals (with_reducible rfl))
                change wpAnyH _ _ _ _ _ _ _ (Act.put _ (some 4) _) _
                simp only [Act.put, List.setIfInBounds_toArray, List.set_cons_zero, List.set_cons_succ]
                refine wpAnyH_done (by kernel_rfl) ?_ _
                have HFe := hide (HF1.out.join (HF3.out.join (HFj.out.join HFc5.out)))
                go_wp2
                go_ret
                exact ⟨rfl, HFe.out⟩
          · have hj1i : ¬ (j : Int) < 10000 := by omega
            go_wp2_with fail
            refine wp_region_held_drew (S := fun W' => Fr (fun _ => False) wr W') (by kernel_rfl) (Fr.of_drewN wr 1) (fun hHeld => ?_)
            obtain ⟨wz, hwz⟩ : ∃ W, W = wr.drew := ⟨_, rfl⟩
            rw [← hwz] at hHeld ⊢
            have HFc0 := hide hHeld
            clear hwz
            refine wpAnyH_take (i := 0) (v := ?v0_13) rfl (by kernel_rfl) (by kernel_rfl) (by kernel_rfl) (fun _ _ _ h => h) (Or.inl ⟨by rfl, ?hy0_13⟩) hHeld ?rest0_13
            case hy0_13 => (intro W hSw; (try dsimp only at hSw); go_simp; all_goals (with_reducible rfl))
            change wpAnyH _ _ _ _ _ _ _ (Act.put _ (some 135) _) _
            simp only [Act.put, List.setIfInBounds_toArray, List.set_cons_zero, List.set_cons_succ]
            refine wpAnyH_ready (rs := [1]) (by kernel_rfl) (by simp) ?_
            refine (AllReadyH.cons rfl (fun K hK => ?_) AllReadyH.nil)
            try simp only [List.getElem_toArray, List.getElem_cons_succ, List.getElem_cons_zero]
            go_simp
            refine (calls_args (Hdn.out _ HFc0.out) (by rfl)).mono ?_
            rintro e wq ⟨rfl, rfl⟩
            have HFc1 := hide HFc0.out
            refine hK.out _ _ HFc0.out (fun hHeld => ?_)
            clear hK K
            refine wpAnyH_take (i := 2) (v := ?v2_14) rfl (by kernel_rfl) (by kernel_rfl) (by kernel_rfl) (fun _ _ _ h => h) (Or.inl ⟨by rfl, ?hy2_14⟩) hHeld ?rest2_14
            case hy2_14 => (intro W hSw; (try dsimp only at hSw); go_simp; all_goals (with_reducible rfl))
            change wpAnyH _ _ _ _ _ _ _ (Act.put _ (some 137) _) _
            simp only [Act.put, List.setIfInBounds_toArray, List.set_cons_zero, List.set_cons_succ]
            refine wpAnyH_take (i := 3) (v := ?v3_15) rfl (by kernel_rfl) (by kernel_rfl) (by kernel_rfl) (fun _ _ _ h => h) (Or.inl ⟨by rfl, ?hy3_15⟩) hHeld ?rest3_15
            case hy3_15 => (intro W hSw; (try dsimp only at hSw); go_simp; all_goals (with_reducible rfl))
            change wpAnyH _ _ _ _ _ _ _ (Act.put _ (some 138) _) _
            simp only [Act.put, List.setIfInBounds_toArray, List.set_cons_zero, List.set_cons_succ]
            refine wpAnyH_take (i := 6) (v := ?v6_15) rfl (by kernel_rfl) (by kernel_rfl) (by kernel_rfl) (fun _ _ _ h => h) (Or.inl ⟨by rfl, ?hy6_15⟩) hHeld ?rest6_15
            case hy6_15 => (intro W hSw; (try dsimp only at hSw); go_simp; all_goals (with_reducible rfl))
            change wpAnyH _ _ _ _ _ _ _ (Act.put _ (some 141) _) _
            simp only [Act.put, List.setIfInBounds_toArray, List.set_cons_zero, List.set_cons_succ]
            refine wpAnyH_ready (rs := [4]) (by kernel_rfl) (by simp) ?_
            refine (AllReadyH.cons rfl (fun K hK => ?_) AllReadyH.nil)
            try simp only [List.getElem_toArray, List.getElem_cons_succ, List.getElem_cons_zero]
            go_simp
            refine (calls_args (Hou.out _ HFc1.out) (by rfl)).mono ?_
            rintro e wv2 ⟨oa, oc, os1, rfl, ho, hFo, _, hso⟩
            have hS1 := hso (by simp)
            have HLo := hide (own_lies5 ho)
            have HSo := hide hS1
            have HFc2 := hide (HFc1.out.join hFo)
            obtain ⟨sx, hsx⟩ : ∃ sx, sx = strOf os1 := ⟨_, rfl⟩
            have ss := str_same os1
            rw [← hsx] at ss
            have Hsx := hide hsx
            clear hsx ho hFo hso hS1
            refine hK.out _ _ HFc2.out (fun hHeld => ?_)
            clear hK K
            refine wpAnyH_ready (rs := [5, 7]) (by kernel_rfl) (by simp) ?_
            refine (AllReadyH.cons rfl (fun K hK => ?_) (AllReadyH.cons rfl (fun K hK => ?_) AllReadyH.nil))
            · skip
              try simp only [List.getElem_toArray, List.getElem_cons_succ, List.getElem_cons_zero]
              have s5 := str_lies HLo.out HSo.out.bytes
              rw [← Hsx.out] at s5
              go_simp
              clear s5
              have HFc3 := hide HFc2.out
              refine hK.out _ _ HFc2.out (fun hHeld => ?_)
              clear hK K
              refine wpAnyH_ready (rs := [7]) (by kernel_rfl) (by simp) ?_
              refine (AllReadyH.cons rfl (fun K hK => ?_) AllReadyH.nil)
              try simp only [List.getElem_toArray, List.getElem_cons_succ, List.getElem_cons_zero]
              go_simp
              refine (calls_args (Hal.out _ HFc3.out) (by rfl)).mono ?_
              rintro e wv4 ⟨os2, ra, rc, hS2, rfl, ho2, hFa⟩
              obtain rfl := hS2.det HSo.out
              have HLr := hide (own_lies5 ho2)
              have HFa := hide hFa
              have HFc4 := hide (HFc3.out.join hFa)
              clear hS2 ho2 hFa
              refine hK.out _ _ HFc4.out (fun hHeld => ?_)
              clear hK K
              refine wpAnyH_ready (rs := [8]) (by kernel_rfl) (by simp) ?_
              refine (AllReadyH.cons rfl (fun K hK => ?_) AllReadyH.nil)
              try simp only [List.getElem_toArray, List.getElem_cons_succ, List.getElem_cons_zero]
              have s8 := str_lies HLr.out HSo.out.bytes
              rw [← Hsx.out] at s8
              go_simp
              clear s8
              have HFc5 := hide HFc4.out
              refine hK.out _ _ HFc4.out (fun hHeld => ?_)
              clear hK K
              refine wpAnyH_take (i := 9) (v := ?v9_16) rfl (by kernel_rfl) (by kernel_rfl) (by kernel_rfl) (fun _ _ _ h => h) (Or.inl ⟨by rfl, ?hy9_16⟩) hHeld ?rest9_16
              case hy9_16 => (intro W hSw; (try dsimp only at hSw); go_simp; all_goals (with_reducible rfl))
              change wpAnyH _ _ _ _ _ _ _ (Act.put _ (some 144) _) _
              simp only [Act.put, List.setIfInBounds_toArray, List.set_cons_zero, List.set_cons_succ]
              refine wpAnyH_take (i := 10) (v := ?v10_17) rfl (by kernel_rfl) (by kernel_rfl) (by kernel_rfl) (fun _ _ _ h => h) (Or.inl ⟨by rfl, ?hy10_17⟩) hHeld ?rest10_17
              case hy10_17 => (intro W hSw; (try dsimp only at hSw); go_simp; all_goals (with_reducible rfl))
              change wpAnyH _ _ _ _ _ _ _ (Act.put _ (some 145) _) _
              simp only [Act.put, List.setIfInBounds_toArray, List.set_cons_zero, List.set_cons_succ]
              refine wpAnyH_take (i := 11) (v := ?v11_18) rfl (by kernel_rfl) (by kernel_rfl) (by kernel_rfl) (fun _ _ _ h => h) (Or.inl ⟨by rfl, ?hy11_18⟩) hHeld ?rest11_18
              case hy11_18 => (intro W hSw; (try dsimp only at hSw); go_simp; all_goals (with_reducible rfl))
              change wpAnyH _ _ _ _ _ _ _ (Act.put _ (some 4) _) _
              simp only [Act.put, List.setIfInBounds_toArray, List.set_cons_zero, List.set_cons_succ]
              refine wpAnyH_done (by kernel_rfl) ?_ _
              have HFe := hide (HF1.out.join (HF3.out.join (HFj.out.join HFc5.out)))
              go_wp2
              go_ret
              exact ⟨rfl, HFe.out⟩
            · skip
              try simp only [List.getElem_toArray, List.getElem_cons_succ, List.getElem_cons_zero]
              go_simp
              refine (calls_args (Hal.out _ HFc2.out) (by rfl)).mono ?_
              rintro e wv3 ⟨os2, ra, rc, hS2, rfl, ho2, hFa⟩
              obtain rfl := hS2.det HSo.out
              have HLr := hide (own_lies5 ho2)
              have HFa := hide hFa
              have HFc3 := hide (HFc2.out.join hFa)
              clear hS2 ho2 hFa
              refine hK.out _ _ HFc3.out (fun hHeld => ?_)
              clear hK K
              refine wpAnyH_ready (rs := [5, 8]) (by kernel_rfl) (by simp) ?_
              refine (AllReadyH.cons rfl (fun K hK => ?_) (AllReadyH.cons rfl (fun K hK => ?_) AllReadyH.nil))
              · skip
                try simp only [List.getElem_toArray, List.getElem_cons_succ, List.getElem_cons_zero]
                have s5 := str_lies (lies_false HLo.out HFa.out) HSo.out.bytes
                rw [← Hsx.out] at s5
                go_simp
                clear s5
                have HFc4 := hide HFc3.out
                refine hK.out _ _ HFc3.out (fun hHeld => ?_)
                clear hK K
                refine wpAnyH_ready (rs := [8]) (by kernel_rfl) (by simp) ?_
                refine (AllReadyH.cons rfl (fun K hK => ?_) AllReadyH.nil)
                try simp only [List.getElem_toArray, List.getElem_cons_succ, List.getElem_cons_zero]
                have s8 := str_lies HLr.out HSo.out.bytes
                rw [← Hsx.out] at s8
                go_simp
                clear s8
                have HFc5 := hide HFc4.out
                refine hK.out _ _ HFc4.out (fun hHeld => ?_)
                clear hK K
                refine wpAnyH_take (i := 9) (v := ?v9_19) rfl (by kernel_rfl) (by kernel_rfl) (by kernel_rfl) (fun _ _ _ h => h) (Or.inl ⟨by rfl, ?hy9_19⟩) hHeld ?rest9_19
                case hy9_19 => (intro W hSw; (try dsimp only at hSw); go_simp; all_goals (with_reducible rfl))
                change wpAnyH _ _ _ _ _ _ _ (Act.put _ (some 144) _) _
                simp only [Act.put, List.setIfInBounds_toArray, List.set_cons_zero, List.set_cons_succ]
                refine wpAnyH_take (i := 10) (v := ?v10_20) rfl (by kernel_rfl) (by kernel_rfl) (by kernel_rfl) (fun _ _ _ h => h) (Or.inl ⟨by rfl, ?hy10_20⟩) hHeld ?rest10_20
                case hy10_20 => (intro W hSw; (try dsimp only at hSw); go_simp; all_goals (with_reducible rfl))
                change wpAnyH _ _ _ _ _ _ _ (Act.put _ (some 145) _) _
                simp only [Act.put, List.setIfInBounds_toArray, List.set_cons_zero, List.set_cons_succ]
                refine wpAnyH_take (i := 11) (v := ?v11_21) rfl (by kernel_rfl) (by kernel_rfl) (by kernel_rfl) (fun _ _ _ h => h) (Or.inl ⟨by rfl, ?hy11_21⟩) hHeld ?rest11_21
                case hy11_21 => (intro W hSw; (try dsimp only at hSw); go_simp; all_goals (with_reducible rfl))
                change wpAnyH _ _ _ _ _ _ _ (Act.put _ (some 4) _) _
                simp only [Act.put, List.setIfInBounds_toArray, List.set_cons_zero, List.set_cons_succ]
                refine wpAnyH_done (by kernel_rfl) ?_ _
                have HFe := hide (HF1.out.join (HF3.out.join (HFj.out.join HFc5.out)))
                go_wp2
                go_ret
                exact ⟨rfl, HFe.out⟩
              · skip
                try simp only [List.getElem_toArray, List.getElem_cons_succ, List.getElem_cons_zero]
                have s8 := str_lies HLr.out HSo.out.bytes
                rw [← Hsx.out] at s8
                go_simp
                clear s8
                have HFc4 := hide HFc3.out
                refine hK.out _ _ HFc3.out (fun hHeld => ?_)
                clear hK K
                refine wpAnyH_ready (rs := [5]) (by kernel_rfl) (by simp) ?_
                refine (AllReadyH.cons rfl (fun K hK => ?_) AllReadyH.nil)
                try simp only [List.getElem_toArray, List.getElem_cons_succ, List.getElem_cons_zero]
                have s5 := str_lies (lies_false HLo.out HFa.out) HSo.out.bytes
                rw [← Hsx.out] at s5
                go_simp
                clear s5
                have HFc5 := hide HFc4.out
                refine hK.out _ _ HFc4.out (fun hHeld => ?_)
                clear hK K
                refine wpAnyH_take (i := 9) (v := ?v9_22) rfl (by kernel_rfl) (by kernel_rfl) (by kernel_rfl) (fun _ _ _ h => h) (Or.inl ⟨by rfl, ?hy9_22⟩) hHeld ?rest9_22
                case hy9_22 => (intro W hSw; (try dsimp only at hSw); go_simp; all_goals (with_reducible rfl))
                change wpAnyH _ _ _ _ _ _ _ (Act.put _ (some 144) _) _
                simp only [Act.put, List.setIfInBounds_toArray, List.set_cons_zero, List.set_cons_succ]
                refine wpAnyH_take (i := 10) (v := ?v10_23) rfl (by kernel_rfl) (by kernel_rfl) (by kernel_rfl) (fun _ _ _ h => h) (Or.inl ⟨by rfl, ?hy10_23⟩) hHeld ?rest10_23
                case hy10_23 => (intro W hSw; (try dsimp only at hSw); go_simp; all_goals (with_reducible rfl))
                change wpAnyH _ _ _ _ _ _ _ (Act.put _ (some 145) _) _
                simp only [Act.put, List.setIfInBounds_toArray, List.set_cons_zero, List.set_cons_succ]
                refine wpAnyH_take (i := 11) (v := ?v11_24) rfl (by kernel_rfl) (by kernel_rfl) (by kernel_rfl) (fun _ _ _ h => h) (Or.inl ⟨by rfl, ?hy11_24⟩) hHeld ?rest11_24
                case hy11_24 => (intro W hSw; (try dsimp only at hSw); go_simp; all_goals (with_reducible rfl))
                change wpAnyH _ _ _ _ _ _ _ (Act.put _ (some 4) _) _
                simp only [Act.put, List.setIfInBounds_toArray, List.set_cons_zero, List.set_cons_succ]
                refine wpAnyH_done (by kernel_rfl) ?_ _
                have HFe := hide (HF1.out.join (HF3.out.join (HFj.out.join HFc5.out)))
                go_wp2
                go_ret
                exact ⟨rfl, HFe.out⟩
end Go.Proofs.YtmefhngmgfmhoaaDoor

namespace Go.Proofs.YtmefhngmgfmhoaaDoor
open Go.ChangeShapes Go.WideShapes Go.ChangeAt Go.RowKit
open Go.ChangeMaps (open_string shut_string)
set_option linter.unusedVariables false

theorem slices_walk (ba : Option Addr) (bl bc : Nat) (ma : Option Addr) (ml mc : Nat) (ls : List (List Nat)) (ms : List Nat) (sa : Option Addr) (sl sc : Nat) (zs : List Int) (w : World) (hB : IsRows w ba bl ls) (hM : Lies w (.slice ma ml mc) ms) (hml : ml = ms.length) (hmb : ∀ b ∈ ms, b < 256) (hsm : ∀ i, i < bl → (ls.getD i []).length ≤ 140737488355328) (hS : IsRow .i64 w sa sl sc zs) (hg : Gw w) :
    Calls Tryd.prog 4 #[rowsV ba bl bc ma ml mc, .slice sa sl sc] w fun e w' => e = .returned (.bool true) ∧ Below w.heap.size w w' := by
  refine (slices_c ba bl bc ma ml mc ls ms sa sl sc (zs.take sl) w hB hM hml hmb hsm hS.ints hS.len.symm ?_ hg).mono fun e w' ⟨he, hf⟩ => ⟨he, hf.below (Nat.le_refl _) (fun _ h => h.elim)⟩
  intro i hi
  have hm : at0 (zs.take sl) i ∈ zs := by
    have : at0 (zs.take sl) i = (zs.take sl)[i] := by simp [at0, List.getD_eq_getElem?_getD, List.getElem?_eq_getElem hi]
    rw [this]
    exact List.mem_of_mem_take (List.getElem_mem hi)
  rcases hS with ⟨_, _, _, rfl⟩ | ⟨x, _, _, _, _, _, hw⟩
  · cases hm
  · have := bounds_i64 (hw _ hm)
    omega


set_option maxRecDepth 100000 in
theorem deflateSlices_lifted (os : Os) (started : os.Started) (H : Type) (enc : TypeId × Value → H) :
    ReturnsInHanded {} Tryd.checked os 4 .any (fun w args => (Rows.deflateSlicesSpec.pre enc Tryd.prog Tryd.f4 [] false w args ∧ laidMetH Tryd.prog laidL w) ∧ sizedMet enc Tryd.prog Tryd.f4 (OpenSpec.ofChange Rows.deflateSlicesSpec) false w args)
      (Rows.deflateSlicesSpec.post enc Tryd.prog Tryd.f4 false true false false) := by
  refine returnsInHanded_of_change_and (C := Tryd.checked) (X := fun w _ => laidMetH Tryd.prog laidL w) (fun _ _ _ hh h => h.of_heap hh) own' started (by kernel_rfl) Tryd.func4
    (ChangeSpec.witness_shaped (enc := enc) (C := Tryd.checked) (os := os) (X := fun w _ => laidMetH Tryd.prog laidL w) false (World.doorLaid Tryd.prog 400 os) #[.agg #[.slice none 0 0, .slice none 0 0], .slice none 0 0] 8 rfl (World.shaped_of_RefB (by kernel_rfl) (by kernel_rfl)) (by kernel_rfl) (by kernel_rfl) (by kernel_rfl) (door_met os _)) ?_
  intro W base args ds gs before hval0 hW _ hwt hL _
  have hG := of_laid hL
  have hval : ∀ (j : Nat) t v, Tryd.f4.params[j]? = some t → args[j]? = some v → Value.okWide Tryd.prog W .any base t v := hval0
  have hW' := hW
  obtain ⟨p, q, hA0, hV, rfl, hfz, hnd⟩ := hW
  have hA : DataW.TrodAll enc Tryd.prog W 0 (fun _ => true) true Tryd.f4.params.toList args.toList ds p := hA0
  rw [Tryd.params4] at hA hval
  obtain ⟨v0, vs0, d0, ds0, p0, q0, hargs, rfl, rfl, h0, r0⟩ := trodAll_cons hA
  obtain ⟨v1, vs1, d1, ds1, p1, q1, rfl, rfl, rfl, h1, r1⟩ := trodAll_cons r0
  obtain ⟨rfl, rfl, rfl⟩ := trodAll_nil r1
  obtain rfl : args = #[v0, v1] := by cases args; simp_all
  obtain ⟨rfl, rfl⟩ := trodVars_none hV
  have k0 := h0
  have lt0 : ∀ x ∈ p0, x.block < W.heap.size := by obtain ⟨m, hm⟩ := k0; exact DataW.trod_lt m _ _ _ hm
  have hwt0 : (DataW.weights Tryd.prog 25 d0).all (· ≤ reachBytes) = true := by
    rw [List.all_eq_true] at hwt ⊢
    intro x hx
    exact hwt x (by rw [Tryd.params4]; exact List.mem_append_left _ hx)
  obtain ⟨ba0, bl0, bc0, ma0, ml0, mc0, ls0, ms0, rfl, w0, x0, y0, z0, s0⟩ := open_R (hval 0 25 v0 rfl rfl) h0 hwt0
  have k1 := h1
  have lt1 : ∀ x ∈ p1, x.block < W.heap.size := by obtain ⟨m, hm⟩ := k1; exact DataW.trod_lt m _ _ _ hm
  obtain ⟨a1, len1, cap1, rfl⟩ := okWide_slice Tryd.underlying34 (hval 1 34 v1 rfl rfl)
  obtain ⟨z1, w1⟩ : ∃ zs, IsRow .i64 W a1 len1 cap1 zs := by
    obtain ⟨fuel, hf⟩ := h1
    rcases open_ints Tryd.underlying34 Tryd.underlying3 (by kernel_rfl) hf with ⟨hcs, _⟩ | ⟨x, l, c, zs, hcs, _, hl, hm, hz, _, hcell, hwz⟩
    · simp [Value.cells] at hcs
      obtain ⟨rfl, rfl, rfl⟩ := hcs
      exact ⟨[], .inl ⟨rfl, rfl, rfl, rfl⟩⟩
    · simp [Value.cells] at hcs
      obtain ⟨rfl, rfl, rfl⟩ := hcs
      exact ⟨zs, .inr ⟨_, rfl, hl, hm, by simpa using hz, hcell, hwz⟩⟩
  clear hA0 hval0 hL hwt
  refine (slices_walk _ _ _ _ _ _ _ _ _ _ _ _ W w0 x0 y0 z0 s0 w1 hG).mono fun e W' ⟨he, bel⟩ => ?_
  subst he
  exact ⟨_, rfl, _, _, _, [], _, [], hW', trodAll_mk1 (shut_bool Tryd.underlying4 _), (trodAll_cons_mk (Below.trod laidOut (by kernel_rfl) (of_decide_eq_true (by kernel_rfl)) k0 bel lt0) (trodAll_cons_mk (Below.trod laidOut (by kernel_rfl) (of_decide_eq_true (by kernel_rfl)) k1 bel lt1) trodAll_mk0)), rfl, bel.frame _, fun h => by cases h⟩

theorem deflateSlices_over : Rows.DeflateSlicesSaid :=
  OpenClaim.holds_of_wide 4 Tryd.f4 rfl rfl rfl rfl rfl rfl rfl ⟨rfl, rfl, rfl, rfl, rfl⟩ rfl rfl rfl rfl rfl (by kernel_rfl) Tryd.func4 (by kernel_rfl)
    (of_decide_eq_true (by kernel_rfl)) (by unfold Func.isWrapper; first | (rw [if_pos (by decide +kernel)]; kernel_rfl) | (rw [if_neg (by decide +kernel)]; exact ⟨rfl, rfl⟩))
    (fun os started H enc _ => deflateSlices_lifted os started H enc)

/-- The statement. -/
theorem deflateSlices_holds : Rows.DeflateSlicesCardSaid :=
  Claim7.holds_tied_plain_at .later [] [.data] true (true, "25da87623ba374efa5f8a0f890cec34574710987cff2b518fcf39dbb3c3c8db1") false
    deflateSlices_over (fun _ h => by cases h) (by kernel_rfl) (fun _ h => by cases h) deflateSlices_row_tie rfl ⟨rfl, rfl⟩ (by kernel_rfl) rfl
    (fun f fn hf hfn => by
      obtain rfl : f = 4 := Option.some.inj ((show Tryd.prog.funcNamed "engraver/engraverlaw5.DeflateSlices" = some 4 by kernel_rfl).symm.trans hf) |>.symm
      obtain rfl : fn = Tryd.f4 := (Option.some.inj (Tryd.func4.symm.trans hfn)).symm
      exact ⟨by kernel_rfl, fun j t ht => by
        rw [Tryd.params4] at ht
        have hm : t ∈ ([25, 34] : List TypeId) := by simpa using Array.mem_of_getElem? ht
        have hall : (([25, 34] : List TypeId).all fun u => !Tryd.prog.wantsStandIn u) = true := by kernel_rfl
        exact (show Tryd.prog.wantsStandIn t = false by simpa using List.all_eq_true.1 hall t hm)⟩)
    (by kernel_rfl)
#print axioms deflateSlices_holds
end Go.Proofs.YtmefhngmgfmhoaaDoor
