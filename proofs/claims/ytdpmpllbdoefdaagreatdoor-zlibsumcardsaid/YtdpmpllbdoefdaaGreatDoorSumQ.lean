/-
  ZlibSum: a stream with another sum, cut, or with a byte more is told so; its head's bits are looked at.
  Conditions: none.
-/
import Derived.Test.YtdpmpllbdoefdaaGreatDoorQs9
import Derived.Deep.Matrix
import Derived.Laws.AppendOwnNone
import Derived.Lib.SmallJoins
import Derived.Maps.AppendAt
import Derived.Test.YtdpmpllbdoefdaaGreatDoorCards
import Derived.SevenTiedAt
/-
  zlib: ZlibHead.
-/
namespace Go.Proofs.YtdpmpllbdoefdaaGreatDoor
open Go.RowKit

/-- A row of bytes that is a block's own, from its first cell on. -/
def Bk (w : World) (g : Nat) (Z : List Nat) : Prop := ∃ cur : Array Value, w.heap[g]? = some (.cells cur 5 (0, 0)) ∧ Z.length ≤ cur.size ∧ cur.toList.take Z.length = cellsOf Z

theorem own_bk {w : World} {lo n c : Nat} {a : Option Addr} {Z : List Nat} (h : w.ownsRow lo 5 1 (.slice a n c) n (cellsOf Z)) (hn : 0 < n) (hZ : n = Z.length) : ∃ g, a = some ⟨g, 0, none⟩ ∧ lo ≤ g ∧ g < w.heap.size ∧ n ≤ c ∧ Bk w g Z := by
  rcases h.2 with ⟨_, e⟩ | ⟨g, cap, cur, hv, hg, hh, hr, hm, hs, ht⟩
  · omega
  · obtain ⟨e1, _, e3⟩ := Value.slice.inj hv
    subst hZ
    refine ⟨g, e1, hg, lt_of hh, by omega, cur, hh, by omega, ?_⟩
    rw [Nat.mul_one] at ht
    exact ht

theorem Bk.set {w : World} {g : Nat} {Z : List Nat} (h : Bk w g Z) (k x : Nat) : Bk (w.setCell ⟨g, k, none⟩ (.int .u8 (x : Int))) g (Z.set k x) := by
  obtain ⟨cur, h1, h2, h3⟩ := h
  refine ⟨cur.setIfInBounds k (.int .u8 (x : Int)), heap_setCell_own _ h1, by simpa using h2, ?_⟩
  rw [List.length_set, Array.toList_setIfInBounds, List.take_set, h3]
  simp [cellsOf, List.map_set]

theorem Bk.lies {w : World} {g : Nat} {Z : List Nat} (h : Bk w g Z) (c : Nat) : Lies w (.slice (some ⟨g, 0, none⟩) Z.length c) Z := by
  obtain ⟨cur, h1, h2, h3⟩ := h
  refine Or.inr ⟨⟨g, 0, none⟩, c, rfl, fun j u hu => ?_⟩
  rw [Addr.add_mid, Nat.zero_add]
  refine cell_of h1 ?_
  rw [← h3, List.getElem?_take] at hu
  split at hu
  · simpa using hu
  · cases hu

theorem Bk.cell {w : World} {g : Nat} {Z : List Nat} (h : Bk w g Z) (k x : Nat) (hk : Z[k]? = some x) : w.cell? ⟨g, k, none⟩ = some (.int .u8 (x : Int)) ∧ w.frozen? ⟨g, k, none⟩ = false := by
  obtain ⟨cur, h1, h2, h3⟩ := h
  refine ⟨cell_of h1 ?_, frozen_of h1⟩
  have hu : (cellsOf Z)[k]? = some (.int .u8 (x : Int)) := by simp [cellsOf, hk]
  rw [← h3, List.getElem?_take] at hu
  split at hu
  · simpa using hu
  · cases hu

theorem head_keep {w : World} {g : Nat} {Z : List Nat} {a b : Nat} (h : Bk w g Z) : Bk ((w.setCell ⟨g, 0, none⟩ (.int .u8 (a : Int))).setCell ⟨g, 1, none⟩ (.int .u8 (b : Int))) g ((Z.set 0 a).set 1 b) := (h.set 0 a).set 1 b

set_option maxHeartbeats 1600000 in
set_option maxRecDepth 100000 in
theorem head_c (a b : Nat) (ad : Option Addr) (n c : Nat) (bs : List Nat) (w : World) (ha : a < 256) (hb8 : b < 256) (hn : n = bs.length) (h : Lies w (.slice ad n c) bs) (hlt : ∀ b ∈ bs, b < 256) (hg : Gw w) :
    Calls Tryz.prog 6 #[.int .u8 (a : Int), .int .u8 (b : Int), .slice ad n c] w fun e w' => e = .returned (.bool true) ∧ Fr (fun _ => False) w w' := by
  subst hn
  have HG := hide hg
  have HL := hide h
  have Hb := hide hlt
  clear hg h hlt
  go_enter Tryz.func6, Tryz.ntmps6
  go_wp2_with fail
  refine (awake_c w HG.out).mono ?_
  rintro e w0 ⟨rfl, hF0⟩
  have HG0 := hide (HG.out.fr hF0)
  have HL0 := hide (lies_false HL.out hF0)
  have HF0 := hide hF0
  clear hF0 HL
  by_cases hbig : 1000 < bs.length
  · have hbi : (1000 : Int) < bs.length := by omega
    go_wp2
    go_ret
    exact ⟨rfl, HF0.out⟩
  have hbi : ¬ (1000 : Int) < bs.length := by omega
  have Hc := hide (close_c ad c bs w0 HL0.out (by omega) Hb.out HG0.out.gl)
  go_wp2_with fail
  refine Hc.out.mono ?_
  rintro e w1 ⟨os, ra, rc, hst, rfl, hO1, hF1⟩
  have hzl := zl_length os bs
  have hle := hst.len Hb.out
  have hosb := hst.bytes
  obtain ⟨g, rfl, hg1, hg2, hgc, hbk⟩ := own_bk hO1 (by omega) rfl
  obtain ⟨z0, z1⟩ := hbk.cell 0 120 rfl
  obtain ⟨y0, y1⟩ := hbk.cell 1 1 rfl
  obtain ⟨w2, hw2⟩ : ∃ w2, w2 = (w1.setCell ⟨g, 0, none⟩ (.int .u8 (a : Int))).setCell ⟨g, 1, none⟩ (.int .u8 (b : Int)) := ⟨_, rfl⟩
  have hbk2 : Bk w2 g ([a, b] ++ os ++ sumB (adler 1 bs)) := by rw [hw2]; exact head_keep hbk
  have hF2 : Fr (fun _ => False) w0 w2 := by rw [hw2]; exact fr_set_new (fr_set_new hF1 hg1) hg1
  have HF2 := hide (HF0.out.join hF2)
  have HL4 := hide (lies_false HL0.out hF2)
  have Hop : Hid (headOk a b = true → OpenOk ([a, b] ++ os ++ sumB (adler 1 bs)) (bs.length : Int) (bs, 0)) := fun hq => by
    have := open_tail a b (sumB (adler 1 bs)) hq Hb.out hst bs.length (Nat.le_refl _) (by simp [sumB])
    rw [sumErr_ok] at this
    exact this
  have hbyt : ∀ x ∈ [a, b] ++ os ++ sumB (adler 1 bs), x < 256 := by
    intro x hx
    simp only [List.mem_append] at hx
    rcases hx with (hx | hx) | hx
    · simp at hx; omega
    · exact hosb x hx
    · exact sumB_lt _ x hx
  have hlen : ([a, b] ++ os ++ sumB (adler 1 bs)).length = (zl os bs).length := by simp [zl]
  obtain ⟨Z, hZ⟩ : ∃ Z, Z = [a, b] ++ os ++ sumB (adler 1 bs) := ⟨_, rfl⟩
  have HZ0 : Hid (Z.getD 0 0 = a) := by show _ = _; rw [hZ]; rfl
  have HZ1 : Hid (Z.getD 1 0 = b) := by show _ = _; rw [hZ]; rfl
  rw [← hZ] at hbk2 Hop hbyt hlen
  have hZ6 : 6 ≤ Z.length := by omega
  have HZ6 := hide hZ6
  have hm1 : mostF bs.length ≤ 2000 := by unfold mostF; omega
  have Ho := hide (open_c (some ⟨g, 0, none⟩) rc Z bs.length w2 (hbk2.lies rc) hbyt (by omega) (by omega) (by omega) (HG0.out.fr hF2))
  rw [hlen] at Ho
  obtain ⟨N, hN⟩ : ∃ N, N = (zl os bs).length := ⟨_, rfl⟩
  rw [← hN] at Ho ⊢
  have k0 : 0 < N := by omega
  have k1 : 1 < N := by omega
  have y0' : (w1.setCell ⟨g, 0, none⟩ (.int .u8 (a : Int))).cell? ⟨g, 1, none⟩ = some (.int .u8 1) := by
    rw [World.cell?_setCell_other _ _ _ _ (by simp)]; exact y0
  have Hw2 := hide hw2
  have h1 := u8_and15 a ha
  have h4 := u8_and32 b hb8
  clear hst hO1 hF1 hzl hle hosb hbk hbk2 hF2 hbyt hlen hZ hN hZ6 hm1 hw2 hg1 hg2 hgc
  go_wp2_with fail
  rw [← Hw2.out]
  refine Ho.out.mono ?_
  clear z0 z1 y0 y1 y0' Hw2 Ho Hc
  rintro e w5 ⟨x, a5, c5, hx, rfl, hl5, hF5⟩
  have HF5 := hide (HF2.out.join hF5)
  by_cases g1 : ¬ a % 16 = 8
  · have hq : headOk a b = false := by simp only [headOk]; simp; omega
    obtain rfl := hx.det (Or.inr (Or.inl ⟨HZ6.out, by rw [HZ0.out, HZ1.out]; exact hq, rfl⟩))
    have p1 : ¬ (a : Int) % 16 = 8 := by omega
    clear hq hx hl5 hF5 g1
    go_wp2
    go_ret
    exact ⟨rfl, HF5.out⟩
  by_cases g2 : ¬ a / 16 ≤ 7
  · have hq : headOk a b = false := by simp only [headOk]; simp; omega
    obtain rfl := hx.det (Or.inr (Or.inl ⟨HZ6.out, by rw [HZ0.out, HZ1.out]; exact hq, rfl⟩))
    have p1 : (a : Int) % 16 = 8 := by omega
    have p2 : ¬ (a : Int) / 16 ≤ 7 := by omega
    clear hq hx hl5 hF5 g1 g2
    go_wp2
    go_ret
    exact ⟨rfl, HF5.out⟩
  by_cases g3 : ¬ (a * 256 + b) % 31 = 0
  · have hq : headOk a b = false := by simp only [headOk]; simp; omega
    obtain rfl := hx.det (Or.inr (Or.inl ⟨HZ6.out, by rw [HZ0.out, HZ1.out]; exact hq, rfl⟩))
    have p1 : (a : Int) % 16 = 8 := by omega
    have p2 : (a : Int) / 16 ≤ 7 := by omega
    have p3 : ¬ ((a : Int) * 256 + (b : Int)) % 31 = 0 := by omega
    clear hq hx hl5 hF5 g1 g2 g3
    go_wp2
    go_ret
    exact ⟨rfl, HF5.out⟩
  by_cases g4 : ¬ b / 32 % 2 = 0
  · have hq : headOk a b = false := by simp only [headOk]; simp; omega
    obtain rfl := hx.det (Or.inr (Or.inl ⟨HZ6.out, by rw [HZ0.out, HZ1.out]; exact hq, rfl⟩))
    have p1 : (a : Int) % 16 = 8 := by omega
    have p2 : (a : Int) / 16 ≤ 7 := by omega
    have p3 : ((a : Int) * 256 + (b : Int)) % 31 = 0 := by omega
    have p4 : ((b : Int) / 32 % 2 * 32 == 0) = false := by rw [beq_eq_false_iff_ne]; omega
    clear hq hx hl5 hF5 g1 g2 g3 g4
    go_wp2
    go_ret
    exact ⟨rfl, HF5.out⟩
  have hq : headOk a b = true := by simp only [headOk]; simp; omega
  obtain rfl := hx.det (Hop.out hq)
  have hl5b : Lies w5 (.slice a5 bs.length c5) bs := hl5
  have s1 := str_lies hl5b Hb.out
  have s2 := str_lies (lies_false HL4.out hF5) Hb.out
  have p1 : (a : Int) % 16 = 8 := by omega
  have p2 : (a : Int) / 16 ≤ 7 := by omega
  have p3 : ((a : Int) * 256 + (b : Int)) % 31 = 0 := by omega
  have p4 : (b : Int) / 32 % 2 * 32 = 0 := by omega
  clear hq hx hl5 hF5 hl5b g1 g2 g3 g4
  go_wp2
  go_ret
  exact ⟨rfl, HF5.out⟩
end Go.Proofs.YtdpmpllbdoefdaaGreatDoor

/-
  Pieces that are repeated.
-/
namespace Go.Proofs.YtdpmpllbdoefdaaGreatDoor
open Go.RowKit Go.ChangeShapes Go.WideShapes

/-- A slice of slices of bytes in memory: each cell a slice whose bytes lie there. -/
structure IsRows (w : World) (a : Option Addr) (len : Nat) (ls : List (List Nat)) : Prop where
  n : ls.length = len
  bytes : ∀ x ∈ ls, ∀ b ∈ x, b < 256
  lies : ∀ i, i < len → ∃ ad a' c', a = some ad ∧ w.cell? (ad.add i) = some (.slice a' (ls.getD i []).length c') ∧ Lies w (.slice a' (ls.getD i []).length c') (ls.getD i [])

theorem IsRows.fr {w w' : World} {a : Option Addr} {len : Nat} {ls : List (List Nat)} (h : IsRows w a len ls) (f : Fr (fun _ => False) w w') : IsRows w' a len ls := ⟨h.n, h.bytes, fun i hi => by
  obtain ⟨ad, a', c', e, hc, hl⟩ := h.lies i hi
  exact ⟨ad, a', c', e, (cell_blk (f.block _ (cell_lt hc) (fun e => e))).trans hc, lies_frS hl f fun _ _ _ _ _ hS => hS⟩⟩

theorem append_anyB {w : World} {ops : Array Oper} {rest : List Oper} {o : Oper} {a : Act} {Q : Exit → Act → World → Prop} (hgd : o.guard = none) (s x : Operand)
    (ho : o.op = .call { callee := .builtin .append, args := #[s, x], argTypes := #[22, 22] }) (base : Nat) (v : Value) (n : Nat) (xs : List Value) (hs : a.eval s = v) (hown : w.ownsRow base 5 1 v n xs)
    (sv : Value) (bs : List Nat) (hx : a.eval x = sv) (hl : Lies w sv bs) (h63 : n + bs.length ≤ 2147483648) (hbase : base ≤ w.heap.size)
    (h : ∀ v' w', w'.ownsRow base 5 1 v' (n + bs.length) (xs ++ cellsOf bs) → Below base w w' → wpList Tryz.prog ops Q rest (a.put o.dst v') w') : wpList Tryz.prog ops Q (o :: rest) a w := by
  obtain ⟨i0, hi, hz0, hz1, hz2⟩ := info_parts Tryz.info5
  rcases hl with ⟨rfl, rfl⟩ | ⟨ad, c, rfl, hc⟩
  · refine wpList_append_own_none hgd s x 22 ho base 5 i0 1 Tryz.underlying22 hi v n xs hs hown hx ?_
    refine h v w ?_ (Below.refl _ _)
    simpa [cellsOf] using hown
  · refine wpList_append_own w hgd s x 22 ho base 5 i0 (.int .u8 0) 1 1 Tryz.underlying22 hi hz0 hz1 hz2 rfl (by decide) v n xs hs hown ad bs.length c (cellsOf bs) hx (by simp [cellsOf_length]) hc (cellsOf_one bs) (by unfold maxLen; omega) (by omega) hbase ?_
    intro v' w' h1 h2 _
    exact h v' w' h1 (Below.grown (Below.refl _ _) h2 hbase (fun k hk => (hown.lt k hk).1))

/-- What Make answers. -/
def Made (w : World) (e : Ending) (w' : World) : Prop := Fr (fun _ => False) w w' ∧ (e = .returned (.tuple #[.slice none 0 0, .bool false]) ∨ ∃ out a c, e = .returned (.tuple #[.slice a out.length c, .bool true]) ∧ w'.ownsRow w.heap.size 5 1 (.slice a out.length c) out.length (cellsOf out) ∧ (∀ b ∈ out, b < 256) ∧ out.length ≤ 70000)

abbrev rowsV (ba : Option Addr) (bl bc : Nat) (ma : Option Addr) (ml mc : Nat) : Value := .agg #[.slice ba bl bc, .slice ma ml mc]

set_option maxHeartbeats 3200000 in
set_option maxRecDepth 100000 in
theorem make_c (ba : Option Addr) (bl bc : Nat) (ma : Option Addr) (ml mc : Nat) (ls : List (List Nat)) (ms : List Nat) (w : World) (hB : IsRows w ba bl ls) (hM : Lies w (.slice ma ml mc) ms) (hml : ml = ms.length) (hmb : ∀ b ∈ ms, b < 256) (hsm : ∀ i, i < bl → (ls.getD i []).length ≤ 140737488355328) :
    Calls Tryz.prog 10 #[rowsV ba bl bc ma ml mc] w (Made w) := by
  obtain ⟨K, hK⟩ : ∃ K, K = w.heap.size := ⟨_, rfl⟩
  obtain ⟨w1, hw1⟩ : ∃ w1, w1 = w.alloc (.cells #[.slice ba bl bc, .slice ma ml mc] 32) := ⟨_, rfl⟩
  have hF1 : Fr (fun _ => False) w w1 := by rw [hw1]; exact Fr.of_alloc _ _
  have hb1 : w1.heap[K]? = some (.cells #[.slice ba bl bc, .slice ma ml mc] 32 (0, 0)) := by rw [hw1]; exact heap_alloc_at hK
  have k0 := cell_of (o := 0) hb1 rfl
  have k1 := cell_of (o := 1) hb1 rfl
  have HB := hide (hB.fr hF1)
  have HM := hide (lies_frS hM hF1 fun _ _ _ _ _ hS => hS)
  have Hml := hide hml
  have Hmb := hide hmb
  have Hsm := hide hsm
  have HF1 := hide hF1
  have Hb1 := hide hb1
  have Hw1 := hide hw1
  have HK := hide hK
  clear hB hM hml hmb hsm hF1 hb1 hw1 hK
  by_cases h50 : 50 < bl
  · have hi : (50 : Int) < (bl : Int) := by omega
    clear k0 k1
    go_enter Tryz.func10, Tryz.ntmps10
    go_wp2_with fail
    go_ret2
    exact ⟨Fr.of_alloc _ _, Or.inl rfl⟩
  by_cases hmlb : ml < bl
  · have hi : ¬ (50 : Int) < (bl : Int) := by omega
    have hi2 : (ml : Int) < (bl : Int) := by omega
    clear k0 k1
    go_enter Tryz.func10, Tryz.ntmps10
    go_wp2_with fail
    go_ret2
    exact ⟨Fr.of_alloc _ _, Or.inl rfl⟩
  by_cases h100 : 100 < ml
  · have hi : ¬ (50 : Int) < (bl : Int) := by omega
    have hi2 : ¬ (ml : Int) < (bl : Int) := by omega
    have hi3 : (100 : Int) < (ml : Int) := by omega
    clear k0 k1
    go_enter Tryz.func10, Tryz.ntmps10
    go_wp2_with fail
    go_ret2
    exact ⟨Fr.of_alloc _ _, Or.inl rfl⟩
  have hi : ¬ (50 : Int) < (bl : Int) := by omega
  have hi2 : ¬ (ml : Int) < (bl : Int) := by omega
  have hi3 : ¬ (100 : Int) < (ml : Int) := by omega
  have hi4 : (bl : Int) ≤ 50 := by omega
  have hi5 : (ml : Int) ≤ 100 := by omega
  go_enter Tryz.func10, Tryz.ntmps10
  go_wp2_with fail
  rw [← Hw1.out, ← HK.out]
  clear hi hi2 hi3
  go_loopw [4, 5, 6] (fun tv ti _ wr => ∃ (i : Nat) (out : List Nat) (va : Option Addr) (vc : Nat), ti = .int .i64 (i : Int) ∧ i ≤ bl ∧ tv = .slice va out.length vc ∧ wr.ownsRow w1.heap.size 5 1 (.slice va out.length vc) out.length (cellsOf out) ∧ Hid (∀ b ∈ out, b < 256) ∧ out.length ≤ 70000 ∧ Fr (fun _ => False) w1 wr) (fun _ ti _ _ => bl - (intOf ti).toNat)
  case atStart => exact ⟨0, [], none, 0, rfl, Nat.zero_le _, rfl, World.ownsRow_nil _ _ _ _, fun b hb => (by cases hb), Nat.zero_le _, Fr.refl _ _⟩
  case round =>
    obtain ⟨i, out, va, vc, rfl, hib, rfl, hO, HBy, h7, hF⟩ := hrel
    have hbk := cells_at Hb1.out hF (fun e => e)
    clear k0 k1
    have k0 := cell_of (o := 0) hbk rfl
    have k1 := cell_of (o := 1) hbk rfl
    have HO := hide hO
    have HF := hide hF
    clear hO hF hbk
    by_cases hlt : i < bl
    · have hlti : (i : Int) < (bl : Int) := by omega
      have himl : i < ms.length := by have := Hml.out; omega
      have himi : (i : Int) < (ml : Int) := by have := Hml.out; omega
      go_wp2_with fail
      obtain ⟨cnt, hcnt⟩ : ∃ cnt, cnt = ms.getD i 0 := ⟨_, rfl⟩
      have hc256 : cnt < 256 := by
        rw [hcnt, List.getD_eq_getElem?_getD, List.getElem?_eq_getElem himl]
        exact Hmb.out _ (List.getElem_mem himl)
      have Hcnt := hide hcnt
      have hci : (cnt : Int) < 256 := by omega
      have HO2 := hide HO.out
      clear hcnt k0 k1
      obtain ⟨mad, hmad⟩ : ∃ mad, ma = some mad := by
        rcases HM.out with ⟨hv, e0⟩ | ⟨mad, c, hv, _⟩
        · rw [e0] at himl; cases himl
        · obtain ⟨e1, _, _⟩ := Value.slice.inj hv; exact ⟨mad, e1⟩
      subst hmad
      go_loopw [4, 6] (fun tv tk w2 => ∃ (k : Nat) (out2 : List Nat) (va2 : Option Addr) (vc2 : Nat), tk = .int .i64 (k : Int) ∧ k ≤ cnt ∧ tv = .slice va2 out2.length vc2 ∧ w2.ownsRow w1.heap.size 5 1 (.slice va2 out2.length vc2) out2.length (cellsOf out2) ∧ Hid (∀ b ∈ out2, b < 256) ∧ out2.length ≤ 70000 ∧ Fr (fun _ => False) w1 w2) (fun _ tk _ => cnt - (intOf tk).toNat)
      case atStart => exact ⟨0, out, va, vc, rfl, Nat.zero_le _, rfl, HO.out, HBy, h7, HF.out⟩
      case round =>
        obtain ⟨k, out2, va2, vc2, rfl, hkc, rfl, hO3, HBy2, h72, hF3⟩ := hrel
        have hbk := cells_at Hb1.out hF3 (fun e => e)
        have k0 := cell_of (o := 0) hbk rfl
        have k1 := cell_of (o := 1) hbk rfl
        have hmc : wr.cell? (mad.add i) = some (.int .u8 (cnt : Int)) := by
          have hl := lies_frS HM.out hF3 fun _ _ _ _ _ hS => hS
          rcases hl with ⟨hv, e0⟩ | ⟨ad', c, hv, hc⟩
          · rw [e0] at himl; cases himl
          · obtain ⟨e1, _, _⟩ := Value.slice.inj hv
            cases e1
            refine hc i _ ?_
            rw [Hcnt.out]
            simp [cellsOf, List.getElem?_eq_getElem himl]
        obtain ⟨bad, a', c', hbe, hbc, hbl⟩ := (HB.out.fr hF3).lies i hlt
        subst hbe
        obtain ⟨X, hX⟩ : ∃ X, X = ls.getD i [] := ⟨_, rfl⟩
        rw [← hX] at hbc hbl
        obtain ⟨N, hN⟩ : ∃ N, N = X.length := ⟨_, rfl⟩
        rw [← hN] at hbc hbl
        have HX := hide hX
        obtain ⟨L2, hL2⟩ : ∃ L2, L2 = out2.length := ⟨_, rfl⟩
        rw [← hL2] at hO3 h72 ⊢
        have hNb : N ≤ 140737488355328 := by rw [hN, hX]; exact Hsm.out i hlt
        have hNi : (N : Int) ≤ 140737488355328 := by omega
        have HO3 := hide hO3
        have HF3 := hide hF3
        have Hbl := hide hbl
        have HN := hide hN
        have HL2 := hide hL2
        have q1 : IntKind.i64.wrap (cnt : Int) = (cnt : Int) := wrap_i64_id _ (by omega) (by omega)
        have h72i : (L2 : Int) ≤ 70000 := by omega
        clear hO3 hF3 hbl hN hL2 hbk hX
        by_cases hkl : k < cnt
        · have hkli : (k : Int) < (cnt : Int) := by omega
          by_cases hbig : 70000 < L2 + N
          · have hbi : (70000 : Int) < (L2 : Int) + (N : Int) := by omega
            go_wp2_with fail
            go_ret2
            exact ⟨HF1.out.join HF3.out, Or.inl rfl⟩
          · have hbi : ¬ (70000 : Int) < (L2 : Int) + (N : Int) := by omega
            have hw1s : w1.heap.size ≤ wr.heap.size := HF3.out.size
            go_wp2_with (at_builtin; go_must (refine append_anyB rfl (.tmp 53) (.tmp 58) rfl w1.heap.size (.slice va2 L2 vc2) L2 (cellsOf out2) rfl HO3.out (.slice a' N c') X rfl Hbl.out (by rw [← HN.out]; omega) hw1s ?_); intro v4 w4 hown4 hbel4
                         obtain ⟨va4, vc4, rfl⟩ := ownsRow_shape hown4
                         have HF4 := hide (HF3.out.join' hbel4)
                         have HO4 := hide hown4
                         clear hown4 hbel4)
            go_roundw
            case rel =>
              have ho := HO4.out
              have el : L2 + X.length = (out2 ++ X).length := by rw [List.length_append, HL2.out]
              rw [el] at ho ⊢
              have ec : cellsOf out2 ++ cellsOf X = cellsOf (out2 ++ X) := by simp [cellsOf]
              rw [ec] at ho
              refine ⟨k + 1, out2 ++ X, va4, vc4, by go_num, by omega, rfl, ho, fun z hz => ?_, by rw [← el, ← HN.out]; omega, HF4.out⟩
              rcases List.mem_append.1 hz with h | h
              · exact HBy2.out z h
              · have hil : i < ls.length := by have := HB.out.n; omega
                exact HB.out.bytes _ (by rw [HX.out, List.getD_eq_getElem?_getD, List.getElem?_eq_getElem hil]; exact List.getElem_mem hil) z h
            case measure => simp [intOf]; omega
        · have hkli : ¬ (k : Int) < (cnt : Int) := by omega
          go_wp2_with fail
          go_roundw
          case rel =>
            have ho := HO3.out
            rw [HL2.out] at ho ⊢
            exact ⟨i + 1, out2, va2, vc2, by go_num, by omega, rfl, ho, HBy2, by rw [← HL2.out]; exact h72, HF3.out⟩
          case measure => simp [intOf]; omega
    · have hlti : ¬ (i : Int) < (bl : Int) := by omega
      go_wp2_with fail
      go_ret2
      have ho := HO.out
      exact ⟨HF1.out.join HF.out, Or.inr ⟨out, va, vc, rfl, ⟨ho.1, ho.2.imp id fun ⟨g, cap, cur, z1, z2, z3⟩ => ⟨g, cap, cur, z1, by have := HF1.out.size; omega, z3⟩⟩, HBy.out, h7⟩⟩
end Go.Proofs.YtdpmpllbdoefdaaGreatDoor

/-
  Pieces that are repeated, as they come in.
-/
namespace Go.Proofs.YtdpmpllbdoefdaaGreatDoor
open Go.RowKit Go.ChangeShapes Go.WideShapes Go.ChangeAt Go.Deep

theorem wall_mem {H : Type} {P : Program} {e : TypeId} {d : DataW H} : ∀ {l : List (DataW H)}, d ∈ l → ∀ x ∈ DataW.weights P e d, x ∈ DataW.weightsAll P e l := by
  intro l
  induction l with
  | nil => intro h; cases h
  | cons y l ih =>
    intro h x hx
    simp only [DataW.weightsAll]
    rcases List.mem_cons.1 h with rfl | h
    · exact List.mem_append_left _ hx
    · exact List.mem_append_right _ (ih h x hx)

theorem open_rowsS {H : Type} {enc : TypeId × Value → H} {W : World} {held : Bool} {fuel : Nat} {v : Value} {x : DataW H × List MemPlace}
    (h : DataW.trod enc Tryz.prog W 0 (fun _ => true) held fuel 30 [v] = some x) (hw : (DataW.weights Tryz.prog 30 x.1).all (· ≤ reachBytes) = true) : ∃ a len cap ls, v = .slice a len cap ∧ IsRows W a len ls ∧ ∀ i, i < len → (ls.getD i []).length ≤ 140737488355328 := by
  rcases Go.Deep.open_int_rows Tryz.underlying30 Tryz.underlying22 Tryz.underlying5 (by kernel_rfl) (by kernel_rfl) h with ⟨hcs, _⟩ | ⟨a, len, cap, A, L, C, Z, hcs, _, hl, hm, hx, hr⟩
  · have := List.cons.inj hcs
    exact ⟨none, 0, 0, [], this.1, ⟨rfl, by simp, fun i hi => absurd hi (Nat.not_lt_zero _)⟩, fun i hi => absurd hi (Nat.not_lt_zero _)⟩
  · have hv := (List.cons.inj hcs).1
    have hrow : ∀ i, i < len → IsRow .u8 W (A i) (L i) (C i) (Z i) := by
      intro i hi
      obtain ⟨h1, h2, h3, h4, h5, h6, h7⟩ := hr i (by omega)
      cases hA : A i with
      | none =>
        have := h6 hA
        refine Or.inl ⟨rfl, by omega, this, List.eq_nil_of_length_eq_zero (by omega)⟩
      | some a' => exact Or.inr ⟨a', rfl, h2, h3, h4, fun j hj => (h7 a' hA).2 j (by omega), h5⟩
    have hget : ∀ i, i < len → ((List.range len).map fun r => bytesOf (L r) (Z r)).getD i [] = bytesOf (L i) (Z i) := by
      intro i hi
      simp [List.getD_eq_getElem?_getD, List.getElem?_map, List.getElem?_range hi]
    refine ⟨some a, len, cap, (List.range len).map fun r => bytesOf (L r) (Z r), hv, ⟨by simp, ?_, ?_⟩, ?_⟩
    · intro y hy
      simp only [List.mem_map, List.mem_range] at hy
      obtain ⟨i, hi, rfl⟩ := hy
      exact (hrow i hi).bytes.2.1
    · intro i hi
      obtain ⟨b1, b2, b3, _⟩ := (hrow i hi).bytes
      rw [hget i hi]
      exact ⟨a, A i, C i, rfl, by rw [b1]; exact (hr i (by omega)).1, b3⟩
    · intro i hi
      obtain ⟨b1, _⟩ := (hrow i hi).bytes
      rw [hget i hi, b1]
      obtain ⟨_, h2, _, h4, _, h6, _⟩ := hr i (by omega)
      cases hA : A i with
      | none => have := h6 hA; omega
      | some a' =>
        have hmem : (intRow .u8 (A i) (L i) (Z i) : DataW H) ∈ (List.range len).map fun r => intRow .u8 (A r) (L r) (Z r) := List.mem_map.2 ⟨i, List.mem_range.2 hi, rfl⟩
        have hwt : C i ∈ DataW.weights Tryz.prog 22 (intRow .u8 (A i) (L i) (Z i) : DataW H) := by
          rw [hA]
          simp only [intRow, DataW.weights, Tryz.underlying22]
          have e1 : Tryz.prog.bytesOf 5 = 1 := by kernel_rfl
          have e2 : (lits (H := H) .u8 ((Z i).take (L i))).length + (lits (H := H) .u8 ((Z i).drop (L i))).length = C i := by
            simp [lits]
            omega
          rw [e1, e2, Nat.mul_one]
          exact List.mem_cons_self
        have hin := wall_mem hmem _ hwt
        have hall : C i ∈ DataW.weights Tryz.prog 30 x.1 := by
          rw [hx]
          simp only [DataW.weights, Tryz.underlying30]
          exact List.mem_cons_of_mem _ (List.mem_append_left _ hin)
        have := List.all_eq_true.1 hw _ hall
        have hle : C i ≤ reachBytes := by simpa using this
        have : reachBytes ≤ 140737488355328 := by decide
        omega

set_option maxRecDepth 100000 in
/-- Rows that come in, opened. -/
theorem open_R {H : Type} {enc : TypeId × Value → H} {W : World} {b0 : Nat} {held : Bool} {v : Value} {d : DataW H} {p : List MemPlace} (hv : Value.okWide Tryz.prog W .any b0 32 v)
    (h : DataW.Trod enc Tryz.prog W 0 (fun _ => true) held 32 v d p) (hw : (DataW.weights Tryz.prog 32 d).all (· ≤ reachBytes) = true) :
    ∃ ba bl bc ma ml mc ls ms, v = rowsV ba bl bc ma ml mc ∧ IsRows W ba bl ls ∧ Lies W (.slice ma ml mc) ms ∧ ml = ms.length ∧ (∀ b ∈ ms, b < 256) ∧ ∀ i, i < bl → (ls.getD i []).length ≤ 140737488355328 := by
  obtain ⟨v0, v1, y0, y1, n, rfl, rfl, rfl, h0, h1⟩ := Go.Joins.open_agg2 Tryz.underlying32 (by kernel_rfl) (by kernel_rfl) hv h
  simp only [DataW.weights, Tryz.underlying32] at hw
  have hw0 : (DataW.weights Tryz.prog 30 y0.1).all (· ≤ reachBytes) = true := by
    rw [List.all_eq_true] at hw ⊢
    intro x hx
    exact hw x (by
      show x ∈ DataW.weightsEach Tryz.prog [30, 22] [y0.1, y1.1]
      simp only [DataW.weightsEach]
      exact List.mem_append_left _ hx)
  obtain ⟨ba, bl, bc, ls, rfl, r1, r2⟩ := open_rowsS (v := v0) h0 hw0
  have hb : ∃ ma ml mc zs, v1 = .slice ma ml mc ∧ IsRow .u8 W ma ml mc zs := by
    rcases open_ints Tryz.underlying22 Tryz.underlying5 (by kernel_rfl) h1 with ⟨hcs, _⟩ | ⟨x, l, c, zs, hcs, _, hl, hm, hz, _, hcell, hwz⟩
    · exact ⟨none, 0, 0, [], (List.cons.inj hcs).1, .inl ⟨rfl, rfl, rfl, rfl⟩⟩
    · exact ⟨some x, l, c, zs, (List.cons.inj hcs).1, .inr ⟨_, rfl, hl, hm, by simpa using hz, hcell, hwz⟩⟩
  obtain ⟨ma, ml, mc, zs, rfl, hz⟩ := hb
  obtain ⟨b1, b2, b3, _⟩ := hz.bytes
  rw [b1] at b3
  exact ⟨ba, bl, bc, ma, ml, mc, ls, bytesOf ml zs, rfl, r1, b3, b1.symm, b2, r2⟩
end Go.Proofs.YtdpmpllbdoefdaaGreatDoor

/-
  zlib: ZlibSum.
-/
namespace Go.Proofs.YtdpmpllbdoefdaaGreatDoor
open Go.RowKit

/-- A row of bytes of one's own. -/
def OwnB (w : World) (base : Nat) (v : Value) (bs : List Nat) : Prop := w.ownsRow base 5 1 v bs.length (cellsOf bs)

theorem cellsOf_app (xs ys : List Nat) : cellsOf (xs ++ ys) = cellsOf xs ++ cellsOf ys := by simp [cellsOf]

/-- What an append to one's own bytes comes to. -/
theorem run_app (w : World) (ty : TypeId) (base : Nat) (v : Value) (bs : List Nat) (hown : OwnB w base v bs) (sv : Value) (ys : List Nat) (hl : Lies w sv ys) (h63 : bs.length + ys.length ≤ 2147483648) (hbase : base ≤ w.heap.size) :
    ∃ a c w', (Builtin.append_ #[22, 22] ty #[v, sv]).run Tryz.prog w = .ok (.slice a (bs.length + ys.length) c) w' ∧ OwnB w' base (.slice a (bs.length + ys.length) c) (bs ++ ys) ∧ Fr (fun i => v.ownBlock = some i) w w' ∧ ((Value.slice a (bs.length + ys.length) c).ownBlock = v.ownBlock ∨ (Value.slice a (bs.length + ys.length) c).ownBlock = some w.heap.size) := by
  obtain ⟨i0, hi, hz0, hz1, hz2⟩ := info_parts Tryz.info5
  rcases hl with ⟨rfl, rfl⟩ | ⟨ad, c, rfl, hc⟩
  · have hrun := run_append_owned_none (P := Tryz.prog) (w := w) base 22 ty 5 i0 1 Tryz.underlying22 hi v bs.length (cellsOf bs) hown
    obtain ⟨a, c, rfl⟩ := ownsRow_shape hown
    refine ⟨a, c, w, hrun, ?_, Fr.refl _ _, Or.inl rfl⟩
    simpa [OwnB] using hown
  · obtain ⟨v', w', h1, h2, h3, _, h5⟩ := run_append_own_at (P := Tryz.prog) w base 22 ty 5 i0 (.int .u8 0) 1 1 Tryz.underlying22 hi hz0 hz1 hz2 rfl (by decide) v bs.length (cellsOf bs) hown ad ys.length c (cellsOf ys) (by simp [cellsOf_length]) hc (cellsOf_one ys) (by unfold maxLen; omega) (by omega) hbase
    obtain ⟨a, c', rfl⟩ := ownsRow_shape h2
    refine ⟨a, c', w', h1, ?_, Fr.of_grown h3, h5⟩
    unfold OwnB
    rw [List.length_append, cellsOf_app]
    exact h2

theorem wp_app {w : World} {o : Oper} {a : Act} {K : Act → World → Prop} {Q : Exit → Act → World → Prop} (s x : Operand)
    (ho : o.op = .call { callee := .builtin .append, args := #[s, x], argTypes := #[22, 22] }) (base : Nat) (v : Value) (bs : List Nat) (hs : a.eval s = v) (hown : OwnB w base v bs)
    (sv : Value) (ys : List Nat) (hx : a.eval x = sv) (hl : Lies w sv ys) (h63 : bs.length + ys.length ≤ 2147483648) (hbase : base ≤ w.heap.size)
    (h : ∀ a' c w', OwnB w' base (.slice a' (bs.length + ys.length) c) (bs ++ ys) → Fr (fun i => v.ownBlock = some i) w w' → ((Value.slice a' (bs.length + ys.length) c).ownBlock = v.ownBlock ∨ (Value.slice a' (bs.length + ys.length) c).ownBlock = some w.heap.size) → K (a.put o.dst (.slice a' (bs.length + ys.length) c)) w') : o.wp Tryz.prog a w K Q := by
  obtain ⟨a', c, w', hr, h2, h3, h4⟩ := run_app w o.type base v bs hown sv ys hl h63 hbase
  unfold Oper.wp execOp
  simp only [ho, resolve, invoke, builtin, Sem.run_bind, Sem.run_pure, Result.andThen_ok, List.map_toArray, List.map_cons, List.map_nil, hs, hx, hr]
  exact h a' c w' h2 h3 h4

theorem zl_set (os bs : List Nat) (j x : Nat) : (zl os bs).set (2 + os.length + j) x = [120, 1] ++ os ++ (sumB (adler 1 bs)).set j x := by
  unfold zl
  rw [List.set_append_right _ _ (by simp; omega)]
  congr 2
  simp; omega

theorem sumErr_set (bs : List Nat) (j x y : Nat) (hy : (sumB (adler 1 bs))[j]? = some y) (hx : x ≠ y) : sumErr ((sumB (adler 1 bs)).set j x) bs = 5 := by
  have hl : (sumB (adler 1 bs)).length = 4 := rfl
  unfold sumErr
  rw [List.length_set, hl, if_neg (by omega), if_neg (by omega), if_neg ?_]
  intro e
  have h1 := congrArg (·[j]?) e
  have hj : j < (sumB (adler 1 bs)).length := (List.getElem?_eq_some_iff.1 hy).1
  simp only [List.getElem?_set_self hj, hy, Option.some.injEq] at h1
  exact hx h1

theorem open_bad {bs os : List Nat} (hb : ∀ b ∈ bs, b < 256) (h : Stream bs os) (j x y : Nat) (hy : (sumB (adler 1 bs))[j]? = some y) (hx : x ≠ y) : OpenOk ((zl os bs).set (2 + os.length + j) x) (bs.length : Int) ([], 5) := by
  have := open_tail 120 1 ((sumB (adler 1 bs)).set j x) (by decide) hb h bs.length (Nat.le_refl _) (by simp [sumB])
  rw [sumErr_set bs j x y hy hx] at this
  rw [zl_set]
  exact this

theorem open_more {bs os : List Nat} (hb : ∀ b ∈ bs, b < 256) (h : Stream bs os) (x : Nat) : OpenOk (zl os bs ++ [x]) (bs.length : Int) ([], 4) := by
  have := open_tail 120 1 (sumB (adler 1 bs) ++ [x]) (by decide) hb h bs.length (Nat.le_refl _) (by simp [sumB])
  have e : sumErr (sumB (adler 1 bs) ++ [x]) bs = 4 := by simp [sumErr, sumB]
  rw [e] at this
  rw [show zl os bs ++ [x] = [120, 1] ++ os ++ (sumB (adler 1 bs) ++ [x]) by simp [zl]]
  exact this

theorem open_cut {bs os : List Nat} (hb : ∀ b ∈ bs, b < 256) (h : Stream bs os) (j : Nat) (hj : j < 4) : OpenOk ((zl os bs).take (2 + os.length + j)) (bs.length : Int) ([], 2) := by
  have e : (zl os bs).take (2 + os.length + j) = [120, 1] ++ os ++ (sumB (adler 1 bs)).take j := by
    unfold zl
    rw [List.take_append, List.take_of_length_le (by simp; omega)]
    congr 2
    simp; omega
  have hl : ((sumB (adler 1 bs)).take j).length = j := by simp [sumB]; omega
  rw [e]
  by_cases h6 : 2 + os.length + j < 6
  · exact Or.inl ⟨by rw [List.length_append, List.length_append, hl]; simp; omega, rfl⟩
  · have := open_tail 120 1 ((sumB (adler 1 bs)).take j) (by decide) hb h bs.length (Nat.le_refl _) (by rw [hl]; omega)
    have e2 : sumErr ((sumB (adler 1 bs)).take j) bs = 2 := by unfold sumErr; rw [hl, if_pos hj]
    rw [e2] at this
    exact this

theorem open_head {bs os : List Nat} : OpenOk ((zl os bs).set 0 136) (bs.length : Int) ([], 4) := by
  refine Or.inr (Or.inl ⟨by rw [List.length_set, zl_length]; omega, ?_, rfl⟩)
  have : (zl os bs).set 0 136 = 136 :: 1 :: (os ++ sumB (adler 1 bs)) := by simp [zl]
  rw [this]
  show headOk 136 1 = false
  decide

theorem xor_ne (x y : Nat) (hy : y ≠ 0) : x ^^^ y ≠ x := by
  intro e
  have : x ^^^ (x ^^^ y) = x ^^^ x := by rw [e]
  rw [← Nat.xor_assoc, Nat.xor_self, Nat.zero_xor] at this
  exact hy this

theorem Bk.fr {w w' : World} {g : Nat} {Z : List Nat} (h : Bk w g Z) (F : Fr (fun _ => False) w w') : Bk w' g Z := by
  obtain ⟨cur, hh, h2, h3⟩ := h
  exact ⟨cur, (F.block g (lt_of hh) (fun h => h)).trans hh, h2, h3⟩

theorem set_bytes {Z : List Nat} (h : ∀ b ∈ Z, b < 256) (i x : Nat) (hx : x < 256) : ∀ b ∈ Z.set i x, b < 256 := fun b hb => by
  rcases List.mem_or_eq_of_mem_set hb with h1 | rfl
  · exact h b h1
  · exact hx

theorem frJ {a b c : World} {S : Nat → Prop} (h : Fr (fun _ => False) a b) (k : Fr S b c) (hs : ∀ i, S i → a.heap.size ≤ i) : Fr (fun _ => False) a c :=
  (h.trans k).mono fun j hj e => by
    rcases e with e | e
    · exact e
    · have := hs j e; omega

theorem Bk.take {w : World} {g : Nat} {Z : List Nat} (h : Bk w g Z) (i : Nat) (hi : i ≤ Z.length) : Bk w g (Z.take i) := by
  obtain ⟨cur, hh, h2, h3⟩ := h
  refine ⟨cur, hh, by rw [List.length_take]; omega, ?_⟩
  have e : (Z.take i).length = i := by rw [List.length_take]; omega
  have : cur.toList.take i = (cur.toList.take Z.length).take i := by rw [List.take_take, Nat.min_eq_left hi]
  rw [e, this, h3]
  simp [cellsOf, List.map_take]

/-- The open of a row of one's own. -/
theorem open_bk {w : World} {g rc : Nat} {Z : List Nat} {m : Nat} {er : Nat} (h : Bk w g Z) (hb : ∀ b ∈ Z, b < 256) (hl : Z.length ≤ 2147483648) (hc : Z.length ≤ rc) (hm : m ≤ 2147480000) (hg : Gw w) (N : Nat) (hN : N = Z.length) (hop : OpenOk Z (m : Int) ([], er)) :
    Calls Tryz.prog 8 #[.slice (some ⟨g, 0, none⟩) N rc, .int .i64 (m : Int)] w fun e w' => ∃ a c, e = .returned (.tuple #[.slice a 0 c, .int .i64 (er : Int)]) ∧ Fr (fun _ => False) w w' := by
  subst hN
  refine (open_c (some ⟨g, 0, none⟩) rc Z m w (h.lies rc) hb hl hc (by omega) hg).mono ?_
  rintro e w' ⟨x, a, c, hx, rfl, _, hF⟩
  obtain rfl := hx.det hop
  exact ⟨a, c, rfl, hF⟩

set_option maxHeartbeats 6400000 in
set_option maxRecDepth 100000 in
theorem zsum_c (ba : Option Addr) (bl bc : Nat) (ma : Option Addr) (ml mc : Nat) (ls : List (List Nat)) (ms : List Nat) (n0 n1 : Nat) (w : World) (hB : IsRows w ba bl ls) (hM : Lies w (.slice ma ml mc) ms) (hml : ml = ms.length) (hmb : ∀ b ∈ ms, b < 256) (hsm : ∀ i, i < bl → (ls.getD i []).length ≤ 140737488355328) (hn0 : n0 < 256) (hn1 : n1 < 256) (hg : Gw w) :
    Calls Tryz.prog 5 #[rowsV ba bl bc ma ml mc, .agg #[.int .u8 (n0 : Int), .int .u8 (n1 : Int)]] w fun e w' => e = .returned (.bool true) ∧ Fr (fun _ => False) w w' := by
  obtain ⟨K, hK⟩ : ∃ K, K = w.heap.size := ⟨_, rfl⟩
  obtain ⟨w0, hw0⟩ : ∃ w0, w0 = w.alloc (.cells #[.slice ba bl bc, .slice ma ml mc] 32) := ⟨_, rfl⟩
  obtain ⟨w1, hw1⟩ : ∃ w1, w1 = w0.alloc (.cells #[.int .u8 (n0 : Int), .int .u8 (n1 : Int)] 38) := ⟨_, rfl⟩
  have hs0 : w0.heap.size = K + 1 := by rw [hw0, hK]; simp
  have hF0 : Fr (fun _ => False) w w0 := by rw [hw0]; exact Fr.of_alloc _ _
  have hF1 : Fr (fun _ => False) w0 w1 := by rw [hw1]; exact Fr.of_alloc _ _
  have hb0 : w0.heap[K]? = some (.cells #[.slice ba bl bc, .slice ma ml mc] 32 (0, 0)) := by rw [hw0]; exact heap_alloc_at hK
  have hb1 := cells_at hb0 hF1 (fun e => e)
  have hn : w1.heap[K + 1]? = some (.cells #[.int .u8 (n0 : Int), .int .u8 (n1 : Int)] 38 (0, 0)) := by rw [hw1]; exact heap_alloc_at hs0.symm
  have HB := hide (hB.fr (hF0.join hF1))
  have HM := hide (lies_false hM (hF0.join hF1))
  have Hml := hide hml
  have Hmb := hide hmb
  have Hsm := hide hsm
  have HG := hide (hg.fr (hF0.join hF1))
  have HF1 := hide (hF0.join hF1)
  have Hb1 := hide hb1
  have Hn1 := hide hn
  have ew : (w.alloc (.cells #[.slice ba bl bc, .slice ma ml mc] 32)).alloc (.cells #[.int .u8 (n0 : Int), .int .u8 (n1 : Int)] 38) = w1 := by rw [hw1, hw0]
  have Hew := hide ew
  have HK := hide hK
  clear hB hM hml hmb hsm hF0 hF1 hb0 hb1 hw0 hw1 hK hg hn hs0 ew
  go_enter Tryz.func5, Tryz.ntmps5
  go_wp2_with fail
  rw [Hew.out, ← HK.out]
  refine (awake_c w1 HG.out).mono ?_
  rintro e w2 ⟨rfl, hF2⟩
  have hb2 := cells_at Hb1.out hF2 (fun e => e)
  have k0 := cell_of (o := 0) hb2 rfl
  have k1 := cell_of (o := 1) hb2 rfl
  have HF2 := hide (HF1.out.join hF2)
  have HG2 := hide (HG.out.fr hF2)
  have Hn2 := hide (cells_at Hn1.out hF2 (fun e => e))
  have Hmk := hide (make_c ba bl bc ma ml mc ls ms w2 (HB.out.fr hF2) (lies_false HM.out hF2) Hml.out Hmb.out Hsm.out)
  clear hF2 hb2 HB HM Hml Hmb Hsm Hn1 Hb1 HF1
  go_wp2_with fail
  refine (calls_args Hmk.out (by rfl)).mono ?_
  rintro e w3 ⟨hF3, rfl | ⟨bs, a, c, rfl, hown, hby, h7⟩⟩
  · have HF3 := hide (HF2.out.join hF3)
    clear hF3 k0 k1
    go_wp2
    go_ret
    exact ⟨rfl, HF3.out⟩
  have HF3 := hide (HF2.out.join hF3)
  have Hl := hide (lies_own hown)
  have HG3 := hide (HG2.out.fr hF3)
  have Hn3 := hide (cells_at Hn2.out hF3 (fun e => e))
  have HBy := hide hby
  clear hF3 hown hby k0 k1 Hmk Hn2 HF2
  by_cases h9 : 9000 < bs.length
  · have h9i : (9000 : Int) < bs.length := by omega
    go_wp2_with fail
    go_ret
    exact ⟨rfl, HF3.out⟩
  have h9i : ¬ (9000 : Int) < bs.length := by omega
  have Hc := hide (close_c a c bs w3 Hl.out (by omega) HBy.out HG3.out.gl)
  go_upto_region 6 with fail
  go_wp2_with fail
  refine Hc.out.mono ?_
  rintro e w4 ⟨os, ra, rc, hst, rfl, hO4, hF4⟩
  have hzl := zl_length os bs
  have hle := hst.len HBy.out
  have hm1 : mostF bs.length ≤ 10000 := by unfold mostF; omega
  have hZb := zl_bytes (bs := bs) hst.bytes
  obtain ⟨g, rfl, hg1, hg2, hgc, hbk⟩ := own_bk hO4 (by omega) rfl
  obtain ⟨q, hq⟩ : ∃ q, q = n0 % 4 := ⟨_, rfl⟩
  have hq4 : q < 4 := by omega
  obtain ⟨i, hi⟩ : ∃ i, i = 2 + os.length + (3 - q) := ⟨_, rfl⟩
  obtain ⟨y, hy⟩ : ∃ y, (sumB (adler 1 bs))[3 - q]? = some y := ⟨_, List.getElem?_eq_getElem (by show 3 - q < 4; omega)⟩
  obtain ⟨x, hx⟩ : ∃ x, x = y ^^^ (1 + n1 % 255) := ⟨_, rfl⟩
  have hy8 : y < 256 := sumB_lt _ y (List.mem_of_getElem? hy)
  have hx8 : x < 256 := by rw [hx]; exact Nat.xor_lt_two_pow (n := 8) (by omega) (by omega)
  have hxy : x ≠ y := by rw [hx]; exact xor_ne y _ (by omega)
  have hob := open_bad HBy.out hst (3 - q) x y hy hxy
  have hom := open_more HBy.out hst n1
  have hoc := open_cut HBy.out hst (3 - q) (by omega)
  have hoh := open_head (bs := bs) (os := os)
  have hZi : (zl os bs)[i]? = some y := by
    rw [hi]
    unfold zl
    rw [List.getElem?_append_right (by simp; omega)]
    rw [← hy]
    congr 1
    simp; omega
  rw [← hi] at hob hoc
  obtain ⟨Z, hZ⟩ : ∃ Z, Z = zl os bs := ⟨_, rfl⟩
  rw [← hZ] at hbk hZi hob hom hoc hoh hzl hgc hZb ⊢
  obtain ⟨N, hN⟩ : ∃ N, N = Z.length := ⟨_, rfl⟩
  rw [← hN] at hzl hgc ⊢
  have HZ0 : Hid (Z[0]? = some 120) := by show _ = _; rw [hZ]; rfl
  have hNi : (N : Int) - 1 - (q : Int) = (i : Int) := by omega
  have hN6 : 6 ≤ N := by omega
  have hNl : N ≤ 20000 := by omega
  have hiN : i < N := by omega
  have hi1 : 1 ≤ i := by omega
  have HF4 := hide (HF3.out.join hF4)
  have HG4 := hide (HG3.out.fr hF4)
  have Hn4 := hide (cells_at Hn3.out hF4 (fun e => e))
  have HBk := hide hbk
  have HZb := hide hZb
  have Hob := hide hob
  have Hom := hide hom
  have Hoc := hide hoc
  have Hoh := hide hoh
  have HZi := hide hZi
  have HN := hide hN
  have Hx := hide hx
  have hqi : (n0 : Int) % 4 = (q : Int) := by omega
  clear hst hO4 hF4 hzl hle hm1 hZb hg1 hg2 hbk hq hi hy hx hob hom hoc hoh hZi hZ hN Hc Hl HG3 HF3 Hn3
  have O0 : Hid ((w4.alloc (.cells #[] 5)).ownsRow w4.heap.size 5 1 (.slice (some ⟨w4.heap.size, 0, none⟩) 0 0) 0 []) := World.ownsRow_made _ #[] 0 (Nat.le_refl _) (by unfold maxLen; omega) rfl
  have hs4 : w4.heap.size ≤ (w4.alloc (.cells #[] 5)).heap.size := by simp
  have FA : Hid (Fr (fun _ => False) w4 (w4.alloc (.cells #[] 5))) := Fr.of_alloc _ _
  have HLz : Hid (Lies (w4.alloc (.cells #[] 5)) (.slice (some ⟨g, 0, none⟩) N rc) Z) := by have := (HBk.out.fr FA.out).lies rc; rw [← HN.out] at this; exact this
  have hq0 : 0 + Z.length ≤ 2147483648 := by rw [← HN.out]; omega
  go_upto_region 8 with (at_builtin; go_must (refine append_any rfl (.tmp 34) (.tmp 35) rfl w4.heap.size (.slice (some ⟨w4.heap.size, 0, none⟩) 0 0) 0 [] rfl O0.out (.slice (some ⟨g, 0, none⟩) N rc) Z rfl HLz.out hq0 hs4 ?_); intro v5 w5 hown5 hbel5
                         obtain ⟨a5, c5, rfl⟩ := ownsRow_shape hown5
                         have HF5 := hide (FA.out.join' hbel5)
                         have Hown5 := hide hown5
                         clear hown5 hbel5)
  have hown5 : w5.ownsRow w4.heap.size 5 1 (.slice a5 N c5) N (cellsOf Z) := by
    have := Hown5.out
    rw [Nat.zero_add, List.nil_append, ← HN.out] at this
    exact this
  obtain ⟨g5, rfl, hg5, hg5', hc5, hbk5⟩ := own_bk hown5 (by omega) HN.out
  obtain ⟨z0, z1⟩ := hbk5.cell i y HZi.out
  have hn5 := cells_at Hn4.out HF5.out (fun e => e)
  have m0 := cell_of (o := 0) hn5 rfl
  have m1 := cell_of (o := 1) hn5 rfl
  rw [← HN.out]
  have HBk5 := hide hbk5
  have Hg5 := hide hg5
  clear hq0 hs4 O0 HLz Hown5 hown5 hg5 hg5' hbk5 hn5 FA
  have hxr : bits .xor .u8 (y : Int) (1 + (n1 : Int) % 255) = (x : Int) := by
    rw [show (1 : Int) + (n1 : Int) % 255 = ((1 + n1 % 255 : Nat) : Int) by omega, u8_xor_nat _ _ hy8 (by omega), Hx.out]
  have HC : Hid (∀ W, Fr (fun _ => False) w5 W → (W.cell? ⟨K + 1, 0, none⟩ = some (.int .u8 (n0 : Int)) ∧ W.cell? ⟨K + 1, 1, none⟩ = some (.int .u8 (n1 : Int))) ∧ W.cell? ⟨g5, i, none⟩ = some (.int .u8 (y : Int))) := fun W F => ⟨⟨(cell_blk (a := ⟨K + 1, 0, none⟩) (F.block _ (cell_lt m0) (fun h => h))).trans m0, (cell_blk (a := ⟨K + 1, 1, none⟩) (F.block _ (cell_lt m1) (fun h => h))).trans m1⟩, (cell_blk (a := ⟨g5, i, none⟩) (F.block _ (cell_lt z0) (fun h => h))).trans z0⟩
  have hi0 : (0 : Int) ≤ (i : Int) := by omega
  have hi2 : (i : Int) < (N : Int) := by omega
  have hxr2 : bits .xor .u8 (y : Int) (1 + (n1 : Int) % 255) = (x : Int) := hxr
  go_region
  obtain ⟨w6, hw6⟩ : ∃ w6, w6 = (w5.setCell ⟨g5, i, none⟩ (.int .u8 (x : Int))).drew := ⟨_, rfl⟩
  rw [← hw6]
  have hF6 : Fr (fun _ => False) w4 w6 := by rw [hw6]; exact (fr_set_new HF5.out Hg5.out).join (Fr.of_drewN _ 1)
  have hbk6 : Bk w6 g5 (Z.set i x) := by
    rw [hw6]
    exact (HBk5.out.set i x).fr (Fr.of_drewN _ 1)
  have HF6 := hide (HF4.out.join hF6)
  have HG6 := hide (HG4.out.fr hF6)
  have Hn6 := hide (cells_at Hn4.out hF6 (fun e => e))
  have HBkz := hide (HBk.out.fr hF6)
  have Ho := hide (open_bk (m := bs.length) (er := 5) hbk6 (set_bytes HZb.out i x hx8) (by rw [List.length_set, ← HN.out]; omega) (by rw [List.length_set, ← HN.out]; exact hc5) (by omega) HG6.out N (by rw [List.length_set, ← HN.out]) Hob.out)
  clear hw6 hF6 hbk6 z0 z1 m0 m1 HC HBk5 HF5 HBk HF4 HG4 Hn4 Hg5
  go_wp2_with fail
  refine Ho.out.mono ?_
  rintro e w7 ⟨a7, c7, rfl, hF7⟩
  have HF7 := hide (HF6.out.join hF7)
  have HG7 := hide (HG6.out.fr hF7)
  have Hn7 := hide (cells_at Hn6.out hF7 (fun e => e))
  have HBk7 := hide (HBkz.out.fr hF7)
  clear hF7 Ho HBkz Hn6 HG6 HF6
  have HC7 : Hid (∀ W, Fr (fun _ => False) w7 W → W.cell? ⟨K + 1, 1, none⟩ = some (.int .u8 (n1 : Int))) := fun W F => cell_of (o := 1) (cells_at Hn7.out F (fun e => e)) rfl
  have HLz : Hid (∀ W, Fr (fun _ => False) w7 W → Lies W (.slice (some ⟨g, 0, none⟩) N rc) Z) := fun W F => by
    have := (HBk7.out.fr F).lies rc
    rw [← HN.out] at this
    exact this
  have hqN : ([] : List Nat).length + Z.length ≤ 2147483648 := by rw [← HN.out]; simp; omega
  have hqM : Z.length + [n1].length ≤ 2147483648 := by rw [← HN.out]; simp; omega
  have HMb : Hid (∀ b ∈ Z ++ [n1], b < 256) := fun b hb => by
    rcases List.mem_append.1 hb with h | h
    · exact HZb.out b h
    · rw [List.mem_singleton.1 h]; exact hn1
  have hirc : i ≤ rc := by omega
  have hirci : (i : Int) ≤ (rc : Int) := by omega
  go_upto_region 10 with fail
  refine wp_region_held_drew (S := fun W' => Fr (fun _ => False) w7 W') (by kernel_rfl) (Fr.of_drewN w7 1) (fun hHeld => ?_)
  obtain ⟨wz, hwz⟩ : ∃ W, W = w7.drew := ⟨_, rfl⟩
  rw [← hwz] at hHeld ⊢
  have HFc0 := hide hHeld
  clear hwz
  refine wpAnyH_take (i := 1) (v := ?v1_1) rfl (by kernel_rfl) (by kernel_rfl) (by kernel_rfl) (fun _ _ _ h => h) (Or.inl ⟨by rfl, ?hy1_1⟩) hHeld ?rest1_1
  case hy1_1 => (intro W hSw; (try dsimp only at hSw); have s1 := HC7.out _ hSw; go_simp; all_goals (with_reducible rfl))
  change wpAnyH _ _ _ _ _ _ _ (Act.put _ (some 63) _) _
  simp only [Act.put, List.setIfInBounds_toArray, List.set_cons_zero, List.set_cons_succ]
  refine wpAnyH_take (i := 3) (v := ?v3_1) rfl (by kernel_rfl) (by kernel_rfl) (by kernel_rfl) (fun _ _ _ h => h) (Or.inl ⟨by rfl, ?hy3_1⟩) hHeld ?rest3_1
  case hy3_1 => (intro W hSw; (try dsimp only at hSw); have s1 := HC7.out _ hSw; go_simp; all_goals (with_reducible rfl))
  change wpAnyH _ _ _ _ _ _ _ (Act.put _ (some 65) _) _
  simp only [Act.put, List.setIfInBounds_toArray, List.set_cons_zero, List.set_cons_succ]
  refine wpAnyH_take (i := 7) (v := ?v7_1) rfl (by kernel_rfl) (by kernel_rfl) (by kernel_rfl) (fun _ _ _ h => h) (Or.inl ⟨by rfl, ?hy7_1⟩) hHeld ?rest7_1
  case hy7_1 => (intro W hSw; (try dsimp only at hSw); have s1 := HC7.out _ hSw; go_simp; all_goals (with_reducible rfl))
  change wpAnyH _ _ _ _ _ _ _ (Act.put _ (some 69) _) _
  simp only [Act.put, List.setIfInBounds_toArray, List.set_cons_zero, List.set_cons_succ]
  refine wpAnyH_take (i := 4) (v := ?v4_2) rfl (by kernel_rfl) (by kernel_rfl) (by kernel_rfl) (fun _ _ _ h => h) (Or.inl ⟨by rfl, ?hy4_2⟩) hHeld ?rest4_2
  case hy4_2 => (intro W hSw; (try dsimp only at hSw); have s1 := HC7.out _ hSw; go_simp; all_goals (with_reducible rfl))
  change wpAnyH _ _ _ _ _ _ _ (Act.put _ (some 66) _) _
  simp only [Act.put, List.setIfInBounds_toArray, List.set_cons_zero, List.set_cons_succ]
  refine wpAnyH_take (i := 8) (v := ?v8_2) rfl (by kernel_rfl) (by kernel_rfl) (by kernel_rfl) (fun _ _ _ h => h) (Or.inl ⟨by rfl, ?hy8_2⟩) hHeld ?rest8_2
  case hy8_2 => (intro W hSw; (try dsimp only at hSw); have s1 := HC7.out _ hSw; go_simp; all_goals (with_reducible rfl))
  change wpAnyH _ _ _ _ _ _ _ (Act.put _ (some 70) _) _
  simp only [Act.put, List.setIfInBounds_toArray, List.set_cons_zero, List.set_cons_succ]
  refine wpAnyH_ready (rs := [0, 5]) (by kernel_rfl) (by simp) ?_
  refine (AllReadyH.cons rfl (fun K hK => ?_) (AllReadyH.cons rfl (fun K hK => ?_) AllReadyH.nil))
  · skip
    try simp only [List.getElem_toArray, List.getElem_cons_zero]
    go_simp
    obtain ⟨u1, hu⟩ : ∃ W, W = wz.alloc (.cells #[] 5) := ⟨_, rfl⟩
    obtain ⟨e0, he0⟩ : ∃ e, e = wz.heap.size := ⟨_, rfl⟩
    rw [← hu, ← he0]
    have FA1 : Hid (Fr (fun _ => False) wz u1) := by rw [hu]; exact Fr.of_alloc _ _
    have HO : Hid (OwnB u1 e0 (.slice (some ⟨e0, 0, none⟩) 0 0) []) := by rw [hu, he0]; exact World.ownsRow_made _ #[] 0 (Nat.le_refl _) (by unfold maxLen; omega) rfl
    have HFc1 := hide (HFc0.out.join FA1.out)
    have he0s : e0 ≤ u1.heap.size := by rw [hu, he0]; simp
    have he07 : w7.heap.size ≤ e0 := by rw [he0]; exact HFc0.out.size
    clear hu he0
    refine hK.out _ _ HFc1.out (fun hHeld => ?_)
    clear hK K
    refine wpAnyH_ready (rs := [2, 5]) (by kernel_rfl) (by simp) ?_
    refine (AllReadyH.cons rfl (fun K hK => ?_) (AllReadyH.cons rfl (fun K hK => ?_) AllReadyH.nil))
    · skip
      try simp only [List.getElem_toArray, List.getElem_cons_succ, List.getElem_cons_zero]
      rw [if_pos (by rfl)]
      refine wp_app (.tmp 62) (.tmp 63) (by rfl) e0 (.slice (some ⟨e0, 0, none⟩) 0 0) [] (by rfl) HO.out (.slice (some ⟨g, 0, none⟩) N rc) Z (by rfl) (HLz.out _ HFc1.out) hqN he0s ?_
      intro a2 c2 u2 hO2 hF2 hA2
      have hO2b : OwnB u2 e0 (.slice a2 N c2) Z := by have h := hO2; rw [List.length_nil, Nat.zero_add, List.nil_append, ← HN.out] at h; exact h
      rw [List.length_nil, Nat.zero_add, ← HN.out]
      have HFc2 := hide (frJ HFc1.out hF2 fun j hj => by cases hj; exact he07)
      have HO := hide hO2b
      have he0s := Nat.le_trans he0s hF2.size
      have HA2 := hide hA2
      clear hO2 hF2 hA2 hO2b
      refine hK.out _ _ HFc2.out (fun hHeld => ?_)
      clear hK K
      refine wpAnyH_ready (rs := [5]) (by kernel_rfl) (by simp) ?_
      refine (AllReadyH.cons rfl (fun K hK => ?_) AllReadyH.nil)
      try simp only [List.getElem_toArray, List.getElem_cons_succ, List.getElem_cons_zero]
      go_simp
      obtain ⟨u3, hu⟩ : ∃ W, W = u2.alloc (.cells (cellsOf [n1]).toArray 5) := ⟨_, rfl⟩
      have hu2 : u2.alloc (.cells #[.int .u8 (n1 : Int)] 5) = u3 := hu.symm
      obtain ⟨e5, he5⟩ : ∃ e, e = u2.heap.size := ⟨_, rfl⟩
      rw [hu2, ← he5]
      have FA3 : Hid (Fr (fun _ => False) u2 u3) := by rw [hu]; exact Fr.of_alloc _ _
      have HL5 : Hid (Lies u3 (.slice (some ⟨e5, 0, none⟩) 1 1) [n1]) := by rw [hu, he5]; exact lies_lit u2 [n1] 1
      have he5s : e5 < u3.heap.size := by rw [hu, he5]; simp
      have HFc3 := hide (HFc2.out.join FA3.out)
      have HO := hide (show OwnB u3 e0 (.slice a2 N c2) Z from ownsRow_fr HO.out fun j hj => FA3.out.block j (HO.out.lt j hj).2 (fun h => h))
      have he0s := Nat.le_trans he0s FA3.out.size
      clear hu hu2 he5
      refine hK.out _ _ HFc3.out (fun hHeld => ?_)
      clear hK K
      refine wpAnyH_ready (rs := [6]) (by kernel_rfl) (by simp) ?_
      refine (AllReadyH.cons rfl (fun K hK => ?_) AllReadyH.nil)
      try simp only [List.getElem_toArray, List.getElem_cons_succ, List.getElem_cons_zero]
      rw [if_pos (by rfl)]
      refine wp_app (.tmp 64) (.tmp 67) (by rfl) e0 (.slice a2 N c2) Z (by rfl) HO.out (.slice (some ⟨e5, 0, none⟩) 1 1) [n1] (by rfl) HL5.out hqM he0s ?_
      intro a6 c6 u4 hO6 hF6 _
      have hO6b : OwnB u4 e0 (.slice a6 (N + 1) c6) (Z ++ [n1]) := by have h := hO6; rw [List.length_singleton, ← HN.out] at h; exact h
      rw [List.length_singleton, ← HN.out]
      have HFc4 := hide (frJ HFc3.out hF6 fun j hj => by have := (World.ownsRow.lt HO.out j hj).1; omega)
      obtain ⟨g6, rfl, _, _, hc6, hbk6⟩ := own_bk (Z := Z ++ [n1]) (n := N + 1) (by have h := hO6b; unfold OwnB at h; rw [List.length_append, List.length_singleton, ← HN.out] at h; exact h) (by omega) (by rw [List.length_append, List.length_singleton, ← HN.out])
      have HB6 := hide hbk6
      clear hO6 hF6 hO6b hbk6 HO
      refine hK.out _ _ HFc4.out (fun hHeld => ?_)
      clear hK K
      refine wpAnyH_ready (rs := [9]) (by kernel_rfl) (by simp) ?_
      refine (AllReadyH.cons rfl (fun K hK => ?_) AllReadyH.nil)
      try simp only [List.getElem_toArray, List.getElem_cons_succ, List.getElem_cons_zero]
      go_simp
      refine (calls_args (open_bk (m := bs.length) (er := 4) HB6.out HMb.out (by rw [List.length_append, List.length_singleton, ← HN.out]; omega) (by rw [List.length_append, List.length_singleton, ← HN.out]; exact hc6) (by omega) (HG7.out.fr HFc4.out) (N + 1) (by rw [List.length_append, List.length_singleton, ← HN.out]) Hom.out) (by rfl)).mono ?_
      rintro e u5 ⟨a8, c8, rfl, hF8⟩
      have HFc5 := hide (HFc4.out.join hF8)
      clear hF8 HB6
      refine hK.out _ _ HFc5.out (fun hHeld => ?_)
      clear hK K
      refine wpAnyH_take (i := 10) (v := ?v10_3) rfl (by kernel_rfl) (by kernel_rfl) (by kernel_rfl) (fun _ _ _ h => h) (Or.inl ⟨by rfl, ?hy10_3⟩) hHeld ?rest10_3
      case hy10_3 => (intro W hSw; (try dsimp only at hSw); have s1 := HC7.out _ hSw; go_simp; all_goals (with_reducible rfl))
      change wpAnyH _ _ _ _ _ _ _ (Act.put _ (some 61) _) _
      simp only [Act.put, List.setIfInBounds_toArray, List.set_cons_zero, List.set_cons_succ]
      refine wpAnyH_take (i := 11) (v := ?v11_4) rfl (by kernel_rfl) (by kernel_rfl) (by kernel_rfl) (fun _ _ _ h => h) (Or.inl ⟨by rfl, ?hy11_4⟩) hHeld ?rest11_4
      case hy11_4 => (intro W hSw; (try dsimp only at hSw); have s1 := HC7.out _ hSw; go_simp; all_goals (with_reducible rfl))
      change wpAnyH _ _ _ _ _ _ _ (Act.put _ (some 72) _) _
      simp only [Act.put, List.setIfInBounds_toArray, List.set_cons_zero, List.set_cons_succ]
      refine wpAnyH_take (i := 12) (v := ?v12_4) rfl (by kernel_rfl) (by kernel_rfl) (by kernel_rfl) (fun _ _ _ h => h) (Or.inl ⟨by rfl, ?hy12_4⟩) hHeld ?rest12_4
      case hy12_4 => (intro W hSw; (try dsimp only at hSw); have s1 := HC7.out _ hSw; go_simp; all_goals (with_reducible rfl))
      change wpAnyH _ _ _ _ _ _ _ (Act.put _ (some 73) _) _
      simp only [Act.put, List.setIfInBounds_toArray, List.set_cons_zero, List.set_cons_succ]
      refine wpAnyH_take (i := 13) (v := ?v13_5) rfl (by kernel_rfl) (by kernel_rfl) (by kernel_rfl) (fun _ _ _ h => h) (Or.inl ⟨by rfl, ?hy13_5⟩) hHeld ?rest13_5
      case hy13_5 => (intro W hSw; (try dsimp only at hSw); have s1 := HC7.out _ hSw; go_simp; all_goals (with_reducible rfl))
      change wpAnyH _ _ _ _ _ _ _ (Act.put _ (some 11) _) _
      simp only [Act.put, List.setIfInBounds_toArray, List.set_cons_zero, List.set_cons_succ]
      refine wpAnyH_take (i := 14) (v := ?v14_5) rfl (by kernel_rfl) (by kernel_rfl) (by kernel_rfl) (fun _ _ _ h => h) (Or.inl ⟨by rfl, ?hy14_5⟩) hHeld ?rest14_5
      case hy14_5 => (intro W hSw; (try dsimp only at hSw); have s1 := HC7.out _ hSw; go_simp; all_goals (with_reducible rfl))
      change wpAnyH _ _ _ _ _ _ _ (Act.put _ (some 12) _) _
      simp only [Act.put, List.setIfInBounds_toArray, List.set_cons_zero, List.set_cons_succ]
      refine wpAnyH_done (by kernel_rfl) ?_ _
      have HF8 := hide (HF7.out.join HFc5.out)
      have HBk8 := hide (HBk7.out.fr HFc5.out)
      have HG8 := hide (HG7.out.fr HFc5.out)
      have hn8 := cells_at Hn7.out HFc5.out (fun e => e)
      have m0 := cell_of (o := 0) hn8 rfl
      have Hn8 := hide hn8
      generalize u5 = w8 at HF8 HBk8 HG8 Hn8 m0 ⊢
      clear hn8
      go_wp2_with fail
      refine (open_bk (m := bs.length) (er := 2) (HBk8.out.take i (by rw [← HN.out]; omega)) (fun b hb => HZb.out b (List.mem_of_mem_take hb)) (by rw [List.length_take, ← HN.out]; omega) (by rw [List.length_take, ← HN.out]; omega) (by omega) HG8.out i (by rw [List.length_take, ← HN.out]; omega) Hoc.out).mono ?_
      rintro e w9 ⟨a9, c9, rfl, hF9⟩
      have HF9 := hide (HF8.out.join hF9)
      have HBk9 := hide (HBk8.out.fr hF9)
      have HG9 := hide (HG8.out.fr hF9)
      clear hF9 m0 Hn8
      have O9 : Hid ((w9.alloc (.cells #[] 5)).ownsRow w9.heap.size 5 1 (.slice (some ⟨w9.heap.size, 0, none⟩) 0 0) 0 []) := World.ownsRow_made _ #[] 0 (Nat.le_refl _) (by unfold maxLen; omega) rfl
      have hs9 : w9.heap.size ≤ (w9.alloc (.cells #[] 5)).heap.size := by simp
      have F9 : Hid (Fr (fun _ => False) w9 (w9.alloc (.cells #[] 5))) := Fr.of_alloc _ _
      have HLy : Hid (Lies (w9.alloc (.cells #[] 5)) (.slice (some ⟨g, 0, none⟩) N rc) Z) := by have := (HBk9.out.fr F9.out).lies rc; rw [← HN.out] at this; exact this
      have hq9 : 0 + Z.length ≤ 2147483648 := by rw [← HN.out]; omega
      go_upto_region 13 with (at_builtin; go_must (refine append_any rfl (.tmp 90) (.tmp 91) rfl w9.heap.size (.slice (some ⟨w9.heap.size, 0, none⟩) 0 0) 0 [] rfl O9.out (.slice (some ⟨g, 0, none⟩) N rc) Z rfl HLy.out hq9 hs9 ?_); intro vh wh hownh hbelh
                              obtain ⟨ah, ch, rfl⟩ := ownsRow_shape hownh
                              have HFh := hide (F9.out.join' hbelh)
                              have Hownh := hide hownh
                              clear hownh hbelh)
      have hownh : wh.ownsRow w9.heap.size 5 1 (.slice ah N ch) N (cellsOf Z) := by
        have := Hownh.out
        rw [Nat.zero_add, List.nil_append, ← HN.out] at this
        exact this
      obtain ⟨gh, rfl, hgh, _, hch, hbkh⟩ := own_bk hownh (by omega) HN.out
      obtain ⟨z0, z1⟩ := hbkh.cell 0 120 HZ0.out
      rw [← HN.out]
      have hN0 : 0 < N := by omega
      obtain ⟨wk, hwk⟩ : ∃ wk, wk = wh.setCell ⟨gh, 0, none⟩ (.int .u8 ((136 : Nat) : Int)) := ⟨_, rfl⟩
      have hFk : Fr (fun _ => False) w9 wk := by rw [hwk]; exact fr_set_new HFh.out hgh
      have hbkk : Bk wk gh (Z.set 0 136) := by rw [hwk]; exact hbkh.set 0 136
      have HFk := hide (HF9.out.join hFk)
      have Ho := hide (open_bk (m := bs.length) (er := 4) hbkk (set_bytes HZb.out 0 136 (by decide)) (by rw [List.length_set, ← HN.out]; omega) (by rw [List.length_set, ← HN.out]; exact hch) (by omega) (HG9.out.fr hFk) N (by rw [List.length_set, ← HN.out]) Hoh.out)
      have hwk2 : wh.setCell ⟨gh, 0, none⟩ (.int .u8 136) = wk := hwk.symm
      have Hwk := hide hwk2
      clear hq9 hs9 O9 HLy Hownh hownh hgh hbkh hbkk hFk F9 hwk hwk2
      go_wp2_with fail
      rw [Hwk.out]
      refine Ho.out.mono ?_
      rintro e wl ⟨al, cl, rfl, hFl⟩
      have HFl := hide (HFk.out.join hFl)
      clear hFl z0 z1 Hwk Ho
      go_wp2_with fail
      go_ret
      exact ⟨rfl, HFl.out⟩
    · skip
      try simp only [List.getElem_toArray, List.getElem_cons_succ, List.getElem_cons_zero]
      go_simp
      obtain ⟨u2, hu⟩ : ∃ W, W = u1.alloc (.cells (cellsOf [n1]).toArray 5) := ⟨_, rfl⟩
      have hu2 : u1.alloc (.cells #[.int .u8 (n1 : Int)] 5) = u2 := hu.symm
      obtain ⟨e5, he5⟩ : ∃ e, e = u1.heap.size := ⟨_, rfl⟩
      rw [hu2, ← he5]
      have FA2 : Hid (Fr (fun _ => False) u1 u2) := by rw [hu]; exact Fr.of_alloc _ _
      have HL5 : Hid (Lies u2 (.slice (some ⟨e5, 0, none⟩) 1 1) [n1]) := by rw [hu, he5]; exact lies_lit u1 [n1] 1
      have he5s : e5 < u2.heap.size := by rw [hu, he5]; simp
      have HFc2 := hide (HFc1.out.join FA2.out)
      have he50 : e5 ≠ e0 := by have := (World.ownsRow.lt HO.out e0 rfl).2; omega
      have HO := hide (show OwnB u2 e0 (.slice (some ⟨e0, 0, none⟩) 0 0) [] from ownsRow_fr HO.out fun j hj => FA2.out.block j (HO.out.lt j hj).2 (fun h => h))
      have he0s := Nat.le_trans he0s FA2.out.size
      clear hu hu2 he5
      refine hK.out _ _ HFc2.out (fun hHeld => ?_)
      clear hK K
      refine wpAnyH_ready (rs := [2]) (by kernel_rfl) (by simp) ?_
      refine (AllReadyH.cons rfl (fun K hK => ?_) AllReadyH.nil)
      try simp only [List.getElem_toArray, List.getElem_cons_succ, List.getElem_cons_zero]
      rw [if_pos (by rfl)]
      refine wp_app (.tmp 62) (.tmp 63) (by rfl) e0 (.slice (some ⟨e0, 0, none⟩) 0 0) [] (by rfl) HO.out (.slice (some ⟨g, 0, none⟩) N rc) Z (by rfl) (HLz.out _ HFc2.out) hqN he0s ?_
      intro a2 c2 u3 hO2 hF2 hA2
      have hO2b : OwnB u3 e0 (.slice a2 N c2) Z := by have h := hO2; rw [List.length_nil, Nat.zero_add, List.nil_append, ← HN.out] at h; exact h
      rw [List.length_nil, Nat.zero_add, ← HN.out]
      have HFc3 := hide (frJ HFc2.out hF2 fun j hj => by cases hj; exact he07)
      have HL5 := hide (lies_frS HL5.out hF2 fun ad n c e _ hS => by cases e; cases hS; exact he50 rfl)
      have HO := hide hO2b
      have he0s := Nat.le_trans he0s hF2.size
      have HA2 := hide hA2
      clear hO2 hF2 hA2 hO2b
      refine hK.out _ _ HFc3.out (fun hHeld => ?_)
      clear hK K
      refine wpAnyH_ready (rs := [6]) (by kernel_rfl) (by simp) ?_
      refine (AllReadyH.cons rfl (fun K hK => ?_) AllReadyH.nil)
      try simp only [List.getElem_toArray, List.getElem_cons_succ, List.getElem_cons_zero]
      rw [if_pos (by rfl)]
      refine wp_app (.tmp 64) (.tmp 67) (by rfl) e0 (.slice a2 N c2) Z (by rfl) HO.out (.slice (some ⟨e5, 0, none⟩) 1 1) [n1] (by rfl) HL5.out hqM he0s ?_
      intro a6 c6 u4 hO6 hF6 _
      have hO6b : OwnB u4 e0 (.slice a6 (N + 1) c6) (Z ++ [n1]) := by have h := hO6; rw [List.length_singleton, ← HN.out] at h; exact h
      rw [List.length_singleton, ← HN.out]
      have HFc4 := hide (frJ HFc3.out hF6 fun j hj => by have := (World.ownsRow.lt HO.out j hj).1; omega)
      obtain ⟨g6, rfl, _, _, hc6, hbk6⟩ := own_bk (Z := Z ++ [n1]) (n := N + 1) (by have h := hO6b; unfold OwnB at h; rw [List.length_append, List.length_singleton, ← HN.out] at h; exact h) (by omega) (by rw [List.length_append, List.length_singleton, ← HN.out])
      have HB6 := hide hbk6
      clear hO6 hF6 hO6b hbk6 HO
      refine hK.out _ _ HFc4.out (fun hHeld => ?_)
      clear hK K
      refine wpAnyH_ready (rs := [9]) (by kernel_rfl) (by simp) ?_
      refine (AllReadyH.cons rfl (fun K hK => ?_) AllReadyH.nil)
      try simp only [List.getElem_toArray, List.getElem_cons_succ, List.getElem_cons_zero]
      go_simp
      refine (calls_args (open_bk (m := bs.length) (er := 4) HB6.out HMb.out (by rw [List.length_append, List.length_singleton, ← HN.out]; omega) (by rw [List.length_append, List.length_singleton, ← HN.out]; exact hc6) (by omega) (HG7.out.fr HFc4.out) (N + 1) (by rw [List.length_append, List.length_singleton, ← HN.out]) Hom.out) (by rfl)).mono ?_
      rintro e u5 ⟨a8, c8, rfl, hF8⟩
      have HFc5 := hide (HFc4.out.join hF8)
      clear hF8 HB6
      refine hK.out _ _ HFc5.out (fun hHeld => ?_)
      clear hK K
      refine wpAnyH_take (i := 10) (v := ?v10_6) rfl (by kernel_rfl) (by kernel_rfl) (by kernel_rfl) (fun _ _ _ h => h) (Or.inl ⟨by rfl, ?hy10_6⟩) hHeld ?rest10_6
      case hy10_6 => (intro W hSw; (try dsimp only at hSw); have s1 := HC7.out _ hSw; go_simp; all_goals (with_reducible rfl))
      change wpAnyH _ _ _ _ _ _ _ (Act.put _ (some 61) _) _
      simp only [Act.put, List.setIfInBounds_toArray, List.set_cons_zero, List.set_cons_succ]
      refine wpAnyH_take (i := 11) (v := ?v11_7) rfl (by kernel_rfl) (by kernel_rfl) (by kernel_rfl) (fun _ _ _ h => h) (Or.inl ⟨by rfl, ?hy11_7⟩) hHeld ?rest11_7
      case hy11_7 => (intro W hSw; (try dsimp only at hSw); have s1 := HC7.out _ hSw; go_simp; all_goals (with_reducible rfl))
      change wpAnyH _ _ _ _ _ _ _ (Act.put _ (some 72) _) _
      simp only [Act.put, List.setIfInBounds_toArray, List.set_cons_zero, List.set_cons_succ]
      refine wpAnyH_take (i := 12) (v := ?v12_7) rfl (by kernel_rfl) (by kernel_rfl) (by kernel_rfl) (fun _ _ _ h => h) (Or.inl ⟨by rfl, ?hy12_7⟩) hHeld ?rest12_7
      case hy12_7 => (intro W hSw; (try dsimp only at hSw); have s1 := HC7.out _ hSw; go_simp; all_goals (with_reducible rfl))
      change wpAnyH _ _ _ _ _ _ _ (Act.put _ (some 73) _) _
      simp only [Act.put, List.setIfInBounds_toArray, List.set_cons_zero, List.set_cons_succ]
      refine wpAnyH_take (i := 13) (v := ?v13_8) rfl (by kernel_rfl) (by kernel_rfl) (by kernel_rfl) (fun _ _ _ h => h) (Or.inl ⟨by rfl, ?hy13_8⟩) hHeld ?rest13_8
      case hy13_8 => (intro W hSw; (try dsimp only at hSw); have s1 := HC7.out _ hSw; go_simp; all_goals (with_reducible rfl))
      change wpAnyH _ _ _ _ _ _ _ (Act.put _ (some 11) _) _
      simp only [Act.put, List.setIfInBounds_toArray, List.set_cons_zero, List.set_cons_succ]
      refine wpAnyH_take (i := 14) (v := ?v14_8) rfl (by kernel_rfl) (by kernel_rfl) (by kernel_rfl) (fun _ _ _ h => h) (Or.inl ⟨by rfl, ?hy14_8⟩) hHeld ?rest14_8
      case hy14_8 => (intro W hSw; (try dsimp only at hSw); have s1 := HC7.out _ hSw; go_simp; all_goals (with_reducible rfl))
      change wpAnyH _ _ _ _ _ _ _ (Act.put _ (some 12) _) _
      simp only [Act.put, List.setIfInBounds_toArray, List.set_cons_zero, List.set_cons_succ]
      refine wpAnyH_done (by kernel_rfl) ?_ _
      have HF8 := hide (HF7.out.join HFc5.out)
      have HBk8 := hide (HBk7.out.fr HFc5.out)
      have HG8 := hide (HG7.out.fr HFc5.out)
      have hn8 := cells_at Hn7.out HFc5.out (fun e => e)
      have m0 := cell_of (o := 0) hn8 rfl
      have Hn8 := hide hn8
      generalize u5 = w8 at HF8 HBk8 HG8 Hn8 m0 ⊢
      clear hn8
      go_wp2_with fail
      refine (open_bk (m := bs.length) (er := 2) (HBk8.out.take i (by rw [← HN.out]; omega)) (fun b hb => HZb.out b (List.mem_of_mem_take hb)) (by rw [List.length_take, ← HN.out]; omega) (by rw [List.length_take, ← HN.out]; omega) (by omega) HG8.out i (by rw [List.length_take, ← HN.out]; omega) Hoc.out).mono ?_
      rintro e w9 ⟨a9, c9, rfl, hF9⟩
      have HF9 := hide (HF8.out.join hF9)
      have HBk9 := hide (HBk8.out.fr hF9)
      have HG9 := hide (HG8.out.fr hF9)
      clear hF9 m0 Hn8
      have O9 : Hid ((w9.alloc (.cells #[] 5)).ownsRow w9.heap.size 5 1 (.slice (some ⟨w9.heap.size, 0, none⟩) 0 0) 0 []) := World.ownsRow_made _ #[] 0 (Nat.le_refl _) (by unfold maxLen; omega) rfl
      have hs9 : w9.heap.size ≤ (w9.alloc (.cells #[] 5)).heap.size := by simp
      have F9 : Hid (Fr (fun _ => False) w9 (w9.alloc (.cells #[] 5))) := Fr.of_alloc _ _
      have HLy : Hid (Lies (w9.alloc (.cells #[] 5)) (.slice (some ⟨g, 0, none⟩) N rc) Z) := by have := (HBk9.out.fr F9.out).lies rc; rw [← HN.out] at this; exact this
      have hq9 : 0 + Z.length ≤ 2147483648 := by rw [← HN.out]; omega
      go_upto_region 13 with (at_builtin; go_must (refine append_any rfl (.tmp 90) (.tmp 91) rfl w9.heap.size (.slice (some ⟨w9.heap.size, 0, none⟩) 0 0) 0 [] rfl O9.out (.slice (some ⟨g, 0, none⟩) N rc) Z rfl HLy.out hq9 hs9 ?_); intro vh wh hownh hbelh
                              obtain ⟨ah, ch, rfl⟩ := ownsRow_shape hownh
                              have HFh := hide (F9.out.join' hbelh)
                              have Hownh := hide hownh
                              clear hownh hbelh)
      have hownh : wh.ownsRow w9.heap.size 5 1 (.slice ah N ch) N (cellsOf Z) := by
        have := Hownh.out
        rw [Nat.zero_add, List.nil_append, ← HN.out] at this
        exact this
      obtain ⟨gh, rfl, hgh, _, hch, hbkh⟩ := own_bk hownh (by omega) HN.out
      obtain ⟨z0, z1⟩ := hbkh.cell 0 120 HZ0.out
      rw [← HN.out]
      have hN0 : 0 < N := by omega
      obtain ⟨wk, hwk⟩ : ∃ wk, wk = wh.setCell ⟨gh, 0, none⟩ (.int .u8 ((136 : Nat) : Int)) := ⟨_, rfl⟩
      have hFk : Fr (fun _ => False) w9 wk := by rw [hwk]; exact fr_set_new HFh.out hgh
      have hbkk : Bk wk gh (Z.set 0 136) := by rw [hwk]; exact hbkh.set 0 136
      have HFk := hide (HF9.out.join hFk)
      have Ho := hide (open_bk (m := bs.length) (er := 4) hbkk (set_bytes HZb.out 0 136 (by decide)) (by rw [List.length_set, ← HN.out]; omega) (by rw [List.length_set, ← HN.out]; exact hch) (by omega) (HG9.out.fr hFk) N (by rw [List.length_set, ← HN.out]) Hoh.out)
      have hwk2 : wh.setCell ⟨gh, 0, none⟩ (.int .u8 136) = wk := hwk.symm
      have Hwk := hide hwk2
      clear hq9 hs9 O9 HLy Hownh hownh hgh hbkh hbkk hFk F9 hwk hwk2
      go_wp2_with fail
      rw [Hwk.out]
      refine Ho.out.mono ?_
      rintro e wl ⟨al, cl, rfl, hFl⟩
      have HFl := hide (HFk.out.join hFl)
      clear hFl z0 z1 Hwk Ho
      go_wp2_with fail
      go_ret
      exact ⟨rfl, HFl.out⟩
  · skip
    try simp only [List.getElem_toArray, List.getElem_cons_succ, List.getElem_cons_zero]
    go_simp
    obtain ⟨u1, hu⟩ : ∃ W, W = wz.alloc (.cells (cellsOf [n1]).toArray 5) := ⟨_, rfl⟩
    have hu2 : wz.alloc (.cells #[.int .u8 (n1 : Int)] 5) = u1 := hu.symm
    obtain ⟨e5, he5⟩ : ∃ e, e = wz.heap.size := ⟨_, rfl⟩
    rw [hu2, ← he5]
    have FA1 : Hid (Fr (fun _ => False) wz u1) := by rw [hu]; exact Fr.of_alloc _ _
    have HL5 : Hid (Lies u1 (.slice (some ⟨e5, 0, none⟩) 1 1) [n1]) := by rw [hu, he5]; exact lies_lit wz [n1] 1
    have he5s : e5 < u1.heap.size := by rw [hu, he5]; simp
    have HFc1 := hide (HFc0.out.join FA1.out)
    clear hu hu2 he5
    refine hK.out _ _ HFc1.out (fun hHeld => ?_)
    clear hK K
    refine wpAnyH_ready (rs := [0]) (by kernel_rfl) (by simp) ?_
    refine (AllReadyH.cons rfl (fun K hK => ?_) AllReadyH.nil)
    try simp only [List.getElem_toArray, List.getElem_cons_zero]
    go_simp
    obtain ⟨u2, hu⟩ : ∃ W, W = u1.alloc (.cells #[] 5) := ⟨_, rfl⟩
    obtain ⟨e0, he0⟩ : ∃ e, e = u1.heap.size := ⟨_, rfl⟩
    rw [← hu, ← he0]
    have FA2 : Hid (Fr (fun _ => False) u1 u2) := by rw [hu]; exact Fr.of_alloc _ _
    have HO : Hid (OwnB u2 e0 (.slice (some ⟨e0, 0, none⟩) 0 0) []) := by rw [hu, he0]; exact World.ownsRow_made _ #[] 0 (Nat.le_refl _) (by unfold maxLen; omega) rfl
    have HFc2 := hide (HFc1.out.join FA2.out)
    have he0s : e0 ≤ u2.heap.size := by rw [hu, he0]; simp
    have he07 : w7.heap.size ≤ e0 := by rw [he0]; exact HFc1.out.size
    have HL5 := hide (lies_false HL5.out FA2.out)
    have he50 : e5 ≠ e0 := by omega
    clear hu he0
    refine hK.out _ _ HFc2.out (fun hHeld => ?_)
    clear hK K
    refine wpAnyH_ready (rs := [2]) (by kernel_rfl) (by simp) ?_
    refine (AllReadyH.cons rfl (fun K hK => ?_) AllReadyH.nil)
    try simp only [List.getElem_toArray, List.getElem_cons_succ, List.getElem_cons_zero]
    rw [if_pos (by rfl)]
    refine wp_app (.tmp 62) (.tmp 63) (by rfl) e0 (.slice (some ⟨e0, 0, none⟩) 0 0) [] (by rfl) HO.out (.slice (some ⟨g, 0, none⟩) N rc) Z (by rfl) (HLz.out _ HFc2.out) hqN he0s ?_
    intro a2 c2 u3 hO2 hF2 hA2
    have hO2b : OwnB u3 e0 (.slice a2 N c2) Z := by have h := hO2; rw [List.length_nil, Nat.zero_add, List.nil_append, ← HN.out] at h; exact h
    rw [List.length_nil, Nat.zero_add, ← HN.out]
    have HFc3 := hide (frJ HFc2.out hF2 fun j hj => by cases hj; exact he07)
    have HL5 := hide (lies_frS HL5.out hF2 fun ad n c e _ hS => by cases e; cases hS; exact he50 rfl)
    have HO := hide hO2b
    have he0s := Nat.le_trans he0s hF2.size
    have HA2 := hide hA2
    clear hO2 hF2 hA2 hO2b
    refine hK.out _ _ HFc3.out (fun hHeld => ?_)
    clear hK K
    refine wpAnyH_ready (rs := [6]) (by kernel_rfl) (by simp) ?_
    refine (AllReadyH.cons rfl (fun K hK => ?_) AllReadyH.nil)
    try simp only [List.getElem_toArray, List.getElem_cons_succ, List.getElem_cons_zero]
    rw [if_pos (by rfl)]
    refine wp_app (.tmp 64) (.tmp 67) (by rfl) e0 (.slice a2 N c2) Z (by rfl) HO.out (.slice (some ⟨e5, 0, none⟩) 1 1) [n1] (by rfl) HL5.out hqM he0s ?_
    intro a6 c6 u4 hO6 hF6 _
    have hO6b : OwnB u4 e0 (.slice a6 (N + 1) c6) (Z ++ [n1]) := by have h := hO6; rw [List.length_singleton, ← HN.out] at h; exact h
    rw [List.length_singleton, ← HN.out]
    have HFc4 := hide (frJ HFc3.out hF6 fun j hj => by have := (World.ownsRow.lt HO.out j hj).1; omega)
    obtain ⟨g6, rfl, _, _, hc6, hbk6⟩ := own_bk (Z := Z ++ [n1]) (n := N + 1) (by have h := hO6b; unfold OwnB at h; rw [List.length_append, List.length_singleton, ← HN.out] at h; exact h) (by omega) (by rw [List.length_append, List.length_singleton, ← HN.out])
    have HB6 := hide hbk6
    clear hO6 hF6 hO6b hbk6 HO
    refine hK.out _ _ HFc4.out (fun hHeld => ?_)
    clear hK K
    refine wpAnyH_ready (rs := [9]) (by kernel_rfl) (by simp) ?_
    refine (AllReadyH.cons rfl (fun K hK => ?_) AllReadyH.nil)
    try simp only [List.getElem_toArray, List.getElem_cons_succ, List.getElem_cons_zero]
    go_simp
    refine (calls_args (open_bk (m := bs.length) (er := 4) HB6.out HMb.out (by rw [List.length_append, List.length_singleton, ← HN.out]; omega) (by rw [List.length_append, List.length_singleton, ← HN.out]; exact hc6) (by omega) (HG7.out.fr HFc4.out) (N + 1) (by rw [List.length_append, List.length_singleton, ← HN.out]) Hom.out) (by rfl)).mono ?_
    rintro e u5 ⟨a8, c8, rfl, hF8⟩
    have HFc5 := hide (HFc4.out.join hF8)
    clear hF8 HB6
    refine hK.out _ _ HFc5.out (fun hHeld => ?_)
    clear hK K
    refine wpAnyH_take (i := 10) (v := ?v10_9) rfl (by kernel_rfl) (by kernel_rfl) (by kernel_rfl) (fun _ _ _ h => h) (Or.inl ⟨by rfl, ?hy10_9⟩) hHeld ?rest10_9
    case hy10_9 => (intro W hSw; (try dsimp only at hSw); have s1 := HC7.out _ hSw; go_simp; all_goals (with_reducible rfl))
    change wpAnyH _ _ _ _ _ _ _ (Act.put _ (some 61) _) _
    simp only [Act.put, List.setIfInBounds_toArray, List.set_cons_zero, List.set_cons_succ]
    refine wpAnyH_take (i := 11) (v := ?v11_10) rfl (by kernel_rfl) (by kernel_rfl) (by kernel_rfl) (fun _ _ _ h => h) (Or.inl ⟨by rfl, ?hy11_10⟩) hHeld ?rest11_10
    case hy11_10 => (intro W hSw; (try dsimp only at hSw); have s1 := HC7.out _ hSw; go_simp; all_goals (with_reducible rfl))
    change wpAnyH _ _ _ _ _ _ _ (Act.put _ (some 72) _) _
    simp only [Act.put, List.setIfInBounds_toArray, List.set_cons_zero, List.set_cons_succ]
    refine wpAnyH_take (i := 12) (v := ?v12_10) rfl (by kernel_rfl) (by kernel_rfl) (by kernel_rfl) (fun _ _ _ h => h) (Or.inl ⟨by rfl, ?hy12_10⟩) hHeld ?rest12_10
    case hy12_10 => (intro W hSw; (try dsimp only at hSw); have s1 := HC7.out _ hSw; go_simp; all_goals (with_reducible rfl))
    change wpAnyH _ _ _ _ _ _ _ (Act.put _ (some 73) _) _
    simp only [Act.put, List.setIfInBounds_toArray, List.set_cons_zero, List.set_cons_succ]
    refine wpAnyH_take (i := 13) (v := ?v13_11) rfl (by kernel_rfl) (by kernel_rfl) (by kernel_rfl) (fun _ _ _ h => h) (Or.inl ⟨by rfl, ?hy13_11⟩) hHeld ?rest13_11
    case hy13_11 => (intro W hSw; (try dsimp only at hSw); have s1 := HC7.out _ hSw; go_simp; all_goals (with_reducible rfl))
    change wpAnyH _ _ _ _ _ _ _ (Act.put _ (some 11) _) _
    simp only [Act.put, List.setIfInBounds_toArray, List.set_cons_zero, List.set_cons_succ]
    refine wpAnyH_take (i := 14) (v := ?v14_11) rfl (by kernel_rfl) (by kernel_rfl) (by kernel_rfl) (fun _ _ _ h => h) (Or.inl ⟨by rfl, ?hy14_11⟩) hHeld ?rest14_11
    case hy14_11 => (intro W hSw; (try dsimp only at hSw); have s1 := HC7.out _ hSw; go_simp; all_goals (with_reducible rfl))
    change wpAnyH _ _ _ _ _ _ _ (Act.put _ (some 12) _) _
    simp only [Act.put, List.setIfInBounds_toArray, List.set_cons_zero, List.set_cons_succ]
    refine wpAnyH_done (by kernel_rfl) ?_ _
    have HF8 := hide (HF7.out.join HFc5.out)
    have HBk8 := hide (HBk7.out.fr HFc5.out)
    have HG8 := hide (HG7.out.fr HFc5.out)
    have hn8 := cells_at Hn7.out HFc5.out (fun e => e)
    have m0 := cell_of (o := 0) hn8 rfl
    have Hn8 := hide hn8
    generalize u5 = w8 at HF8 HBk8 HG8 Hn8 m0 ⊢
    clear hn8
    go_wp2_with fail
    refine (open_bk (m := bs.length) (er := 2) (HBk8.out.take i (by rw [← HN.out]; omega)) (fun b hb => HZb.out b (List.mem_of_mem_take hb)) (by rw [List.length_take, ← HN.out]; omega) (by rw [List.length_take, ← HN.out]; omega) (by omega) HG8.out i (by rw [List.length_take, ← HN.out]; omega) Hoc.out).mono ?_
    rintro e w9 ⟨a9, c9, rfl, hF9⟩
    have HF9 := hide (HF8.out.join hF9)
    have HBk9 := hide (HBk8.out.fr hF9)
    have HG9 := hide (HG8.out.fr hF9)
    clear hF9 m0 Hn8
    have O9 : Hid ((w9.alloc (.cells #[] 5)).ownsRow w9.heap.size 5 1 (.slice (some ⟨w9.heap.size, 0, none⟩) 0 0) 0 []) := World.ownsRow_made _ #[] 0 (Nat.le_refl _) (by unfold maxLen; omega) rfl
    have hs9 : w9.heap.size ≤ (w9.alloc (.cells #[] 5)).heap.size := by simp
    have F9 : Hid (Fr (fun _ => False) w9 (w9.alloc (.cells #[] 5))) := Fr.of_alloc _ _
    have HLy : Hid (Lies (w9.alloc (.cells #[] 5)) (.slice (some ⟨g, 0, none⟩) N rc) Z) := by have := (HBk9.out.fr F9.out).lies rc; rw [← HN.out] at this; exact this
    have hq9 : 0 + Z.length ≤ 2147483648 := by rw [← HN.out]; omega
    go_upto_region 13 with (at_builtin; go_must (refine append_any rfl (.tmp 90) (.tmp 91) rfl w9.heap.size (.slice (some ⟨w9.heap.size, 0, none⟩) 0 0) 0 [] rfl O9.out (.slice (some ⟨g, 0, none⟩) N rc) Z rfl HLy.out hq9 hs9 ?_); intro vh wh hownh hbelh
                            obtain ⟨ah, ch, rfl⟩ := ownsRow_shape hownh
                            have HFh := hide (F9.out.join' hbelh)
                            have Hownh := hide hownh
                            clear hownh hbelh)
    have hownh : wh.ownsRow w9.heap.size 5 1 (.slice ah N ch) N (cellsOf Z) := by
      have := Hownh.out
      rw [Nat.zero_add, List.nil_append, ← HN.out] at this
      exact this
    obtain ⟨gh, rfl, hgh, _, hch, hbkh⟩ := own_bk hownh (by omega) HN.out
    obtain ⟨z0, z1⟩ := hbkh.cell 0 120 HZ0.out
    rw [← HN.out]
    have hN0 : 0 < N := by omega
    obtain ⟨wk, hwk⟩ : ∃ wk, wk = wh.setCell ⟨gh, 0, none⟩ (.int .u8 ((136 : Nat) : Int)) := ⟨_, rfl⟩
    have hFk : Fr (fun _ => False) w9 wk := by rw [hwk]; exact fr_set_new HFh.out hgh
    have hbkk : Bk wk gh (Z.set 0 136) := by rw [hwk]; exact hbkh.set 0 136
    have HFk := hide (HF9.out.join hFk)
    have Ho := hide (open_bk (m := bs.length) (er := 4) hbkk (set_bytes HZb.out 0 136 (by decide)) (by rw [List.length_set, ← HN.out]; omega) (by rw [List.length_set, ← HN.out]; exact hch) (by omega) (HG9.out.fr hFk) N (by rw [List.length_set, ← HN.out]) Hoh.out)
    have hwk2 : wh.setCell ⟨gh, 0, none⟩ (.int .u8 136) = wk := hwk.symm
    have Hwk := hide hwk2
    clear hq9 hs9 O9 HLy Hownh hownh hgh hbkh hbkk hFk F9 hwk hwk2
    go_wp2_with fail
    rw [Hwk.out]
    refine Ho.out.mono ?_
    rintro e wl ⟨al, cl, rfl, hFl⟩
    have HFl := hide (HFk.out.join hFl)
    clear hFl z0 z1 Hwk Ho
    go_wp2_with fail
    go_ret
    exact ⟨rfl, HFl.out⟩
end Go.Proofs.YtdpmpllbdoefdaaGreatDoor

namespace Go.Proofs.YtdpmpllbdoefdaaGreatDoor
open Go.ChangeShapes Go.WideShapes Go.ChangeAt Go.RowKit
open Go.ChangeMaps (open_string shut_string)
set_option linter.unusedVariables false

theorem cells38 : Tryz.prog.cellsOf 38 = 2 := by kernel_rfl
theorem cells5 : Tryz.prog.cellsOf 5 = 1 := by kernel_rfl

set_option maxRecDepth 100000 in
theorem open_two {H : Type} {enc : TypeId × Value → H} {W : World} {b0 base : Nat} {r : Reach} {sp : Nat → Bool} {held : Bool} {v : Value} {d : DataW H} {ps : List MemPlace}
    (hv : Value.okWide Tryz.prog W r b0 38 v) (hd : DataW.Trod enc Tryz.prog W base sp held 38 v d ps) :
    ∃ x y : Int, v = .agg #[.int .u8 x, .int .u8 y] ∧ (Lit.int .u8 x).wf = true ∧ (Lit.int .u8 y).wf = true := by
  simp only [Value.okWide, Tryz.underlying38] at hv
  obtain ⟨cs, rfl, h2, _⟩ := hv
  rw [cells38] at h2
  obtain ⟨fuel, hf⟩ := hd
  cases fuel with
  | zero => simp [DataW.trod] at hf
  | succ m =>
    obtain ⟨l⟩ := cs
    match l, h2 with
    | [c0, c1], _ =>
      rw [DataW.trod_step] at hf
      unfold DataW.trodStep at hf
      simp only [Tryz.underlying38, Value.cells] at hf
      rw [if_pos (by rw [cells38]; rfl)] at hf
      rw [cells5] at hf
      simp only [Option.map_eq_some_iff] at hf
      obtain ⟨ys, hy, _⟩ := hf
      simp only [List.range_succ, List.range_zero, List.nil_append, List.cons_append, List.mapM_cons, List.mapM_nil, bind, Option.bind_eq_some_iff, pure] at hy
      obtain ⟨y0, hy0, ys1, ⟨y1, hy1, _⟩, _⟩ := hy
      obtain ⟨x, ex, _, wx⟩ := DataW.trod_int Tryz.underlying5 hy0
      obtain ⟨y, ey, _, wy⟩ := DataW.trod_int Tryz.underlying5 hy1
      simp at ex ey
      subst ex
      subst ey
      exact ⟨x, y, rfl, wx, wy⟩

theorem zsum_walk (ba : Option Addr) (bl bc : Nat) (ma : Option Addr) (ml mc : Nat) (ls : List (List Nat)) (ms : List Nat) (x y : Int) (w : World) (hB : IsRows w ba bl ls) (hM : Lies w (.slice ma ml mc) ms) (hml : ml = ms.length) (hmb : ∀ b ∈ ms, b < 256) (hsm : ∀ i, i < bl → (ls.getD i []).length ≤ 140737488355328) (hx : 0 ≤ x ∧ x < 256) (hy : 0 ≤ y ∧ y < 256) (hg : Gw w) :
    Calls Tryz.prog 5 #[rowsV ba bl bc ma ml mc, .agg #[.int .u8 x, .int .u8 y]] w fun e w' => e = .returned (.bool true) ∧ Below w.heap.size w w' := by
  have hc := zsum_c ba bl bc ma ml mc ls ms x.toNat y.toNat w hB hM hml hmb hsm (by omega) (by omega) hg
  rw [Int.toNat_of_nonneg hx.1, Int.toNat_of_nonneg hy.1] at hc
  exact hc.mono fun e w' ⟨he, hf⟩ => ⟨he, hf.below (Nat.le_refl _) (fun _ h => h.elim)⟩

set_option maxRecDepth 100000 in
theorem zlibSum_lifted (os : Os) (started : os.Started) (H : Type) (enc : TypeId × Value → H) :
    ReturnsInHanded {} Tryz.checked os 5 .any (fun w args => (Rows.zlibSumSpec.pre enc Tryz.prog Tryz.f5 [] false w args ∧ laidMetH Tryz.prog laidL w) ∧ sizedMet enc Tryz.prog Tryz.f5 (OpenSpec.ofChange Rows.zlibSumSpec) false w args)
      (Rows.zlibSumSpec.post enc Tryz.prog Tryz.f5 false true false false) := by
  refine returnsInHanded_of_change_and (C := Tryz.checked) (X := fun w _ => laidMetH Tryz.prog laidL w) (fun _ _ _ hh h => h.of_heap hh) own' started (by kernel_rfl) Tryz.func5
    (ChangeSpec.witness_shaped (enc := enc) (C := Tryz.checked) (os := os) (X := fun w _ => laidMetH Tryz.prog laidL w) false (World.doorLaid Tryz.prog 400 os) #[.agg #[.slice none 0 0, .slice none 0 0], .agg #[.int .u8 0, .int .u8 0]] 8 rfl (World.shaped_of_RefB (by kernel_rfl) (by kernel_rfl)) (by kernel_rfl) (by kernel_rfl) (by kernel_rfl) (door_met os _)) ?_
  intro W base args ds gs before hval0 hW _ hwt hL _
  have hG := of_laid hL
  have hval : ∀ (j : Nat) t v, Tryz.f5.params[j]? = some t → args[j]? = some v → Value.okWide Tryz.prog W .any base t v := hval0
  have hW' := hW
  obtain ⟨p, q, hA0, hV, rfl, hfz, hnd⟩ := hW
  have hA : DataW.TrodAll enc Tryz.prog W 0 (fun _ => true) true Tryz.f5.params.toList args.toList ds p := hA0
  rw [Tryz.params5] at hA hval
  obtain ⟨v0, vs0, d0, ds0, p0, q0, hargs, rfl, rfl, h0, r0⟩ := trodAll_cons hA
  obtain ⟨v1, vs1, d1, ds1, p1, q1, rfl, rfl, rfl, h1, r1⟩ := trodAll_cons r0
  obtain ⟨rfl, rfl, rfl⟩ := trodAll_nil r1
  obtain rfl : args = #[v0, v1] := by cases args; simp_all
  obtain ⟨rfl, rfl⟩ := trodVars_none hV
  have k0 := h0
  have lt0 : ∀ x ∈ p0, x.block < W.heap.size := by obtain ⟨m, hm⟩ := k0; exact DataW.trod_lt m _ _ _ hm
  have hwt0 : (DataW.weights Tryz.prog 32 d0).all (· ≤ reachBytes) = true := by
    rw [List.all_eq_true] at hwt ⊢
    intro x hx
    exact hwt x (by rw [Tryz.params5]; exact List.mem_append_left _ hx)
  obtain ⟨ba0, bl0, bc0, ma0, ml0, mc0, ls0, ms0, rfl, w0, x0, y0, z0, s0⟩ := open_R (hval 0 32 v0 rfl rfl) h0 hwt0
  have k1 := h1
  have lt1 : ∀ x ∈ p1, x.block < W.heap.size := by obtain ⟨m, hm⟩ := k1; exact DataW.trod_lt m _ _ _ hm
  obtain ⟨a1, b1, rfl, w1, y1⟩ := open_two (hval 1 38 v1 rfl rfl) h1
  clear hA0 hval0 hL hwt
  refine (zsum_walk ba0 bl0 bc0 ma0 ml0 mc0 ls0 ms0 a1 b1 W w0 x0 y0 z0 s0 (wf_u8 w1) (wf_u8 y1) hG).mono fun e W' ⟨he, bel⟩ => ?_
  subst he
  exact ⟨_, rfl, _, _, _, [], _, [], hW', trodAll_mk1 (shut_bool Tryz.underlying4 _), (trodAll_cons_mk (Below.trod laidOut (by kernel_rfl) (of_decide_eq_true (by kernel_rfl)) k0 bel lt0) (trodAll_cons_mk (Below.trod laidOut (by kernel_rfl) (of_decide_eq_true (by kernel_rfl)) k1 bel lt1) trodAll_mk0)), rfl, bel.frame _, fun h => by cases h⟩

theorem zlibSum_over : Rows.ZlibSumSaid :=
  OpenClaim.holds_of_wide 5 Tryz.f5 rfl rfl rfl rfl rfl rfl rfl ⟨rfl, rfl, rfl, rfl, rfl⟩ rfl rfl rfl rfl rfl (by kernel_rfl) Tryz.func5 (by kernel_rfl)
    (of_decide_eq_true (by kernel_rfl)) (by unfold Func.isWrapper; first | (rw [if_pos (by decide +kernel)]; kernel_rfl) | (rw [if_neg (by decide +kernel)]; exact ⟨rfl, rfl⟩))
    (fun os started H enc _ => zlibSum_lifted os started H enc)

/-- The statement. -/
theorem zlibSum_holds : Rows.ZlibSumCardSaid :=
  Claim7.holds_tied_plain_at .later [] [.data, .data] true (true, "ca9f0afc9002b6dc60be0fea2c1554bdf665e4b60bc3b7e58cdc3b6c159c91b1") true
    zlibSum_over (fun _ h => by cases h) (by kernel_rfl) (fun _ h => by cases h) zlibSum_row_tie rfl ⟨rfl, rfl⟩ (by kernel_rfl) rfl
    (fun f fn hf hfn => by
      obtain rfl : f = 5 := Option.some.inj ((show Tryz.prog.funcNamed "engraver/engraverlaw6.ZlibSum" = some 5 by kernel_rfl).symm.trans hf) |>.symm
      obtain rfl : fn = Tryz.f5 := (Option.some.inj (Tryz.func5.symm.trans hfn)).symm
      exact ⟨by kernel_rfl, fun j t ht => by
        rw [Tryz.params5] at ht
        have hm : t ∈ ([32, 38] : List TypeId) := by simpa using Array.mem_of_getElem? ht
        have hall : (([32, 38] : List TypeId).all fun u => !Tryz.prog.wantsStandIn u) = true := by kernel_rfl
        exact (show Tryz.prog.wantsStandIn t = false by simpa using List.all_eq_true.1 hall t hm)⟩)
    (by kernel_rfl)
#print axioms zlibSum_holds
end Go.Proofs.YtdpmpllbdoefdaaGreatDoor
