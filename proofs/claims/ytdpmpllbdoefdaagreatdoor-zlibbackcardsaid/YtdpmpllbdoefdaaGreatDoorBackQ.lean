/-
  ZlibBack: any bytes are opened as they were closed; the stream begins and ends as it must, and is not too long.
  Conditions: none.
-/
import Derived.Test.YtdpmpllbdoefdaaGreatDoorQz10
import Derived.Deep.Matrix
import Derived.Laws.AppendOwnNone
import Derived.Lib.SmallJoins
import Derived.Test.YtdpmpllbdoefdaaGreatDoorCards
import Derived.SevenTiedAt
/-
  zlib: ZlibHead.
-/
namespace Go.Proofs.YtdpmpllbdoefdaaGreatDoor
open Go.RowKit

/-- A row of bytes that is a block's own, from its first cell on. -/
def Bk (w : World) (g : Nat) (Z : List Nat) : Prop := ∃ cur : Array Value, w.heap[g]? = some (.cells cur 5 (0, 0)) ∧ Z.length ≤ cur.size ∧ cur.toList.take Z.length = cellsOf Z

theorem own_bk {w : World} {lo n c : Nat} {a : Option Addr} {Z : List Nat} (h : w.ownsRow lo 5 1 (.slice a n c) n (cellsOf Z)) (hn : 0 < n) (hZ : n = Z.length) : ∃ g, a = some ⟨g, 0, none⟩ ∧ lo ≤ g ∧ g < w.heap.size ∧ n ≤ c ∧ Bk w g Z := by
  rcases h.2 with ⟨_, e⟩ | ⟨g, cap, cur, hv, hg, hh, hr, hm, hs, ht⟩
  · omega
  · obtain ⟨e1, _, e3⟩ := Value.slice.inj hv
    subst hZ
    refine ⟨g, e1, hg, lt_of hh, by omega, cur, hh, by omega, ?_⟩
    rw [Nat.mul_one] at ht
    exact ht

theorem Bk.set {w : World} {g : Nat} {Z : List Nat} (h : Bk w g Z) (k x : Nat) : Bk (w.setCell ⟨g, k, none⟩ (.int .u8 (x : Int))) g (Z.set k x) := by
  obtain ⟨cur, h1, h2, h3⟩ := h
  refine ⟨cur.setIfInBounds k (.int .u8 (x : Int)), heap_setCell_own _ h1, by simpa using h2, ?_⟩
  rw [List.length_set, Array.toList_setIfInBounds, List.take_set, h3]
  simp [cellsOf, List.map_set]

theorem Bk.lies {w : World} {g : Nat} {Z : List Nat} (h : Bk w g Z) (c : Nat) : Lies w (.slice (some ⟨g, 0, none⟩) Z.length c) Z := by
  obtain ⟨cur, h1, h2, h3⟩ := h
  refine Or.inr ⟨⟨g, 0, none⟩, c, rfl, fun j u hu => ?_⟩
  rw [Addr.add_mid, Nat.zero_add]
  refine cell_of h1 ?_
  rw [← h3, List.getElem?_take] at hu
  split at hu
  · simpa using hu
  · cases hu

theorem Bk.cell {w : World} {g : Nat} {Z : List Nat} (h : Bk w g Z) (k x : Nat) (hk : Z[k]? = some x) : w.cell? ⟨g, k, none⟩ = some (.int .u8 (x : Int)) ∧ w.frozen? ⟨g, k, none⟩ = false := by
  obtain ⟨cur, h1, h2, h3⟩ := h
  refine ⟨cell_of h1 ?_, frozen_of h1⟩
  have hu : (cellsOf Z)[k]? = some (.int .u8 (x : Int)) := by simp [cellsOf, hk]
  rw [← h3, List.getElem?_take] at hu
  split at hu
  · simpa using hu
  · cases hu

theorem head_keep {w : World} {g : Nat} {Z : List Nat} {a b : Nat} (h : Bk w g Z) : Bk ((w.setCell ⟨g, 0, none⟩ (.int .u8 (a : Int))).setCell ⟨g, 1, none⟩ (.int .u8 (b : Int))) g ((Z.set 0 a).set 1 b) := (h.set 0 a).set 1 b

set_option maxHeartbeats 1600000 in
set_option maxRecDepth 100000 in
theorem head_c (a b : Nat) (ad : Option Addr) (n c : Nat) (bs : List Nat) (w : World) (ha : a < 256) (hb8 : b < 256) (hn : n = bs.length) (h : Lies w (.slice ad n c) bs) (hlt : ∀ b ∈ bs, b < 256) (hg : Gw w) :
    Calls Tryz.prog 6 #[.int .u8 (a : Int), .int .u8 (b : Int), .slice ad n c] w fun e w' => e = .returned (.bool true) ∧ Fr (fun _ => False) w w' := by
  subst hn
  have HG := hide hg
  have HL := hide h
  have Hb := hide hlt
  clear hg h hlt
  go_enter Tryz.func6, Tryz.ntmps6
  go_wp2_with fail
  refine (awake_c w HG.out).mono ?_
  rintro e w0 ⟨rfl, hF0⟩
  have HG0 := hide (HG.out.fr hF0)
  have HL0 := hide (lies_false HL.out hF0)
  have HF0 := hide hF0
  clear hF0 HL
  by_cases hbig : 1000 < bs.length
  · have hbi : (1000 : Int) < bs.length := by omega
    go_wp2
    go_ret
    exact ⟨rfl, HF0.out⟩
  have hbi : ¬ (1000 : Int) < bs.length := by omega
  have Hc := hide (close_c ad c bs w0 HL0.out (by omega) Hb.out HG0.out.gl)
  go_wp2_with fail
  refine Hc.out.mono ?_
  rintro e w1 ⟨os, ra, rc, hst, rfl, hO1, hF1⟩
  have hzl := zl_length os bs
  have hle := hst.len Hb.out
  have hosb := hst.bytes
  obtain ⟨g, rfl, hg1, hg2, hgc, hbk⟩ := own_bk hO1 (by omega) rfl
  obtain ⟨z0, z1⟩ := hbk.cell 0 120 rfl
  obtain ⟨y0, y1⟩ := hbk.cell 1 1 rfl
  obtain ⟨w2, hw2⟩ : ∃ w2, w2 = (w1.setCell ⟨g, 0, none⟩ (.int .u8 (a : Int))).setCell ⟨g, 1, none⟩ (.int .u8 (b : Int)) := ⟨_, rfl⟩
  have hbk2 : Bk w2 g ([a, b] ++ os ++ sumB (adler 1 bs)) := by rw [hw2]; exact head_keep hbk
  have hF2 : Fr (fun _ => False) w0 w2 := by rw [hw2]; exact fr_set_new (fr_set_new hF1 hg1) hg1
  have HF2 := hide (HF0.out.join hF2)
  have HL4 := hide (lies_false HL0.out hF2)
  have Hop : Hid (headOk a b = true → OpenOk ([a, b] ++ os ++ sumB (adler 1 bs)) (bs.length : Int) (bs, 0)) := fun hq => by
    have := open_tail a b (sumB (adler 1 bs)) hq Hb.out hst bs.length (Nat.le_refl _) (by simp [sumB])
    rw [sumErr_ok] at this
    exact this
  have hbyt : ∀ x ∈ [a, b] ++ os ++ sumB (adler 1 bs), x < 256 := by
    intro x hx
    simp only [List.mem_append] at hx
    rcases hx with (hx | hx) | hx
    · simp at hx; omega
    · exact hosb x hx
    · exact sumB_lt _ x hx
  have hlen : ([a, b] ++ os ++ sumB (adler 1 bs)).length = (zl os bs).length := by simp [zl]
  obtain ⟨Z, hZ⟩ : ∃ Z, Z = [a, b] ++ os ++ sumB (adler 1 bs) := ⟨_, rfl⟩
  have HZ0 : Hid (Z.getD 0 0 = a) := by show _ = _; rw [hZ]; rfl
  have HZ1 : Hid (Z.getD 1 0 = b) := by show _ = _; rw [hZ]; rfl
  rw [← hZ] at hbk2 Hop hbyt hlen
  have hZ6 : 6 ≤ Z.length := by omega
  have HZ6 := hide hZ6
  have hm1 : mostF bs.length ≤ 2000 := by unfold mostF; omega
  have Ho := hide (open_c (some ⟨g, 0, none⟩) rc Z bs.length w2 (hbk2.lies rc) hbyt (by omega) (by omega) (by omega) (HG0.out.fr hF2))
  rw [hlen] at Ho
  obtain ⟨N, hN⟩ : ∃ N, N = (zl os bs).length := ⟨_, rfl⟩
  rw [← hN] at Ho ⊢
  have k0 : 0 < N := by omega
  have k1 : 1 < N := by omega
  have y0' : (w1.setCell ⟨g, 0, none⟩ (.int .u8 (a : Int))).cell? ⟨g, 1, none⟩ = some (.int .u8 1) := by
    rw [World.cell?_setCell_other _ _ _ _ (by simp)]; exact y0
  have Hw2 := hide hw2
  have h1 := u8_and15 a ha
  have h4 := u8_and32 b hb8
  clear hst hO1 hF1 hzl hle hosb hbk hbk2 hF2 hbyt hlen hZ hN hZ6 hm1 hw2 hg1 hg2 hgc
  go_wp2_with fail
  rw [← Hw2.out]
  refine Ho.out.mono ?_
  clear z0 z1 y0 y1 y0' Hw2 Ho Hc
  rintro e w5 ⟨x, a5, c5, hx, rfl, hl5, hF5⟩
  have HF5 := hide (HF2.out.join hF5)
  by_cases g1 : ¬ a % 16 = 8
  · have hq : headOk a b = false := by simp only [headOk]; simp; omega
    obtain rfl := hx.det (Or.inr (Or.inl ⟨HZ6.out, by rw [HZ0.out, HZ1.out]; exact hq, rfl⟩))
    have p1 : ¬ (a : Int) % 16 = 8 := by omega
    clear hq hx hl5 hF5 g1
    go_wp2
    go_ret
    exact ⟨rfl, HF5.out⟩
  by_cases g2 : ¬ a / 16 ≤ 7
  · have hq : headOk a b = false := by simp only [headOk]; simp; omega
    obtain rfl := hx.det (Or.inr (Or.inl ⟨HZ6.out, by rw [HZ0.out, HZ1.out]; exact hq, rfl⟩))
    have p1 : (a : Int) % 16 = 8 := by omega
    have p2 : ¬ (a : Int) / 16 ≤ 7 := by omega
    clear hq hx hl5 hF5 g1 g2
    go_wp2
    go_ret
    exact ⟨rfl, HF5.out⟩
  by_cases g3 : ¬ (a * 256 + b) % 31 = 0
  · have hq : headOk a b = false := by simp only [headOk]; simp; omega
    obtain rfl := hx.det (Or.inr (Or.inl ⟨HZ6.out, by rw [HZ0.out, HZ1.out]; exact hq, rfl⟩))
    have p1 : (a : Int) % 16 = 8 := by omega
    have p2 : (a : Int) / 16 ≤ 7 := by omega
    have p3 : ¬ ((a : Int) * 256 + (b : Int)) % 31 = 0 := by omega
    clear hq hx hl5 hF5 g1 g2 g3
    go_wp2
    go_ret
    exact ⟨rfl, HF5.out⟩
  by_cases g4 : ¬ b / 32 % 2 = 0
  · have hq : headOk a b = false := by simp only [headOk]; simp; omega
    obtain rfl := hx.det (Or.inr (Or.inl ⟨HZ6.out, by rw [HZ0.out, HZ1.out]; exact hq, rfl⟩))
    have p1 : (a : Int) % 16 = 8 := by omega
    have p2 : (a : Int) / 16 ≤ 7 := by omega
    have p3 : ((a : Int) * 256 + (b : Int)) % 31 = 0 := by omega
    have p4 : ((b : Int) / 32 % 2 * 32 == 0) = false := by rw [beq_eq_false_iff_ne]; omega
    clear hq hx hl5 hF5 g1 g2 g3 g4
    go_wp2
    go_ret
    exact ⟨rfl, HF5.out⟩
  have hq : headOk a b = true := by simp only [headOk]; simp; omega
  obtain rfl := hx.det (Hop.out hq)
  have hl5b : Lies w5 (.slice a5 bs.length c5) bs := hl5
  have s1 := str_lies hl5b Hb.out
  have s2 := str_lies (lies_false HL4.out hF5) Hb.out
  have p1 : (a : Int) % 16 = 8 := by omega
  have p2 : (a : Int) / 16 ≤ 7 := by omega
  have p3 : ((a : Int) * 256 + (b : Int)) % 31 = 0 := by omega
  have p4 : (b : Int) / 32 % 2 * 32 = 0 := by omega
  clear hq hx hl5 hF5 hl5b g1 g2 g3 g4
  go_wp2
  go_ret
  exact ⟨rfl, HF5.out⟩
end Go.Proofs.YtdpmpllbdoefdaaGreatDoor

/-
  Pieces that are repeated.
-/
namespace Go.Proofs.YtdpmpllbdoefdaaGreatDoor
open Go.RowKit Go.ChangeShapes Go.WideShapes

/-- A slice of slices of bytes in memory: each cell a slice whose bytes lie there. -/
structure IsRows (w : World) (a : Option Addr) (len : Nat) (ls : List (List Nat)) : Prop where
  n : ls.length = len
  bytes : ∀ x ∈ ls, ∀ b ∈ x, b < 256
  lies : ∀ i, i < len → ∃ ad a' c', a = some ad ∧ w.cell? (ad.add i) = some (.slice a' (ls.getD i []).length c') ∧ Lies w (.slice a' (ls.getD i []).length c') (ls.getD i [])

theorem IsRows.fr {w w' : World} {a : Option Addr} {len : Nat} {ls : List (List Nat)} (h : IsRows w a len ls) (f : Fr (fun _ => False) w w') : IsRows w' a len ls := ⟨h.n, h.bytes, fun i hi => by
  obtain ⟨ad, a', c', e, hc, hl⟩ := h.lies i hi
  exact ⟨ad, a', c', e, (cell_blk (f.block _ (cell_lt hc) (fun e => e))).trans hc, lies_frS hl f fun _ _ _ _ _ hS => hS⟩⟩

theorem append_anyB {w : World} {ops : Array Oper} {rest : List Oper} {o : Oper} {a : Act} {Q : Exit → Act → World → Prop} (hgd : o.guard = none) (s x : Operand)
    (ho : o.op = .call { callee := .builtin .append, args := #[s, x], argTypes := #[22, 22] }) (base : Nat) (v : Value) (n : Nat) (xs : List Value) (hs : a.eval s = v) (hown : w.ownsRow base 5 1 v n xs)
    (sv : Value) (bs : List Nat) (hx : a.eval x = sv) (hl : Lies w sv bs) (h63 : n + bs.length ≤ 2147483648) (hbase : base ≤ w.heap.size)
    (h : ∀ v' w', w'.ownsRow base 5 1 v' (n + bs.length) (xs ++ cellsOf bs) → Below base w w' → wpList Tryz.prog ops Q rest (a.put o.dst v') w') : wpList Tryz.prog ops Q (o :: rest) a w := by
  obtain ⟨i0, hi, hz0, hz1, hz2⟩ := info_parts Tryz.info5
  rcases hl with ⟨rfl, rfl⟩ | ⟨ad, c, rfl, hc⟩
  · refine wpList_append_own_none hgd s x 22 ho base 5 i0 1 Tryz.underlying22 hi v n xs hs hown hx ?_
    refine h v w ?_ (Below.refl _ _)
    simpa [cellsOf] using hown
  · refine wpList_append_own w hgd s x 22 ho base 5 i0 (.int .u8 0) 1 1 Tryz.underlying22 hi hz0 hz1 hz2 rfl (by decide) v n xs hs hown ad bs.length c (cellsOf bs) hx (by simp [cellsOf_length]) hc (cellsOf_one bs) (by unfold maxLen; omega) (by omega) hbase ?_
    intro v' w' h1 h2 _
    exact h v' w' h1 (Below.grown (Below.refl _ _) h2 hbase (fun k hk => (hown.lt k hk).1))

/-- What Make answers. -/
def Made (w : World) (e : Ending) (w' : World) : Prop := Fr (fun _ => False) w w' ∧ (e = .returned (.tuple #[.slice none 0 0, .bool false]) ∨ ∃ out a c, e = .returned (.tuple #[.slice a out.length c, .bool true]) ∧ w'.ownsRow w.heap.size 5 1 (.slice a out.length c) out.length (cellsOf out) ∧ (∀ b ∈ out, b < 256) ∧ out.length ≤ 70000)

abbrev rowsV (ba : Option Addr) (bl bc : Nat) (ma : Option Addr) (ml mc : Nat) : Value := .agg #[.slice ba bl bc, .slice ma ml mc]

set_option maxHeartbeats 3200000 in
set_option maxRecDepth 100000 in
theorem make_c (ba : Option Addr) (bl bc : Nat) (ma : Option Addr) (ml mc : Nat) (ls : List (List Nat)) (ms : List Nat) (w : World) (hB : IsRows w ba bl ls) (hM : Lies w (.slice ma ml mc) ms) (hml : ml = ms.length) (hmb : ∀ b ∈ ms, b < 256) (hsm : ∀ i, i < bl → (ls.getD i []).length ≤ 140737488355328) :
    Calls Tryz.prog 10 #[rowsV ba bl bc ma ml mc] w (Made w) := by
  obtain ⟨K, hK⟩ : ∃ K, K = w.heap.size := ⟨_, rfl⟩
  obtain ⟨w1, hw1⟩ : ∃ w1, w1 = w.alloc (.cells #[.slice ba bl bc, .slice ma ml mc] 32) := ⟨_, rfl⟩
  have hF1 : Fr (fun _ => False) w w1 := by rw [hw1]; exact Fr.of_alloc _ _
  have hb1 : w1.heap[K]? = some (.cells #[.slice ba bl bc, .slice ma ml mc] 32 (0, 0)) := by rw [hw1]; exact heap_alloc_at hK
  have k0 := cell_of (o := 0) hb1 rfl
  have k1 := cell_of (o := 1) hb1 rfl
  have HB := hide (hB.fr hF1)
  have HM := hide (lies_frS hM hF1 fun _ _ _ _ _ hS => hS)
  have Hml := hide hml
  have Hmb := hide hmb
  have Hsm := hide hsm
  have HF1 := hide hF1
  have Hb1 := hide hb1
  have Hw1 := hide hw1
  have HK := hide hK
  clear hB hM hml hmb hsm hF1 hb1 hw1 hK
  by_cases h50 : 50 < bl
  · have hi : (50 : Int) < (bl : Int) := by omega
    clear k0 k1
    go_enter Tryz.func10, Tryz.ntmps10
    go_wp2_with fail
    go_ret2
    exact ⟨Fr.of_alloc _ _, Or.inl rfl⟩
  by_cases hmlb : ml < bl
  · have hi : ¬ (50 : Int) < (bl : Int) := by omega
    have hi2 : (ml : Int) < (bl : Int) := by omega
    clear k0 k1
    go_enter Tryz.func10, Tryz.ntmps10
    go_wp2_with fail
    go_ret2
    exact ⟨Fr.of_alloc _ _, Or.inl rfl⟩
  by_cases h100 : 100 < ml
  · have hi : ¬ (50 : Int) < (bl : Int) := by omega
    have hi2 : ¬ (ml : Int) < (bl : Int) := by omega
    have hi3 : (100 : Int) < (ml : Int) := by omega
    clear k0 k1
    go_enter Tryz.func10, Tryz.ntmps10
    go_wp2_with fail
    go_ret2
    exact ⟨Fr.of_alloc _ _, Or.inl rfl⟩
  have hi : ¬ (50 : Int) < (bl : Int) := by omega
  have hi2 : ¬ (ml : Int) < (bl : Int) := by omega
  have hi3 : ¬ (100 : Int) < (ml : Int) := by omega
  have hi4 : (bl : Int) ≤ 50 := by omega
  have hi5 : (ml : Int) ≤ 100 := by omega
  go_enter Tryz.func10, Tryz.ntmps10
  go_wp2_with fail
  rw [← Hw1.out, ← HK.out]
  clear hi hi2 hi3
  go_loopw [4, 5, 6] (fun tv ti _ wr => ∃ (i : Nat) (out : List Nat) (va : Option Addr) (vc : Nat), ti = .int .i64 (i : Int) ∧ i ≤ bl ∧ tv = .slice va out.length vc ∧ wr.ownsRow w1.heap.size 5 1 (.slice va out.length vc) out.length (cellsOf out) ∧ Hid (∀ b ∈ out, b < 256) ∧ out.length ≤ 70000 ∧ Fr (fun _ => False) w1 wr) (fun _ ti _ _ => bl - (intOf ti).toNat)
  case atStart => exact ⟨0, [], none, 0, rfl, Nat.zero_le _, rfl, World.ownsRow_nil _ _ _ _, fun b hb => (by cases hb), Nat.zero_le _, Fr.refl _ _⟩
  case round =>
    obtain ⟨i, out, va, vc, rfl, hib, rfl, hO, HBy, h7, hF⟩ := hrel
    have hbk := cells_at Hb1.out hF (fun e => e)
    clear k0 k1
    have k0 := cell_of (o := 0) hbk rfl
    have k1 := cell_of (o := 1) hbk rfl
    have HO := hide hO
    have HF := hide hF
    clear hO hF hbk
    by_cases hlt : i < bl
    · have hlti : (i : Int) < (bl : Int) := by omega
      have himl : i < ms.length := by have := Hml.out; omega
      have himi : (i : Int) < (ml : Int) := by have := Hml.out; omega
      go_wp2_with fail
      obtain ⟨cnt, hcnt⟩ : ∃ cnt, cnt = ms.getD i 0 := ⟨_, rfl⟩
      have hc256 : cnt < 256 := by
        rw [hcnt, List.getD_eq_getElem?_getD, List.getElem?_eq_getElem himl]
        exact Hmb.out _ (List.getElem_mem himl)
      have Hcnt := hide hcnt
      have hci : (cnt : Int) < 256 := by omega
      have HO2 := hide HO.out
      clear hcnt k0 k1
      obtain ⟨mad, hmad⟩ : ∃ mad, ma = some mad := by
        rcases HM.out with ⟨hv, e0⟩ | ⟨mad, c, hv, _⟩
        · rw [e0] at himl; cases himl
        · obtain ⟨e1, _, _⟩ := Value.slice.inj hv; exact ⟨mad, e1⟩
      subst hmad
      go_loopw [4, 6] (fun tv tk w2 => ∃ (k : Nat) (out2 : List Nat) (va2 : Option Addr) (vc2 : Nat), tk = .int .i64 (k : Int) ∧ k ≤ cnt ∧ tv = .slice va2 out2.length vc2 ∧ w2.ownsRow w1.heap.size 5 1 (.slice va2 out2.length vc2) out2.length (cellsOf out2) ∧ Hid (∀ b ∈ out2, b < 256) ∧ out2.length ≤ 70000 ∧ Fr (fun _ => False) w1 w2) (fun _ tk _ => cnt - (intOf tk).toNat)
      case atStart => exact ⟨0, out, va, vc, rfl, Nat.zero_le _, rfl, HO.out, HBy, h7, HF.out⟩
      case round =>
        obtain ⟨k, out2, va2, vc2, rfl, hkc, rfl, hO3, HBy2, h72, hF3⟩ := hrel
        have hbk := cells_at Hb1.out hF3 (fun e => e)
        have k0 := cell_of (o := 0) hbk rfl
        have k1 := cell_of (o := 1) hbk rfl
        have hmc : wr.cell? (mad.add i) = some (.int .u8 (cnt : Int)) := by
          have hl := lies_frS HM.out hF3 fun _ _ _ _ _ hS => hS
          rcases hl with ⟨hv, e0⟩ | ⟨ad', c, hv, hc⟩
          · rw [e0] at himl; cases himl
          · obtain ⟨e1, _, _⟩ := Value.slice.inj hv
            cases e1
            refine hc i _ ?_
            rw [Hcnt.out]
            simp [cellsOf, List.getElem?_eq_getElem himl]
        obtain ⟨bad, a', c', hbe, hbc, hbl⟩ := (HB.out.fr hF3).lies i hlt
        subst hbe
        obtain ⟨X, hX⟩ : ∃ X, X = ls.getD i [] := ⟨_, rfl⟩
        rw [← hX] at hbc hbl
        obtain ⟨N, hN⟩ : ∃ N, N = X.length := ⟨_, rfl⟩
        rw [← hN] at hbc hbl
        have HX := hide hX
        obtain ⟨L2, hL2⟩ : ∃ L2, L2 = out2.length := ⟨_, rfl⟩
        rw [← hL2] at hO3 h72 ⊢
        have hNb : N ≤ 140737488355328 := by rw [hN, hX]; exact Hsm.out i hlt
        have hNi : (N : Int) ≤ 140737488355328 := by omega
        have HO3 := hide hO3
        have HF3 := hide hF3
        have Hbl := hide hbl
        have HN := hide hN
        have HL2 := hide hL2
        have q1 : IntKind.i64.wrap (cnt : Int) = (cnt : Int) := wrap_i64_id _ (by omega) (by omega)
        have h72i : (L2 : Int) ≤ 70000 := by omega
        clear hO3 hF3 hbl hN hL2 hbk hX
        by_cases hkl : k < cnt
        · have hkli : (k : Int) < (cnt : Int) := by omega
          by_cases hbig : 70000 < L2 + N
          · have hbi : (70000 : Int) < (L2 : Int) + (N : Int) := by omega
            go_wp2_with fail
            go_ret2
            exact ⟨HF1.out.join HF3.out, Or.inl rfl⟩
          · have hbi : ¬ (70000 : Int) < (L2 : Int) + (N : Int) := by omega
            have hw1s : w1.heap.size ≤ wr.heap.size := HF3.out.size
            go_wp2_with (at_builtin; go_must (refine append_anyB rfl (.tmp 53) (.tmp 58) rfl w1.heap.size (.slice va2 L2 vc2) L2 (cellsOf out2) rfl HO3.out (.slice a' N c') X rfl Hbl.out (by rw [← HN.out]; omega) hw1s ?_); intro v4 w4 hown4 hbel4
                         obtain ⟨va4, vc4, rfl⟩ := ownsRow_shape hown4
                         have HF4 := hide (HF3.out.join' hbel4)
                         have HO4 := hide hown4
                         clear hown4 hbel4)
            go_roundw
            case rel =>
              have ho := HO4.out
              have el : L2 + X.length = (out2 ++ X).length := by rw [List.length_append, HL2.out]
              rw [el] at ho ⊢
              have ec : cellsOf out2 ++ cellsOf X = cellsOf (out2 ++ X) := by simp [cellsOf]
              rw [ec] at ho
              refine ⟨k + 1, out2 ++ X, va4, vc4, by go_num, by omega, rfl, ho, fun z hz => ?_, by rw [← el, ← HN.out]; omega, HF4.out⟩
              rcases List.mem_append.1 hz with h | h
              · exact HBy2.out z h
              · have hil : i < ls.length := by have := HB.out.n; omega
                exact HB.out.bytes _ (by rw [HX.out, List.getD_eq_getElem?_getD, List.getElem?_eq_getElem hil]; exact List.getElem_mem hil) z h
            case measure => simp [intOf]; omega
        · have hkli : ¬ (k : Int) < (cnt : Int) := by omega
          go_wp2_with fail
          go_roundw
          case rel =>
            have ho := HO3.out
            rw [HL2.out] at ho ⊢
            exact ⟨i + 1, out2, va2, vc2, by go_num, by omega, rfl, ho, HBy2, by rw [← HL2.out]; exact h72, HF3.out⟩
          case measure => simp [intOf]; omega
    · have hlti : ¬ (i : Int) < (bl : Int) := by omega
      go_wp2_with fail
      go_ret2
      have ho := HO.out
      exact ⟨HF1.out.join HF.out, Or.inr ⟨out, va, vc, rfl, ⟨ho.1, ho.2.imp id fun ⟨g, cap, cur, z1, z2, z3⟩ => ⟨g, cap, cur, z1, by have := HF1.out.size; omega, z3⟩⟩, HBy.out, h7⟩⟩
end Go.Proofs.YtdpmpllbdoefdaaGreatDoor

/-
  Pieces that are repeated, as they come in.
-/
namespace Go.Proofs.YtdpmpllbdoefdaaGreatDoor
open Go.RowKit Go.ChangeShapes Go.WideShapes Go.ChangeAt Go.Deep

theorem wall_mem {H : Type} {P : Program} {e : TypeId} {d : DataW H} : ∀ {l : List (DataW H)}, d ∈ l → ∀ x ∈ DataW.weights P e d, x ∈ DataW.weightsAll P e l := by
  intro l
  induction l with
  | nil => intro h; cases h
  | cons y l ih =>
    intro h x hx
    simp only [DataW.weightsAll]
    rcases List.mem_cons.1 h with rfl | h
    · exact List.mem_append_left _ hx
    · exact List.mem_append_right _ (ih h x hx)

theorem open_rowsS {H : Type} {enc : TypeId × Value → H} {W : World} {held : Bool} {fuel : Nat} {v : Value} {x : DataW H × List MemPlace}
    (h : DataW.trod enc Tryz.prog W 0 (fun _ => true) held fuel 30 [v] = some x) (hw : (DataW.weights Tryz.prog 30 x.1).all (· ≤ reachBytes) = true) : ∃ a len cap ls, v = .slice a len cap ∧ IsRows W a len ls ∧ ∀ i, i < len → (ls.getD i []).length ≤ 140737488355328 := by
  rcases Go.Deep.open_int_rows Tryz.underlying30 Tryz.underlying22 Tryz.underlying5 (by kernel_rfl) (by kernel_rfl) h with ⟨hcs, _⟩ | ⟨a, len, cap, A, L, C, Z, hcs, _, hl, hm, hx, hr⟩
  · have := List.cons.inj hcs
    exact ⟨none, 0, 0, [], this.1, ⟨rfl, by simp, fun i hi => absurd hi (Nat.not_lt_zero _)⟩, fun i hi => absurd hi (Nat.not_lt_zero _)⟩
  · have hv := (List.cons.inj hcs).1
    have hrow : ∀ i, i < len → IsRow .u8 W (A i) (L i) (C i) (Z i) := by
      intro i hi
      obtain ⟨h1, h2, h3, h4, h5, h6, h7⟩ := hr i (by omega)
      cases hA : A i with
      | none =>
        have := h6 hA
        refine Or.inl ⟨rfl, by omega, this, List.eq_nil_of_length_eq_zero (by omega)⟩
      | some a' => exact Or.inr ⟨a', rfl, h2, h3, h4, fun j hj => (h7 a' hA).2 j (by omega), h5⟩
    have hget : ∀ i, i < len → ((List.range len).map fun r => bytesOf (L r) (Z r)).getD i [] = bytesOf (L i) (Z i) := by
      intro i hi
      simp [List.getD_eq_getElem?_getD, List.getElem?_map, List.getElem?_range hi]
    refine ⟨some a, len, cap, (List.range len).map fun r => bytesOf (L r) (Z r), hv, ⟨by simp, ?_, ?_⟩, ?_⟩
    · intro y hy
      simp only [List.mem_map, List.mem_range] at hy
      obtain ⟨i, hi, rfl⟩ := hy
      exact (hrow i hi).bytes.2.1
    · intro i hi
      obtain ⟨b1, b2, b3, _⟩ := (hrow i hi).bytes
      rw [hget i hi]
      exact ⟨a, A i, C i, rfl, by rw [b1]; exact (hr i (by omega)).1, b3⟩
    · intro i hi
      obtain ⟨b1, _⟩ := (hrow i hi).bytes
      rw [hget i hi, b1]
      obtain ⟨_, h2, _, h4, _, h6, _⟩ := hr i (by omega)
      cases hA : A i with
      | none => have := h6 hA; omega
      | some a' =>
        have hmem : (intRow .u8 (A i) (L i) (Z i) : DataW H) ∈ (List.range len).map fun r => intRow .u8 (A r) (L r) (Z r) := List.mem_map.2 ⟨i, List.mem_range.2 hi, rfl⟩
        have hwt : C i ∈ DataW.weights Tryz.prog 22 (intRow .u8 (A i) (L i) (Z i) : DataW H) := by
          rw [hA]
          simp only [intRow, DataW.weights, Tryz.underlying22]
          have e1 : Tryz.prog.bytesOf 5 = 1 := by kernel_rfl
          have e2 : (lits (H := H) .u8 ((Z i).take (L i))).length + (lits (H := H) .u8 ((Z i).drop (L i))).length = C i := by
            simp [lits]
            omega
          rw [e1, e2, Nat.mul_one]
          exact List.mem_cons_self
        have hin := wall_mem hmem _ hwt
        have hall : C i ∈ DataW.weights Tryz.prog 30 x.1 := by
          rw [hx]
          simp only [DataW.weights, Tryz.underlying30]
          exact List.mem_cons_of_mem _ (List.mem_append_left _ hin)
        have := List.all_eq_true.1 hw _ hall
        have hle : C i ≤ reachBytes := by simpa using this
        have : reachBytes ≤ 140737488355328 := by decide
        omega

set_option maxRecDepth 100000 in
/-- Rows that come in, opened. -/
theorem open_R {H : Type} {enc : TypeId × Value → H} {W : World} {b0 : Nat} {held : Bool} {v : Value} {d : DataW H} {p : List MemPlace} (hv : Value.okWide Tryz.prog W .any b0 32 v)
    (h : DataW.Trod enc Tryz.prog W 0 (fun _ => true) held 32 v d p) (hw : (DataW.weights Tryz.prog 32 d).all (· ≤ reachBytes) = true) :
    ∃ ba bl bc ma ml mc ls ms, v = rowsV ba bl bc ma ml mc ∧ IsRows W ba bl ls ∧ Lies W (.slice ma ml mc) ms ∧ ml = ms.length ∧ (∀ b ∈ ms, b < 256) ∧ ∀ i, i < bl → (ls.getD i []).length ≤ 140737488355328 := by
  obtain ⟨v0, v1, y0, y1, n, rfl, rfl, rfl, h0, h1⟩ := Go.Joins.open_agg2 Tryz.underlying32 (by kernel_rfl) (by kernel_rfl) hv h
  simp only [DataW.weights, Tryz.underlying32] at hw
  have hw0 : (DataW.weights Tryz.prog 30 y0.1).all (· ≤ reachBytes) = true := by
    rw [List.all_eq_true] at hw ⊢
    intro x hx
    exact hw x (by
      show x ∈ DataW.weightsEach Tryz.prog [30, 22] [y0.1, y1.1]
      simp only [DataW.weightsEach]
      exact List.mem_append_left _ hx)
  obtain ⟨ba, bl, bc, ls, rfl, r1, r2⟩ := open_rowsS (v := v0) h0 hw0
  have hb : ∃ ma ml mc zs, v1 = .slice ma ml mc ∧ IsRow .u8 W ma ml mc zs := by
    rcases open_ints Tryz.underlying22 Tryz.underlying5 (by kernel_rfl) h1 with ⟨hcs, _⟩ | ⟨x, l, c, zs, hcs, _, hl, hm, hz, _, hcell, hwz⟩
    · exact ⟨none, 0, 0, [], (List.cons.inj hcs).1, .inl ⟨rfl, rfl, rfl, rfl⟩⟩
    · exact ⟨some x, l, c, zs, (List.cons.inj hcs).1, .inr ⟨_, rfl, hl, hm, by simpa using hz, hcell, hwz⟩⟩
  obtain ⟨ma, ml, mc, zs, rfl, hz⟩ := hb
  obtain ⟨b1, b2, b3, _⟩ := hz.bytes
  rw [b1] at b3
  exact ⟨ba, bl, bc, ma, ml, mc, ls, bytesOf ml zs, rfl, r1, b3, b1.symm, b2, r2⟩
end Go.Proofs.YtdpmpllbdoefdaaGreatDoor

/-
  zlib: ZlibBack.
-/
namespace Go.Proofs.YtdpmpllbdoefdaaGreatDoor
open Go.RowKit

set_option maxRecDepth 100000 in
theorem mostZ_c (n : Nat) (w : World) (hn : n ≤ 2147000000) :
    Calls Tryz.prog 12 #[.int .i64 (n : Int)] w fun e w' => e = .returned (.int .i64 ((mostF n + 6 : Nat) : Int)) ∧ w = w' := by
  have Hm := hide (most_c (n : Int) w (by omega))
  rw [Int.toNat_natCast] at Hm
  obtain ⟨mo, hmo⟩ : ∃ mo, mo = mostF n := ⟨_, rfl⟩
  have hb : (mo : Int) ≤ 4000000000 := by rw [hmo]; unfold mostF; omega
  rw [← hmo] at Hm ⊢
  have he : (mo : Int) + 6 = ((mo + 6 : Nat) : Int) := by omega
  have He := hide he
  clear hmo he
  go_enter Tryz.func12, Tryz.ntmps12
  go_wp2_with fail
  refine Hm.out.mono ?_
  rintro e w1 ⟨rfl, rfl⟩
  go_wp2
  go_ret
  exact ⟨ret_int He.out, rfl⟩

set_option maxHeartbeats 3200000 in
set_option maxRecDepth 100000 in
theorem zback_c (ba : Option Addr) (bl bc : Nat) (ma : Option Addr) (ml mc : Nat) (ls : List (List Nat)) (ms : List Nat) (w : World) (hB : IsRows w ba bl ls) (hM : Lies w (.slice ma ml mc) ms) (hml : ml = ms.length) (hmb : ∀ b ∈ ms, b < 256) (hsm : ∀ i, i < bl → (ls.getD i []).length ≤ 140737488355328) (hg : Gw w) :
    Calls Tryz.prog 4 #[rowsV ba bl bc ma ml mc] w fun e w' => e = .returned (.bool true) ∧ Fr (fun _ => False) w w' := by
  obtain ⟨K, hK⟩ : ∃ K, K = w.heap.size := ⟨_, rfl⟩
  obtain ⟨w1, hw1⟩ : ∃ w1, w1 = w.alloc (.cells #[.slice ba bl bc, .slice ma ml mc] 32) := ⟨_, rfl⟩
  have hF1 : Fr (fun _ => False) w w1 := by rw [hw1]; exact Fr.of_alloc _ _
  have hb1 : w1.heap[K]? = some (.cells #[.slice ba bl bc, .slice ma ml mc] 32 (0, 0)) := by rw [hw1]; exact heap_alloc_at hK
  have HB := hide (hB.fr hF1)
  have HM := hide (lies_frS hM hF1 fun _ _ _ _ _ hS => hS)
  have Hml := hide hml
  have Hmb := hide hmb
  have Hsm := hide hsm
  have HG := hide (hg.fr hF1)
  have HF1 := hide hF1
  have Hb1 := hide hb1
  have Hw1 := hide hw1
  have HK := hide hK
  clear hB hM hml hmb hsm hF1 hb1 hw1 hK hg
  go_enter Tryz.func4, Tryz.ntmps4
  go_wp2_with fail
  rw [← Hw1.out, ← HK.out]
  refine (awake_c w1 HG.out).mono ?_
  rintro e w2 ⟨rfl, hF2⟩
  have hb2 := cells_at Hb1.out hF2 (fun e => e)
  have k0 := cell_of (o := 0) hb2 rfl
  have k1 := cell_of (o := 1) hb2 rfl
  have HF2 := hide (HF1.out.join hF2)
  have HG2 := hide (HG.out.fr hF2)
  have Hmk := hide (make_c ba bl bc ma ml mc ls ms w2 (HB.out.fr hF2) (lies_frS HM.out hF2 fun _ _ _ _ _ hS => hS) Hml.out Hmb.out Hsm.out)
  clear hF2 hb2
  go_wp2_with fail
  refine (calls_args Hmk.out (by rfl)).mono ?_
  rintro e w3 ⟨hF3, rfl | ⟨bs, a, c, rfl, hown, hby, h7⟩⟩
  · have HF3 := hide (HF2.out.join hF3)
    clear hF3 k0 k1
    go_wp2
    go_ret
    exact ⟨rfl, HF3.out⟩
  · have HF3 := hide (HF2.out.join hF3)
    have hl := lies_own hown
    have HG3 := hide (HG2.out.fr hF3)
    have Hl := hide hl
    have HBy := hide hby
    have Hc := hide (close_c a c bs w3 hl (by omega) hby HG3.out.gl)
    clear hF3 hown hl hby k0 k1
    go_wp2_with fail
    refine Hc.out.mono ?_
    rintro e w4 ⟨os, ra, rc, hst, rfl, hO4, hF4⟩
    have hzl := zl_length os bs
    have hle := hst.len HBy.out
    have hosb := hst.bytes
    obtain ⟨g, rfl, hg1, hg2, hgc, hbk⟩ := own_bk hO4 (by omega) rfl
    have hop := open_close HBy.out hst bs.length (Nat.le_refl _)
    have hm1 : mostF bs.length ≤ 100000 := by unfold mostF; omega
    obtain ⟨Z, hZ⟩ : ∃ Z, Z = zl os bs := ⟨_, rfl⟩
    have hZ0 : Z[0]? = some 120 := by rw [hZ]; rfl
    have hZ1 : Z[1]? = some 1 := by rw [hZ]; rfl
    have hZb : ∀ x ∈ Z, x < 256 := by rw [hZ]; exact zl_bytes hosb
    rw [← hZ] at hbk hop hzl hgc ⊢
    have HF4 := hide (HF3.out.join hF4)
    have HG4 := hide (HG3.out.fr hF4)
    have Hl4 := hide (lies_false Hl.out hF4)
    have Ho := hide (open_c (some ⟨g, 0, none⟩) rc Z bs.length w4 (hbk.lies rc) hZb (by omega) (by omega) (by omega) HG4.out)
    have HBk := hide hbk
    have HZb := hide hZb
    have Hop := hide hop
    have HZ0 := hide hZ0
    have HZ1 := hide hZ1
    have hZle : Z.length ≤ mostF bs.length + 6 := by omega
    have hZ6 : 6 ≤ Z.length := by omega
    clear hst hO4 hF4 hzl hle hosb hZ hbk hop hZ0 hZ1 hZb hg1 hg2
    obtain ⟨N, hN⟩ : ∃ N, N = Z.length := ⟨_, rfl⟩
    have HN := hide hN
    rw [← hN] at Ho hgc hZle hZ6 ⊢
    clear hN
    go_wp2_with fail
    refine Ho.out.mono ?_
    rintro e w5 ⟨x, a5, c5, hx, rfl, hl5, hF5⟩
    obtain rfl := hx.det Hop.out
    have hl5b : Lies w5 (.slice a5 bs.length c5) bs := hl5
    have HF5 := hide (HF4.out.join hF5)
    have Hl5 := hide hl5b
    have Hld := hide (lies_false Hl4.out hF5)
    have hF5' := hF5
    obtain ⟨cur, hh, hc1, hc2⟩ := HBk.out
    have HBk5 : Hid (Bk w5 g Z) := ⟨cur, (hF5.block g (lt_of hh) (fun h => h)).trans hh, hc1, hc2⟩
    have Hr := hide (rOpen_c (some ⟨g, 0, none⟩) rc Z bs.length w5 (HBk5.out.lies rc) HZb.out (by rw [← HN.out]; omega) (by rw [← HN.out]; omega) (by omega))
    rw [← HN.out] at Hr
    clear hx hl5 hl5b hF5 hF5' hh hc1 hc2 Ho
    dsimp only
    go_wp2_with fail
    refine Hr.out.mono ?_
    rintro e w6 ⟨x, a6, c6, hx, rfl, hl6, hF6⟩
    obtain rfl := hx.det Hop.out
    have hl6b : Lies w6 (.slice a6 bs.length c6) bs := hl6
    have HF6 := hide (HF5.out.join hF6)
    have s1 := str_lies (lies_false Hl5.out hF6) HBy.out
    have s2 := str_lies hl6b HBy.out
    have s3 := str_lies (lies_false Hld.out hF6) HBy.out
    obtain ⟨cur, hh, hc1, hc2⟩ := HBk5.out
    have hBk6 : Bk w6 g Z := ⟨cur, (hF6.block g (lt_of hh) (fun h => h)).trans hh, hc1, hc2⟩
    obtain ⟨z0, _⟩ := hBk6.cell 0 120 HZ0.out
    obtain ⟨z1, _⟩ := hBk6.cell 1 1 HZ1.out
    have Hm := hide (mostZ_c bs.length w6 (by omega))
    obtain ⟨mo, hmo⟩ : ∃ mo, mo = mostF bs.length + 6 := ⟨_, rfl⟩
    rw [← hmo] at Hm hZle
    obtain ⟨n, hn⟩ : ∃ n, n = bs.length := ⟨_, rfl⟩
    obtain ⟨q, hq⟩ : ∃ q, q = (n + 65534) / 65535 := ⟨_, rfl⟩
    have hdv : Int.tdiv ((n : Int) + 65534) 65535 = (q : Int) := by rw [Int.tdiv_eq_ediv_of_nonneg (by omega)]; omega
    have hme : (n : Int) + 5 * (q : Int) + 11 = (mo : Int) := by rw [hmo]; unfold mostF; omega
    have hle : (N : Int) ≤ (mo : Int) := by omega
    have hqi : (q : Int) ≤ 10 := by omega
    have hni : (n : Int) ≤ 70000 := by omega
    have kz0 : 0 < N := by omega
    have kz1 : 1 < N := by omega
    rw [← hn] at Hm s1 s2 s3
    dsimp only
    rw [← hn]
    clear hx hl6 hl6b hF6 hh hc1 hc2 hBk6 Hr hmo hq hn
    have ss : ((strOf bs).toList == (strOf bs).toList) = true := beq_self_eq_true _
    generalize strOf bs = sx at s1 s2 s3 ss
    go_wp2_with fail
    refine Hm.out.mono ?_
    rintro e w7 ⟨rfl, rfl⟩
    go_wp2_with fail
    refine Hm.out.mono ?_
    rintro e w8 ⟨rfl, rfl⟩
    go_wp2_with fail
    go_ret
    exact ⟨rfl, HF6.out⟩
end Go.Proofs.YtdpmpllbdoefdaaGreatDoor

namespace Go.Proofs.YtdpmpllbdoefdaaGreatDoor
open Go.ChangeShapes Go.WideShapes Go.ChangeAt Go.RowKit
open Go.ChangeMaps (open_string shut_string)
set_option linter.unusedVariables false

theorem zback_walk (ba : Option Addr) (bl bc : Nat) (ma : Option Addr) (ml mc : Nat) (ls : List (List Nat)) (ms : List Nat) (w : World) (hB : IsRows w ba bl ls) (hM : Lies w (.slice ma ml mc) ms) (hml : ml = ms.length) (hmb : ∀ b ∈ ms, b < 256) (hsm : ∀ i, i < bl → (ls.getD i []).length ≤ 140737488355328) (hg : Gw w) :
    Calls Tryz.prog 4 #[rowsV ba bl bc ma ml mc] w fun e w' => e = .returned (.bool true) ∧ Below w.heap.size w w' :=
  (zback_c ba bl bc ma ml mc ls ms w hB hM hml hmb hsm hg).mono fun e w' ⟨he, hf⟩ => ⟨he, hf.below (Nat.le_refl _) (fun _ h => h.elim)⟩

set_option maxRecDepth 100000 in

set_option maxRecDepth 100000 in
theorem zlibBack_lifted (os : Os) (started : os.Started) (H : Type) (enc : TypeId × Value → H) :
    ReturnsInHanded {} Tryz.checked os 4 .any (fun w args => (Rows.zlibBackSpec.pre enc Tryz.prog Tryz.f4 [] false w args ∧ laidMetH Tryz.prog laidL w) ∧ sizedMet enc Tryz.prog Tryz.f4 (OpenSpec.ofChange Rows.zlibBackSpec) false w args)
      (Rows.zlibBackSpec.post enc Tryz.prog Tryz.f4 false true false false) := by
  refine returnsInHanded_of_change_and (C := Tryz.checked) (X := fun w _ => laidMetH Tryz.prog laidL w) (fun _ _ _ hh h => h.of_heap hh) own' started (by kernel_rfl) Tryz.func4
    (ChangeSpec.witness_shaped (enc := enc) (C := Tryz.checked) (os := os) (X := fun w _ => laidMetH Tryz.prog laidL w) false (World.doorLaid Tryz.prog 400 os) #[.agg #[.slice none 0 0, .slice none 0 0]] 8 rfl (World.shaped_of_RefB (by kernel_rfl) (by kernel_rfl)) (by kernel_rfl) (by kernel_rfl) (by kernel_rfl) (door_met os _)) ?_
  intro W base args ds gs before hval0 hW _ hwt hL _
  have hG := of_laid hL
  have hval : ∀ (j : Nat) t v, Tryz.f4.params[j]? = some t → args[j]? = some v → Value.okWide Tryz.prog W .any base t v := hval0
  have hW' := hW
  obtain ⟨p, q, hA0, hV, rfl, hfz, hnd⟩ := hW
  have hA : DataW.TrodAll enc Tryz.prog W 0 (fun _ => true) true Tryz.f4.params.toList args.toList ds p := hA0
  rw [Tryz.params4] at hA hval
  obtain ⟨v0, vs0, d0, ds0, p0, q0, hargs, rfl, rfl, h0, r0⟩ := trodAll_cons hA
  obtain ⟨rfl, rfl, rfl⟩ := trodAll_nil r0
  obtain rfl : args = #[v0] := by cases args; simp_all
  obtain ⟨rfl, rfl⟩ := trodVars_none hV
  have k0 := h0
  have lt0 : ∀ x ∈ p0, x.block < W.heap.size := by obtain ⟨m, hm⟩ := k0; exact DataW.trod_lt m _ _ _ hm
  have hwt0 : (DataW.weights Tryz.prog 32 d0).all (· ≤ reachBytes) = true := by
    rw [List.all_eq_true] at hwt ⊢
    intro x hx
    exact hwt x (by rw [Tryz.params4]; exact List.mem_append_left _ hx)
  obtain ⟨ba0, bl0, bc0, ma0, ml0, mc0, ls0, ms0, rfl, w0, x0, y0, z0, s0⟩ := open_R (hval 0 32 v0 rfl rfl) h0 hwt0
  clear hA0 hval0 hL hwt
  refine (zback_walk ba0 bl0 bc0 ma0 ml0 mc0 ls0 ms0 W w0 x0 y0 z0 s0 hG).mono fun e W' ⟨he, bel⟩ => ?_
  subst he
  exact ⟨_, rfl, _, _, _, [], _, [], hW', trodAll_mk1 (shut_bool Tryz.underlying4 _), (trodAll_cons_mk (Below.trod laidOut (by kernel_rfl) (of_decide_eq_true (by kernel_rfl)) k0 bel lt0) trodAll_mk0), rfl, bel.frame _, fun h => by cases h⟩

theorem zlibBack_over : Rows.ZlibBackSaid :=
  OpenClaim.holds_of_wide 4 Tryz.f4 rfl rfl rfl rfl rfl rfl rfl ⟨rfl, rfl, rfl, rfl, rfl⟩ rfl rfl rfl rfl rfl (by kernel_rfl) Tryz.func4 (by kernel_rfl)
    (of_decide_eq_true (by kernel_rfl)) (by unfold Func.isWrapper; first | (rw [if_pos (by decide +kernel)]; kernel_rfl) | (rw [if_neg (by decide +kernel)]; exact ⟨rfl, rfl⟩))
    (fun os started H enc _ => zlibBack_lifted os started H enc)

/-- The statement. -/
theorem zlibBack_holds : Rows.ZlibBackCardSaid :=
  Claim7.holds_tied_plain_at .later [] [.data, .data] true (true, "ca9f0afc9002b6dc60be0fea2c1554bdf665e4b60bc3b7e58cdc3b6c159c91b1") true
    zlibBack_over (fun _ h => by cases h) (by kernel_rfl) (fun _ h => by cases h) zlibBack_row_tie rfl ⟨rfl, rfl⟩ (by kernel_rfl) rfl
    (fun f fn hf hfn => by
      obtain rfl : f = 4 := Option.some.inj ((show Tryz.prog.funcNamed "engraver/engraverlaw6.ZlibBack" = some 4 by kernel_rfl).symm.trans hf) |>.symm
      obtain rfl : fn = Tryz.f4 := (Option.some.inj (Tryz.func4.symm.trans hfn)).symm
      exact ⟨by kernel_rfl, fun j t ht => by
        rw [Tryz.params4] at ht
        have hm : t ∈ ([32] : List TypeId) := by simpa using Array.mem_of_getElem? ht
        have hall : (([32] : List TypeId).all fun u => !Tryz.prog.wantsStandIn u) = true := by kernel_rfl
        exact (show Tryz.prog.wantsStandIn t = false by simpa using List.all_eq_true.1 hall t hm)⟩)
    (by kernel_rfl)
#print axioms zlibBack_holds
end Go.Proofs.YtdpmpllbdoefdaaGreatDoor
