/-
  ZlibHead: any two bytes as a head: taken just if they are one.
  Conditions: none.
-/
import Derived.Test.YtdpmpllbdoefdaaGreatDoorQs9
import Derived.Test.YtdpmpllbdoefdaaGreatDoorCards
import Derived.SevenTiedAt
/-
  zlib: ZlibHead.
-/
namespace Go.Proofs.YtdpmpllbdoefdaaGreatDoor
open Go.RowKit

/-- A row of bytes that is a block's own, from its first cell on. -/
def Bk (w : World) (g : Nat) (Z : List Nat) : Prop := ∃ cur : Array Value, w.heap[g]? = some (.cells cur 5 (0, 0)) ∧ Z.length ≤ cur.size ∧ cur.toList.take Z.length = cellsOf Z

theorem own_bk {w : World} {lo n c : Nat} {a : Option Addr} {Z : List Nat} (h : w.ownsRow lo 5 1 (.slice a n c) n (cellsOf Z)) (hn : 0 < n) (hZ : n = Z.length) : ∃ g, a = some ⟨g, 0, none⟩ ∧ lo ≤ g ∧ g < w.heap.size ∧ n ≤ c ∧ Bk w g Z := by
  rcases h.2 with ⟨_, e⟩ | ⟨g, cap, cur, hv, hg, hh, hr, hm, hs, ht⟩
  · omega
  · obtain ⟨e1, _, e3⟩ := Value.slice.inj hv
    subst hZ
    refine ⟨g, e1, hg, lt_of hh, by omega, cur, hh, by omega, ?_⟩
    rw [Nat.mul_one] at ht
    exact ht

theorem Bk.set {w : World} {g : Nat} {Z : List Nat} (h : Bk w g Z) (k x : Nat) : Bk (w.setCell ⟨g, k, none⟩ (.int .u8 (x : Int))) g (Z.set k x) := by
  obtain ⟨cur, h1, h2, h3⟩ := h
  refine ⟨cur.setIfInBounds k (.int .u8 (x : Int)), heap_setCell_own _ h1, by simpa using h2, ?_⟩
  rw [List.length_set, Array.toList_setIfInBounds, List.take_set, h3]
  simp [cellsOf, List.map_set]

theorem Bk.lies {w : World} {g : Nat} {Z : List Nat} (h : Bk w g Z) (c : Nat) : Lies w (.slice (some ⟨g, 0, none⟩) Z.length c) Z := by
  obtain ⟨cur, h1, h2, h3⟩ := h
  refine Or.inr ⟨⟨g, 0, none⟩, c, rfl, fun j u hu => ?_⟩
  rw [Addr.add_mid, Nat.zero_add]
  refine cell_of h1 ?_
  rw [← h3, List.getElem?_take] at hu
  split at hu
  · simpa using hu
  · cases hu

theorem Bk.cell {w : World} {g : Nat} {Z : List Nat} (h : Bk w g Z) (k x : Nat) (hk : Z[k]? = some x) : w.cell? ⟨g, k, none⟩ = some (.int .u8 (x : Int)) ∧ w.frozen? ⟨g, k, none⟩ = false := by
  obtain ⟨cur, h1, h2, h3⟩ := h
  refine ⟨cell_of h1 ?_, frozen_of h1⟩
  have hu : (cellsOf Z)[k]? = some (.int .u8 (x : Int)) := by simp [cellsOf, hk]
  rw [← h3, List.getElem?_take] at hu
  split at hu
  · simpa using hu
  · cases hu

theorem head_keep {w : World} {g : Nat} {Z : List Nat} {a b : Nat} (h : Bk w g Z) : Bk ((w.setCell ⟨g, 0, none⟩ (.int .u8 (a : Int))).setCell ⟨g, 1, none⟩ (.int .u8 (b : Int))) g ((Z.set 0 a).set 1 b) := (h.set 0 a).set 1 b

set_option maxHeartbeats 1600000 in
set_option maxRecDepth 100000 in
theorem head_c (a b : Nat) (ad : Option Addr) (n c : Nat) (bs : List Nat) (w : World) (ha : a < 256) (hb8 : b < 256) (hn : n = bs.length) (h : Lies w (.slice ad n c) bs) (hlt : ∀ b ∈ bs, b < 256) (hg : Gw w) :
    Calls Tryz.prog 6 #[.int .u8 (a : Int), .int .u8 (b : Int), .slice ad n c] w fun e w' => e = .returned (.bool true) ∧ Fr (fun _ => False) w w' := by
  subst hn
  have HG := hide hg
  have HL := hide h
  have Hb := hide hlt
  clear hg h hlt
  go_enter Tryz.func6, Tryz.ntmps6
  go_wp2_with fail
  refine (awake_c w HG.out).mono ?_
  rintro e w0 ⟨rfl, hF0⟩
  have HG0 := hide (HG.out.fr hF0)
  have HL0 := hide (lies_false HL.out hF0)
  have HF0 := hide hF0
  clear hF0 HL
  by_cases hbig : 1000 < bs.length
  · have hbi : (1000 : Int) < bs.length := by omega
    go_wp2
    go_ret
    exact ⟨rfl, HF0.out⟩
  have hbi : ¬ (1000 : Int) < bs.length := by omega
  have Hc := hide (close_c ad c bs w0 HL0.out (by omega) Hb.out HG0.out.gl)
  go_wp2_with fail
  refine Hc.out.mono ?_
  rintro e w1 ⟨os, ra, rc, hst, rfl, hO1, hF1⟩
  have hzl := zl_length os bs
  have hle := hst.len Hb.out
  have hosb := hst.bytes
  obtain ⟨g, rfl, hg1, hg2, hgc, hbk⟩ := own_bk hO1 (by omega) rfl
  obtain ⟨z0, z1⟩ := hbk.cell 0 120 rfl
  obtain ⟨y0, y1⟩ := hbk.cell 1 1 rfl
  obtain ⟨w2, hw2⟩ : ∃ w2, w2 = (w1.setCell ⟨g, 0, none⟩ (.int .u8 (a : Int))).setCell ⟨g, 1, none⟩ (.int .u8 (b : Int)) := ⟨_, rfl⟩
  have hbk2 : Bk w2 g ([a, b] ++ os ++ sumB (adler 1 bs)) := by rw [hw2]; exact head_keep hbk
  have hF2 : Fr (fun _ => False) w0 w2 := by rw [hw2]; exact fr_set_new (fr_set_new hF1 hg1) hg1
  have HF2 := hide (HF0.out.join hF2)
  have HL4 := hide (lies_false HL0.out hF2)
  have Hop : Hid (headOk a b = true → OpenOk ([a, b] ++ os ++ sumB (adler 1 bs)) (bs.length : Int) (bs, 0)) := fun hq => by
    have := open_tail a b (sumB (adler 1 bs)) hq Hb.out hst bs.length (Nat.le_refl _) (by simp [sumB])
    rw [sumErr_ok] at this
    exact this
  have hbyt : ∀ x ∈ [a, b] ++ os ++ sumB (adler 1 bs), x < 256 := by
    intro x hx
    simp only [List.mem_append] at hx
    rcases hx with (hx | hx) | hx
    · simp at hx; omega
    · exact hosb x hx
    · exact sumB_lt _ x hx
  have hlen : ([a, b] ++ os ++ sumB (adler 1 bs)).length = (zl os bs).length := by simp [zl]
  obtain ⟨Z, hZ⟩ : ∃ Z, Z = [a, b] ++ os ++ sumB (adler 1 bs) := ⟨_, rfl⟩
  have HZ0 : Hid (Z.getD 0 0 = a) := by show _ = _; rw [hZ]; rfl
  have HZ1 : Hid (Z.getD 1 0 = b) := by show _ = _; rw [hZ]; rfl
  rw [← hZ] at hbk2 Hop hbyt hlen
  have hZ6 : 6 ≤ Z.length := by omega
  have HZ6 := hide hZ6
  have hm1 : mostF bs.length ≤ 2000 := by unfold mostF; omega
  have Ho := hide (open_c (some ⟨g, 0, none⟩) rc Z bs.length w2 (hbk2.lies rc) hbyt (by omega) (by omega) (by omega) (HG0.out.fr hF2))
  rw [hlen] at Ho
  obtain ⟨N, hN⟩ : ∃ N, N = (zl os bs).length := ⟨_, rfl⟩
  rw [← hN] at Ho ⊢
  have k0 : 0 < N := by omega
  have k1 : 1 < N := by omega
  have y0' : (w1.setCell ⟨g, 0, none⟩ (.int .u8 (a : Int))).cell? ⟨g, 1, none⟩ = some (.int .u8 1) := by
    rw [World.cell?_setCell_other _ _ _ _ (by simp)]; exact y0
  have Hw2 := hide hw2
  have h1 := u8_and15 a ha
  have h4 := u8_and32 b hb8
  clear hst hO1 hF1 hzl hle hosb hbk hbk2 hF2 hbyt hlen hZ hN hZ6 hm1 hw2 hg1 hg2 hgc
  go_wp2_with fail
  rw [← Hw2.out]
  refine Ho.out.mono ?_
  clear z0 z1 y0 y1 y0' Hw2 Ho Hc
  rintro e w5 ⟨x, a5, c5, hx, rfl, hl5, hF5⟩
  have HF5 := hide (HF2.out.join hF5)
  by_cases g1 : ¬ a % 16 = 8
  · have hq : headOk a b = false := by simp only [headOk]; simp; omega
    obtain rfl := hx.det (Or.inr (Or.inl ⟨HZ6.out, by rw [HZ0.out, HZ1.out]; exact hq, rfl⟩))
    have p1 : ¬ (a : Int) % 16 = 8 := by omega
    clear hq hx hl5 hF5 g1
    go_wp2
    go_ret
    exact ⟨rfl, HF5.out⟩
  by_cases g2 : ¬ a / 16 ≤ 7
  · have hq : headOk a b = false := by simp only [headOk]; simp; omega
    obtain rfl := hx.det (Or.inr (Or.inl ⟨HZ6.out, by rw [HZ0.out, HZ1.out]; exact hq, rfl⟩))
    have p1 : (a : Int) % 16 = 8 := by omega
    have p2 : ¬ (a : Int) / 16 ≤ 7 := by omega
    clear hq hx hl5 hF5 g1 g2
    go_wp2
    go_ret
    exact ⟨rfl, HF5.out⟩
  by_cases g3 : ¬ (a * 256 + b) % 31 = 0
  · have hq : headOk a b = false := by simp only [headOk]; simp; omega
    obtain rfl := hx.det (Or.inr (Or.inl ⟨HZ6.out, by rw [HZ0.out, HZ1.out]; exact hq, rfl⟩))
    have p1 : (a : Int) % 16 = 8 := by omega
    have p2 : (a : Int) / 16 ≤ 7 := by omega
    have p3 : ¬ ((a : Int) * 256 + (b : Int)) % 31 = 0 := by omega
    clear hq hx hl5 hF5 g1 g2 g3
    go_wp2
    go_ret
    exact ⟨rfl, HF5.out⟩
  by_cases g4 : ¬ b / 32 % 2 = 0
  · have hq : headOk a b = false := by simp only [headOk]; simp; omega
    obtain rfl := hx.det (Or.inr (Or.inl ⟨HZ6.out, by rw [HZ0.out, HZ1.out]; exact hq, rfl⟩))
    have p1 : (a : Int) % 16 = 8 := by omega
    have p2 : (a : Int) / 16 ≤ 7 := by omega
    have p3 : ((a : Int) * 256 + (b : Int)) % 31 = 0 := by omega
    have p4 : ((b : Int) / 32 % 2 * 32 == 0) = false := by rw [beq_eq_false_iff_ne]; omega
    clear hq hx hl5 hF5 g1 g2 g3 g4
    go_wp2
    go_ret
    exact ⟨rfl, HF5.out⟩
  have hq : headOk a b = true := by simp only [headOk]; simp; omega
  obtain rfl := hx.det (Hop.out hq)
  have hl5b : Lies w5 (.slice a5 bs.length c5) bs := hl5
  have s1 := str_lies hl5b Hb.out
  have s2 := str_lies (lies_false HL4.out hF5) Hb.out
  have p1 : (a : Int) % 16 = 8 := by omega
  have p2 : (a : Int) / 16 ≤ 7 := by omega
  have p3 : ((a : Int) * 256 + (b : Int)) % 31 = 0 := by omega
  have p4 : (b : Int) / 32 % 2 * 32 = 0 := by omega
  clear hq hx hl5 hF5 hl5b g1 g2 g3 g4
  go_wp2
  go_ret
  exact ⟨rfl, HF5.out⟩
end Go.Proofs.YtdpmpllbdoefdaaGreatDoor

namespace Go.Proofs.YtdpmpllbdoefdaaGreatDoor
open Go.ChangeShapes Go.WideShapes Go.ChangeAt Go.RowKit
open Go.ChangeMaps (open_string shut_string)
set_option linter.unusedVariables false

theorem head_walk (x y : Int) (a : Option Addr) (len cap : Nat) (z : List Int) (w : World) (hx : 0 ≤ x ∧ x < 256) (hy : 0 ≤ y ∧ y < 256) (h : IsRow .u8 w a len cap z) (hg : Gw w) :
    Calls Tryz.prog 6 #[.int .u8 x, .int .u8 y, .slice a len cap] w fun e w' => e = .returned (.bool true) ∧ Below w.heap.size w w' := by
  obtain ⟨h1, h2, h3, _⟩ := h.bytes
  rw [h1] at h3
  have hc := head_c x.toNat y.toNat a len cap (bytesOf len z) w (by omega) (by omega) h1.symm h3 h2 hg
  rw [Int.toNat_of_nonneg hx.1, Int.toNat_of_nonneg hy.1] at hc
  exact hc.mono fun e w' ⟨he, hf⟩ => ⟨he, hf.below (Nat.le_refl _) (fun _ h => h.elim)⟩

set_option maxRecDepth 100000 in
theorem zlibHead_lifted (os : Os) (started : os.Started) (H : Type) (enc : TypeId × Value → H) :
    ReturnsInHanded {} Tryz.checked os 6 .any (fun w args => (Rows.zlibHeadSpec.pre enc Tryz.prog Tryz.f6 [] false w args ∧ laidMetH Tryz.prog laidL w) ∧ sizedMet enc Tryz.prog Tryz.f6 (OpenSpec.ofChange Rows.zlibHeadSpec) false w args)
      (Rows.zlibHeadSpec.post enc Tryz.prog Tryz.f6 false true false false) := by
  refine returnsInHanded_of_change_and (C := Tryz.checked) (X := fun w _ => laidMetH Tryz.prog laidL w) (fun _ _ _ hh h => h.of_heap hh) own' started (by kernel_rfl) Tryz.func6
    (ChangeSpec.witness_shaped (enc := enc) (C := Tryz.checked) (os := os) (X := fun w _ => laidMetH Tryz.prog laidL w) false (World.doorLaid Tryz.prog 400 os) #[.int .u8 0, .int .u8 0, .slice none 0 0] 8 rfl (World.shaped_of_RefB (by kernel_rfl) (by kernel_rfl)) (by kernel_rfl) (by kernel_rfl) (by kernel_rfl) (door_met os _)) ?_
  intro W base args ds gs before hval0 hW _ hwt hL _
  have hG := of_laid hL
  have hval : ∀ (j : Nat) t v, Tryz.f6.params[j]? = some t → args[j]? = some v → Value.okWide Tryz.prog W .any base t v := hval0
  have hW' := hW
  obtain ⟨p, q, hA0, hV, rfl, hfz, hnd⟩ := hW
  have hA : DataW.TrodAll enc Tryz.prog W 0 (fun _ => true) true Tryz.f6.params.toList args.toList ds p := hA0
  rw [Tryz.params6] at hA hval
  obtain ⟨v0, vs0, d0, ds0, p0, q0, hargs, rfl, rfl, h0, r0⟩ := trodAll_cons hA
  obtain ⟨v1, vs1, d1, ds1, p1, q1, rfl, rfl, rfl, h1, r1⟩ := trodAll_cons r0
  obtain ⟨v2, vs2, d2, ds2, p2, q2, rfl, rfl, rfl, h2, r2⟩ := trodAll_cons r1
  obtain ⟨rfl, rfl, rfl⟩ := trodAll_nil r2
  obtain rfl : args = #[v0, v1, v2] := by cases args; simp_all
  obtain ⟨rfl, rfl⟩ := trodVars_none hV
  obtain ⟨a0, rfl, rfl, rfl, w0⟩ := open_int Tryz.underlying5 (hval 0 5 v0 rfl rfl) h0
  obtain ⟨a1, rfl, rfl, rfl, w1⟩ := open_int Tryz.underlying5 (hval 1 5 v1 rfl rfl) h1
  have k2 := h2
  have lt2 : ∀ x ∈ p2, x.block < W.heap.size := by obtain ⟨m, hm⟩ := k2; exact DataW.trod_lt m _ _ _ hm
  obtain ⟨a2, len2, cap2, rfl⟩ := okWide_slice Tryz.underlying22 (hval 2 22 v2 rfl rfl)
  obtain ⟨z2, w2⟩ : ∃ zs, IsRow .u8 W a2 len2 cap2 zs := by
    obtain ⟨fuel, hf⟩ := h2
    rcases open_ints Tryz.underlying22 Tryz.underlying5 (by kernel_rfl) hf with ⟨hcs, _⟩ | ⟨x, l, c, zs, hcs, _, hl, hm, hz, _, hcell, hwz⟩
    · simp [Value.cells] at hcs
      obtain ⟨rfl, rfl, rfl⟩ := hcs
      exact ⟨[], .inl ⟨rfl, rfl, rfl, rfl⟩⟩
    · simp [Value.cells] at hcs
      obtain ⟨rfl, rfl, rfl⟩ := hcs
      exact ⟨zs, .inr ⟨_, rfl, hl, hm, by simpa using hz, hcell, hwz⟩⟩
  clear hA0 hval0 hL hwt
  refine (head_walk a0 a1 a2 len2 cap2 z2 W (wf_u8 w0) (wf_u8 w1) w2 hG).mono fun e W' ⟨he, bel⟩ => ?_
  subst he
  exact ⟨_, rfl, _, _, _, [], _, [], hW', trodAll_mk1 (shut_bool Tryz.underlying4 _), (trodAll_cons_mk (shut_int Tryz.underlying5 w0) (trodAll_cons_mk (shut_int Tryz.underlying5 w1) (trodAll_cons_mk (Below.trod laidOut (by kernel_rfl) (of_decide_eq_true (by kernel_rfl)) k2 bel lt2) trodAll_mk0))), rfl, bel.frame _, fun h => by cases h⟩

theorem zlibHead_over : Rows.ZlibHeadSaid :=
  OpenClaim.holds_of_wide 6 Tryz.f6 rfl rfl rfl rfl rfl rfl rfl ⟨rfl, rfl, rfl, rfl, rfl⟩ rfl rfl rfl rfl rfl (by kernel_rfl) Tryz.func6 (by kernel_rfl)
    (of_decide_eq_true (by kernel_rfl)) (by unfold Func.isWrapper; first | (rw [if_pos (by decide +kernel)]; kernel_rfl) | (rw [if_neg (by decide +kernel)]; exact ⟨rfl, rfl⟩))
    (fun os started H enc _ => zlibHead_lifted os started H enc)

/-- The statement. -/
theorem zlibHead_holds : Rows.ZlibHeadCardSaid :=
  Claim7.holds_tied_plain_at .later [] [.data, .data] true (true, "ca9f0afc9002b6dc60be0fea2c1554bdf665e4b60bc3b7e58cdc3b6c159c91b1") true
    zlibHead_over (fun _ h => by cases h) (by kernel_rfl) (fun _ h => by cases h) zlibHead_row_tie rfl ⟨rfl, rfl⟩ (by kernel_rfl) rfl
    (fun f fn hf hfn => by
      obtain rfl : f = 6 := Option.some.inj ((show Tryz.prog.funcNamed "engraver/engraverlaw6.ZlibHead" = some 6 by kernel_rfl).symm.trans hf) |>.symm
      obtain rfl : fn = Tryz.f6 := (Option.some.inj (Tryz.func6.symm.trans hfn)).symm
      exact ⟨by kernel_rfl, fun j t ht => by
        rw [Tryz.params6] at ht
        have hm : t ∈ ([5, 5, 22] : List TypeId) := by simpa using Array.mem_of_getElem? ht
        have hall : (([5, 5, 22] : List TypeId).all fun u => !Tryz.prog.wantsStandIn u) = true := by kernel_rfl
        exact (show Tryz.prog.wantsStandIn t = false by simpa using List.all_eq_true.1 hall t hm)⟩)
    (by kernel_rfl)
#print axioms zlibHead_holds
end Go.Proofs.YtdpmpllbdoefdaaGreatDoor
