/-
  The document's own writer of bits: Out.
-/
import Derived.Test.YtleeaofofofgmaaDoorUb
namespace Go.Proofs.YtleeaofofofgmaaDoor
open Go.RowKit

theorem low_meas (j L : Nat) (h : j < L) : L - (intOf (.int .i64 ((j : Int) + 1))).toNat < L - (intOf (.int .i64 (j : Int))).toNat := by
  simp [intOf]
  omega

theorem leNum_zero (L : Nat) : leNum (List.replicate L 0) = 0 := by
  induction L with
  | zero => rfl
  | succ L ih => simp [List.replicate_succ, leNum, ih]

theorem beNum_zero (L : Nat) : beNum (List.replicate L 0) = 0 := by
  induction L with
  | zero => rfl
  | succ L ih => simp [List.replicate_succ, beNum, ih]

theorem shl_u8 (b t : Nat) (hb : b < 2) (ht : t ≤ 7) : IntKind.u8.wrap ((b : Int) * 2 ^ t) = ((b * 2 ^ t : Nat) : Int) := by
  have e : (b : Int) * 2 ^ t = ((b * 2 ^ t : Nat) : Int) := by simp
  have h2 := mul_lt_pow (q := b) (s := 1) (a := t) (by simpa using hb)
  have h3 : (2:Nat) ^ (t + 1) ≤ 2 ^ 8 := Nat.pow_le_pow_right (by decide) (by omega)
  have h4 : (2:Nat) ^ 8 = 256 := by decide
  have h5 := pow_pos2 t
  rw [e, IntKind.wrap_u8']
  omega

set_option maxHeartbeats 1600000 in
set_option maxRecDepth 100000 in
theorem pk_out_low (K : Nat) (g : Option Nat) (bl : List Nat) (w : World) (h : Pk w K g bl false) (hbl : ∀ b ∈ bl, b < 2) (hlen : bl.length ≤ 100000) :
    Calls Tryd.prog 21 #[.pointer (some ⟨K, 0, none⟩)] w fun e w' => ∃ ob c, e = .returned (.slice (some ⟨w.heap.size, 0, none⟩) ob.length c) ∧ Lies w' (.slice (some ⟨w.heap.size, 0, none⟩) ob.length c) ob ∧ OutSt false bl ob ((bl.length + 7) / 8) bl.length ∧ Fr (fun _ => False) w w' := by
  obtain ⟨i0, hi0, hz0, hz1, hz2⟩ := info_parts Tryd.info5
  obtain ⟨L, hL⟩ : ∃ L, L = (bl.length + 7) / 8 := ⟨_, rfl⟩
  rw [← hL]
  have hLi : ((bl.length : Int) + 7) / 8 = (L : Int) := by omega
  have hLb : bl.length ≤ 8 * L := by omega
  have hL2 : L ≤ 100000 := by omega
  obtain ⟨ov, ho, hown, hob⟩ := h.eobj
  obtain ⟨a0, c0, rfl⟩ := ownsRow_shape hown
  have c00 := cell_of (o := 0) ho rfl
  have c01 := cell_of (o := 1) ho rfl
  have hKl := lt_of ho
  have hlI : (bl.length : Int) ≤ 100000 := by omega
  have H := hide h
  have Hbl := hide hbl
  have Ho := hide ho
  have Hown := hide hown
  have HL := hide hL
  clear h hbl ho hown hL
  go_enter Tryd.func21, Tryd.ntmps21
  go_wp2_with (at_make; go_must (refine wpList_make_full _ rfl _ _ 22 rfl 0 5 i0 (.int .u8 0) 1 Tryd.underlying22 hi0 hz0 hz1 .i64 .i64 (((bl.length : Int) + 7) / 8) (((bl.length : Int) + 7) / 8) L rfl rfl hLi hLi (by rw [hz2]; omega) (by unfold maxLen; omega) (Nat.zero_le _) ?_); intro w1 hown1 hgrow)
  have f1 : Fr (fun _ => False) w w1 := ⟨hgrow.os, hgrow.tape, hgrow.output, hgrow.size, fun k hk _ => hgrow.block k hk (by simp)⟩
  have hk1 := (hown1.lt w.heap.size rfl).2
  have e1 : (madeCells (Value.int .u8 0).cells (L * 1)).toList = cellsOf (List.replicate L 0) := by
    rw [Nat.mul_one]
    show (madeCells #[.int .u8 0] L).toList = _
    rw [toList_madeCells_one]
    simp [cellsOf]
  rw [e1] at hown1
  have F1 := hide f1
  have Hown1 := hide hown1
  clear f1 hown1 hgrow e1
  go_wp2_with fail
  go_loopw [4] (fun t wr => ∃ (i : Nat) (ob : List Nat), t = .int .i64 i ∧ i ≤ bl.length ∧ OutSt false bl ob L i ∧ wr.ownsRow 0 5 1 (.slice (some ⟨w.heap.size, 0, none⟩) L L) L (cellsOf ob) ∧ Fr (fun k => k = w.heap.size) w1 wr) (fun t _ => bl.length - (intOf t).toNat)
  case atStart =>
    refine ⟨0, List.replicate L 0, rfl, by omega, ⟨by simp, by simp, ?_⟩, Hown1.out, Fr.refl _ _⟩
    simp [leNum_zero, numL]
  case round =>
    obtain ⟨i, ob, rfl, hi, hS, hown, hF⟩ := hrel
    have hf : Fr (fun _ => False) w wr := (F1.out.trans hF).mono fun k hk h => by
      rcases h with h | h
      · exact h
      · omega
    have c00' : wr.cell? ⟨K, 0, none⟩ = some (.slice a0 bl.length c0) := (World.cell?_of_block (hf.block K hKl (fun h => h))).trans c00
    have c01' : wr.cell? ⟨K, 1, none⟩ = some (.bool false) := (World.cell?_of_block (hf.block K hKl (fun h => h))).trans c01
    by_cases hlt : i < bl.length
    · obtain ⟨D, rfl⟩ : ∃ D, a0 = some ⟨D, 0, none⟩ := by
        rcases Hown.out.2 with ⟨_, e⟩ | ⟨D, cap, cur, e, _⟩
        · omega
        · cases e; exact ⟨D, rfl⟩
      have hD := (Hown.out.lt D rfl).2
      obtain ⟨b, hb⟩ : ∃ b, b = bl.getD i 0 := ⟨_, rfl⟩
      have hb2 : b < 2 := by
        rw [hb, List.getD_eq_getElem?_getD, List.getElem?_eq_getElem hlt]
        exact Hbl.out _ (List.getElem_mem hlt)
      have d0 : w.cell? ⟨D, 0 + i, none⟩ = some (.int .i64 (b : Int)) := by
        have := Hown.out.cells (g := D) rfl i (.int .i64 (b : Int)) (by rw [hb]; simp [intsOf, List.getElem?_map, List.getElem?_eq_getElem hlt])
        rw [add_none] at this; exact this
      have d1 : wr.cell? ⟨D, i, none⟩ = some (.int .i64 (b : Int)) := by
        rw [Nat.zero_add] at d0
        exact (World.cell?_of_block (hf.block D hD (fun h => h))).trans d0
      obtain ⟨q, hq⟩ : ∃ q, q = i / 8 := ⟨_, rfl⟩
      obtain ⟨s, hs⟩ : ∃ s, s = i % 8 := ⟨_, rfl⟩
      have hqI : (i : Int) / 8 = (q : Int) := by omega
      have hsI : (i : Int) % 8 = (s : Int) := by omega
      have hq0 : (0 : Int) ≤ (q : Int) := by omega
      have hq1 : (q : Int) < (L : Int) := by omega
      have hs7 : s ≤ 7 := by omega
      have hs7I : (s : Int) ≤ 7 := by omega
      obtain ⟨r, hr1, hr2, hr3⟩ := out_low bl ob L i hS Hbl.out hlt hLb
      rw [← hq, ← hb, ← hs] at hr2
      rw [← hq] at hr3
      have hobl := hS.len
      obtain ⟨la, hla⟩ : ∃ la, la = ob.getD q 0 := ⟨_, rfl⟩
      rw [← hla] at hr2
      have d2 : wr.cell? ⟨w.heap.size, q, none⟩ = some (.int .u8 (la : Int)) := by
        have hc := hown.cellAt q (by omega)
        rw [hc, hla]
        simp [cellsOf, List.getElem?_map, List.getElem?_eq_getElem (show q < ob.length by omega)]
      have d3 := hown.frozenAt q
      have hw8 : IntKind.u8.wrap (b : Int) = (b : Int) := by rw [IntKind.wrap_u8']; omega
      have hsh : IntKind.u8.wrap ((b : Int) * 2 ^ s) = ((b * 2 ^ s : Nat) : Int) := shl_u8 b s hb2 (by omega)
      have hr4 : bits .or .u8 (la : Int) ((b : Int) * 2 ^ s) = (r : Int) := by rw [← hr2]; simp
      have hDk : ¬ D = w.heap.size := by omega
      have hKk : ¬ K = w.heap.size := by omega
      have hiI : (i : Int) < (bl.length : Int) := by omega
      have hi0' : (0 : Int) ≤ (i : Int) := by omega
      have HF := hide hF
      have HO := hide hown
      have Hr3 := hide hr3
      have Hf := hide hf
      clear hF hown hr3 hf hla hq hs hb d0 hS hobl
      go_wp2_with fail
      go_region
      all_goals
        go_wp2
        refine ⟨⟨i + 1, ob.set q r, by simp, by omega, Hr3.out, ?_, ?_⟩, low_meas i bl.length hlt⟩
        · have hst := (HO.out.stored q (.int .u8 (r : Int))).1
          have e : (cellsOf ob).set q (.int .u8 (r : Int)) = cellsOf (ob.set q r) := by simp [cellsOf, List.map_set]
          rw [e] at hst
          exact hst.drew
        · exact ((HF.out.trans (Fr.of_setCell wr ⟨w.heap.size, q, none⟩ (.int .u8 (r : Int)))).trans (Fr.of_drewN _ 1)).mono fun k _ h => by
            rcases h with (h | h) | h
            · exact h
            · exact h
            · exact h.elim
    · have : i = bl.length := by omega
      subst this
      go_wp2
      go_ret
      have hlie : Lies wr (.slice (some ⟨w.heap.size, 0, none⟩) ob.length L) ob := lies_own (by rw [hS.len]; exact hown)
      exact ⟨ob, L, by rw [hS.len]; rfl, hlie, hS, hf⟩
end Go.Proofs.YtleeaofofofgmaaDoor
