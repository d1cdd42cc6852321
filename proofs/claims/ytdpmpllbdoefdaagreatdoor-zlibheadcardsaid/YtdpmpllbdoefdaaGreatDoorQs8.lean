/-
  Texts of the seat, put together: Lf Ra Rb Rd Re Rg Rh Lg Lh Zc Yb Ma Mb Mc Md Me Mg.
-/
import Derived.Test.YtdpmpllbdoefdaaGreatDoorQz7
import Derived.BigRegion
import Derived.Test.YtdpmpllbdoefdaaGreatDoorQz2
import Derived.Test.YtdpmpllbdoefdaaGreatDoorQz6
import Derived.WalkKit
import Derived.WalkSpells
import Derived.WalkLawsBesides
import Derived.Deep.QuietTactic
import Derived.BigQuiet
import Derived.Test.YtdpmpllbdoefdaaGreatDoorQz1
import Derived.Deep.CutRange
import Derived.Test.YtdpmpllbdoefdaaGreatDoorQz5
namespace Go.Proofs.YtdpmpllbdoefdaaGreatDoor
open Go.RowKit
def stepTo (taken len : Nat) (n : Int) : Nat := if 0 < n then taken + min n.toNat (len - taken) else taken
set_option maxHeartbeats 1600000 in
set_option maxRecDepth 100000 in
theorem step_on (lo M taken : Nat) (bs : List Nat) (s : Ms) (n : Int) (w : World) (h : MSt w lo M bs taken s) (ht : taken ≤ bs.length) (hn : 0 < n) (hn2 : n ≤ 9223372036854775807) :
    Calls Tryz.prog 33 #[.pointer (some ⟨M, 0, none⟩), .int .i64 n] w fun e w' => Fr (fun i => lo ≤ i) w w' ∧ ((stepTo taken bs.length n < bs.length ∧ e = .returned (.bool false) ∧ ∃ s', MSt w' lo M bs (stepTo taken bs.length n) s') ∨ (stepTo taken bs.length n = bs.length ∧ e = .returned (.bool true) ∧ ∃ os, Stream bs os ∧ Md w' lo M os)) := by
  obtain ⟨cs, N1, N2, g, hM⟩ := h.ex
  have hR := h.rch
  have hlen := hM.len
  obtain ⟨da, dc, hda, hdo, _⟩ := hM.c0
  have k0 := cell_of (o := 0) hM.blk hda
  have k1 := cell_of (o := 1) hM.blk hM.c1
  have k13 := cell_of (o := 13) hM.blk hM.c13
  have f1 := frozen_of (o := 1) hM.blk
  obtain ⟨L, hL⟩ : ∃ L, L = bs.length := ⟨_, rfl⟩
  obtain ⟨T, hT⟩ : ∃ T, T = stepTo taken bs.length n := ⟨_, rfl⟩
  rw [← hT, ← hL]
  rw [← hL] at k0 ht hlen
  have hTv : T = taken + min n.toNat (L - taken) := by rw [hT, hL]; unfold stepTo; rw [if_pos hn]
  have hTL : T ≤ L := by omega
  obtain ⟨d, hd⟩ : ∃ d : Nat, d = min n.toNat (L - taken) := ⟨_, rfl⟩
  have hmin : (if (L : Int) - (taken : Int) < n then (L : Int) - (taken : Int) else n) = (d : Int) := by split <;> omega
  have hadd : (taken : Int) + (d : Int) = (T : Int) := by omega
  have i1 : (L : Int) ≤ 4194304 := by omega
  have i2 : (taken : Int) ≤ (L : Int) := by omega
  have i3 : (d : Int) ≤ 4194304 := by omega
  have i4 : (T : Int) ≤ 4194304 := by omega
  have hlm := hM.loM.1
  have HM := hide hM
  have HR := hide hR
  have HL := hide hL
  have hML := lt_of hM.blk
  clear h hM hR hda hdo hL hT hTv hd
  go_enter Tryz.func33, Tryz.ntmps33
  go_wp2_with fail
  go_region
  go_wp2_with fail
  have hM := HM.out
  obtain ⟨hM2, hF2⟩ := hM.upd 1 (.int .i64 (T : Int)) (by omega) (taken' := T) (told' := s.told) (begin' := s.begin) (ps' := s.ps) (get_set _ hM.c1) (by rw [Array.getElem?_setIfInBounds_ne (by omega)]; exact hM.c2) (by rw [Array.getElem?_setIfInBounds_ne (by omega)]; exact hM.c3) (by
    obtain ⟨x, y, z1, z2⟩ := hM.c4
    exact ⟨x, y, by rw [Array.getElem?_setIfInBounds_ne (by omega)]; exact z1, z2⟩)
  have hst : MSt (w.setCell ⟨M, 1, none⟩ (.int .i64 (T : Int))).drew lo M bs T s := ⟨HR.out, _, N1, N2, g, hM2.keep (Fr.of_drewN _ 1) (fun _ _ _ e => e) (fun e => e)⟩
  have hF3 : Fr (fun i => lo ≤ i) w (w.setCell ⟨M, 1, none⟩ (.int .i64 (T : Int))).drew := (hF2.trans (Fr.of_drewN _ 1)).mono fun i _ e => by
    rcases e with e | e
    · omega
    · exact e.elim
  generalize (w.setCell ⟨M, 1, none⟩ (.int .i64 (T : Int))).drew = w3 at hst hF3 ⊢
  have Hst := hide hst
  have HF3 := hide hF3
  clear hM hM2 hF2 hst hF3 k0 k1 k13 f1
  refine (calls_args (advance_c lo M T bs s w3 Hst.out (by rw [← HL.out]; exact hTL)) (by rfl)).mono ?_
  rintro e w4 ⟨rfl, hF4, hres⟩
  have HF4 := hide (HF3.out.join hF4)
  rw [← HL.out] at hres
  rcases hres with ⟨z1, s', z2, _⟩ | ⟨z1, os, z2, z3⟩
  · obtain ⟨cs', _, _, _, hM'⟩ := z2.ex
    have k13 := cell_of (o := 13) hM'.blk hM'.c13
    have Hz := hide z2
    clear z2 hM' hF4
    go_wp2
    go_ret
    exact ⟨HF4.out, Or.inl ⟨z1, rfl, s', Hz.out⟩⟩
  · obtain ⟨cs', _, _, hb, _, _, h13⟩ := z3.ex
    have k13 := cell_of (o := 13) hb h13
    have Hz := hide z2
    have Hz3 := hide z3
    have Hz1 := hide z1
    clear z1 z2 z3 hb hF4 h13
    go_wp2
    go_ret
    exact ⟨HF4.out, Or.inr ⟨Hz1.out, rfl, os, Hz.out, Hz3.out⟩⟩
theorem own_lies5 {w : World} {lo c : Nat} {a : Option Addr} {bs : List Nat} (h : w.ownsRow lo 5 1 (.slice a bs.length c) bs.length (cellsOf bs)) : Lies w (.slice a bs.length c) bs := by
  rcases h.2 with ⟨hv, e0⟩ | ⟨g, cap, cur, hv, hg, hh, hr⟩
  · exact Or.inl ⟨hv, List.length_eq_zero_iff.1 e0⟩
  · obtain ⟨e1, _, _⟩ := Value.slice.inj hv
    subst e1
    exact Or.inr ⟨⟨g, 0, none⟩, c, rfl, fun j u hu => h.cells (g := g) rfl j u hu⟩
set_option maxHeartbeats 1600000 in
set_option maxRecDepth 100000 in
theorem new_c (a : Option Addr) (n c : Nat) (bs : List Nat) (w : World) (hl : Lies w (.slice a n c) bs) (hn : n = bs.length) (hn2 : n ≤ 4194304) (hb : ∀ b ∈ bs, b < 256) (hG : Gl w) :
    Calls Tryz.prog 32 #[.slice a n c] w fun e w' => ∃ M, e = .returned (.pointer (some ⟨M, 0, none⟩)) ∧ MSt w' w.heap.size M bs 0 (startS bs) ∧ Fr (fun _ => False) w w' := by
  have hi : ¬ (4194304 : Int) < (n : Int) := by omega
  have Hl := hide hl
  have Hn := hide hn
  have Hb := hide hb
  have HG := hide hG
  have hpos : 2 ≤ w.heap.size := cell_lt (hG 0 (by omega))
  have hlen : bs.length ≤ 4194304 := by omega
  clear hl hn hb hG
  go_enter Tryz.func32, Tryz.ntmps32
  go_wp2_with fail
  refine (calls_args (clone_c (.slice a n c) bs w Hl.out (by omega)) (by rfl)).mono ?_
  rintro e w1 ⟨da, dc, rfl, hown, hbel⟩
  have HF1 := hide ((Fr.of_below hbel).mono (S' := fun _ => False) (fun k hk h => by omega))
  have Hown := hide hown
  rw [← Hn.out]
  clear hown hbel
  go_wp2_with fail
  refine (calls_args (newFinder_c n w1) (by rfl)).mono ?_
  rintro e w2 ⟨N1, N2, rfl, hb1, hb2, hN1, hN2, hne, hF2⟩
  have ek : finK n 15 0 = kOf bs := by unfold kOf; rw [Hn.out]
  rw [ek] at hb1 hb2 ⊢
  have hk15 : kOf bs ≤ 15 := finK_le _ _ _ (by omega)
  obtain ⟨Z, hZ⟩ : ∃ Z, Z = 2 ^ kOf bs := ⟨_, rfl⟩
  rw [← hZ] at hb1 hb2 ⊢
  have HZ := hide hZ
  have Hb1 := hide hb1
  have Hb2 := hide hb2
  have HF2 := hide (HF1.out.join hF2)
  have Hf2 := hide hF2
  have hs1 := HF1.out.size
  clear hb1 hb2 hF2 hZ ek
  go_wp2
  go_ret
  obtain ⟨w3, hw3⟩ : ∃ w3, w3 = w2.alloc (.cells #[.slice da n dc, .int .i64 0, .int .i64 0, .int .i64 0, .slice none 0 0, .slice (some ⟨N1, 0, none⟩) Z Z, .slice (some ⟨N2, 0, none⟩) Z Z, .slice none 0 0, .int .i64 0, .slice none 0 0, .int .i64 0, .int .i64 0, .slice none 0 0, .bool false] 101) := ⟨_, rfl⟩
  rw [← hw3]
  have hF3 : Fr (fun _ => False) w2 w3 := by rw [hw3]; exact Fr.of_alloc _ _
  have hblk : w3.heap[w2.heap.size]? = some (.cells #[.slice da n dc, .int .i64 0, .int .i64 0, .int .i64 0, .slice none 0 0, .slice (some ⟨N1, 0, none⟩) Z Z, .slice (some ⟨N2, 0, none⟩) Z Z, .slice none 0 0, .int .i64 0, .slice none 0 0, .int .i64 0, .int .i64 0, .slice none 0 0, .bool false] 101 (0, 0)) := by rw [hw3]; exact heap_alloc_at rfl
  have ho := Hown.out
  have ho3 : w3.ownsRow w.heap.size 5 1 (.slice da bs.length dc) bs.length (cellsOf bs) := ownsRow_fr ho fun j hj => (Hf2.out.join hF3).block j (ho.lt j hj).2 (fun e => e)
  have g1 := cells_at Hb1.out hF3 (fun e => e)
  have g2 := cells_at Hb2.out hF3 (fun e => e)
  have hw2 := HF2.out.size
  refine ⟨w2.heap.size, rfl, ⟨Rch.start, #[.slice da n dc, .int .i64 0, .int .i64 0, .int .i64 0, .slice none 0 0, .slice (some ⟨N1, 0, none⟩) Z Z, .slice (some ⟨N2, 0, none⟩) Z Z, .slice none 0 0, .int .i64 0, .slice none 0 0, .int .i64 0, .int .i64 0, .slice none 0 0, .bool false], N1, N2, none, ?_⟩, HF2.out.join hF3⟩
  refine ⟨⟨⟨[], ⟨⟨.slice none 0 0, hblk, rfl, rfl, World.ownsRow_nil _ _ _ _, rfl⟩, fun k hk => by cases hk⟩, (show LowSt [] 0 from ⟨rfl, fun b hb => absurd hb (by simp), by decide⟩), rfl⟩, rfl⟩, rfl, ⟨da, dc, by rw [← Hn.out]; rfl, ho3, fun ad _ e => by cases e⟩, rfl, rfl, rfl, ⟨none, 0, rfl, World.ownsRow_nil _ _ _ _⟩, ⟨?_, ?_, ?_, ?_, ?_, ?_, ?_, ?_, ?_, ?_, hne, hk15⟩, rfl, rfl, ⟨hw2, by omega, by omega⟩, fun j hj => (by cases hj), hpos, (HG.out.keep (HF2.out.join hF3) (fun e => e)), Hb.out, hlen⟩
  · exact cell_of (o := 5) hblk (by rw [← HZ.out]; rfl)
  · exact cell_of (o := 6) hblk (by rw [← HZ.out]; rfl)
  · show _ = some (Obj.cells (cells32 (List.replicate (2 ^ kOf bs) 0)).toArray 21 (0, 0)); rw [← HZ.out]; exact g1
  · show _ = some (Obj.cells (cells32 (List.replicate (2 ^ kOf bs) 0)).toArray 21 (0, 0)); rw [← HZ.out]; exact g2
  · exact List.length_replicate
  · exact List.length_replicate
  · intro x hx; rw [(List.mem_replicate.1 hx).2]; exact Nat.zero_le _
  · intro x hx; rw [(List.mem_replicate.1 hx).2]; exact Nat.zero_le _
  · exact blk_ne g1 hblk (by decide)
  · exact blk_ne g2 hblk (by decide)
set_option maxHeartbeats 1600000 in
set_option maxRecDepth 100000 in
theorem all_c (a : Option Addr) (n c : Nat) (bs : List Nat) (w : World) (hl : Lies w (.slice a n c) bs) (hn : n = bs.length) (hn2 : n ≤ 4194304) (hb : ∀ b ∈ bs, b < 256) (hG : Gl w) :
    Calls Tryz.prog 18 #[.slice a n c] w fun e w' => ∃ os ra rc, Stream bs os ∧ e = .returned (.slice ra os.length rc) ∧ w'.ownsRow w.heap.size 5 1 (.slice ra os.length rc) os.length (cellsOf os) ∧ Fr (fun _ => False) w w' := by
  have Hnew := hide (new_c a n c bs w hl hn hn2 hb hG)
  have Hb := hide hb
  have hlen : bs.length ≤ 4194304 := by omega
  clear hl hb hG hn
  go_enter Tryz.func18, Tryz.ntmps18
  go_wp2_with fail
  refine (calls_args Hnew.out (by rfl)).mono ?_
  rintro e w1 ⟨M, rfl, hM, hF1⟩
  have HM := hide hM
  have HF1 := hide hF1
  clear hM hF1
  go_wp2_with fail
  go_loopw [6] (fun _ wr => wr = w1) (fun _ _ => 0)
  case atStart => exact rfl
  case round =>
    subst hrel
    go_wp2_with fail
    refine (calls_args (step_on w.heap.size M 0 bs (startS bs) 9223372036854775807 wr HM.out (Nat.zero_le _) (by decide) (by decide)) (by rfl)).mono ?_
    have hst : stepTo 0 bs.length 9223372036854775807 = bs.length := by
      unfold stepTo
      rw [if_pos (by decide)]
      have : (9223372036854775807 : Int).toNat = 9223372036854775807 := rfl
      omega
    rw [hst]
    rintro e w2 ⟨hF2, ⟨z1, _⟩ | ⟨_, rfl, os, z2, z3⟩⟩
    · exact absurd z1 (Nat.lt_irrefl _)
    have HF2 := hide ((HF1.out.trans hF2).mono (S' := fun _ => False) fun i hi e => e.elim id (fun e => by omega))
    have HS := hide z2
    obtain ⟨cs, oa, oc, q1, q2, q3, q4⟩ := z3.ex
    have hos : os.length ≤ 2147483648 := by have := z2.len Hb.out; unfold mostF at this; omega
    have Hout := hide (out_c M (.slice oa os.length oc) os w2 (cell_of (o := 12) q1 q2) (own_lies5 q3) hos)
    clear hF2 z2 z3 q1 q2 q3 q4 hst
    go_wp2_with fail
    refine (calls_args Hout.out (by rfl)).mono ?_
    rintro e w3 ⟨ra, rc, rfl, hown, hF3⟩
    have Hown := hide hown
    have HF3 := hide (HF2.out.join hF3)
    clear hown hF3
    go_wp2
    go_ret
    have ho := Hown.out
    refine ⟨os, ra, rc, HS.out, rfl, ⟨ho.1, ho.2.imp id fun ⟨g, cap, cur, y1, y2, y3⟩ => ⟨g, cap, cur, y1, by have := HF2.out.size; omega, y3⟩⟩, HF3.out⟩
end Go.Proofs.YtdpmpllbdoefdaaGreatDoor
namespace Go.Proofs.YtdpmpllbdoefdaaGreatDoor
open Go.RowKit
section
variable {w w' : World} {lo R : Nat} {sv : Value} {bs : List Nat} {p q : Nat}
end
end Go.Proofs.YtdpmpllbdoefdaaGreatDoor
namespace Go.Proofs.YtdpmpllbdoefdaaGreatDoor
open Go.RowKit
end Go.Proofs.YtdpmpllbdoefdaaGreatDoor
namespace Go.Proofs.YtdpmpllbdoefdaaGreatDoor
open Go.RowKit
section
variable {w wr w' : World} {lo R : Nat} {sv : Value} {bs : List Nat} {most LM DM : Nat} {ll dl : List Int} {p : Nat} {out : List Nat} {a : Option Addr} {c N : Nat}
end
end Go.Proofs.YtdpmpllbdoefdaaGreatDoor
namespace Go.Proofs.YtdpmpllbdoefdaaGreatDoor
open Go.RowKit
end Go.Proofs.YtdpmpllbdoefdaaGreatDoor
namespace Go.Proofs.YtdpmpllbdoefdaaGreatDoor
open Go.RowKit
end Go.Proofs.YtdpmpllbdoefdaaGreatDoor
namespace Go.Proofs.YtdpmpllbdoefdaaGreatDoor
open Go.RowKit
end Go.Proofs.YtdpmpllbdoefdaaGreatDoor
namespace Go.Proofs.YtdpmpllbdoefdaaGreatDoor
open Go.RowKit
theorem leNum_app (a b : List Nat) : leNum (a ++ b) = leNum a + leNum b * 2 ^ (8 * a.length) := by
  induction a with
  | nil => simp [leNum]
  | cons x a ih =>
    rw [List.cons_append]
    simp only [leNum, ih, List.length_cons]
    rw [show 8 * (a.length + 1) = 8 * a.length + 8 by omega, Nat.pow_add]
    have : (2 : Nat) ^ 8 = 256 := by decide
    rw [this]
    generalize 2 ^ (8 * a.length) = P
    rw [Nat.mul_add, ← Nat.mul_assoc, Nat.mul_comm 256 (leNum b), Nat.mul_assoc, Nat.mul_comm 256 P, ← Nat.add_assoc]
theorem inf_ok {bs os : List Nat} (hb : ∀ b ∈ bs, b < 256) (h : Stream bs os) (more : List Nat) (m : Nat) (hm : bs.length ≤ m) : ∃ r, AllOk (os ++ more) (m : Int) r ∧ outOf r = bs ∧ usedOf r = os.length ∧ errOf r = 0 := by
  obtain ⟨t, tok, tb, tl⟩ := h.reads hb
  have hp : t.p ≤ 8 * os.length := by have := tb.len; omega
  have hof : t.of (leNum (os ++ more)) (8 * (os ++ more).length) := by
    refine ⟨?_, by rw [List.length_append]; omega⟩
    rw [leNum_app, tb.num]
    have e : 2 ^ (8 * os.length) = 2 ^ t.p * 2 ^ (8 * os.length - t.p) := by rw [← Nat.pow_add]; congr 1; omega
    rw [e, Nat.mul_comm (2 ^ t.p), ← Nat.mul_assoc, Nat.add_mul_mod_self_right]
    exact Nat.mod_eq_of_lt tok
  have hd : Runs (leNum (os ++ more)) (8 * (os ++ more).length) m ⟨t.p, true, bs, .ahead⟩ (.ok (bs, t.p)) := Runs.done rfl
  have := tl _ _ m _ hof hm hd
  exact ⟨.ok (bs, t.p), Or.inr ⟨by omega, by rw [Int.toNat_natCast]; exact this⟩, rfl, tb.len.symm, rfl⟩
theorem Stream.bytes {bs os : List Nat} (h : Stream bs os) : ∀ b ∈ os, b < 256 := by
  obtain ⟨s, t', r, e, f, g⟩ := h
  exact g.bytes
section
variable {n b : Nat}
end
end Go.Proofs.YtdpmpllbdoefdaaGreatDoor
namespace Go.Proofs.YtdpmpllbdoefdaaGreatDoor
open Go.RowKit
end Go.Proofs.YtdpmpllbdoefdaaGreatDoor
namespace Go.Proofs.YtdpmpllbdoefdaaGreatDoor
open Go.RowKit
theorem lies_false {w w' : World} {sv : Value} {bs : List Nat} (h : Lies w sv bs) (f : Fr (fun _ => False) w w') : Lies w' sv bs := lies_frS h f fun _ _ _ _ _ hS => hS
theorem Stream.pos {bs os : List Nat} (hb : ∀ b ∈ bs, b < 256) (h : Stream bs os) : 1 ≤ os.length := by
  obtain ⟨t, tok, tb, tl⟩ := h.reads hb
  have hp : t.p ≤ 8 * os.length := by have := tb.len; omega
  have hof : t.of (leNum os) (8 * os.length) := ⟨by rw [tb.num]; exact Nat.mod_eq_of_lt tok, hp⟩
  have hd : Runs (leNum os) (8 * os.length) bs.length ⟨t.p, true, bs, .ahead⟩ (.ok (bs, t.p)) := Runs.done rfl
  have := Runs.pos_three (tl _ _ bs.length _ hof (Nat.le_refl _) hd)
  have := tb.len
  omega
theorem own_monoZ {w : World} {lo lo' : Nat} {e : TypeId} {size : Nat} {v : Value} {n : Nat} {xs : List Value} (h : w.ownsRow lo e size v n xs) (hl : lo' ≤ lo) : w.ownsRow lo' e size v n xs :=
  ⟨h.1, h.2.imp id fun ⟨g, cap, cur, hv, hg, r⟩ => ⟨g, cap, cur, hv, Nat.le_trans hl hg, r⟩⟩
def zl (os bs : List Nat) : List Nat := [120, 1] ++ os ++ sumB (adler 1 bs)
theorem zl_length (os bs : List Nat) : (zl os bs).length = os.length + 6 := by simp [zl, sumB]
theorem makeRoomB (n : Nat) (hn : n ≤ 10000000) : ∃ zs : Array Value, (∀ W : World, (Instr.makeSlice 22 (.int .i64 0) (.int .i64 (n : Int))).run Tryz.prog W = .ok (.slice (some ⟨W.heap.size, 0, none⟩) 0 n) (W.alloc (.cells zs 5))) ∧ zs.size = n * 1 := by
  obtain ⟨i0, hi, hz0, hz1, hz2⟩ := info_parts Tryz.info5
  refine ⟨madeCells (Value.int .u8 0).cells (n * 1), fun W => ?_, by simp [size_madeCells]⟩
  have := run_make (P := Tryz.prog) W 22 5 i0 (.int .u8 0) Tryz.underlying22 hi hz0 .i64 .i64 0 n (by omega) (by omega) (by rw [hz2]; omega) (by omega)
  rw [hz1] at this
  simpa using this
set_option maxHeartbeats 1600000 in
set_option maxRecDepth 100000 in
theorem close_c (a : Option Addr) (c : Nat) (bs : List Nat) (w : World) (hl : Lies w (.slice a bs.length c) bs) (hn2 : bs.length ≤ 4194304) (hb : ∀ b ∈ bs, b < 256) (hG : Gl w) :
    Calls Tryz.prog 11 #[.slice a bs.length c] w fun e w' => ∃ os ra rc, Stream bs os ∧ e = .returned (.slice ra (zl os bs).length rc) ∧ w'.ownsRow w.heap.size 5 1 (.slice ra (zl os bs).length rc) (zl os bs).length (cellsOf (zl os bs)) ∧ Fr (fun _ => False) w w' := by
  have Hall := hide (all_c a bs.length c bs w hl rfl hn2 hb hG)
  have Hz := hide (Lz.of hl hb)
  have Hb := hide hb
  have HL := hide hl
  clear hl hb hG
  go_enter Tryz.func11, Tryz.ntmps11
  go_wp2_with fail
  refine Hall.out.mono ?_
  rintro e w1 ⟨os, ra, rc, hst, rfl, hO1, hF1⟩
  have hlen := hst.len Hb.out
  have hpos := hst.pos Hb.out
  unfold mostF at hlen
  have hlen2 : os.length ≤ 5000000 := by omega
  have Hst := hide hst
  have HO1 := hide hO1
  have HF1 := hide hF1
  clear hlen hst hO1 hF1 Hall
  have hne : ((os.length : Int) == 0) = false := by
    rw [beq_eq_false_iff_ne]; omega
  go_wp2_with fail
  obtain ⟨s0, s1, s2, s3, es⟩ : ∃ s0 s1 s2 s3, sumB (adler 1 bs) = [s0, s1, s2, s3] := ⟨_, _, _, _, rfl⟩
  have hsum := sumOf_c a c bs w1 (Hz.out.fr HF1.out) (by omega)
  rw [es] at hsum
  refine hsum.mono ?_
  clear hsum
  rintro e w2 ⟨rfl, hF2⟩
  have Hes := hide es
  have HF2 := hide (HF1.out.join hF2)
  have HO2 := hide (ownsRow_fr HO1.out fun j hj => hF2.block j (HO1.out.lt j hj).2 (fun h => h))
  clear hF2 es HO1
  simp only [cellsOf, List.map_cons, List.map_nil]
  go_upto_region 5 with fail
  obtain ⟨w3, hw3⟩ : ∃ w3, w3 = w2.alloc (.cells (cellsOf [s0, s1, s2, s3]).toArray 50) := ⟨_, rfl⟩
  have e3 : w2.alloc (.cells #[.int .u8 (s0 : Int), .int .u8 (s1 : Int), .int .u8 (s2 : Int), .int .u8 (s3 : Int)] 50) = w3 := hw3.symm
  rw [e3]
  obtain ⟨D, hD⟩ : ∃ D, D = w2.heap.size := ⟨_, rfl⟩
  rw [← hD]
  have HF3 : Hid (Fr (fun _ => False) w w3) := by rw [hw3]; exact HF2.out.join (Fr.of_alloc _ _)
  have HS3 : Hid (Lies w3 (.slice (some ⟨D, 0, none⟩) 4 4) [s0, s1, s2, s3]) := by
    rw [hw3, hD]
    exact Or.inr ⟨⟨w2.heap.size, 0, none⟩, 4, rfl, fun j u hu => by
      rw [Addr.add_mid]
      exact rangeAt_cells (alloc_here w2 _) j u hu⟩
  have HO3 : Hid (Lies w3 (.slice ra os.length rc) os) := by rw [hw3]; exact lies_false (lies_own HO2.out) (Fr.of_alloc _ _)
  have HD : Hid (D < w3.heap.size) := by show _ < _; rw [hw3, hD]; simp
  clear e3 hw3 hD HO2 HF2 HF1
  obtain ⟨zs, hmk0, hzs⟩ := makeRoomB (os.length + 6) (by omega)
  have hmk1 : ∀ W : World, (Instr.makeSlice 22 (.int .i64 0) (.int .i64 ((os.length : Int) + 6))).run Tryz.prog W = .ok (.slice (some ⟨W.heap.size, 0, none⟩) 0 (os.length + 6)) (W.alloc (.cells zs 5)) := fun W => by
    have := hmk0 W
    rwa [show ((os.length + 6 : Nat) : Int) = (os.length : Int) + 6 by omega] at this
  obtain ⟨w4, hw4⟩ : ∃ w4, w4 = w3.alloc (.cells zs 5) := ⟨_, rfl⟩
  obtain ⟨B, hB⟩ : ∃ B, B = w3.heap.size := ⟨_, rfl⟩
  have hmk := hmk1 w3
  clear hmk0 hmk1
  rw [← hw4, ← hB] at hmk
  have O4 : Hid (w4.ownsRow B 5 1 (.slice (some ⟨B, 0, none⟩) 0 (os.length + 6)) 0 []) := by
    rw [hw4, hB]; exact World.ownsRow_made w3 zs (os.length + 6) (Nat.le_refl _) (by unfold maxLen; omega) hzs
  have HF4 : Hid (Fr (fun _ => False) w3 w4) := by rw [hw4]; exact Fr.of_alloc _ _
  have Hws : Hid (w.heap.size ≤ B) := by show _ ≤ _; rw [hB]; exact HF3.out.size
  have HB := hide hB
  clear hw4 hB hzs
  go_upto_region 6 with fail
  clear hmk
  have FA : Hid (Fr (fun _ => False) w4 (w4.alloc (.cells (cellsOf [120, 1]).toArray 5))) := Fr.of_alloc _ _
  have O5 : Hid ((w4.alloc (.cells (cellsOf [120, 1]).toArray 5)).ownsRow B 5 1 (.slice (some ⟨B, 0, none⟩) 0 (os.length + 6)) 0 []) := ownsRow_fr O4.out fun j hj => FA.out.block j (O4.out.lt j hj).2 (fun h => h)
  have HL5 : Hid (Lies (w4.alloc (.cells (cellsOf [120, 1]).toArray 5)) (.slice (some ⟨w4.heap.size, 0, none⟩) 2 2) [120, 1]) := lies_lit w4 [120, 1] 2
  have hs5 : B ≤ (w4.alloc (.cells (cellsOf [120, 1]).toArray 5)).heap.size := by
    have h1 := HF4.out.size
    have h2 := FA.out.size
    have h3 := HB.out
    omega
  have HS5 := hide hs5
  clear hs5
  go_upto_region 7 with (at_builtin; go_must (refine append_any rfl (.tmp 17) (.tmp 18) rfl B (.slice (some ⟨B, 0, none⟩) 0 (os.length + 6)) 0 [] rfl O5.out (.slice (some ⟨w4.heap.size, 0, none⟩) 2 2) [120, 1] rfl HL5.out (by decide) HS5.out ?_); intro v6 w6 hown6 hbel6
                         obtain ⟨a6, c6, rfl⟩ := ownsRow_shape hown6
                         have HF6 := hide ((HF4.out.join FA.out).join' (HB.out ▸ hbel6))
                         have Hown6 := hide hown6
                         have Hs6 := hide (Nat.le_trans HS5.out hbel6.size)
                         clear hown6 hbel6)
  clear O5 HL5 FA O4 HF4 HS5
  have HO6 := hide (lies_false HO3.out HF6.out)
  have HS6 := hide (lies_false HS3.out HF6.out)
  have HF36 := hide (HF3.out.join HF6.out)
  clear HO3 HS3
  have Hown6b : Hid (w6.ownsRow B 5 1 (.slice a6 2 c6) 2 (cellsOf [120, 1])) := Hown6.out
  clear Hown6
  have q7 : 2 + os.length ≤ 2147483648 := by omega
  go_upto_region 8 with (at_builtin; go_loud (refine append_any rfl (.tmp 20) (.tmp 21) rfl B (.slice a6 2 c6) 2 (cellsOf [120, 1]) rfl Hown6b.out (.slice ra os.length rc) os rfl HO6.out q7 Hs6.out ?_); intro v7 w7 hown7 hbel7
                         obtain ⟨a7, c7, rfl⟩ := ownsRow_shape hown7
                         have HF7 := hide (HF6.out.join' (HB.out ▸ hbel7))
                         have Hown7 := hide hown7
                         have Hs7 := hide (Nat.le_trans Hs6.out hbel7.size)
                         have HS7 := hide (lies_frS HS6.out (Fr.of_below hbel7) fun ad n c e _ h => by cases e; have h1 := HB.out; have h2 := HD.out; have h3 : B ≤ D := h; omega)
                         clear hown7 hbel7)
  clear Hown6b HO6 HS6 Hs6 HF6
  have q8 : 2 + os.length + [s0, s1, s2, s3].length ≤ 2147483648 := by simp; omega
  go_wp2_with (at_builtin; go_must (refine append_any rfl (.tmp 23) (.tmp 24) rfl B (.slice a7 (2 + os.length) c7) (2 + os.length) (cellsOf [120, 1] ++ cellsOf os) rfl Hown7.out (.slice (some ⟨D, 0, none⟩) 4 4) [s0, s1, s2, s3] rfl HS7.out q8 Hs7.out ?_); intro v8 w8 hown8 hbel8
               obtain ⟨a8, c8, rfl⟩ := ownsRow_shape hown8
               have HF8 := hide (HF7.out.join' (HB.out ▸ hbel8))
               have Hown8 := hide hown8
               clear hown8 hbel8)
  have el : 2 + os.length + [s0, s1, s2, s3].length = (zl os bs).length := by rw [zl_length]; simp; omega
  have ec : cellsOf [120, 1] ++ cellsOf os ++ cellsOf [s0, s1, s2, s3] = cellsOf (zl os bs) := by simp [cellsOf, zl, Hes.out]
  have ho := Hown8.out
  rw [el, ec] at ho
  go_ret
  refine ⟨os, a8, c8, Hst.out, by rw [← el]; rfl, ?_, HF3.out.join HF8.out⟩
  exact own_monoZ ho Hws.out
end Go.Proofs.YtdpmpllbdoefdaaGreatDoor
namespace Go.Proofs.YtdpmpllbdoefdaaGreatDoor
open Go.RowKit
set_option maxRecDepth 100000 in
set_option maxHeartbeats 400000 in
theorem left_ok (n l : Int) (h1 : n ≤ l) (w : World) :
    Calls Tryz.prog 85 #[.int .i64 n, .int .i64 l] w fun e w' => e = .returned (.tuple #[]) ∧ w = w' := by
  go_enter Tryz.func85, Tryz.ntmps85
  go_wp2
  go_end0
  exact ⟨rfl, rfl⟩
set_option maxRecDepth 100000 in
set_option maxHeartbeats 400000 in
theorem left_bad (n l : Int) (h1 : l < n) (w : World) :
    Calls Tryz.prog 85 #[.int .i64 n, .int .i64 l] w fun e w' => e = .panicked [{ v := .iface 24 (.int .i64 2), recovered := false }] ∧ w = w' := by
  go_enter Tryz.func85, Tryz.ntmps85
  go_wp2
  exact ⟨rfl, rfl, rfl⟩
set_option maxRecDepth 100000 in
set_option maxHeartbeats 400000 in
theorem sleft_c (B n c : Nat) (a : Option Addr) (pos : Int) (w : World) (h0 : w.cell? ⟨B, 0, none⟩ = some (.slice a n c)) (h1 : w.cell? ⟨B, 1, none⟩ = some (.int .i64 pos))
    (hn : (n : Int) ≤ 2147483648) (hp0 : 0 ≤ pos) (hp : pos ≤ 17179869184) :
    Calls Tryz.prog 89 #[.pointer (some ⟨B, 0, none⟩)] w fun e w' => e = .returned (.int .i64 (8 * n - pos)) ∧ ∃ k, w' = w.drewN k := by
  go_enter Tryz.func89, Tryz.ntmps89
  go_wp2
  go_quiet (fail)
  go_wp2
  go_ret
  exact ⟨rfl, _, rfl⟩
set_option maxRecDepth 100000 in
set_option maxHeartbeats 400000 in
theorem piece_c (B D o n c : Nat) (pos : Nat) (m : Int) (s : Nat) (b : Nat) (w : World) (h0 : w.cell? ⟨B, 0, none⟩ = some (.slice (some ⟨D, o, none⟩) n c)) (h1 : w.cell? ⟨B, 1, none⟩ = some (.int .i64 pos))
    (hf : w.frozen? ⟨B, 1, none⟩ = false) (hb : w.cell? ⟨D, o + pos / 8, none⟩ = some (.int .u8 b)) (hn : (n : Int) ≤ 2147483648) (hp : (pos : Int) < 8 * n) (hm0 : 0 < m) (hm1 : m ≤ 24)
    (hs1 : (s : Int) ≤ m) (hs2 : pos % 8 + s ≤ 8) (hs3 : (s : Int) = m ∨ pos % 8 + s = 8) :
    Calls Tryz.prog 86 #[.pointer (some ⟨B, 0, none⟩), .int .i64 m] w fun e w' => e = .returned (.tuple #[.int .u8 b, .int .i64 (pos % 8 : Nat), .int .i64 s]) ∧ Moved B (pos + s) w w' := by
  have hi0 : (0 : Int) ≤ (pos : Int) / 8 := by omega
  have hi1 : (pos : Int) / 8 < n := by omega
  have Hs : Hid (((s : Int) ≤ m ∧ pos % 8 + s ≤ 8) ∧ ((s : Int) = m ∨ pos % 8 + s = 8)) := ⟨⟨hs1, hs2⟩, hs3⟩
  clear hs1 hs2 hs3
  go_enter Tryz.func86, Tryz.ntmps86
  go_wp2
  go_quiet (fail)
  go_wp2
  all_goals
    go_ret3
    obtain ⟨⟨hs1, hs2⟩, hs3⟩ := Hs.out
    exact ⟨ret_tup3 rfl (by omega) (by omega), ⟨nq, setCell_drewN_eq (by omega)⟩⟩
set_option maxRecDepth 100000 in
set_option maxHeartbeats 400000 in
theorem low_left_c (B n c : Nat) (a : Option Addr) (pos : Int) (w : World) (h0 : w.cell? ⟨B, 0, none⟩ = some (.slice a n c)) (h1 : w.cell? ⟨B, 1, none⟩ = some (.int .i64 pos))
    (hn : (n : Int) ≤ 2147483648) (hp0 : 0 ≤ pos) (hp : pos ≤ 17179869184) :
    Calls Tryz.prog 69 #[.pointer (some ⟨B, 0, none⟩)] w fun e w' => e = .returned (.int .i64 (8 * n - pos)) ∧ ∃ k, w' = w.drewN k := by
  go_enter Tryz.func69, Tryz.ntmps69
  go_wp2_with (go_at_call 89; refine (sleft_c B n c a pos _ h0 h1 hn hp0 hp).mono ?_; rintro e w' ⟨rfl, k, rfl⟩)
  go_ret
  exact ⟨rfl, _, rfl⟩
set_option maxRecDepth 100000 in
set_option maxHeartbeats 800000 in
theorem low_take_ok (B c : Nat) (a : Option Addr) (bs : List Nat) (pos n : Nat) (w : World) (h0 : w.cell? ⟨B, 0, none⟩ = some (.slice a bs.length c)) (h1 : w.cell? ⟨B, 1, none⟩ = some (.int .i64 pos))
    (hf : w.frozen? ⟨B, 1, none⟩ = false) (hb : Bytes w B a bs) (hlt : ∀ b ∈ bs, b < 256) (hlen : bs.length ≤ 2147483648) (hn : n ≤ 24) (hle : pos + n ≤ 8 * bs.length) :
    Calls Tryz.prog 65 #[.pointer (some ⟨B, 0, none⟩), .int .i64 n] w fun e w' => e = .returned (.int .i64 (lowBits (leNum bs) pos n : Nat)) ∧ Moved B (pos + n) w w' := by
  go_enter Tryz.func65, Tryz.ntmps65
  go_wp2_with (first | (go_at_call 84; refine (width_ok _ (by omega) (by omega) _).mono ?_; rintro e w' ⟨rfl, rfl⟩) | (go_at_call 69; refine (low_left_c B bs.length c a pos _ h0 h1 (by omega) (by omega) (by omega)).mono ?_; rintro e w' ⟨rfl, k, rfl⟩) | (go_at_call 85; refine (left_ok _ _ (by omega) _).mono ?_; rintro e w' ⟨rfl, rfl⟩))
  go_loopw [5, 6, 7, 8, 9] (fun x g _ _ _ wr => ∃ got P : Nat, got ≤ n ∧ P = pos + got ∧ g = .int .i64 got ∧ x = .int .i64 (lowBits (leNum bs) pos got : Nat) ∧ Moved B P w wr) (fun _ g _ _ _ _ => n - (intOf g).toNat)
  case atStart => exact ⟨0, pos, Nat.zero_le _, rfl, rfl, by simp [lowBits_zero], Moved.start h1 _⟩
  case round =>
    obtain ⟨got, P, hgot, hP, rfl, rfl, hm⟩ := hrel
    by_cases hlt2 : got < n
    · obtain ⟨D, o, rfl, hDB, hcell⟩ : ∃ D o, a = some ⟨D, o, none⟩ ∧ D ≠ B ∧ ∀ i, i < bs.length → wr.cell? ⟨D, o + i, none⟩ = some (.int .u8 ((bs.getD i 0 : Nat) : Int)) := by
        rcases hm.bytes hb with h | h
        · subst h; simp at hle; omega
        · exact h
      have hby := hcell (P / 8) (by omega)
      obtain ⟨b, hbv⟩ : ∃ b, b = bs.getD (P / 8) 0 := ⟨_, rfl⟩
      obtain ⟨s, hs⟩ : ∃ s : Nat, s = min (n - got) (8 - P % 8) := ⟨_, rfl⟩
      have hs1 : s ≤ n - got := by omega
      have hs2 : P % 8 + s ≤ 8 := by omega
      have hs3 : s = n - got ∨ P % 8 + s = 8 := by omega
      have hs4 : 0 < s := by omega
      have f0 := (hm.cell (a := ⟨B, 0, none⟩) (by simp)).trans h0
      have f1 := hm.own h1
      have f2 := (hm.frozen ⟨B, 1, none⟩).trans hf
      have HS := hide (low_step bs hlt pos got s n b (by rw [← hP]; exact hbv) (by omega) hn (by rw [← hP]; exact hs2))
      rw [← hbv] at hby
      rw [← hP] at HS
      have HP := hide hP
      have Hm := hide hm
      have hP8 : P < 8 * bs.length := by omega
      clear hs hcell hb hP hm h0 h1 hf hbv
      go_wp2_with (first | (go_at_call 86; refine (piece_c B D o bs.length c P _ s b _ f0 f1 f2 hby (by omega) (by omega) (by omega) (by omega) (by omega) hs2 (by omega)).mono ?_; rintro e w1 ⟨rfl, hm1⟩) | (go_at_call 87; refine (lowest_c _ s (by omega) _).mono ?_; rintro e w' ⟨rfl, rfl⟩))
      refine ⟨⟨got + s, P + s, by omega, by rw [HP.out]; omega, by simp, by rw [HS.out], Hm.out.trans hm1⟩, by simp [intOf]; omega⟩
    · go_wp2
      go_ret
      have e : got = n := by omega
      subst e
      exact ⟨rfl, hP ▸ hm⟩
set_option maxRecDepth 100000 in
set_option maxHeartbeats 400000 in
theorem newLow_c (sv : Value) (bs : List Nat) (w : World) (h : Lies w sv bs) (hlt : ∀ b ∈ bs, b < 256) (hlen : bs.length ≤ 2147483648) :
    Calls Tryz.prog 36 #[sv] w fun e w' => ∃ B, e = .returned (.pointer (some ⟨B, 0, none⟩)) ∧ Rd 97 w' w.heap.size w'.heap.size B bs 0 (.slice none 0 0) 0 ∧ Fr (fun _ => False) w w' := by
  have Hlt := hide hlt
  clear hlt
  go_enter Tryz.func36, Tryz.ntmps36
  go_wp2_with (go_at_call 39; refine (clone_c sv bs _ h hlen).mono ?_; rintro e w1 ⟨a, c, rfl, hown, hbel⟩)
  go_ret
  refine ⟨_, rfl, ⟨hbel.size, by simp, Nat.le_refl _, by simp, Hlt.out, hlen, _, heap_alloc_new _ _, hown.alloc _, fun k hk => ?_⟩, ?_⟩
  · have := (hown.lt k hk).2
    simp; omega
  · exact (((Fr.of_below hbel).trans (Fr.of_alloc _ _)).mono (fun k hk h => by simp at h; omega))
theorem low_take (w : World) (lo hi B : Nat) (bs : List Nat) (pos n : Nat) (ov : Value) (wr : Int) (h : Rd 97 w lo hi B bs pos ov wr) (hn : n ≤ 24) (hle : pos + n ≤ 8 * bs.length) :
    Calls Tryz.prog 65 #[.pointer (some ⟨B, 0, none⟩), .int .i64 n] w fun e w' => e = .returned (.int .i64 (lowBits (leNum bs) pos n : Nat)) ∧ Rd 97 w' lo hi B bs (pos + n) ov wr ∧ Fr (fun k => k = B) w w' := by
  obtain ⟨a, c, f0, f1, f2, f3⟩ := h.facts
  exact (low_take_ok B c a bs pos n w f0 f1 f2 f3 h.ebytes h.elen hn hle).mono fun e w' ⟨he, hm⟩ => ⟨he, h.moved hm hle, Fr.of_moved hm⟩
theorem low_left (w : World) (lo hi B : Nat) (bs : List Nat) (pos : Nat) (ov : Value) (wr : Int) (h : Rd 97 w lo hi B bs pos ov wr) :
    Calls Tryz.prog 69 #[.pointer (some ⟨B, 0, none⟩)] w fun e w' => e = .returned (.int .i64 (8 * bs.length - pos)) ∧ ∃ k, w' = w.drewN k := by
  obtain ⟨a, c, f0, f1, f2, f3⟩ := h.facts
  have h1 := h.elen
  have h2 := h.epos
  exact low_left_c B bs.length c a pos w f0 f1 (by omega) (by omega) (by omega)
set_option maxRecDepth 100000 in
set_option maxHeartbeats 400000 in
theorem low_short (w : World) (lo hi B : Nat) (bs : List Nat) (pos n : Nat) (ov : Value) (wr : Int) (h : Rd 97 w lo hi B bs pos ov wr) (hn : n ≤ 24) (hbad : ¬ pos + n ≤ 8 * bs.length) :
    Calls Tryz.prog 65 #[.pointer (some ⟨B, 0, none⟩), .int .i64 n] w fun e w' => e = errPanic 2 ∧ ∃ k, w.drewN k = w' := by
  obtain ⟨a, c, h0, h1, _, _⟩ := h.facts
  have hlen := h.elen
  have hpos := h.epos
  have hn0 : (0 : Int) ≤ n := by omega
  have hn1 : (n : Int) ≤ 24 := by omega
  have hb2 : 8 * (bs.length : Int) - pos < n := by omega
  generalize bs.length = m at *
  clear h hbad
  go_enter Tryz.func65, Tryz.ntmps65
  go_wp2_with (first | (go_at_call 84; refine (width_ok _ hn0 hn1 _).mono ?_; rintro e w' ⟨rfl, rfl⟩) | (go_at_call 69; refine (low_left_c B m c a pos _ h0 h1 (by omega) (by omega) (by omega)).mono ?_; rintro e w' ⟨rfl, k, rfl⟩) | (go_at_call 85; refine (left_bad _ _ hb2 _).mono ?_; rintro e w' ⟨rfl, rfl⟩))
  exact ⟨rfl, rfl, k, rfl⟩
set_option maxHeartbeats 1600000 in
set_option maxRecDepth 100000 in
theorem take_Q (lo hi C lo' hi' B : Nat) (ls : List Int) (bs : List Nat) (p : Nat) (ov : Value) (wn : Int) (w : World) (hC : Cd w lo hi C ls) (hB : Rd 97 w lo' hi' B bs p ov wn) (hap : hi ≤ B ∨ B < lo) (Q : Ending → World → Prop)
    (hhit : ∀ n y w', Hit ls (leNum bs) (8 * bs.length) p n → (rkd ls 15)[hitAt ls (leNum bs) p n]? = some y → Rd 97 w' lo' hi' B bs (p + n) ov wn → Fr (fun k => k = B) w w' → Q (.returned (.int .i64 (y : Int))) w')
    (hno : ∀ (er m : Nat) w', TkNo ls (leNum bs) (8 * bs.length) p er m → Fr (fun k => k = B) w w' → Q (errPanic er) w') :
    Calls Tryz.prog 66 #[.pointer (some ⟨C, 0, none⟩), .pointer (some ⟨B, 0, none⟩)] w Q := by
  have h320 := hC.egood.1
  obtain ⟨V, hV⟩ : ∃ V, V = leNum bs := ⟨_, rfl⟩
  have Hbit : Hid (∀ W pp, Rd 97 W lo' hi' B bs pp ov wn → pp + 1 ≤ 8 * bs.length → Calls Tryz.prog 65 #[.pointer (some ⟨B, 0, none⟩), .int .i64 1] W fun e w' => e = .returned (.int .i64 (lowBits V pp 1 : Nat)) ∧ Rd 97 w' lo' hi' B bs (pp + 1) ov wn ∧ Fr (fun k => k = B) W w') := by
    intro W pp hR hle
    rw [hV]
    exact low_take W lo' hi' B bs pp 1 ov wn hR (by omega) hle
  rw [← hV] at hhit hno
  have HC := hide hC
  have HB := hide hB
  have Hap := hide hap
  have Hhit := hide hhit
  have Hno := hide hno
  clear hC hB hap hhit hno hV
  go_enter Tryz.func66, Tryz.ntmps66
  go_wp2
  go_loopw [5, 6, 7, 8] (fun rv fv sv zv wr => ∃ m s : Nat, m ≤ 15 ∧ Hid (s = m + 1) ∧ zv = .int .i64 (s : Int) ∧ rv = .int .i64 (rd V p m : Nat) ∧ fv = .int .i64 (nx ls m : Nat) ∧ sv = .int .i64 (tot ls m : Nat) ∧ Hid (∀ k, k ≤ m → nx ls k ≤ rd V p k) ∧ Rd 97 wr lo' hi' B bs (p + m) ov wn ∧ Fr (fun k => k = B) w wr) (fun _ _ _ zv _ => 17 - (intOf zv).toNat)
  case atStart => exact ⟨0, 1, Nat.zero_le _, rfl, rfl, rfl, rfl, rfl, fun k hk => by have : k = 0 := by omega
                                                                                      subst this; rw [nx_zero]; exact Nat.zero_le _, HB.out, Fr.refl _ _⟩
  case round =>
    obtain ⟨m, s, hm, Hs, rfl, rfl, rfl, rfl, Hge, hR, hF⟩ := hrel
    have hC2 := HC.out.keep hF (fun k h1 h2 e => by have := Hap.out; omega)
    obtain ⟨D, rv, c1, c2, c3, c4, c5, c6⟩ := hC2.eobj
    obtain ⟨ra, rc, rfl⟩ := ownsRow_shape c2
    have hc17 := c1.cell17
    have hnb := nx_bound ls h320 (n := m) (by omega)
    have htb := tot_le ls m
    have htb15 := tot_le ls 15
    have hrb : rd V p m ≤ 32768 := by
      have h1 := rd_lt V p m
      have h2 : (2:Nat) ^ m ≤ 2 ^ 15 := Nat.pow_le_pow_right (by decide) hm
      have h3 : (2:Nat) ^ 15 = 32768 := by decide
      omega
    have HR := hide hR
    have HF := hide hF
    by_cases hmore : tot ls m < tot ls 15
    · have hm15 : m < 15 := by
        rcases Nat.lt_or_ge m 15 with h | h
        · exact h
        · have : m = 15 := by omega
          subst this; omega
      by_cases hfit : p + m + 1 ≤ 8 * bs.length
      · obtain ⟨b, hb⟩ : ∃ b, b = lowBits V (p + m) 1 := ⟨_, rfl⟩
        have hb2 : b < 2 := by rw [hb]; exact bit_lt _ _
        obtain ⟨R, hRd⟩ : ∃ R, R = rd V p m := ⟨_, rfl⟩
        obtain ⟨F, hFn⟩ : ∃ F, F = nx ls m := ⟨_, rfl⟩
        obtain ⟨T, hTt⟩ : ∃ T, T = tot ls m := ⟨_, rfl⟩
        obtain ⟨R2, hR2⟩ : ∃ R2, R2 = 2 * R + b := ⟨_, rfl⟩
        have e2 : rd V p (m + 1) = R2 := by rw [hR2, hRd, hb]; rfl
        have hor := or_bit R b (by omega) hb2
        rw [← hR2] at hor
        have hcb := cnt_le ls s
        have hnx : nx ls (m + 1) = 2 * F + cnt ls s := by rw [nx_succ, ← hFn, Hs.out]
        have htt : tot ls (m + 1) = T + cnt ls s := by rw [tot_succ, ← hTt, Hs.out]
        have hFR : F ≤ R := by rw [hFn, hRd]; exact Hge.out m (Nat.le_refl _)
        have hR2b : R2 ≤ 100000 := by omega
        have hRb : R ≤ 32768 := by omega
        have hTb : T ≤ 1000 := by omega
        have hFb : F ≤ 10485760 := by omega
        have Hbit2 := hide (Hbit.out wr (p + m) hR hfit)
        rw [← hb] at Hbit2
        have hs15 : (s : Int) < 16 := by have := Hs.out; omega
        obtain ⟨c, hc⟩ : ∃ c, c = cnt ls s := ⟨_, rfl⟩
        have Hcs : Hid (∀ w1, Fr (fun k => k = B) wr w1 → ∃ D, Sz w1 C (.slice (some ⟨D, 0, none⟩) ls.length ls.length) (.slice ra (tot ls 15) rc) (cnt ls) ∧ w1.ownsRow lo 3 1 (.slice ra (tot ls 15) rc) (tot ls 15) (cellsI (rkd ls 15))) := by
          intro w1 hf
          have hx := hC2.esz
          refine ⟨D, c1.keep hf (fun e => by have := Hap.out; have := hC2.elo; have := hC2.ehi; omega), ownsRow_fr c2 fun k hk => hf.block k (by have := c3 k hk; omega) (fun e => ?_)⟩
          have := c3 k hk
          have := (c2.lt k hk).1
          have := Hap.out
          omega
        rw [← hc] at hnx htt hcb
        rw [← hRd, ← hFn, ← hTt]
        rw [← hTt] at hmore
        have E2 := hide e2
        have HRd := hide hRd
        have HFn := hide hFn
        have HTt := hide hTt
        have Hnx := hide hnx
        have Htt := hide htt
        have Hc := hide hc
        have hmi : (T : Int) < (tot ls 15 : Nat) := by omega
        clear hR hF hC2 c1 c2 c3 c6 hb hRd hFn hTt hR2 e2 hnx htt hc hnb hrb htb
        go_wp2_with fail
        refine Hbit2.out.mono ?_
        rintro e w1 ⟨rfl, hR1, hF1⟩
        obtain ⟨D1, d1, d2⟩ := Hcs.out w1 hF1
        have hcn := d1.cell (i := s) (by have := Hs.out; omega) (by omega)
        rw [← Hc.out] at hcn
        have hd17 := d1.cell17
        have HR1 := hide hR1
        have HF1 := hide (HF.out.join hF1)
        by_cases hlt : R2 < 2 * F + c
        · have hit : Hit ls V (8 * bs.length) p (m + 1) := ⟨by omega, by omega, by omega, by rw [E2.out, Hnx.out]; exact hlt, fun k hk => Hge.out k (by omega)⟩
          obtain ⟨i1, i2, i3⟩ := hit.idx
          obtain ⟨y, hy⟩ : ∃ y, (rkd ls 15)[hitAt ls V p (m + 1)]? = some y := ⟨_, List.getElem?_eq_getElem (by rw [rkd_length]; exact i3)⟩
          obtain ⟨ad, rfl, had⟩ := own_cellI d2 hy
          obtain ⟨I, hI⟩ : ∃ I, I = hitAt ls V p (m + 1) := ⟨_, rfl⟩
          have i1' : 2 * F ≤ R2 := by
            have h := i1
            rw [E2.out, show m + 1 - 1 = m by omega, ← HFn.out] at h
            exact h
          have hI2 : (I : Int) = (T : Int) + R2 - 2 * F := by
            have e1 := HFn.out
            have e2 := HTt.out
            have e3 := E2.out
            have e4 : hitAt ls V p (m + 1) = T + (R2 - 2 * F) := by
              unfold hitAt
              rw [e3, show m + 1 - 1 = m by omega, ← e1, ← e2]
            omega
          have hi3 : I < tot ls 15 := by rw [hI]; exact i3
          rw [← hI] at had
          have Hyes := hide (Hhit.out (m + 1) y w1 hit hy HR1.out HF1.out)
          have hwi : IntKind.i64.wrap ((T : Int) + (R2 : Int) - (F : Int) * 2) = (I : Int) := by rw [wrap_i64_id _ (by omega) (by omega)]; omega
          have hii : (T : Int) + (R2 : Int) - (F : Int) * 2 = (I : Int) := by omega
          have hi0 : (I : Int) < (tot ls 15 : Nat) := by omega
          have hltI : (R2 : Int) < (F : Int) * 2 + (c : Int) := by omega
          clear d1 d2 hR1 hF1 hy hI hit i1 i2 i3 hI2 i1'
          go_wp2
          exact Hyes.out
        · have hltI : ¬ (R2 : Int) < (F : Int) * 2 + (c : Int) := by omega
          have Hge2 : Hid (∀ k, k ≤ m + 1 → nx ls k ≤ rd V p k) := by
            intro k hk
            rcases Nat.lt_or_ge k (m + 1) with h | h
            · exact Hge.out k (by omega)
            · have : k = m + 1 := by omega
              subst this
              rw [E2.out, Hnx.out]; omega
          clear d1 d2 hR1 hF1
          go_wp2
          go_roundw
          case rel => exact ⟨m + 1, s + 1, by omega, by have := Hs.out; show s + 1 = m + 1 + 1; omega, by go_num, by rw [E2.out], by rw [Hnx.out]; go_num, by rw [Htt.out]; go_num, Hge2, HR1.out, HF1.out⟩
          case measure => simp [intOf]; omega
      · have Hn := hide (fun w' => Hno.out 2 m w' ⟨Hge.out, hm, HR.out.epos, Or.inr ⟨rfl, hmore, by omega⟩⟩)
        clear hR hF hC2 c1 c2 c3 c6
        go_wp2_with fail
        refine (low_short wr lo' hi' B bs (p + m) 1 ov wn HR.out (by omega) (by omega)).mono ?_
        rintro e w1 ⟨rfl, k, rfl⟩
        exact ⟨rfl, Hn.out _ (HF.out.join ((Fr.of_drewN wr k).mono fun _ _ h => h.elim))⟩
    · have Hn := hide (fun w' => Hno.out 4 m w' ⟨Hge.out, hm, HR.out.epos, Or.inl ⟨rfl, by omega⟩⟩)
      clear hR hF hC2 c1 c2 c3 c6
      go_wp2
      exact ⟨rfl, Hn.out _ HF.out⟩
end Go.Proofs.YtdpmpllbdoefdaaGreatDoor
namespace Go.Proofs.YtdpmpllbdoefdaaGreatDoor
open Go.RowKit
abbrev Rm (w : World) (lo R B : Nat) (bs : List Nat) (p : Nat) : Prop := Rd 97 w lo R B bs p (.slice none 0 0) 0
structure Reads (x : Rdr Nat) (lo R B : Nat) (bs : List Nat) (p : Nat) (w : World) (Q : Ending → World → Prop) : Prop where
  ok : ∀ a q w', x (leNum bs) (8 * bs.length) p = .ok (a, q) → Rm w' lo R B bs q → Fr (fun k => k = B) w w' → Q (.returned (.int .i64 (a : Nat))) w'
  no : ∀ (er : Nat) w', x (leNum bs) (8 * bs.length) p = .error er → Fr (fun k => k = B) w w' → Q (errPanic er) w'
theorem low_reads (w : World) (lo R B : Nat) (bs : List Nat) (p n : Nat) (h : Rm w lo R B bs p) (hn : n ≤ 24) (Q : Ending → World → Prop) (hQ : Reads (tkn n) lo R B bs p w Q) :
    Calls Tryz.prog 65 #[.pointer (some ⟨B, 0, none⟩), .int .i64 n] w Q := by
  by_cases hf : p + n ≤ 8 * bs.length
  · exact (low_take w lo R B bs p n _ _ h hn hf).mono fun e w' ⟨he, hr, hF⟩ => by rw [he]; exact hQ.ok _ _ w' (tkn_ok hf) hr hF
  · exact (low_short w lo R B bs p n _ _ h hn hf).mono fun e w' ⟨he, k, hk⟩ => by rw [he, ← hk]; exact hQ.no 2 _ (tkn_err hf) (Fr.none k)
theorem take_E (lo hi C lo' hi' B : Nat) (ls : List Int) (bs : List Nat) (p : Nat) (w : World) (hC : Cd w lo hi C ls) (hB : Rm w lo' hi' B bs p) (hap : hi ≤ B ∨ B < lo) (Q : Ending → World → Prop) (hQ : Reads (tk ls) lo' hi' B bs p w Q) :
    Calls Tryz.prog 66 #[.pointer (some ⟨C, 0, none⟩), .pointer (some ⟨B, 0, none⟩)] w Q :=
  take_Q lo hi C lo' hi' B ls bs p _ _ w hC hB hap Q (fun _ y w' h hy hr hF => hQ.ok y _ w' (h.tk hy) hr hF) (fun er _ w' h hF => hQ.no er w' h.tk hF)
set_option maxHeartbeats 400000 in
set_option maxRecDepth 100000 in
theorem whole_c (p : Nat) (hp : p ≤ 100000000000) (w : World) : Calls Tryz.prog 106 #[.int .i64 p] w fun e w' => e = .returned (.int .i64 ((p + 7) / 8 : Nat)) ∧ w = w' := by
  go_enter Tryz.func106, Tryz.ntmps106
  go_wp2
  go_ret
  exact ⟨ret_int (by omega), rfl⟩
set_option maxHeartbeats 400000 in
set_option maxRecDepth 100000 in
theorem align_c (w : World) (lo R B : Nat) (bs : List Nat) (p : Nat) (h : Rm w lo R B bs p) :
    Calls Tryz.prog 90 #[.pointer (some ⟨B, 0, none⟩)] w fun e w' => e = .returned (.tuple #[]) ∧ Rm w' lo R B bs ((p + 7) / 8 * 8) ∧ Fr (fun k => k = B) w w' := by
  obtain ⟨a, c, h0, h1, h2, _⟩ := h.facts
  have hl := h.elen
  have hp := h.epos
  have hpl : p ≤ 20000000000 := by omega
  have H := hide h
  clear h
  go_enter Tryz.func90, Tryz.ntmps90
  go_wp2_with fail
  refine (whole_c p (by omega) w).mono ?_
  rintro e w1 ⟨rfl, rfl⟩
  obtain ⟨q, hq⟩ : ∃ q, q = (p + 7) / 8 := ⟨_, rfl⟩
  have hqb : q ≤ 20000000000 := by omega
  have Hq : Hid (q = (p + 7) / 8) := hq
  rw [← hq]
  clear hq
  go_wp2
  go_end0
  have hm : Moved B (q * 8) w (w.setCell ⟨B, 1, none⟩ (.int .i64 (8 * (q : Int)))) := moved_of (by omega)
  exact ⟨rfl, by rw [← Hq.out]; exact H.out.moved hm (by have := Hq.out; have := hp; omega), Fr.of_moved hm⟩
structure Mi (w : World) (lo R M B : Nat) (bs : List Nat) (p : Nat) : Prop where
  rd : Rm w lo R B bs p
  hM : R ≤ M
  ptr : w.cell? ⟨M, 0, none⟩ = some (.pointer (some ⟨B, 0, none⟩))
theorem Mi.ne {w : World} {lo R M B : Nat} {bs : List Nat} {p : Nat} (h : Mi w lo R M B bs p) : M ≠ B := by
  have := h.hM
  have := h.rd.ehi
  omega
theorem Mi.next {w w' : World} {lo R M B : Nat} {bs : List Nat} {p q : Nat} (h : Mi w lo R M B bs p) (hr : Rm w' lo R B bs q) (hF : Fr (fun k => k = B) w w') : Mi w' lo R M B bs q :=
  ⟨hr, h.hM, by rw [cell_blk (hF.block M (cell_lt h.ptr) h.ne)]; exact h.ptr⟩
theorem Mi.drewN {w : World} {lo R M B : Nat} {bs : List Nat} {p : Nat} (h : Mi w lo R M B bs p) (k : Nat) : Mi (w.drewN k) lo R M B bs p := ⟨h.rd.drewN k, h.hM, h.ptr⟩
theorem Mi.call {w W : World} {lo R M B : Nat} {bs : List Nat} {p : Nat} (h : Mi w lo R M B bs p) (k : ∃ n, W = w.drewN n) : Mi W lo R M B bs p := by
  obtain ⟨n, rfl⟩ := k
  exact h.drewN n
set_option maxHeartbeats 1000000 in
set_option maxRecDepth 100000 in
theorem rung4_c (w : World) (lo R M B : Nat) (bs : List Nat) (p i : Nat) (h : Mi w lo R M B bs p) (hi : i ≤ 29) (Q : Ending → World → Prop) (hQ : Reads (rung i 4) lo R B bs p w Q) :
    Calls Tryz.prog 88 #[.pointer (some ⟨M, 0, none⟩), .int .i64 i, .int .i64 4] w Q := by
  have hp := h.ptr
  have H := hide h
  have HQ := hide hQ
  clear h hQ
  by_cases hs : i < 2 * 4
  · have hsi : (i : Int) < 8 := by omega
    go_enter Tryz.func88, Tryz.ntmps88
    go_wp2
    exact HQ.out.ok _ _ _ (by unfold rung; rw [if_pos hs]; rfl) H.out.rd (Fr.refl _ _)
  · have hsi : ¬ (i : Int) < 8 := by omega
    have E : Hid (rung i 4 (leNum bs) (8 * bs.length) p = andThen (tkn (i / 4 - 1)) (fun x => ret ((4 + i % 4) * 2 ^ (i / 4 - 1) + x)) (leNum bs) (8 * bs.length) p) := by
      show rung i 4 (leNum bs) (8 * bs.length) p = _
      unfold rung
      rw [if_neg hs]
    obtain ⟨f, hf⟩ : ∃ f, f = i / 4 - 1 := ⟨_, rfl⟩
    have hfi : ((i : Int) / 4) - 1 = (f : Int) := by omega
    have hf13 : f ≤ 13 := by omega
    obtain ⟨P2, hP2⟩ : ∃ P2, P2 = 2 ^ f := ⟨_, rfl⟩
    have hP3 : (2 : Int) ^ f = (P2 : Int) := by rw [hP2]; simp
    have hPb : P2 ≤ 8192 := by rw [hP2]; exact Nat.pow_le_pow_right (by decide) hf13
    obtain ⟨t, ht⟩ : ∃ t, t = i % 4 := ⟨_, rfl⟩
    have hti : (i : Int).tmod 4 = (t : Int) := by rw [Int.tmod_eq_emod_of_nonneg (by omega)]; omega
    have htb : t < 4 := by omega
    obtain ⟨X, hX⟩ : ∃ X, X = (4 + t) * P2 := ⟨_, rfl⟩
    have hXb : X ≤ 65536 := by
      rw [hX]
      exact Nat.le_trans (Nat.mul_le_mul (show 4 + t ≤ 8 by omega) hPb) (by decide)
    have hXi : ((4 : Int) + (t : Int)) * (P2 : Int) = (X : Int) := by rw [hX]; simp
    rw [← hf, ← ht, ← hP2, ← hX] at E
    have Hf := hide hf
    clear hf hs hX ht hP2
    go_enter Tryz.func88, Tryz.ntmps88
    go_wp2_with fail
    refine wp_region_held_drew (S := fun w' => w'.cell? ⟨M, 0, none⟩ = some (.pointer (some ⟨B, 0, none⟩))) (by kernel_rfl) (by go_keep) (fun hHeld => ?_)
    refine wpAnyH_take (i := 0) (v := ?v0) rfl (by kernel_rfl) (by kernel_rfl) (by kernel_rfl) (fun _ _ _ h => h) (Or.inl ⟨by rfl, ?hy0⟩) hHeld ?rest0
    case hy0 => (intro W hSw; (try dsimp only at hSw); go_simp; all_goals (with_reducible rfl))
    change wpAnyH _ _ _ _ _ _ _ (Act.put _ (some 17) _) _
    simp only [Act.put, List.setIfInBounds_toArray, List.set_cons_zero, List.set_cons_succ]
    refine wpAnyH_take (i := 1) (v := ?v1) rfl (by kernel_rfl) (by kernel_rfl) (by kernel_rfl) (fun _ _ _ h => h) (Or.inl ⟨by rfl, ?hy1⟩) hHeld ?rest1
    case hy1 => (intro W hSw; (try dsimp only at hSw); go_simp; all_goals (with_reducible rfl))
    change wpAnyH _ _ _ _ _ _ _ (Act.put _ (some 18) _) _
    simp only [Act.put, List.setIfInBounds_toArray, List.set_cons_zero, List.set_cons_succ]
    refine wpAnyH_take (i := 2) (v := ?v2) rfl (by kernel_rfl) (by kernel_rfl) (by kernel_rfl) (fun _ _ _ h => h) (Or.inl ⟨by rfl, ?hy2⟩) hHeld ?rest2
    case hy2 => (intro W hSw; (try dsimp only at hSw); go_simp; all_goals (with_reducible rfl))
    change wpAnyH _ _ _ _ _ _ _ (Act.put _ (some 19) _) _
    simp only [Act.put, List.setIfInBounds_toArray, List.set_cons_zero, List.set_cons_succ]
    refine wpAnyH_take (i := 5) (v := ?v5) rfl (by kernel_rfl) (by kernel_rfl) (by kernel_rfl) (fun _ _ _ h => h) (Or.inl ⟨by rfl, ?hy5⟩) hHeld ?rest5
    case hy5 => (intro W hSw; (try dsimp only at hSw); go_simp; all_goals (with_reducible rfl))
    change wpAnyH _ _ _ _ _ _ _ (Act.put _ (some 22) _) _
    simp only [Act.put, List.setIfInBounds_toArray, List.set_cons_zero, List.set_cons_succ]
    refine wpAnyH_take (i := 7) (v := ?v7) rfl (by kernel_rfl) (by kernel_rfl) (by kernel_rfl) (fun _ _ _ h => h) (Or.inl ⟨by rfl, ?hy7⟩) hHeld ?rest7
    case hy7 => (intro W hSw; (try dsimp only at hSw); go_simp; all_goals (with_reducible rfl))
    change wpAnyH _ _ _ _ _ _ _ (Act.put _ (some 24) _) _
    simp only [Act.put, List.setIfInBounds_toArray, List.set_cons_zero, List.set_cons_succ]
    refine wpAnyH_take (i := 11) (v := ?v11) rfl (by kernel_rfl) (by kernel_rfl) (by kernel_rfl) (fun _ _ _ h => h) (Or.inl ⟨by rfl, ?hy11⟩) hHeld ?rest11
    case hy11 => (intro W hSw; (try dsimp only at hSw); go_simp; all_goals (with_reducible rfl))
    change wpAnyH _ _ _ _ _ _ _ (Act.put _ (some 28) _) _
    simp only [Act.put, List.setIfInBounds_toArray, List.set_cons_zero, List.set_cons_succ]
    refine wpAnyH_take (i := 3) (v := ?v3) rfl (by kernel_rfl) (by kernel_rfl) (by kernel_rfl) (fun _ _ _ h => h) (Or.inl ⟨by rfl, ?hy3⟩) hHeld ?rest3
    case hy3 => (intro W hSw; (try dsimp only at hSw); go_simp; all_goals (with_reducible rfl))
    change wpAnyH _ _ _ _ _ _ _ (Act.put _ (some 20) _) _
    simp only [Act.put, List.setIfInBounds_toArray, List.set_cons_zero, List.set_cons_succ]
    refine wpAnyH_take (i := 8) (v := ?v8) rfl (by kernel_rfl) (by kernel_rfl) (by kernel_rfl) (fun _ _ _ h => h) (Or.inl ⟨by rfl, ?hy8⟩) hHeld ?rest8
    case hy8 => (intro W hSw; (try dsimp only at hSw); go_simp; all_goals (with_reducible rfl))
    change wpAnyH _ _ _ _ _ _ _ (Act.put _ (some 25) _) _
    simp only [Act.put, List.setIfInBounds_toArray, List.set_cons_zero, List.set_cons_succ]
    refine wpAnyH_take (i := 4) (v := ?v4) rfl (by kernel_rfl) (by kernel_rfl) (by kernel_rfl) (fun _ _ _ h => h) (Or.inl ⟨by rfl, ?hy4⟩) hHeld ?rest4
    case hy4 => (intro W hSw; (try dsimp only at hSw); go_simp; all_goals (with_reducible rfl))
    change wpAnyH _ _ _ _ _ _ _ (Act.put _ (some 21) _) _
    simp only [Act.put, List.setIfInBounds_toArray, List.set_cons_zero, List.set_cons_succ]
    refine wpAnyH_take (i := 9) (v := ?v9) rfl (by kernel_rfl) (by kernel_rfl) (by kernel_rfl) (fun _ _ _ h => h) (Or.inl ⟨by rfl, ?hy9⟩) hHeld ?rest9
    case hy9 => (intro W hSw; (try dsimp only at hSw); go_simp; all_goals (with_reducible rfl))
    change wpAnyH _ _ _ _ _ _ _ (Act.put _ (some 26) _) _
    simp only [Act.put, List.setIfInBounds_toArray, List.set_cons_zero, List.set_cons_succ]
    refine wpAnyH_take (i := 6) (v := ?v6) rfl (by kernel_rfl) (by kernel_rfl) (by kernel_rfl) (fun _ _ _ h => h) (Or.inl ⟨by rfl, ?hy6⟩) hHeld ?rest6
    case hy6 => (intro W hSw; (try dsimp only at hSw); go_simp; all_goals (with_reducible rfl))
    change wpAnyH _ _ _ _ _ _ _ (Act.put _ (some 23) _) _
    simp only [Act.put, List.setIfInBounds_toArray, List.set_cons_zero, List.set_cons_succ]
    refine wpAnyH_take (i := 10) (v := ?v10) rfl (by kernel_rfl) (by kernel_rfl) (by kernel_rfl) (fun _ _ _ h => h) (Or.inl ⟨by rfl, ?hy10⟩) hHeld ?rest10
    case hy10 => (intro W hSw; (try dsimp only at hSw); go_simp; all_goals (with_reducible rfl))
    change wpAnyH _ _ _ _ _ _ _ (Act.put _ (some 27) _) _
    simp only [Act.put, List.setIfInBounds_toArray, List.set_cons_zero, List.set_cons_succ]
    refine wpAnyH_ready (rs := [12]) (by kernel_rfl) (by simp) ?_
    refine AllReadyH.cons rfl (fun K hK => ?_) AllReadyH.nil
    try simp only [List.getElem_toArray, List.getElem_cons_succ, List.getElem_cons_zero]
    go_simp
    refine calls_args (low_reads _ lo R B bs p f (H.out.call ⟨_, rfl⟩).rd (by omega) _ ⟨?ok, ?no⟩) rfl
    case no => (intro er w1 hx hF; exact ⟨rfl, HQ.out.no er w1 (E.out.trans (then_err hx)) ((Fr.none _).join hF)⟩)
    intro x q w1 hx hR hF
    have hxb : x < 16777216 := by rw [(tkn_inv hx).2.1]; exact Nat.lt_of_lt_of_le (lowBits_lt _ _ _) (Nat.pow_le_pow_right (by decide) (by omega) : 2 ^ f ≤ 2 ^ 24)
    have Hx := hide hx
    have HN := hide ((H.out.call ⟨_, rfl⟩).next hR hF)
    have HF := hide hF
    clear hx hR hF
    refine hK.out _ _ HN.out.ptr (fun hHeld => ?_)
    clear hK K
    refine wpAnyH_take (i := 13) (v := ?v13) rfl (by kernel_rfl) (by kernel_rfl) (by kernel_rfl) (fun _ _ _ h => h) (Or.inl ⟨by rfl, ?hy13⟩) hHeld ?rest13
    case hy13 => (intro W hSw; (try dsimp only at hSw); go_simp; all_goals (with_reducible rfl))
    change wpAnyH _ _ _ _ _ _ _ (Act.put _ (some 30) _) _
    simp only [Act.put, List.setIfInBounds_toArray, List.set_cons_zero, List.set_cons_succ]
    refine wpAnyH_take (i := 14) (v := ?v14) rfl (by kernel_rfl) (by kernel_rfl) (by kernel_rfl) (fun _ _ _ h => h) (Or.inl ⟨by rfl, ?hy14⟩) hHeld ?rest14
    case hy14 => (intro W hSw; (try dsimp only at hSw); go_simp; all_goals (with_reducible rfl))
    change wpAnyH _ _ _ _ _ _ _ (Act.put _ (some 6) _) _
    simp only [Act.put, List.setIfInBounds_toArray, List.set_cons_zero, List.set_cons_succ]
    refine wpAnyH_done (by kernel_rfl) ?_ _
    go_wp2
    show Q (.returned (.int .i64 (IntKind.i64.wrap (IntKind.i64.wrap (IntKind.i64.wrap (4 + (t : Int)) * (P2 : Int)) + (x : Int))))) w1
    rw [wrap_i64_id (4 + (t : Int)) (by omega) (by omega), hXi, wrap_i64_id (X : Int) (by omega) (by omega), wrap_i64_id _ (by omega) (by omega), ← Int.natCast_add]
    exact HQ.out.ok _ _ _ (E.out.trans (then_ok Hx.out)) HN.out.rd ((Fr.none _).join HF.out)
set_option maxHeartbeats 1000000 in
set_option maxRecDepth 100000 in
theorem rung2_c (w : World) (lo R M B : Nat) (bs : List Nat) (p i : Nat) (h : Mi w lo R M B bs p) (hi : i ≤ 29) (Q : Ending → World → Prop) (hQ : Reads (rung i 2) lo R B bs p w Q) :
    Calls Tryz.prog 88 #[.pointer (some ⟨M, 0, none⟩), .int .i64 i, .int .i64 2] w Q := by
  have hp := h.ptr
  have H := hide h
  have HQ := hide hQ
  clear h hQ
  by_cases hs : i < 2 * 2
  · have hsi : (i : Int) < 4 := by omega
    go_enter Tryz.func88, Tryz.ntmps88
    go_wp2
    exact HQ.out.ok _ _ _ (by unfold rung; rw [if_pos hs]; rfl) H.out.rd (Fr.refl _ _)
  · have hsi : ¬ (i : Int) < 4 := by omega
    have E : Hid (rung i 2 (leNum bs) (8 * bs.length) p = andThen (tkn (i / 2 - 1)) (fun x => ret ((2 + i % 2) * 2 ^ (i / 2 - 1) + x)) (leNum bs) (8 * bs.length) p) := by
      show rung i 2 (leNum bs) (8 * bs.length) p = _
      unfold rung
      rw [if_neg hs]
    obtain ⟨f, hf⟩ : ∃ f, f = i / 2 - 1 := ⟨_, rfl⟩
    have hfi : ((i : Int) / 2) - 1 = (f : Int) := by omega
    have hf13 : f ≤ 13 := by omega
    obtain ⟨P2, hP2⟩ : ∃ P2, P2 = 2 ^ f := ⟨_, rfl⟩
    have hP3 : (2 : Int) ^ f = (P2 : Int) := by rw [hP2]; simp
    have hPb : P2 ≤ 8192 := by rw [hP2]; exact Nat.pow_le_pow_right (by decide) hf13
    obtain ⟨t, ht⟩ : ∃ t, t = i % 2 := ⟨_, rfl⟩
    have hti : (i : Int).tmod 2 = (t : Int) := by rw [Int.tmod_eq_emod_of_nonneg (by omega)]; omega
    have htb : t < 2 := by omega
    obtain ⟨X, hX⟩ : ∃ X, X = (2 + t) * P2 := ⟨_, rfl⟩
    have hXb : X ≤ 65536 := by
      rw [hX]
      exact Nat.le_trans (Nat.mul_le_mul (show 2 + t ≤ 8 by omega) hPb) (by decide)
    have hXi : ((2 : Int) + (t : Int)) * (P2 : Int) = (X : Int) := by rw [hX]; simp
    rw [← hf, ← ht, ← hP2, ← hX] at E
    have Hf := hide hf
    clear hf hs hX ht hP2
    go_enter Tryz.func88, Tryz.ntmps88
    go_wp2_with fail
    refine wp_region_held_drew (S := fun w' => w'.cell? ⟨M, 0, none⟩ = some (.pointer (some ⟨B, 0, none⟩))) (by kernel_rfl) (by go_keep) (fun hHeld => ?_)
    refine wpAnyH_take (i := 0) (v := ?v0) rfl (by kernel_rfl) (by kernel_rfl) (by kernel_rfl) (fun _ _ _ h => h) (Or.inl ⟨by rfl, ?hy0⟩) hHeld ?rest0
    case hy0 => (intro W hSw; (try dsimp only at hSw); go_simp; all_goals (with_reducible rfl))
    change wpAnyH _ _ _ _ _ _ _ (Act.put _ (some 17) _) _
    simp only [Act.put, List.setIfInBounds_toArray, List.set_cons_zero, List.set_cons_succ]
    refine wpAnyH_take (i := 1) (v := ?v1) rfl (by kernel_rfl) (by kernel_rfl) (by kernel_rfl) (fun _ _ _ h => h) (Or.inl ⟨by rfl, ?hy1⟩) hHeld ?rest1
    case hy1 => (intro W hSw; (try dsimp only at hSw); go_simp; all_goals (with_reducible rfl))
    change wpAnyH _ _ _ _ _ _ _ (Act.put _ (some 18) _) _
    simp only [Act.put, List.setIfInBounds_toArray, List.set_cons_zero, List.set_cons_succ]
    refine wpAnyH_take (i := 2) (v := ?v2) rfl (by kernel_rfl) (by kernel_rfl) (by kernel_rfl) (fun _ _ _ h => h) (Or.inl ⟨by rfl, ?hy2⟩) hHeld ?rest2
    case hy2 => (intro W hSw; (try dsimp only at hSw); go_simp; all_goals (with_reducible rfl))
    change wpAnyH _ _ _ _ _ _ _ (Act.put _ (some 19) _) _
    simp only [Act.put, List.setIfInBounds_toArray, List.set_cons_zero, List.set_cons_succ]
    refine wpAnyH_take (i := 5) (v := ?v5) rfl (by kernel_rfl) (by kernel_rfl) (by kernel_rfl) (fun _ _ _ h => h) (Or.inl ⟨by rfl, ?hy5⟩) hHeld ?rest5
    case hy5 => (intro W hSw; (try dsimp only at hSw); go_simp; all_goals (with_reducible rfl))
    change wpAnyH _ _ _ _ _ _ _ (Act.put _ (some 22) _) _
    simp only [Act.put, List.setIfInBounds_toArray, List.set_cons_zero, List.set_cons_succ]
    refine wpAnyH_take (i := 7) (v := ?v7) rfl (by kernel_rfl) (by kernel_rfl) (by kernel_rfl) (fun _ _ _ h => h) (Or.inl ⟨by rfl, ?hy7⟩) hHeld ?rest7
    case hy7 => (intro W hSw; (try dsimp only at hSw); go_simp; all_goals (with_reducible rfl))
    change wpAnyH _ _ _ _ _ _ _ (Act.put _ (some 24) _) _
    simp only [Act.put, List.setIfInBounds_toArray, List.set_cons_zero, List.set_cons_succ]
    refine wpAnyH_take (i := 11) (v := ?v11) rfl (by kernel_rfl) (by kernel_rfl) (by kernel_rfl) (fun _ _ _ h => h) (Or.inl ⟨by rfl, ?hy11⟩) hHeld ?rest11
    case hy11 => (intro W hSw; (try dsimp only at hSw); go_simp; all_goals (with_reducible rfl))
    change wpAnyH _ _ _ _ _ _ _ (Act.put _ (some 28) _) _
    simp only [Act.put, List.setIfInBounds_toArray, List.set_cons_zero, List.set_cons_succ]
    refine wpAnyH_take (i := 3) (v := ?v3) rfl (by kernel_rfl) (by kernel_rfl) (by kernel_rfl) (fun _ _ _ h => h) (Or.inl ⟨by rfl, ?hy3⟩) hHeld ?rest3
    case hy3 => (intro W hSw; (try dsimp only at hSw); go_simp; all_goals (with_reducible rfl))
    change wpAnyH _ _ _ _ _ _ _ (Act.put _ (some 20) _) _
    simp only [Act.put, List.setIfInBounds_toArray, List.set_cons_zero, List.set_cons_succ]
    refine wpAnyH_take (i := 8) (v := ?v8) rfl (by kernel_rfl) (by kernel_rfl) (by kernel_rfl) (fun _ _ _ h => h) (Or.inl ⟨by rfl, ?hy8⟩) hHeld ?rest8
    case hy8 => (intro W hSw; (try dsimp only at hSw); go_simp; all_goals (with_reducible rfl))
    change wpAnyH _ _ _ _ _ _ _ (Act.put _ (some 25) _) _
    simp only [Act.put, List.setIfInBounds_toArray, List.set_cons_zero, List.set_cons_succ]
    refine wpAnyH_take (i := 4) (v := ?v4) rfl (by kernel_rfl) (by kernel_rfl) (by kernel_rfl) (fun _ _ _ h => h) (Or.inl ⟨by rfl, ?hy4⟩) hHeld ?rest4
    case hy4 => (intro W hSw; (try dsimp only at hSw); go_simp; all_goals (with_reducible rfl))
    change wpAnyH _ _ _ _ _ _ _ (Act.put _ (some 21) _) _
    simp only [Act.put, List.setIfInBounds_toArray, List.set_cons_zero, List.set_cons_succ]
    refine wpAnyH_take (i := 9) (v := ?v9) rfl (by kernel_rfl) (by kernel_rfl) (by kernel_rfl) (fun _ _ _ h => h) (Or.inl ⟨by rfl, ?hy9⟩) hHeld ?rest9
    case hy9 => (intro W hSw; (try dsimp only at hSw); go_simp; all_goals (with_reducible rfl))
    change wpAnyH _ _ _ _ _ _ _ (Act.put _ (some 26) _) _
    simp only [Act.put, List.setIfInBounds_toArray, List.set_cons_zero, List.set_cons_succ]
    refine wpAnyH_take (i := 6) (v := ?v6) rfl (by kernel_rfl) (by kernel_rfl) (by kernel_rfl) (fun _ _ _ h => h) (Or.inl ⟨by rfl, ?hy6⟩) hHeld ?rest6
    case hy6 => (intro W hSw; (try dsimp only at hSw); go_simp; all_goals (with_reducible rfl))
    change wpAnyH _ _ _ _ _ _ _ (Act.put _ (some 23) _) _
    simp only [Act.put, List.setIfInBounds_toArray, List.set_cons_zero, List.set_cons_succ]
    refine wpAnyH_take (i := 10) (v := ?v10) rfl (by kernel_rfl) (by kernel_rfl) (by kernel_rfl) (fun _ _ _ h => h) (Or.inl ⟨by rfl, ?hy10⟩) hHeld ?rest10
    case hy10 => (intro W hSw; (try dsimp only at hSw); go_simp; all_goals (with_reducible rfl))
    change wpAnyH _ _ _ _ _ _ _ (Act.put _ (some 27) _) _
    simp only [Act.put, List.setIfInBounds_toArray, List.set_cons_zero, List.set_cons_succ]
    refine wpAnyH_ready (rs := [12]) (by kernel_rfl) (by simp) ?_
    refine AllReadyH.cons rfl (fun K hK => ?_) AllReadyH.nil
    try simp only [List.getElem_toArray, List.getElem_cons_succ, List.getElem_cons_zero]
    go_simp
    refine calls_args (low_reads _ lo R B bs p f (H.out.call ⟨_, rfl⟩).rd (by omega) _ ⟨?ok, ?no⟩) rfl
    case no => (intro er w1 hx hF; exact ⟨rfl, HQ.out.no er w1 (E.out.trans (then_err hx)) ((Fr.none _).join hF)⟩)
    intro x q w1 hx hR hF
    have hxb : x < 16777216 := by rw [(tkn_inv hx).2.1]; exact Nat.lt_of_lt_of_le (lowBits_lt _ _ _) (Nat.pow_le_pow_right (by decide) (by omega) : 2 ^ f ≤ 2 ^ 24)
    have Hx := hide hx
    have HN := hide ((H.out.call ⟨_, rfl⟩).next hR hF)
    have HF := hide hF
    clear hx hR hF
    refine hK.out _ _ HN.out.ptr (fun hHeld => ?_)
    clear hK K
    refine wpAnyH_take (i := 13) (v := ?v13) rfl (by kernel_rfl) (by kernel_rfl) (by kernel_rfl) (fun _ _ _ h => h) (Or.inl ⟨by rfl, ?hy13⟩) hHeld ?rest13
    case hy13 => (intro W hSw; (try dsimp only at hSw); go_simp; all_goals (with_reducible rfl))
    change wpAnyH _ _ _ _ _ _ _ (Act.put _ (some 30) _) _
    simp only [Act.put, List.setIfInBounds_toArray, List.set_cons_zero, List.set_cons_succ]
    refine wpAnyH_take (i := 14) (v := ?v14) rfl (by kernel_rfl) (by kernel_rfl) (by kernel_rfl) (fun _ _ _ h => h) (Or.inl ⟨by rfl, ?hy14⟩) hHeld ?rest14
    case hy14 => (intro W hSw; (try dsimp only at hSw); go_simp; all_goals (with_reducible rfl))
    change wpAnyH _ _ _ _ _ _ _ (Act.put _ (some 6) _) _
    simp only [Act.put, List.setIfInBounds_toArray, List.set_cons_zero, List.set_cons_succ]
    refine wpAnyH_done (by kernel_rfl) ?_ _
    go_wp2
    show Q (.returned (.int .i64 (IntKind.i64.wrap (IntKind.i64.wrap (IntKind.i64.wrap (2 + (t : Int)) * (P2 : Int)) + (x : Int))))) w1
    rw [wrap_i64_id (2 + (t : Int)) (by omega) (by omega), hXi, wrap_i64_id (X : Int) (by omega) (by omega), wrap_i64_id _ (by omega) (by omega), ← Int.natCast_add]
    exact HQ.out.ok _ _ _ (E.out.trans (then_ok Hx.out)) HN.out.rd ((Fr.none _).join HF.out)
theorem rung_le {i lot V L p x q : Nat} (hi : i ≤ 29) (h : rung i lot V L p = .ok (x, q)) (hl : lot = 4 ∨ lot = 2 := by omega) : x ≤ 1000000 := by
  unfold rung at h
  split at h
  · cases h; omega
  · obtain ⟨a, m, h1, h2⟩ := then_inv h
    have ha := (tkn_inv h1).2.1
    have hb := lowBits_lt V p (i / lot - 1)
    have hf : i / lot - 1 ≤ 13 := by rcases hl with rfl | rfl <;> omega
    have hp : (2:Nat) ^ (i / lot - 1) ≤ 8192 := Nat.pow_le_pow_right (by decide) hf
    have ht : lot + i % lot ≤ 8 := by rcases hl with rfl | rfl <;> omega
    have hm := Nat.mul_le_mul ht hp
    cases h2
    omega
end Go.Proofs.YtdpmpllbdoefdaaGreatDoor
namespace Go.Proofs.YtdpmpllbdoefdaaGreatDoor
open Go.RowKit
theorem xor_i64 (a b : Nat) (ha : a < 65536) (hb : b < 65536) : bits .xor .i64 (a : Int) (b : Int) = ((a ^^^ b : Nat) : Int) := by
  have e1 : (BitVec.ofInt 64 (a : Int)).toNat = a := by rw [BitVec.toNat_ofInt]; omega
  have e2 : (BitVec.ofInt 64 (b : Int)).toNat = b := by rw [BitVec.toNat_ofInt]; omega
  have e3 : (BitVec.ofInt 64 (a : Int) ^^^ BitVec.ofInt 64 (b : Int)).toNat = a ^^^ b := by
    rw [BitVec.toNat_xor, e1, e2]
  have e4 : bits .xor .i64 (a : Int) (b : Int) = IntKind.i64.wrap ((a ^^^ b : Nat) : Int) := by
    exact congrArg (fun n : Nat => IntKind.i64.wrap (n : Int)) e3
  have h : a ^^^ b < 2 ^ 16 := Nat.xor_lt_two_pow ha hb
  rw [e4, wrap_i64_id] <;> omega
theorem xor_all (a : Nat) (ha : a < 65536) : a ^^^ (65535 - a) = 65535 := by
  apply Nat.eq_of_testBit_eq
  intro i
  have h : 65535 - a = 2 ^ 16 - (a + 1) := by omega
  rw [Nat.testBit_xor, h, Nat.testBit_two_pow_sub_succ (by exact ha), show (65535 : Nat) = 2 ^ 16 - 1 from rfl, Nat.testBit_two_pow_sub_one]
  by_cases hi : i < 16
  · simp [hi]
  · have : a.testBit i = false := Nat.testBit_lt_two_pow (Nat.lt_of_lt_of_le ha (by exact Nat.pow_le_pow_right (by decide) (by omega) : 2 ^ 16 ≤ 2 ^ i))
    simp [hi, this]
theorem xor_iff (a b : Nat) (ha : a < 65536) : a ^^^ b = 65535 ↔ a + b = 65535 := by
  constructor
  · intro h
    have h2 := xor_all a ha
    have : b = 65535 - a := by
      have e : a ^^^ (a ^^^ b) = a ^^^ (a ^^^ (65535 - a)) := by rw [h, h2]
      rwa [← Nat.xor_assoc, ← Nat.xor_assoc, Nat.xor_self, Nat.zero_xor, Nat.zero_xor] at e
    omega
  · intro h
    rw [show b = 65535 - a by omega]
    exact xor_all a ha
set_option maxHeartbeats 1000000 in
set_option maxRecDepth 100000 in
theorem rlen_c (w : World) (lo R M B : Nat) (bs : List Nat) (p s : Nat) (h : Mi w lo R M B bs p) (hs : 257 ≤ s) (Q : Ending → World → Prop) (hQ : Reads (rlen s) lo R B bs p w Q) :
    Calls Tryz.prog 67 #[.pointer (some ⟨M, 0, none⟩), .int .i64 s] w Q := by
  have H := hide h
  have HQ := hide hQ
  clear h hQ
  by_cases h1 : 285 < s
  · have h1i : (285 : Int) < s := by omega
    go_enter Tryz.func67, Tryz.ntmps67
    go_wp2
    exact ⟨rfl, HQ.out.no 4 _ (by unfold rlen; rw [if_pos h1]; rfl) (Fr.refl _ _)⟩
  · by_cases h2 : s = 285
    · subst h2
      go_enter Tryz.func67, Tryz.ntmps67
      go_wp2
      exact HQ.out.ok 258 _ _ rfl H.out.rd (Fr.refl _ _)
    · have h1i : ¬ (285 : Int) < s := by omega
      have h2i : ¬ (s : Int) = 285 := by omega
      obtain ⟨i, hi⟩ : ∃ i, i = s - 257 := ⟨_, rfl⟩
      have hii : (s : Int) - 257 = (i : Int) := by omega
      have hib : i ≤ 29 := by omega
      have E : Hid (rlen s (leNum bs) (8 * bs.length) p = andThen (rung i 4) (fun x => ret (3 + x)) (leNum bs) (8 * bs.length) p) := by
        show rlen s (leNum bs) (8 * bs.length) p = _
        unfold rlen
        rw [if_neg h1, if_neg h2, hi]
      clear hi h1 h2
      go_enter Tryz.func67, Tryz.ntmps67
      go_wp2_with fail
      refine calls_args (rung4_c _ lo R M B bs p i H.out hib _ ⟨?ok1, ?no1⟩) rfl
      case no1 => (intro er w1 hx hF; exact ⟨rfl, HQ.out.no er w1 (E.out.trans (then_err hx)) hF⟩)
      intro x q w1 hx hR hF
      have hxb : x ≤ 1000000 := rung_le hib hx
      have Hx := hide hx
      have HR := hide hR
      have HF := hide hF
      clear hx hR hF
      go_wp2
      have := HQ.out.ok (3 + x) _ _ (E.out.trans (then_ok Hx.out)) HR.out HF.out
      simpa using this
set_option maxHeartbeats 1000000 in
set_option maxRecDepth 100000 in
theorem storedHead_c (w : World) (lo R M B : Nat) (bs : List Nat) (p : Nat) (h : Mi w lo R M B bs p) (Q : Ending → World → Prop) (hQ : Reads storedHead lo R B bs p w Q) :
    Calls Tryz.prog 70 #[.pointer (some ⟨M, 0, none⟩)] w Q := by
  have hp := h.ptr
  have H := hide h
  have HQ := hide hQ
  clear h hQ
  have E : Hid (storedHead (leNum bs) (8 * bs.length) p = andThen (tkn 16) (fun n => andThen (tkn 16) fun m => if n + m = 65535 then ret n else bad 4) (leNum bs) (8 * bs.length) ((p + 7) / 8 * 8)) := rfl
  go_enter Tryz.func70, Tryz.ntmps70
  go_wp2_with fail
  refine (align_c w lo R B bs p H.out.rd).mono ?_
  rintro e w1 ⟨rfl, hR1, hF1⟩
  have H1 := hide (H.out.next hR1 hF1)
  have HF1 := hide hF1
  have hp1 := H1.out.ptr
  clear hR1 hF1 hp
  generalize (p + 7) / 8 * 8 = p1 at *
  go_wp2_with fail
  refine calls_args (low_reads _ lo R B bs p1 16 H1.out.rd (by omega) _ ⟨?ok2, ?no2⟩) rfl
  case no2 => (intro er w2 hx hF; exact ⟨rfl, HQ.out.no er w2 (E.out.trans (then_err hx)) (HF1.out.join hF)⟩)
  intro n p2 w2 hx hR2 hF2
  have hn : n < 65536 := tkn_lt hx
  have E2 := hide (E.out.trans (then_ok hx))
  have H2 := hide (H1.out.next hR2 hF2)
  have HF2 := hide (HF1.out.join hF2)
  have hp2 := H2.out.ptr
  clear hx hR2 hF2 hp1
  go_wp2_with fail
  refine calls_args (low_reads _ lo R B bs p2 16 H2.out.rd (by omega) _ ⟨?ok3, ?no3⟩) rfl
  case no3 => (intro er w3 hx hF; exact ⟨rfl, HQ.out.no er w3 (E2.out.trans (then_err hx)) (HF2.out.join hF)⟩)
  intro m p3 w3 hx hR3 hF3
  have hm : m < 65536 := tkn_lt hx
  have E3 := hide (E2.out.trans (then_ok hx))
  have HR3 := hide hR3
  have HF3 := hide (HF2.out.join hF3)
  have hxor := xor_i64 n m hn hm
  obtain ⟨X, hX⟩ : ∃ X, X = n ^^^ m := ⟨_, rfl⟩
  rw [← hX] at hxor
  have Hiff : Hid (X = 65535 ↔ n + m = 65535) := by rw [hX]; exact xor_iff n m hn
  clear hx hR3 hF3 hp2 hX
  by_cases hq : X = 65535
  · have hqi : ((X : Int) == 65535) = true := by simp [hq]
    have hqj : (X : Int) = 65535 := by omega
    have E4 := E3.out
    rw [if_pos (Hiff.out.1 hq)] at E4
    have HE4 := hide E4
    clear E4 hq
    go_wp2
    exact HQ.out.ok n _ _ HE4.out HR3.out HF3.out
  · have hqi : ((X : Int) == 65535) = false := beq_false_of_ne (by omega)
    have hqj : ¬ (X : Int) = 65535 := by omega
    have E4 := E3.out
    rw [if_neg (fun h => hq (Hiff.out.2 h))] at E4
    have HE4 := hide E4
    clear E4 hq
    go_wp2
    exact ⟨rfl, HQ.out.no 4 _ HE4.out HF3.out⟩
set_option maxHeartbeats 1000000 in
set_option maxRecDepth 100000 in
theorem rdist_c (w : World) (lo R M B : Nat) (bs : List Nat) (p : Nat) (h : Mi w lo R M B bs p) (D clo chi : Nat) (dl : List Int) (hd : w.cell? ⟨M, 8, none⟩ = some (.pointer (some ⟨D, 0, none⟩))) (hC : Cd w clo chi D dl) (hRc : R ≤ clo)
    (oa : Option Addr) (o oc : Nat) (ho : w.cell? ⟨M, 11, none⟩ = some (.slice oa o oc)) (Q : Ending → World → Prop) (hQ : Reads (rdist dl o) lo R B bs p w Q) :
    Calls Tryz.prog 68 #[.pointer (some ⟨M, 0, none⟩)] w Q := by
  have hp := h.ptr
  have H := hide h
  have HC := hide hC
  have Hap : Hid (chi ≤ B ∨ B < clo) := Or.inr (by have := h.rd.ehi; omega)
  have HQ := hide hQ
  have Ho : Hid (∀ w', Fr (fun k => k = B) w w' → w'.cell? ⟨M, 11, none⟩ = some (.slice oa o oc)) := by
    intro w' hF
    rw [cell_blk (hF.block M (cell_lt ho) h.ne)]
    exact ho
  have Hp : Hid (∀ w', Fr (fun k => k = B) w w' → w'.cell? ⟨M, 0, none⟩ = some (.pointer (some ⟨B, 0, none⟩)) ∧ w'.cell? ⟨M, 8, none⟩ = some (.pointer (some ⟨D, 0, none⟩))) := by
    intro w' hF
    rw [cell_blk (a := ⟨M, 0, none⟩) (hF.block M (cell_lt hp) h.ne), cell_blk (a := ⟨M, 8, none⟩) (hF.block M (cell_lt hd) h.ne)]
    exact ⟨hp, hd⟩
  have E : Hid (rdist dl o (leNum bs) (8 * bs.length) p = andThen (tk dl) (fun s => if 30 ≤ s then bad 4 else andThen (rung s 2) fun x => if o < 1 + x then bad 4 else ret (1 + x)) (leNum bs) (8 * bs.length) p) := rfl
  clear h hC hQ ho hRc
  go_enter Tryz.func68, Tryz.ntmps68
  go_wp2_with fail
  refine wp_region_held_drew (S := fun w' => w'.cell? ⟨M, 0, none⟩ = some (.pointer (some ⟨B, 0, none⟩)) ∧ w'.cell? ⟨M, 8, none⟩ = some (.pointer (some ⟨D, 0, none⟩))) (by kernel_rfl) (by exact Hp.out _ (Fr.none _)) (fun hHeld => ?_)
  refine wpAnyH_take (i := 0) (v := ?v0) rfl (by kernel_rfl) (by kernel_rfl) (by kernel_rfl) (fun _ _ _ h => h) (Or.inl ⟨by rfl, ?hy0⟩) hHeld ?rest0
  case hy0 => (intro W hSw; (try dsimp only at hSw); obtain ⟨s1, s2⟩ := hSw; go_simp; all_goals (with_reducible rfl))
  change wpAnyH _ _ _ _ _ _ _ (Act.put _ (some 5) _) _
  simp only [Act.put, List.setIfInBounds_toArray, List.set_cons_zero, List.set_cons_succ]
  refine wpAnyH_take (i := 5) (v := ?v5) rfl (by kernel_rfl) (by kernel_rfl) (by kernel_rfl) (fun _ _ _ h => h) (Or.inl ⟨by rfl, ?hy5⟩) hHeld ?rest5
  case hy5 => (intro W hSw; (try dsimp only at hSw); obtain ⟨s1, s2⟩ := hSw; go_simp; all_goals (with_reducible rfl))
  change wpAnyH _ _ _ _ _ _ _ (Act.put _ (some 10) _) _
  simp only [Act.put, List.setIfInBounds_toArray, List.set_cons_zero, List.set_cons_succ]
  refine wpAnyH_take (i := 1) (v := ?v1) rfl (by kernel_rfl) (by kernel_rfl) (by kernel_rfl) (fun _ _ _ h => h) (Or.inl ⟨by rfl, ?hy1⟩) hHeld ?rest1
  case hy1 => (intro W hSw; (try dsimp only at hSw); obtain ⟨s1, s2⟩ := hSw; go_simp; all_goals (with_reducible rfl))
  change wpAnyH _ _ _ _ _ _ _ (Act.put _ (some 6) _) _
  simp only [Act.put, List.setIfInBounds_toArray, List.set_cons_zero, List.set_cons_succ]
  refine wpAnyH_take (i := 6) (v := ?v6) rfl (by kernel_rfl) (by kernel_rfl) (by kernel_rfl) (fun _ _ _ h => h) (Or.inl ⟨by rfl, ?hy6⟩) hHeld ?rest6
  case hy6 => (intro W hSw; (try dsimp only at hSw); obtain ⟨s1, s2⟩ := hSw; go_simp; all_goals (with_reducible rfl))
  change wpAnyH _ _ _ _ _ _ _ (Act.put _ (some 11) _) _
  simp only [Act.put, List.setIfInBounds_toArray, List.set_cons_zero, List.set_cons_succ]
  refine wpAnyH_take (i := 2) (v := ?v2) rfl (by kernel_rfl) (by kernel_rfl) (by kernel_rfl) (fun _ _ _ h => h) (Or.inl ⟨by rfl, ?hy2⟩) hHeld ?rest2
  case hy2 => (intro W hSw; (try dsimp only at hSw); obtain ⟨s1, s2⟩ := hSw; go_simp; all_goals (with_reducible rfl))
  change wpAnyH _ _ _ _ _ _ _ (Act.put _ (some 7) _) _
  simp only [Act.put, List.setIfInBounds_toArray, List.set_cons_zero, List.set_cons_succ]
  refine wpAnyH_take (i := 7) (v := ?v7) rfl (by kernel_rfl) (by kernel_rfl) (by kernel_rfl) (fun _ _ _ h => h) (Or.inl ⟨by rfl, ?hy7⟩) hHeld ?rest7
  case hy7 => (intro W hSw; (try dsimp only at hSw); obtain ⟨s1, s2⟩ := hSw; go_simp; all_goals (with_reducible rfl))
  change wpAnyH _ _ _ _ _ _ _ (Act.put _ (some 12) _) _
  simp only [Act.put, List.setIfInBounds_toArray, List.set_cons_zero, List.set_cons_succ]
  refine wpAnyH_take (i := 3) (v := ?v3) rfl (by kernel_rfl) (by kernel_rfl) (by kernel_rfl) (fun _ _ _ h => h) (Or.inl ⟨by rfl, ?hy3⟩) hHeld ?rest3
  case hy3 => (intro W hSw; (try dsimp only at hSw); obtain ⟨s1, s2⟩ := hSw; go_simp; all_goals (with_reducible rfl))
  change wpAnyH _ _ _ _ _ _ _ (Act.put _ (some 8) _) _
  simp only [Act.put, List.setIfInBounds_toArray, List.set_cons_zero, List.set_cons_succ]
  refine wpAnyH_take (i := 8) (v := ?v8) rfl (by kernel_rfl) (by kernel_rfl) (by kernel_rfl) (fun _ _ _ h => h) (Or.inl ⟨by rfl, ?hy8⟩) hHeld ?rest8
  case hy8 => (intro W hSw; (try dsimp only at hSw); obtain ⟨s1, s2⟩ := hSw; go_simp; all_goals (with_reducible rfl))
  change wpAnyH _ _ _ _ _ _ _ (Act.put _ (some 13) _) _
  simp only [Act.put, List.setIfInBounds_toArray, List.set_cons_zero, List.set_cons_succ]
  refine wpAnyH_take (i := 4) (v := ?v4) rfl (by kernel_rfl) (by kernel_rfl) (by kernel_rfl) (fun _ _ _ h => h) (Or.inl ⟨by rfl, ?hy4⟩) hHeld ?rest4
  case hy4 => (intro W hSw; (try dsimp only at hSw); obtain ⟨s1, s2⟩ := hSw; go_simp; all_goals (with_reducible rfl))
  change wpAnyH _ _ _ _ _ _ _ (Act.put _ (some 9) _) _
  simp only [Act.put, List.setIfInBounds_toArray, List.set_cons_zero, List.set_cons_succ]
  refine wpAnyH_ready (rs := [9]) (by kernel_rfl) (by simp) ?_
  refine AllReadyH.cons rfl (fun K hK => ?_) AllReadyH.nil
  try simp only [List.getElem_toArray, List.getElem_cons_succ, List.getElem_cons_zero]
  go_simp
  refine calls_args (take_E clo chi D lo R B dl bs p _ (HC.out.keep (Fr.none (S := fun _ => False) _) (fun _ _ _ h => h)) (H.out.call ⟨_, rfl⟩).rd Hap.out _ ⟨?ok4, ?no4⟩) rfl
  case no4 => (intro er w1 hx hF; exact ⟨rfl, HQ.out.no er w1 (E.out.trans (then_err hx)) ((Fr.none _).join hF)⟩)
  intro s q w1 hx hR hF
  have E1 := hide (E.out.trans (then_ok hx))
  have H1 := hide ((H.out.call ⟨_, rfl⟩).next hR hF)
  have HF1 := hide ((Fr.none (S := fun k => k = B) _).join hF)
  clear hx hR hF
  refine hK.out _ _ (Hp.out _ HF1.out) (fun hHeld => ?_)
  clear hK K
  refine wpAnyH_take (i := 10) (v := ?v10) rfl (by kernel_rfl) (by kernel_rfl) (by kernel_rfl) (fun _ _ _ h => h) (Or.inl ⟨by rfl, ?hy10⟩) hHeld ?rest10
  case hy10 => (intro W hSw; (try dsimp only at hSw); obtain ⟨s1, s2⟩ := hSw; go_simp; all_goals (with_reducible rfl))
  change wpAnyH _ _ _ _ _ _ _ (Act.put _ (some 3) _) _
  simp only [Act.put, List.setIfInBounds_toArray, List.set_cons_zero, List.set_cons_succ]
  refine wpAnyH_done (by kernel_rfl) ?_ _
  by_cases hs : 30 ≤ s
  · have hsi : (30 : Int) ≤ s := by omega
    have E2 := E1.out
    rw [if_pos hs] at E2
    have HE2 := hide E2
    clear E2 hs
    go_wp2
    exact ⟨rfl, HQ.out.no 4 _ HE2.out HF1.out⟩
  · have hsi : ¬ (30 : Int) ≤ s := by omega
    have E2 := E1.out
    rw [if_neg hs] at E2
    have HE2 := hide E2
    have hsb : s ≤ 29 := by omega
    clear E2 hs
    go_wp2_with fail
    refine calls_args (rung2_c _ lo R M B bs q s H1.out hsb _ ⟨?ok5, ?no5⟩) rfl
    case no5 => (intro er w2 hx hF; exact ⟨rfl, HQ.out.no er w2 (HE2.out.trans (then_err hx)) (HF1.out.join hF)⟩)
    intro x q2 w2 hx hR hF
    have hxb : x ≤ 1000000 := rung_le hsb hx
    have E3 := (HE2.out.trans (then_ok hx))
    have HR2 := hide hR
    have HF2 := hide (HF1.out.join hF)
    have ho2 := Ho.out _ HF2.out
    clear hx hR hF
    by_cases hq : o < 1 + x
    · have hqi : (o : Int) < 1 + x := by omega
      rw [if_pos hq] at E3
      have HE3 := hide E3
      clear E3 hq
      go_wp2
      exact ⟨rfl, HQ.out.no 4 _ HE3.out HF2.out⟩
    · have hqi : ¬ (o : Int) < 1 + x := by omega
      rw [if_neg hq] at E3
      have HE3 := hide E3
      clear E3 hq
      go_wp2
      have := HQ.out.ok (1 + x) _ _ HE3.out HR2.out HF2.out
      simpa using this
theorem rlen_le {s V L p n q : Nat} (h : rlen s V L p = .ok (n, q)) : 1 ≤ n ∧ n ≤ 1000003 := by
  unfold rlen at h
  split at h
  · cases h
  split at h
  · cases h; omega
  · obtain ⟨a, m, h1, h2⟩ := then_inv h
    have := rung_le (by omega) h1
    cases h2
    omega
theorem rdist_le {dl : List Int} {o V L p d q : Nat} (h : rdist dl o V L p = .ok (d, q)) : 1 ≤ d ∧ d ≤ o := by
  obtain ⟨s, m, h1, h2⟩ := then_inv h
  split at h2
  · cases h2
  · obtain ⟨x, m2, h3, h4⟩ := then_inv h2
    split at h4
    · cases h4
    · cases h4; omega
theorem storedHead_le {V L p n q : Nat} (h : storedHead V L p = .ok (n, q)) : n ≤ 65535 := by
  obtain ⟨_, m0, h1, h2⟩ := then_inv h
  obtain ⟨a, m1, h3, h4⟩ := then_inv h2
  obtain ⟨b, m2, h5, h6⟩ := then_inv h4
  split at h6
  · cases h6; omega
  · cases h6
end Go.Proofs.YtdpmpllbdoefdaaGreatDoor
namespace Go.Proofs.YtdpmpllbdoefdaaGreatDoor
open Go.RowKit
abbrev mcells (B : Nat) (n : Nat) (mst plc : Int) (lst : Bool) (lf bk : Int) (b1 b2 f1 f2 ov : Value) : Array Value :=
  #[.pointer (some ⟨B, 0, none⟩), .int .i64 (n : Int), .int .i64 mst, .int .i64 plc, .bool lst, .int .i64 lf, .int .i64 bk, b1, b2, f1, f2, ov, .int .i64 0, .int .i64 0, .bool false]
structure Mo (w : World) (lo R M B : Nat) (bs : List Nat) (p : Nat) (mst plc : Int) (lst : Bool) (lf bk : Int) (b1 b2 f1 f2 ov : Value) (out : List Nat) : Prop where
  rd : Rm w lo R B bs p
  hM : R ≤ M
  obj : w.heap[M]? = some (.cells (mcells B bs.length mst plc lst lf bk b1 b2 f1 f2 ov) 78 (0, 0))
  own : w.ownsRow R 5 1 ov out.length (cellsOf out)
  oM : ∀ g, ov.ownBlock = some g → g ≠ M
section
variable {w w' : World} {lo R M B : Nat} {bs : List Nat} {p : Nat} {mst plc : Int} {lst : Bool} {lf bk : Int} {b1 b2 f1 f2 ov : Value} {out : List Nat}
theorem Mo.mi (h : Mo w lo R M B bs p mst plc lst lf bk b1 b2 f1 f2 ov out) : Mi w lo R M B bs p := ⟨h.rd, h.hM, cell_of h.obj rfl⟩
theorem Mo.ltM (h : Mo w lo R M B bs p mst plc lst lf bk b1 b2 f1 f2 ov out) : M < w.heap.size := lt_of h.obj
theorem Mo.next (h : Mo w lo R M B bs p mst plc lst lf bk b1 b2 f1 f2 ov out) {q : Nat} (hr : Rm w' lo R B bs q) (hF : Fr (fun k => k = B) w w') : Mo w' lo R M B bs q mst plc lst lf bk b1 b2 f1 f2 ov out := by
  have hne := h.mi.ne
  have hB := h.rd.ehi
  refine ⟨hr, h.hM, by rw [hF.block M h.ltM hne]; exact h.obj, ownsRow_fr h.own fun k hk => hF.block k (h.own.lt k hk).2 (fun e => ?_), h.oM⟩
  have := (h.own.lt k hk).1
  omega
theorem Mo.keep (h : Mo w lo R M B bs p mst plc lst lf bk b1 b2 f1 f2 ov out) {S : Nat → Prop} (hF : Fr S w w') (hS : ∀ k, k < R ∨ k = M ∨ ov.ownBlock = some k → ¬ S k) : Mo w' lo R M B bs p mst plc lst lf bk b1 b2 f1 f2 ov out :=
  ⟨h.rd.keep hF (fun k _ h2 => hS k (Or.inl h2)), h.hM, by rw [hF.block M h.ltM (hS M (Or.inr (Or.inl rfl)))]; exact h.obj,
    ownsRow_fr h.own fun k hk => hF.block k (h.own.lt k hk).2 (hS k (Or.inr (Or.inr hk))), h.oM⟩
theorem Mo.drewN (h : Mo w lo R M B bs p mst plc lst lf bk b1 b2 f1 f2 ov out) (k : Nat) : Mo (w.drewN k) lo R M B bs p mst plc lst lf bk b1 b2 f1 f2 ov out :=
  h.keep (Fr.of_drewN w k) (fun _ _ h => h)
theorem Mo.turn (h : Mo w lo R M B bs p mst plc lst lf bk b1 b2 f1 f2 ov out) {plc' : Int} {lst' : Bool} {lf' bk' : Int} {b1' b2' f1' f2' : Value} (hF : Fr (fun k => k = M) w w')
    (ho : w'.heap[M]? = some (.cells (mcells B bs.length mst plc' lst' lf' bk' b1' b2' f1' f2' ov) 78 (0, 0))) : Mo w' lo R M B bs p mst plc' lst' lf' bk' b1' b2' f1' f2' ov out := by
  have hM := h.hM
  refine ⟨h.rd.keep hF (fun k _ h2 e => by omega), h.hM, ho, ownsRow_fr h.own fun k hk => hF.block k (h.own.lt k hk).2 (h.oM k hk), h.oM⟩
end
theorem cell_one_new (w : World) (v : Value) (t : TypeId) : ∀ (j : Nat) (u : Value), [v][j]? = some u → (w.alloc (.cells #[v] t)).cell? ((⟨w.heap.size, 0, none⟩ : Addr).add j) = some u := by
  intro j u hu
  rcases j with _ | j
  · rw [add_none]
    simpa using hu
  · simp at hu
set_option maxHeartbeats 1000000 in
set_option maxRecDepth 100000 in
theorem put_c (w : World) (lo R M B : Nat) (bs : List Nat) (p : Nat) (mst plc : Int) (lst : Bool) (lf bk : Int) (b1 b2 f1 f2 ov : Value) (out : List Nat) (h : Mo w lo R M B bs p mst plc lst lf bk b1 b2 f1 f2 ov out) (b : Nat) (hol : out.length ≤ 2147483648)
    (Q : Ending → World → Prop) (hfull : mst ≤ out.length → ∀ w', Fr (fun _ => False) w w' → Q (errPanic 6) w')
    (hput : (out.length : Int) < mst → ∀ ov' w', Mo w' lo R M B bs p mst plc lst lf bk b1 b2 f1 f2 ov' (out ++ [b]) → Fr (fun k => k = M ∨ ov.ownBlock = some k) w w' → (∀ g, ov'.ownBlock = some g → ov.ownBlock = some g ∨ w.heap.size ≤ g) → Q (.returned (.tuple #[])) w') :
    Calls Tryz.prog 64 #[.pointer (some ⟨M, 0, none⟩), .int .u8 b] w Q := by
  obtain ⟨i0, hi, hz0, hz1, hz2⟩ := info_parts Tryz.info5
  obtain ⟨oa, oc, rfl⟩ := ownsRow_shape h.own
  obtain ⟨o, ho⟩ : ∃ o, o = out.length := ⟨_, rfl⟩
  have H := hide h
  have Hfull := hide hfull
  have Hput := hide hput
  have q11 : w.cell? ⟨M, 11, none⟩ = some (.slice oa out.length oc) := cell_of h.obj rfl
  have q2 : w.cell? ⟨M, 2, none⟩ = some (.int .i64 mst) := cell_of h.obj rfl
  rw [← ho] at q11
  have hol' : o ≤ 2147483648 := by omega
  have Ho : Hid (o = out.length) := ho
  clear h hfull hput hol ho
  go_enter Tryz.func64, Tryz.ntmps64
  go_wp2_with fail
  by_cases hm : mst ≤ o
  · have hmd : decide (mst ≤ (o : Int)) = true := by simpa using hm
    go_quiet (fail)
    go_wp2
    exact ⟨rfl, Hfull.out (by rw [← Ho.out]; exact hm) _ (Fr.of_drewN _ _)⟩
  · have hmd : decide (mst ≤ (o : Int)) = false := by simpa using hm
    go_quiet (fail)
    have H0 := hide (H.out.drewN nq)
    have HF0 : Hid (Fr (fun _ => False) w (w.drewN nq)) := Fr.of_drewN w nq
    have hsz0 : Hid ((w.drewN nq).heap.size = w.heap.size) := rfl
    have q11' : (w.drewN nq).cell? ⟨M, 11, none⟩ = some (.slice oa o oc) := q11
    clear q11 q2
    generalize w.drewN nq = w0 at *
    have hown := H0.out.own
    rw [← Ho.out] at hown
    have hR0 : R ≤ w0.heap.size := by have := H0.out.ltM; have := H0.out.hM; omega
    have Hown := hide hown
    clear hown
    go_wp2_with (at_builtin; go_must (refine wpList_append_lies _ rfl _ _ 22 rfl R 5 i0 (.int .u8 0) 1 1 Tryz.underlying22 hi hz0 hz1 hz2 rfl (by decide) (.slice oa o oc) o (cellsOf out) rfl (Hown.out.alloc _) ⟨w0.heap.size, 0, none⟩ 1 1 [.int .u8 (b : Int)] rfl rfl (cell_one_new _ _ _) (fun x hx => by simp at hx; subst hx; rfl) (by decide) (by unfold maxLen; omega) (by omega) (by simp; omega) (w0.heap.size + 1) (by simp) ?_); intro g cap w1 hown1 hgrow hat hlt
                 have hb1 := (hgrow.block M (by have := H0.out.ltM; simp; omega) (fun e => H0.out.oM M (by rw [← Ho.out]; exact e.symm) rfl)).trans ((Below.heap_alloc _ _ _ H0.out.ltM).trans H0.out.obj)
                 have z11 := frozen_of (o := 11) hb1
                 have c11 := cell_of (o := 11) hb1 rfl
                 have Hb1 := hide hb1
                 have Hown1 := hide hown1
                 have Hgrow := hide hgrow
                 have Hat := hide hat
                 have Hlt := hide hlt
                 clear hown1 hgrow hat hlt hb1)
    go_end0
    have f1' : Fr (fun k => (Value.slice oa o oc).ownBlock = some k) (w0.alloc (.cells #[.int .u8 (b : Int)] 5)) w1 := ⟨Hgrow.out.os, Hgrow.out.tape, Hgrow.out.output, Hgrow.out.size, fun k hk hn => Hgrow.out.block k hk (fun e => hn e.symm)⟩
    have f2' : Fr (fun k => (Value.slice oa o oc).ownBlock = some k) w0 w1 := ((Fr.of_alloc w0 _).trans f1').mono fun k _ h => h.elim (fun x => x.elim) id
    have hgM : g ≠ M := by
      rcases Hat.out with h | h
      · exact H0.out.oM g (by rw [← Ho.out]; exact h)
      · have := H0.out.ltM; omega
    have hB := H0.out.rd.ehi
    have hMR := H0.out.hM
    have fall := f2'.trans (Fr.of_setCell w1 ⟨M, 11, none⟩ (.slice (some ⟨g, 0, none⟩) (o + 1) cap))
    refine Hput.out (by rw [← Ho.out]; omega) _ _ ⟨H0.out.rd.keep fall (fun k _ h2 e => ?_), hMR, heap_set _ Hb1.out, ?_, ?_⟩ (HF0.out.trans fall |>.mono fun k _ h => ?_) ?_
    · rcases e with e | e
      · have := (H0.out.own.lt k (by rw [← Ho.out]; exact e)).1; omega
      · simp at e; omega
    · have e : (out ++ [b]).length = o + 1 := by simp [Ho.out]
      rw [e]
      refine ownsRow_fr (by simpa [cellsOf] using Hown1.out) fun k hk => Below.heap_setCell _ _ _ _ ?_
      simp [Value.ownBlock] at hk
      show k ≠ M
      omega
    · intro g' hg'
      simp [Value.ownBlock] at hg'
      omega
    · rcases h with h | h | h
      · exact h.elim
      · exact Or.inr (by rw [← Ho.out]; exact h)
      · exact Or.inl h
    · intro g' hg'
      simp [Value.ownBlock] at hg'
      subst hg'
      rcases Hat.out with h | h
      · exact Or.inl (by rw [← Ho.out]; exact h)
      · have := hsz0.out; exact Or.inr (by omega)
end Go.Proofs.YtdpmpllbdoefdaaGreatDoor
namespace Go.Proofs.YtdpmpllbdoefdaaGreatDoor
open Go.RowKit
def CodeAt (w : World) (R M : Nat) (ov v : Value) (ls : List Int) : Prop :=
  ∃ C clo chi, v = .pointer (some ⟨C, 0, none⟩) ∧ R ≤ clo ∧ Cd w clo chi C ls ∧ (M < clo ∨ chi ≤ M) ∧ ∀ g, ov.ownBlock = some g → g < clo ∨ chi ≤ g
theorem CodeAt.keep {w w' : World} {R M : Nat} {ov v : Value} {ls : List Int} (h : CodeAt w R M ov v ls) {S : Nat → Prop} (hF : Fr S w w') (hS : ∀ k, S k → k < R ∨ k = M ∨ ov.ownBlock = some k) : CodeAt w' R M ov v ls := by
  obtain ⟨C, clo, chi, h1, h2, h3, h4, h5⟩ := h
  refine ⟨C, clo, chi, h1, h2, h3.keep hF (fun k a b e => ?_), h4, h5⟩
  rcases hS k e with h | h | h
  · omega
  · omega
  · have := h5 k h; omega
theorem CodeAt.put {w w' : World} {R M : Nat} {ov ov' v : Value} {ls : List Int} (h : CodeAt w R M ov v ls) (hF : Fr (fun k => k = M ∨ ov.ownBlock = some k) w w') (ho : ∀ g, ov'.ownBlock = some g → ov.ownBlock = some g ∨ w.heap.size ≤ g) : CodeAt w' R M ov' v ls := by
  obtain ⟨C, clo, chi, h1, h2, h3, h4, h5⟩ := h.keep hF (fun k e => Or.inr e)
  obtain ⟨C', clo', chi', h1', h2', h3', h4', h5'⟩ := h
  refine ⟨C', clo', chi', h1', h2', ?_, h4', fun g hg => ?_⟩
  · refine h3'.keep hF (fun k a b e => ?_)
    rcases e with h | h
    · omega
    · have := h5' k h; omega
  · rcases ho g hg with h | h
    · exact h5' g h
    · have := h3'.esz; omega
def plv : Pl → Int
  | .ahead => 0
  | .stored _ => 1
  | .coded _ _ => 2
  | .row _ _ _ _ => 3
def PlOk (w : World) (R M : Nat) (ov : Value) (o : Nat) (lf bk : Int) (b1 b2 : Value) : Pl → Prop
  | .ahead => True
  | .stored n => lf = (n : Int) ∧ n ≤ 65535
  | .coded ll dl => CodeAt w R M ov b1 ll ∧ CodeAt w R M ov b2 dl
  | .row n d ll dl => lf = (n : Int) ∧ bk = (d : Int) ∧ 1 ≤ n ∧ n ≤ 1000003 ∧ 1 ≤ d ∧ d ≤ o ∧ CodeAt w R M ov b1 ll ∧ CodeAt w R M ov b2 dl
def FixOk (w : World) (R M : Nat) (ov f1 f2 : Value) : Prop := f1 = .pointer none ∨ (CodeAt w R M ov f1 fixL ∧ CodeAt w R M ov f2 fixD)
def Mx (w : World) (lo R M B : Nat) (bs : List Nat) (most : Nat) (s : St) : Prop :=
  ∃ lf bk b1 b2 f1 f2 ov, Mo w lo R M B bs s.p most (plv s.pl) s.last lf bk b1 b2 f1 f2 ov s.out ∧ PlOk w R M ov s.out.length lf bk b1 b2 s.pl ∧ FixOk w R M ov f1 f2 ∧ (∀ x ∈ s.out, x < 256) ∧ s.out.length ≤ most
structure Mf (w : World) (M : Nat) (out : List Nat) (used : Nat) (er : Nat) : Prop where
  obj : ∃ ov, w.heap[M]? = some (.cells #[.pointer none, .int .i64 0, .int .i64 0, .int .i64 0, .bool false, .int .i64 0, .int .i64 0, .pointer none, .pointer none, .pointer none, .pointer none, ov, .int .i64 (used : Int), .int .i64 (er : Int), .bool true] 78 (0, 0)) ∧ (∃ R, w.ownsRow R 5 1 ov out.length (cellsOf out)) ∧ ∀ g, ov.ownBlock = some g → g ≠ M
def MdI (w : World) (M : Nat) : Prop := ∃ cs : Array Value, w.heap[M]? = some (.cells cs 78 (0, 0)) ∧ cs.size = 15
def Sm (M B : Nat) (w : World) (k : Nat) : Prop := k = B ∨ k = M ∨ ∃ v, w.cell? ⟨M, 11, none⟩ = some v ∧ v.ownBlock = some k
structure Fs (M B : Nat) (w w' : World) : Prop where
  fr : Fr (Sm M B w) w w'
  own : ∀ v g, w'.cell? ⟨M, 11, none⟩ = some v → v.ownBlock = some g → Sm M B w g ∨ w.heap.size ≤ g
theorem Fs.join {M B : Nat} {a b c : World} (h : Fs M B a b) (k : Fs M B b c) : Fs M B a c := by
  have key : ∀ g, Sm M B b g → Sm M B a g ∨ a.heap.size ≤ g := by
    intro g hg
    rcases hg with e | e | ⟨v, e1, e2⟩
    · exact Or.inl (Or.inl e)
    · exact Or.inl (Or.inr (Or.inl e))
    · exact h.own v g e1 e2
  refine ⟨(h.fr.trans k.fr).mono fun i hi e => ?_, fun v g e1 e2 => ?_⟩
  · rcases e with e | e
    · exact e
    · rcases key i e with e | e
      · exact e
      · omega
  · rcases k.own v g e1 e2 with e | e
    · exact key g e
    · exact Or.inr (Nat.le_trans h.fr.size e)
theorem Fs.of {M B : Nat} {w w' : World} (h : Fr (fun _ => False) w w') (hM : M < w.heap.size) : Fs M B w w' :=
  ⟨h.mono fun _ _ h => h.elim, fun v _ e1 e2 => Or.inl (Or.inr (Or.inr ⟨v, (cell_blk (a := ⟨M, 11, none⟩) (h.block M hM (fun h => h))).symm.trans e1, e2⟩))⟩
structure AdvQ (lo R M B : Nat) (bs : List Nat) (most : Nat) (s : St) (w : World) (put go fin : Value) (Q : Ending → World → Prop) : Prop where
  fail : ∀ (er : Nat) w', adv (leNum bs) (8 * bs.length) s = .fail er → MdI w' M → Fs M B w w' → Q (errPanic er) w'
  full : ∀ s' w', adv (leNum bs) (8 * bs.length) s = .put s' → most ≤ s.out.length → MdI w' M → Fs M B w w' → Q (errPanic 6) w'
  put : ∀ s' w', adv (leNum bs) (8 * bs.length) s = .put s' → s.out.length < most → Mx w' lo R M B bs most s' → Fs M B w w' → Q (.returned put) w'
  go : ∀ s' w', adv (leNum bs) (8 * bs.length) s = .go s' → Mx w' lo R M B bs most s' → Fs M B w w' → Q (.returned go) w'
  done : ∀ w', adv (leNum bs) (8 * bs.length) s = .done → Mf w' M s.out ((s.p + 7) / 8) 0 → Fs M B w w' → Q (.returned fin) w'
section
variable {w w' : World} {lo R M B : Nat} {bs : List Nat} {p : Nat} {mst plc : Int} {lst : Bool} {lf bk : Int} {b1 b2 f1 f2 ov : Value} {out : List Nat}
theorem Mo.md (h : Mo w lo R M B bs p mst plc lst lf bk b1 b2 f1 f2 ov out) : MdI w M := ⟨_, h.obj, rfl⟩
theorem MdI.fr {S : Nat → Prop} (h : MdI w M) (hF : Fr S w w') (hS : ¬ S M) : MdI w' M := by
  obtain ⟨cs, h1, h2⟩ := h
  exact ⟨cs, by rw [hF.block M (lt_of h1) hS]; exact h1, h2⟩
theorem FixOk.keep (h : FixOk w R M ov f1 f2) {S : Nat → Prop} (hF : Fr S w w') (hS : ∀ k, S k → k < R ∨ k = M ∨ ov.ownBlock = some k) : FixOk w' R M ov f1 f2 :=
  h.imp id fun ⟨a, b⟩ => ⟨a.keep hF hS, b.keep hF hS⟩
theorem FixOk.put {ov' : Value} (h : FixOk w R M ov f1 f2) (hF : Fr (fun k => k = M ∨ ov.ownBlock = some k) w w') (ho : ∀ g, ov'.ownBlock = some g → ov.ownBlock = some g ∨ w.heap.size ≤ g) : FixOk w' R M ov' f1 f2 :=
  h.imp id fun ⟨a, b⟩ => ⟨a.put hF ho, b.put hF ho⟩
theorem Mo.frB (h : Mo w lo R M B bs p mst plc lst lf bk b1 b2 f1 f2 ov out) (hF : Fr (fun k => k = B) w w') : Fs M B w w' :=
  ⟨hF.mono fun _ _ e => Or.inl e, fun v _ e1 e2 => Or.inl (Or.inr (Or.inr ⟨v, (cell_blk (a := ⟨M, 11, none⟩) (hF.block M h.ltM h.mi.ne)).symm.trans e1, e2⟩))⟩
theorem Mo.frM (_h : Mo w lo R M B bs p mst plc lst lf bk b1 b2 f1 f2 ov out) (hF : Fr (fun k => k = M) w w') (hc : w'.cell? ⟨M, 11, none⟩ = w.cell? ⟨M, 11, none⟩ := by simp [World.cell?_setCell_other]) : Fs M B w w' :=
  ⟨hF.mono fun _ _ e => Or.inr (Or.inl e), fun v _ e1 e2 => Or.inl (Or.inr (Or.inr ⟨v, by rw [← hc]; exact e1, e2⟩))⟩
theorem Mo.frO {ov' : Value} {out' : List Nat} (h : Mo w lo R M B bs p mst plc lst lf bk b1 b2 f1 f2 ov out) (hF : Fr (fun k => k = M ∨ ov.ownBlock = some k) w w') (h2 : Mo w' lo R M B bs p mst plc lst lf bk b1 b2 f1 f2 ov' out') (hg : ∀ g, ov'.ownBlock = some g → ov.ownBlock = some g ∨ w.heap.size ≤ g) : Fs M B w w' := by
  have e0 : w.cell? ⟨M, 11, none⟩ = some ov := cell_of h.obj rfl
  have e2 : w'.cell? ⟨M, 11, none⟩ = some ov' := cell_of h2.obj rfl
  refine ⟨hF.mono fun k _ e => ?_, fun v g e1 e3 => ?_⟩
  · rcases e with e | e
    · exact Or.inr (Or.inl e)
    · exact Or.inr (Or.inr ⟨ov, e0, e⟩)
  · rw [e2] at e1
    cases e1
    rcases hg g e3 with h | h
    · exact Or.inl (Or.inr (Or.inr ⟨ov, e0, h⟩))
    · exact Or.inr h
theorem Mo.low (h : Mo w lo R M B bs p mst plc lst lf bk b1 b2 f1 f2 ov out) (hF : Fs M B w w') : Fl lo w w' := hF.fr.mono fun k _ e => by
  have := h.rd.elo; have := h.rd.ehi; have := h.hM
  have e0 : w.cell? ⟨M, 11, none⟩ = some ov := cell_of h.obj rfl
  rcases e with e | e | ⟨v, e1, e2⟩
  · omega
  · omega
  · rw [e0] at e1
    cases e1
    have := (h.own.lt k e2).1; omega
end
set_option maxHeartbeats 1000000 in
set_option maxRecDepth 100000 in
theorem storedByte_c (w : World) (lo R M B : Nat) (bs : List Nat) (most : Nat) (hmost : most ≤ 2147483648) (p : Nat) (last : Bool) (out : List Nat) (n : Nat) (h : Mx w lo R M B bs most ⟨p, last, out, .stored n⟩) (u : Value) (Q : Ending → World → Prop)
    (hQ : AdvQ lo R M B bs most ⟨p, last, out, .stored n⟩ w (.bool true) (.bool false) u Q) : Calls Tryz.prog 55 #[.pointer (some ⟨M, 0, none⟩)] w Q := by
  obtain ⟨lf, bk, b1, b2, f1, f2, ov, hO, ⟨rfl, hn⟩, hX, hb, ho⟩ := h
  have q5 : w.cell? ⟨M, 5, none⟩ = some (.int .i64 (n : Int)) := cell_of hO.obj rfl
  have q0 : w.cell? ⟨M, 0, none⟩ = some (.pointer (some ⟨B, 0, none⟩)) := cell_of hO.obj rfl
  have q3 : w.cell? ⟨M, 3, none⟩ = some (.int .i64 1) := cell_of hO.obj rfl
  have z3 := frozen_of (o := 3) hO.obj
  have HO := hide hO
  have HX := hide hX
  have Hb := hide hb
  have Ho := hide ho
  have HQ := hide hQ
  clear hO hX hb ho hQ
  by_cases h0 : n = 0
  · subst h0
    go_enter Tryz.func55, Tryz.ntmps55
    go_wp2
    refine HQ.out.go ⟨p, last, out, .ahead⟩ _ rfl ⟨0, bk, b1, b2, f1, f2, ov, HO.out.turn (fr_set _ _ _ _) (heap_set _ HO.out.obj), trivial, HX.out.keep (fr_set _ _ _ _) (fun k e => Or.inr (Or.inl e)), Hb.out, Ho.out⟩ (HO.out.frM (fr_set _ _ _ _))
  · have h0i : ((n : Int) == 0) = false := beq_false_of_ne (by omega)
    have h0j : ¬ (n : Int) = 0 := by omega
    have E : Hid (adv (leNum bs) (8 * bs.length) ⟨p, last, out, .stored n⟩ = match tkn 8 (leNum bs) (8 * bs.length) p with
      | .error er => .fail er
      | .ok (b, q) => .put ⟨q, last, out ++ [b], .stored (n - 1)⟩) := by
        show adv _ _ _ = _
        simp only [adv, if_neg h0]
        cases tkn 8 (leNum bs) (8 * bs.length) p <;> rfl
    go_enter Tryz.func55, Tryz.ntmps55
    go_wp2_with fail
    refine calls_args (low_reads _ lo R B bs p 8 HO.out.rd (by omega) _ ⟨?ok1, ?no1⟩) rfl
    case no1 => (intro er w1 hx hF; refine ⟨rfl, HQ.out.fail er w1 (by rw [E.out, hx]) (HO.out.md.fr hF HO.out.mi.ne) (HO.out.frB hF)⟩)
    intro b q w1 hx hR hF
    have hbb : b < 256 := tkn_lt hx
    have E1 : Hid (adv (leNum bs) (8 * bs.length) ⟨p, last, out, .stored n⟩ = .put ⟨q, last, out ++ [b], .stored (n - 1)⟩) := by
      show adv _ _ _ = _
      rw [E.out, hx]
    have H1 := hide (HO.out.next hR hF)
    have HX1 := hide (HX.out.keep hF (fun k e => Or.inl (by have := HO.out.rd.ehi; omega)))
    have HF1 := hide (HO.out.frB hF)
    clear hx hR hF q0 q3 z3 q5
    go_wp2_with fail
    refine calls_args (put_c w1 lo R M B bs q most 1 last n bk b1 b2 f1 f2 ov out H1.out b (by have : out.length ≤ most := Ho.out; omega) _ ?full ?put) rfl
    case full => (intro hm w2 hF2; exact ⟨rfl, HQ.out.full _ w2 E1.out (by simp only; omega) (H1.out.md.fr hF2 (fun h => h)) (HF1.out.join (Fs.of hF2 H1.out.ltM))⟩)
    intro hm ov' w2 hO2 hF2 hg
    have q5 : w2.cell? ⟨M, 5, none⟩ = some (.int .i64 (n : Int)) := cell_of hO2.obj rfl
    have z5 := frozen_of (o := 5) hO2.obj
    have H2 := hide hO2
    have HX2 := hide (HX1.out.put hF2 hg)
    have HF2 := hide (HF1.out.join (H1.out.frO hF2 hO2 hg))
    have Hm := hide hm
    clear hO2 hF2 hg hm
    go_wp2
    have e : (n : Int) - 1 = ((n - 1 : Nat) : Int) := by omega
    refine HQ.out.put ⟨q, last, out ++ [b], .stored (n - 1)⟩ _ E1.out (by have := Hm.out; simp only; omega) ⟨((n - 1 : Nat) : Int), bk, b1, b2, f1, f2, ov', H2.out.turn (fr_set _ _ _ _) (by rw [e]; exact heap_set _ H2.out.obj), ⟨rfl, by omega⟩, HX2.out.keep (fr_set _ _ _ _) (fun k e => Or.inr (Or.inl e)), ?_, ?_⟩ (HF2.out.join (H2.out.frM (fr_set _ _ _ _)))
    · intro x hx
      simp only [List.mem_append, List.mem_singleton] at hx
      rcases hx with hx | hx
      · exact Hb.out x hx
      · omega
    · have := Hm.out; simp only [List.length_append, List.length_singleton]; omega
end Go.Proofs.YtdpmpllbdoefdaaGreatDoor
namespace Go.Proofs.YtdpmpllbdoefdaaGreatDoor
open Go.RowKit
set_option maxHeartbeats 2000000 in
set_option maxRecDepth 100000 in
theorem takeSymbol_c (w : World) (lo R M B : Nat) (bs : List Nat) (most : Nat) (hmost : most ≤ 2147483648) (p : Nat) (last : Bool) (out : List Nat) (ll dl : List Int) (h : Mx w lo R M B bs most ⟨p, last, out, .coded ll dl⟩) (u : Value) (Q : Ending → World → Prop)
    (hQ : AdvQ lo R M B bs most ⟨p, last, out, .coded ll dl⟩ w (.bool true) (.bool false) u Q) : Calls Tryz.prog 56 #[.pointer (some ⟨M, 0, none⟩)] w Q := by
  obtain ⟨lf, bk, b1, b2, f1, f2, ov, hO, ⟨hc1, hc2⟩, hX, hb, ho⟩ := h
  obtain ⟨C, clo, chi, rfl, hRc, hC, hCM, hCo⟩ := hc1
  have HC1 : Hid (CodeAt w R M ov (.pointer (some ⟨C, 0, none⟩)) ll) := ⟨C, clo, chi, rfl, hRc, hC, hCM, hCo⟩
  have HC2 := hide hc2
  have HC := hide hC
  have q7 : w.cell? ⟨M, 7, none⟩ = some (.pointer (some ⟨C, 0, none⟩)) := cell_of hO.obj rfl
  have q0 : w.cell? ⟨M, 0, none⟩ = some (.pointer (some ⟨B, 0, none⟩)) := cell_of hO.obj rfl
  have Hap : Hid (chi ≤ B ∨ B < clo) := Or.inr (by have := hO.rd.ehi; omega)
  have HO := hide hO
  have HX := hide hX
  have Hb := hide hb
  have Ho : Hid (out.length ≤ most) := ho
  have HQ := hide hQ
  have Hp : Hid (∀ w', Fr (fun k => k = B) w w' → w'.cell? ⟨M, 0, none⟩ = some (.pointer (some ⟨B, 0, none⟩)) ∧ w'.cell? ⟨M, 7, none⟩ = some (.pointer (some ⟨C, 0, none⟩))) := by
    intro w' hF
    rw [cell_blk (a := ⟨M, 0, none⟩) (hF.block M (cell_lt q0) hO.mi.ne), cell_blk (a := ⟨M, 7, none⟩) (hF.block M (cell_lt q7) hO.mi.ne)]
    exact ⟨q0, q7⟩
  have E : Hid (word ll dl out.length (leNum bs) (8 * bs.length) p = andThen (tk ll) (fun s => if s < 256 then ret (.lit s) else if s = 256 then ret .fin else andThen (rlen s) fun n => andThen (rdist dl out.length) fun d => ret (.row n d)) (leNum bs) (8 * bs.length) p) := rfl
  have A : Hid (∀ er, word ll dl out.length (leNum bs) (8 * bs.length) p = .error er → adv (leNum bs) (8 * bs.length) ⟨p, last, out, .coded ll dl⟩ = .fail er) := by
    intro er h
    simp only [adv, h]
  have A2 : Hid (∀ y q, word ll dl out.length (leNum bs) (8 * bs.length) p = .ok (y, q) → adv (leNum bs) (8 * bs.length) ⟨p, last, out, .coded ll dl⟩ = match y with
      | .lit b => .put ⟨q, last, out ++ [b], .coded ll dl⟩
      | .fin => .go ⟨q, last, out, .ahead⟩
      | .row n d => .go ⟨q, last, out, .row n d ll dl⟩) := by
    intro y q h
    simp only [adv, h]
    cases y <;> rfl
  clear hO hX hb ho hQ hc2 hC hCM hCo hRc
  go_enter Tryz.func56, Tryz.ntmps56
  go_wp2_with fail
  refine wp_region_held_drew (S := fun w' => w'.cell? ⟨M, 0, none⟩ = some (.pointer (some ⟨B, 0, none⟩)) ∧ w'.cell? ⟨M, 7, none⟩ = some (.pointer (some ⟨C, 0, none⟩))) (by kernel_rfl) (by exact Hp.out _ (Fr.none _)) (fun hHeld => ?_)
  refine wpAnyH_take (i := 0) (v := ?v0) rfl (by kernel_rfl) (by kernel_rfl) (by kernel_rfl) (fun _ _ _ h => h) (Or.inl ⟨by rfl, ?hy0⟩) hHeld ?rest0
  case hy0 => (intro W hSw; (try dsimp only at hSw); obtain ⟨s1, s2⟩ := hSw; go_simp; all_goals (with_reducible rfl))
  change wpAnyH _ _ _ _ _ _ _ (Act.put _ (some 4) _) _
  simp only [Act.put, List.setIfInBounds_toArray, List.set_cons_zero, List.set_cons_succ]
  refine wpAnyH_take (i := 5) (v := ?v5) rfl (by kernel_rfl) (by kernel_rfl) (by kernel_rfl) (fun _ _ _ h => h) (Or.inl ⟨by rfl, ?hy5⟩) hHeld ?rest5
  case hy5 => (intro W hSw; (try dsimp only at hSw); obtain ⟨s1, s2⟩ := hSw; go_simp; all_goals (with_reducible rfl))
  change wpAnyH _ _ _ _ _ _ _ (Act.put _ (some 9) _) _
  simp only [Act.put, List.setIfInBounds_toArray, List.set_cons_zero, List.set_cons_succ]
  refine wpAnyH_take (i := 1) (v := ?v1) rfl (by kernel_rfl) (by kernel_rfl) (by kernel_rfl) (fun _ _ _ h => h) (Or.inl ⟨by rfl, ?hy1⟩) hHeld ?rest1
  case hy1 => (intro W hSw; (try dsimp only at hSw); obtain ⟨s1, s2⟩ := hSw; go_simp; all_goals (with_reducible rfl))
  change wpAnyH _ _ _ _ _ _ _ (Act.put _ (some 5) _) _
  simp only [Act.put, List.setIfInBounds_toArray, List.set_cons_zero, List.set_cons_succ]
  refine wpAnyH_take (i := 6) (v := ?v6) rfl (by kernel_rfl) (by kernel_rfl) (by kernel_rfl) (fun _ _ _ h => h) (Or.inl ⟨by rfl, ?hy6⟩) hHeld ?rest6
  case hy6 => (intro W hSw; (try dsimp only at hSw); obtain ⟨s1, s2⟩ := hSw; go_simp; all_goals (with_reducible rfl))
  change wpAnyH _ _ _ _ _ _ _ (Act.put _ (some 10) _) _
  simp only [Act.put, List.setIfInBounds_toArray, List.set_cons_zero, List.set_cons_succ]
  refine wpAnyH_take (i := 2) (v := ?v2) rfl (by kernel_rfl) (by kernel_rfl) (by kernel_rfl) (fun _ _ _ h => h) (Or.inl ⟨by rfl, ?hy2⟩) hHeld ?rest2
  case hy2 => (intro W hSw; (try dsimp only at hSw); obtain ⟨s1, s2⟩ := hSw; go_simp; all_goals (with_reducible rfl))
  change wpAnyH _ _ _ _ _ _ _ (Act.put _ (some 6) _) _
  simp only [Act.put, List.setIfInBounds_toArray, List.set_cons_zero, List.set_cons_succ]
  refine wpAnyH_take (i := 7) (v := ?v7) rfl (by kernel_rfl) (by kernel_rfl) (by kernel_rfl) (fun _ _ _ h => h) (Or.inl ⟨by rfl, ?hy7⟩) hHeld ?rest7
  case hy7 => (intro W hSw; (try dsimp only at hSw); obtain ⟨s1, s2⟩ := hSw; go_simp; all_goals (with_reducible rfl))
  change wpAnyH _ _ _ _ _ _ _ (Act.put _ (some 11) _) _
  simp only [Act.put, List.setIfInBounds_toArray, List.set_cons_zero, List.set_cons_succ]
  refine wpAnyH_take (i := 3) (v := ?v3) rfl (by kernel_rfl) (by kernel_rfl) (by kernel_rfl) (fun _ _ _ h => h) (Or.inl ⟨by rfl, ?hy3⟩) hHeld ?rest3
  case hy3 => (intro W hSw; (try dsimp only at hSw); obtain ⟨s1, s2⟩ := hSw; go_simp; all_goals (with_reducible rfl))
  change wpAnyH _ _ _ _ _ _ _ (Act.put _ (some 7) _) _
  simp only [Act.put, List.setIfInBounds_toArray, List.set_cons_zero, List.set_cons_succ]
  refine wpAnyH_take (i := 8) (v := ?v8) rfl (by kernel_rfl) (by kernel_rfl) (by kernel_rfl) (fun _ _ _ h => h) (Or.inl ⟨by rfl, ?hy8⟩) hHeld ?rest8
  case hy8 => (intro W hSw; (try dsimp only at hSw); obtain ⟨s1, s2⟩ := hSw; go_simp; all_goals (with_reducible rfl))
  change wpAnyH _ _ _ _ _ _ _ (Act.put _ (some 12) _) _
  simp only [Act.put, List.setIfInBounds_toArray, List.set_cons_zero, List.set_cons_succ]
  refine wpAnyH_take (i := 4) (v := ?v4) rfl (by kernel_rfl) (by kernel_rfl) (by kernel_rfl) (fun _ _ _ h => h) (Or.inl ⟨by rfl, ?hy4⟩) hHeld ?rest4
  case hy4 => (intro W hSw; (try dsimp only at hSw); obtain ⟨s1, s2⟩ := hSw; go_simp; all_goals (with_reducible rfl))
  change wpAnyH _ _ _ _ _ _ _ (Act.put _ (some 8) _) _
  simp only [Act.put, List.setIfInBounds_toArray, List.set_cons_zero, List.set_cons_succ]
  refine wpAnyH_ready (rs := [9]) (by kernel_rfl) (by simp) ?_
  refine AllReadyH.cons rfl (fun K hK => ?_) AllReadyH.nil
  try simp only [List.getElem_toArray, List.getElem_cons_succ, List.getElem_cons_zero]
  go_simp
  refine calls_args (take_E clo chi C lo R B ll bs p _ (HC.out.keep (Fr.none (S := fun _ => False) _) (fun _ _ _ h => h)) (HO.out.mi.call ⟨_, rfl⟩).rd Hap.out _ ⟨?ok1, ?no1⟩) rfl
  case no1 => (intro er w1 hx hF; have hF' := (Fr.none (S := fun k => k = B) _).join hF; exact ⟨rfl, HQ.out.fail er w1 (A.out er (E.out.trans (then_err hx))) (HO.out.md.fr hF' HO.out.mi.ne) (HO.out.frB hF')⟩)
  intro s q w1 hx hR hF
  have E1 := hide (E.out.trans (then_ok hx))
  have HFB := hide ((Fr.none (S := fun k => k = B) _).join hF)
  have H1 := hide (HO.out.next hR HFB.out)
  have HF1 := hide (HO.out.frB HFB.out)
  have hBR := HO.out.rd.ehi
  have HX1 := hide (HX.out.keep HFB.out (fun k e => Or.inl (by omega)))
  have K1 := hide (HC1.out.keep HFB.out (fun k e => Or.inl (by omega)))
  have K2 := hide (HC2.out.keep HFB.out (fun k e => Or.inl (by omega)))
  clear hx hR hF hBR
  refine hK.out _ _ (Hp.out _ HFB.out) (fun hHeld => ?_)
  clear hK K
  refine wpAnyH_take (i := 10) (v := ?v10) rfl (by kernel_rfl) (by kernel_rfl) (by kernel_rfl) (fun _ _ _ h => h) (Or.inl ⟨by rfl, ?hy10⟩) hHeld ?rest10
  case hy10 => (intro W hSw; (try dsimp only at hSw); obtain ⟨s1, s2⟩ := hSw; go_simp; all_goals (with_reducible rfl))
  change wpAnyH _ _ _ _ _ _ _ (Act.put _ (some 3) _) _
  simp only [Act.put, List.setIfInBounds_toArray, List.set_cons_zero, List.set_cons_succ]
  refine wpAnyH_done (by kernel_rfl) ?_ _
  by_cases hs : s < 256
  · have hsi : (s : Int) < 256 := by omega
    have E2 := E1.out
    rw [if_pos hs] at E2
    have A3 := hide (A2.out _ _ E2)
    clear E2 q0 q7
    go_wp2_with fail
    refine calls_args (put_c w1 lo R M B bs q most 2 last lf bk _ b2 f1 f2 ov out H1.out s (by have : out.length ≤ most := Ho.out; omega) _ ?full ?put) rfl
    case full => (intro hm w2 hF2; exact ⟨rfl, HQ.out.full _ w2 A3.out (by simp only; omega) (H1.out.md.fr hF2 (fun h => h)) (HF1.out.join (Fs.of hF2 H1.out.ltM))⟩)
    intro hm ov' w2 hO2 hF2 hg
    go_wp2
    exact HQ.out.put _ _ A3.out (by simp only; omega) ⟨lf, bk, _, b2, f1, f2, ov', hO2, ⟨K1.out.put hF2 hg, K2.out.put hF2 hg⟩, HX1.out.put hF2 hg, out_snoc Hb.out hs, by simp only [List.length_append, List.length_singleton]; omega⟩ (HF1.out.join (H1.out.frO hF2 hO2 hg))
  · have hsi : ¬ (s : Int) < 256 := by omega
    have E2 := E1.out
    rw [if_neg hs] at E2
    by_cases hs2 : s = 256
    · subst hs2
      rw [if_pos rfl] at E2
      have A3 := hide (A2.out _ _ E2)
      have q3 : w1.cell? ⟨M, 3, none⟩ = some (.int .i64 2) := cell_of H1.out.obj rfl
      have z3 := frozen_of (o := 3) H1.out.obj
      clear E2 q0 q7
      go_wp2
      exact HQ.out.go _ _ A3.out ⟨lf, bk, _, b2, f1, f2, ov, H1.out.turn (fr_set _ _ _ _) (heap_set _ H1.out.obj), trivial, HX1.out.keep (fr_set _ _ _ _) (fun k e => Or.inr (Or.inl e)), Hb.out, Ho.out⟩ (HF1.out.join (H1.out.frM (fr_set _ _ _ _)))
    · have hsj : ((s : Int) == 256) = false := beq_false_of_ne (by omega)
      have hsk : ¬ (s : Int) = 256 := by omega
      rw [if_neg hs2] at E2
      have HE2 := hide E2
      clear E2 q0 q7
      go_wp2_with fail
      refine calls_args (rlen_c _ lo R M B bs q s H1.out.mi (by omega) _ ⟨?ok2, ?no2⟩) rfl
      case no2 => (intro er w2 hx hF; exact ⟨rfl, HQ.out.fail er w2 (A.out er (HE2.out.trans (then_err hx))) (H1.out.md.fr hF H1.out.mi.ne) (HF1.out.join (H1.out.frB hF))⟩)
      intro n q2 w2 hx hR hF
      have hnb := rlen_le hx
      have E3 := hide (HE2.out.trans (then_ok hx))
      have H2 := hide (H1.out.next hR hF)
      have HF2 := hide (HF1.out.join (H1.out.frB hF))
      have hBR := HO.out.rd.ehi
      have HX2 := hide (HX1.out.keep hF (fun k e => Or.inl (by omega)))
      have K12 := hide (K1.out.keep hF (fun k e => Or.inl (by omega)))
      have K22 := hide (K2.out.keep hF (fun k e => Or.inl (by omega)))
      have q5 : w2.cell? ⟨M, 5, none⟩ = some (.int .i64 lf) := cell_of H2.out.obj rfl
      have z5 := frozen_of (o := 5) H2.out.obj
      clear hx hR hF
      go_wp2_with fail
      have H3 := hide (H2.out.turn (fr_set w2 M 5 (.int .i64 (n : Int))) (heap_set _ H2.out.obj))
      have HF3 := hide (HF2.out.join (H2.out.frM (fr_set w2 M 5 (.int .i64 (n : Int)))))
      have HX3 := hide (HX2.out.keep (fr_set w2 M 5 (.int .i64 (n : Int))) (fun k e => Or.inr (Or.inl e)))
      have K13 := hide (K12.out.keep (fr_set w2 M 5 (.int .i64 (n : Int))) (fun k e => Or.inr (Or.inl e)))
      have K23 := hide (K22.out.keep (fr_set w2 M 5 (.int .i64 (n : Int))) (fun k e => Or.inr (Or.inl e)))
      clear q5 z5 H2 HX2 K12 K22 HF2
      generalize w2.setCell ⟨M, 5, none⟩ (.int .i64 (n : Int)) = w3 at *
      obtain ⟨D, dlo, dhi, rfl, hRd, hD, hDM, hDo⟩ := K23.out
      obtain ⟨oa, oc, rfl⟩ := ownsRow_shape H3.out.own
      refine calls_args (rdist_c w3 lo R M B bs q2 H3.out.mi D dlo dhi dl (cell_of H3.out.obj rfl) hD hRd oa out.length oc (cell_of H3.out.obj rfl) _ ⟨?ok3, ?no3⟩) rfl
      case no3 => (intro er w4 hx hF; exact ⟨rfl, HQ.out.fail er w4 (A.out er (E3.out.trans (then_err hx))) (H3.out.md.fr hF H3.out.mi.ne) (HF3.out.join (H3.out.frB hF))⟩)
      intro d q3 w4 hx hR hF
      obtain ⟨hd1, hd2⟩ := rdist_le hx
      have A4 := hide (A2.out _ _ (E3.out.trans (then_ok hx)))
      have H4 := hide (H3.out.next hR hF)
      have HF4 := hide (HF3.out.join (H3.out.frB hF))
      have HX4 := hide (HX3.out.keep hF (fun k e => Or.inl (by omega)))
      have K14 := hide (K13.out.keep hF (fun k e => Or.inl (by omega)))
      have K24 := hide (K23.out.keep hF (fun k e => Or.inl (by omega)))
      have q6 : w4.cell? ⟨M, 6, none⟩ = some (.int .i64 bk) := cell_of H4.out.obj rfl
      have z6 := frozen_of (o := 6) H4.out.obj
      have q3 : w4.cell? ⟨M, 3, none⟩ = some (.int .i64 2) := cell_of H4.out.obj rfl
      have z3 := frozen_of (o := 3) H4.out.obj
      clear hx hR hF hD hDM hDo
      go_wp2
      have H5 := hide (H4.out.turn (fr_set w4 M 6 (.int .i64 (d : Int))) (heap_set _ H4.out.obj))
      have HF5 := hide (HF4.out.join (H4.out.frM (fr_set w4 M 6 (.int .i64 (d : Int)))))
      have HX5 := hide (HX4.out.keep (fr_set w4 M 6 (.int .i64 (d : Int))) (fun k e => Or.inr (Or.inl e)))
      have K15 := hide (K14.out.keep (fr_set w4 M 6 (.int .i64 (d : Int))) (fun k e => Or.inr (Or.inl e)))
      have K25 := hide (K24.out.keep (fr_set w4 M 6 (.int .i64 (d : Int))) (fun k e => Or.inr (Or.inl e)))
      clear q6 z6 H4 HX4 K14 K24 HF4 q3 z3
      generalize w4.setCell ⟨M, 6, none⟩ (.int .i64 (d : Int)) = w5 at *
      have H6 := H5.out.turn (plc' := 3) (fr_set w5 M 3 (.int .i64 3)) (heap_set (o := 3) (.int .i64 3) H5.out.obj)
      exact HQ.out.go _ _ A4.out ⟨(n : Int), (d : Int), _, _, f1, f2, _, H6, ⟨rfl, rfl, hnb.1, hnb.2, hd1, hd2, K15.out.keep (fr_set _ _ _ _) (fun k e => Or.inr (Or.inl e)), K25.out.keep (fr_set _ _ _ _) (fun k e => Or.inr (Or.inl e))⟩, HX5.out.keep (fr_set _ _ _ _) (fun k e => Or.inr (Or.inl e)), Hb.out, Ho.out⟩ (HF5.out.join (H5.out.frM (fr_set _ _ _ _)))
set_option maxHeartbeats 2000000 in
set_option maxRecDepth 100000 in
theorem rowByte_c (w : World) (lo R M B : Nat) (bs : List Nat) (most : Nat) (hmost : most ≤ 2147483648) (p : Nat) (last : Bool) (out : List Nat) (n d : Nat) (ll dl : List Int) (h : Mx w lo R M B bs most ⟨p, last, out, .row n d ll dl⟩) (u : Value) (Q : Ending → World → Prop)
    (hQ : AdvQ lo R M B bs most ⟨p, last, out, .row n d ll dl⟩ w (.bool true) (.bool false) u Q) : Calls Tryz.prog 57 #[.pointer (some ⟨M, 0, none⟩)] w Q := by
  obtain ⟨lf, bk, b1, b2, f1, f2, ov, hO, ⟨rfl, rfl, hn1, hn2, hd1, hd2, hc1, hc2⟩, hX, hb, ho⟩ := h
  simp only at hd2
  obtain ⟨oa, oc, rfl⟩ := ownsRow_shape hO.own
  obtain ⟨o, heo⟩ : ∃ o, o = out.length := ⟨_, rfl⟩
  have q11 : w.cell? ⟨M, 11, none⟩ = some (.slice oa out.length oc) := cell_of hO.obj rfl
  have q6 : w.cell? ⟨M, 6, none⟩ = some (.int .i64 (d : Int)) := cell_of hO.obj rfl
  have K1 := hide hc1
  have K2 := hide hc2
  have HO := hide hO
  have HX := hide hX
  have Hb := hide hb
  have Ho : Hid (out.length ≤ most) := ho
  have HQ := hide hQ
  obtain ⟨j, hj⟩ : ∃ j, j = out.length - d := ⟨_, rfl⟩
  have hjl : j < out.length := by omega
  obtain ⟨b, hbj⟩ : ∃ b, out[j]? = some b := ⟨_, List.getElem?_eq_getElem hjl⟩
  have hbb : b < 256 := hb b (List.mem_of_getElem? hbj)
  have hgd : out.getD (out.length - d) 0 = b := by rw [← hj, List.getD_eq_getElem?_getD, hbj]; rfl
  obtain ⟨ad, rfl, had⟩ : ∃ ad, oa = some ad ∧ w.cell? (ad.add j) = some (.int .u8 (b : Int)) := by
    rcases hO.own.2 with ⟨hv, e0⟩ | ⟨g, cap, cur, hv, hg, hh, hr⟩
    · simp only at e0; omega
    · cases hv
      refine ⟨⟨g, 0, none⟩, rfl, hO.own.cells (g := g) rfl j _ ?_⟩
      simp [cellsOf, hbj]
  have A : Hid (adv (leNum bs) (8 * bs.length) ⟨p, last, out, .row n d ll dl⟩ = .put ⟨p, last, out ++ [b], if n = 1 then .coded ll dl else .row (n - 1) d ll dl⟩) := by
    show adv _ _ _ = _
    rw [← hgd]
    rfl
  have hji : (o : Int) - (d : Int) = (j : Int) := by omega
  have hjo : (j : Int) < (o : Int) := by omega
  have hj0 : (0 : Int) ≤ (j : Int) := by omega
  have hwj : IntKind.i64.wrap (j : Int) = (j : Int) := wrap_i64_id _ (by omega) (by have : out.length ≤ most := ho; omega)
  have hob : o ≤ 2147483648 := by have : out.length ≤ most := ho; omega
  rw [← heo] at q11
  have Heo : Hid (o = out.length) := heo
  have Hd2 : Hid (d ≤ out.length) := hd2
  clear hO hX hb ho hQ hc1 hc2 hj hjl hbj hgd heo hd2
  go_enter Tryz.func57, Tryz.ntmps57
  go_wp2_with fail
  refine wp_region_L (S := fun w' => (w'.cell? ⟨M, 11, none⟩ = some (.slice (some ad) o oc) ∧ w'.cell? ⟨M, 6, none⟩ = some (.int .i64 (d : Int))) ∧ w'.cell? (ad.add j) = some (.int .u8 (b : Int))) 17 (by kernel_rfl) (by exact ⟨⟨q11, q6⟩, had⟩) (fun hHeld => ?_)
  refine wpAnyL_take [17] (i := 0) (v := ?v0) rfl (by kernel_rfl) (by kernel_rfl) (by kernel_rfl) (by kernel_rfl) (fun _ _ _ h => h) (Or.inl ⟨by rfl, ?hy0⟩) hHeld ?rest0
  case hy0 => (intro W hSw; (try dsimp only at hSw); obtain ⟨⟨s1, s2⟩, s3⟩ := hSw; go_simp; all_goals (with_reducible rfl))
  change wpAnyL _ _ _ _ _ _ _ _ (Act.put _ (some 3) _) _
  simp only [Act.put, List.setIfInBounds_toArray, List.set_cons_zero, List.set_cons_succ]
  refine wpAnyL_take [2, 3, 4, 15, 16, 17] (i := 1) (v := ?v1) rfl (by kernel_rfl) (by kernel_rfl) (by kernel_rfl) (by kernel_rfl) (fun _ _ _ h => h) (Or.inl ⟨by rfl, ?hy1⟩) hHeld ?rest1
  case hy1 => (intro W hSw; (try dsimp only at hSw); obtain ⟨⟨s1, s2⟩, s3⟩ := hSw; go_simp; all_goals (with_reducible rfl))
  change wpAnyL _ _ _ _ _ _ _ _ (Act.put _ (some 4) _) _
  simp only [Act.put, List.setIfInBounds_toArray, List.set_cons_zero, List.set_cons_succ]
  refine wpAnyL_take [6, 7, 8, 9, 14, 15, 16, 17] (i := 5) (v := ?v5) rfl (by kernel_rfl) (by kernel_rfl) (by kernel_rfl) (by kernel_rfl) (fun _ _ _ h => h) (Or.inl ⟨by rfl, ?hy5⟩) hHeld ?rest5
  case hy5 => (intro W hSw; (try dsimp only at hSw); obtain ⟨⟨s1, s2⟩, s3⟩ := hSw; go_simp; all_goals (with_reducible rfl))
  change wpAnyL _ _ _ _ _ _ _ _ (Act.put _ (some 8) _) _
  simp only [Act.put, List.setIfInBounds_toArray, List.set_cons_zero, List.set_cons_succ]
  refine wpAnyL_take [11, 12, 13, 14, 15, 16, 17] (i := 10) (v := ?v10) rfl (by kernel_rfl) (by kernel_rfl) (by kernel_rfl) (by kernel_rfl) (fun _ _ _ h => h) (Or.inl ⟨by rfl, ?hy10⟩) hHeld ?rest10
  case hy10 => (intro W hSw; (try dsimp only at hSw); obtain ⟨⟨s1, s2⟩, s3⟩ := hSw; go_simp; all_goals (with_reducible rfl))
  change wpAnyL _ _ _ _ _ _ _ _ (Act.put _ (some 13) _) _
  simp only [Act.put, List.setIfInBounds_toArray, List.set_cons_zero, List.set_cons_succ]
  refine wpAnyL_take [3, 4, 15, 16, 17] (i := 2) (v := ?v2) rfl (by kernel_rfl) (by kernel_rfl) (by kernel_rfl) (by kernel_rfl) (fun _ _ _ h => h) (Or.inl ⟨by rfl, ?hy2⟩) hHeld ?rest2
  case hy2 => (intro W hSw; (try dsimp only at hSw); obtain ⟨⟨s1, s2⟩, s3⟩ := hSw; go_simp; all_goals (with_reducible rfl))
  change wpAnyL _ _ _ _ _ _ _ _ (Act.put _ (some 5) _) _
  simp only [Act.put, List.setIfInBounds_toArray, List.set_cons_zero, List.set_cons_succ]
  refine wpAnyL_take [7, 8, 9, 14, 15, 16, 17] (i := 6) (v := ?v6) rfl (by kernel_rfl) (by kernel_rfl) (by kernel_rfl) (by kernel_rfl) (fun _ _ _ h => h) (Or.inl ⟨by rfl, ?hy6⟩) hHeld ?rest6
  case hy6 => (intro W hSw; (try dsimp only at hSw); obtain ⟨⟨s1, s2⟩, s3⟩ := hSw; go_simp; all_goals (with_reducible rfl))
  change wpAnyL _ _ _ _ _ _ _ _ (Act.put _ (some 9) _) _
  simp only [Act.put, List.setIfInBounds_toArray, List.set_cons_zero, List.set_cons_succ]
  refine wpAnyL_take [12, 13, 14, 15, 16, 17] (i := 11) (v := ?v11) rfl (by kernel_rfl) (by kernel_rfl) (by kernel_rfl) (by kernel_rfl) (fun _ _ _ h => h) (Or.inl ⟨by rfl, ?hy11⟩) hHeld ?rest11
  case hy11 => (intro W hSw; (try dsimp only at hSw); obtain ⟨⟨s1, s2⟩, s3⟩ := hSw; go_simp; all_goals (with_reducible rfl))
  change wpAnyL _ _ _ _ _ _ _ _ (Act.put _ (some 14) _) _
  simp only [Act.put, List.setIfInBounds_toArray, List.set_cons_zero, List.set_cons_succ]
  refine wpAnyL_take [4, 15, 16, 17] (i := 3) (v := ?v3) rfl (by kernel_rfl) (by kernel_rfl) (by kernel_rfl) (by kernel_rfl) (fun _ _ _ h => h) (Or.inl ⟨by rfl, ?hy3⟩) hHeld ?rest3
  case hy3 => (intro W hSw; (try dsimp only at hSw); obtain ⟨⟨s1, s2⟩, s3⟩ := hSw; go_simp; all_goals (with_reducible rfl))
  change wpAnyL _ _ _ _ _ _ _ _ (Act.put _ (some 6) _) _
  simp only [Act.put, List.setIfInBounds_toArray, List.set_cons_zero, List.set_cons_succ]
  refine wpAnyL_take [8, 9, 14, 15, 16, 17] (i := 7) (v := ?v7) rfl (by kernel_rfl) (by kernel_rfl) (by kernel_rfl) (by kernel_rfl) (fun _ _ _ h => h) (Or.inl ⟨by rfl, ?hy7⟩) hHeld ?rest7
  case hy7 => (intro W hSw; (try dsimp only at hSw); obtain ⟨⟨s1, s2⟩, s3⟩ := hSw; go_simp; all_goals (with_reducible rfl))
  change wpAnyL _ _ _ _ _ _ _ _ (Act.put _ (some 10) _) _
  simp only [Act.put, List.setIfInBounds_toArray, List.set_cons_zero, List.set_cons_succ]
  refine wpAnyL_take [13, 14, 15, 16, 17] (i := 12) (v := ?v12) rfl (by kernel_rfl) (by kernel_rfl) (by kernel_rfl) (by kernel_rfl) (fun _ _ _ h => h) (Or.inl ⟨by rfl, ?hy12⟩) hHeld ?rest12
  case hy12 => (intro W hSw; (try dsimp only at hSw); obtain ⟨⟨s1, s2⟩, s3⟩ := hSw; go_simp; all_goals (with_reducible rfl))
  change wpAnyL _ _ _ _ _ _ _ _ (Act.put _ (some 15) _) _
  simp only [Act.put, List.setIfInBounds_toArray, List.set_cons_zero, List.set_cons_succ]
  refine wpAnyL_take [15, 16, 17] (i := 4) (v := ?v4) rfl (by kernel_rfl) (by kernel_rfl) (by kernel_rfl) (by kernel_rfl) (fun _ _ _ h => h) (Or.inl ⟨by rfl, ?hy4⟩) hHeld ?rest4
  case hy4 => (intro W hSw; (try dsimp only at hSw); obtain ⟨⟨s1, s2⟩, s3⟩ := hSw; go_simp; all_goals (with_reducible rfl))
  change wpAnyL _ _ _ _ _ _ _ _ (Act.put _ (some 7) _) _
  simp only [Act.put, List.setIfInBounds_toArray, List.set_cons_zero, List.set_cons_succ]
  refine wpAnyL_take [9, 14, 15, 16, 17] (i := 8) (v := ?v8) rfl (by kernel_rfl) (by kernel_rfl) (by kernel_rfl) (by kernel_rfl) (fun _ _ _ h => h) (Or.inl ⟨by rfl, ?hy8⟩) hHeld ?rest8
  case hy8 => (intro W hSw; (try dsimp only at hSw); obtain ⟨⟨s1, s2⟩, s3⟩ := hSw; go_simp; all_goals (with_reducible rfl))
  change wpAnyL _ _ _ _ _ _ _ _ (Act.put _ (some 11) _) _
  simp only [Act.put, List.setIfInBounds_toArray, List.set_cons_zero, List.set_cons_succ]
  refine wpAnyL_take [14, 15, 16, 17] (i := 13) (v := ?v13) rfl (by kernel_rfl) (by kernel_rfl) (by kernel_rfl) (by kernel_rfl) (fun _ _ _ h => h) (Or.inl ⟨by rfl, ?hy13⟩) hHeld ?rest13
  case hy13 => (intro W hSw; (try dsimp only at hSw); obtain ⟨⟨s1, s2⟩, s3⟩ := hSw; go_simp; all_goals (with_reducible rfl))
  change wpAnyL _ _ _ _ _ _ _ _ (Act.put _ (some 16) _) _
  simp only [Act.put, List.setIfInBounds_toArray, List.set_cons_zero, List.set_cons_succ]
  refine wpAnyL_take [14, 15, 16, 17] (i := 9) (v := ?v9) rfl (by kernel_rfl) (by kernel_rfl) (by kernel_rfl) (by kernel_rfl) (fun _ _ _ h => h) (Or.inl ⟨by rfl, ?hy9⟩) hHeld ?rest9
  case hy9 => (intro W hSw; (try dsimp only at hSw); obtain ⟨⟨s1, s2⟩, s3⟩ := hSw; go_simp; all_goals (with_reducible rfl))
  change wpAnyL _ _ _ _ _ _ _ _ (Act.put _ (some 12) _) _
  simp only [Act.put, List.setIfInBounds_toArray, List.set_cons_zero, List.set_cons_succ]
  refine wpAnyL_take [15, 16, 17] (i := 14) (v := ?v14) rfl (by kernel_rfl) (by kernel_rfl) (by kernel_rfl) (by kernel_rfl) (fun _ _ _ h => h) (Or.inl ⟨by rfl, ?hy14⟩) hHeld ?rest14
  case hy14 => (intro W hSw; (try dsimp only at hSw); obtain ⟨⟨s1, s2⟩, s3⟩ := hSw; go_simp; all_goals (with_reducible rfl))
  change wpAnyL _ _ _ _ _ _ _ _ (Act.put _ (some 17) _) _
  simp only [Act.put, List.setIfInBounds_toArray, List.set_cons_zero, List.set_cons_succ]
  refine wpAnyL_take [16, 17] (i := 15) (v := ?v15) rfl (by kernel_rfl) (by kernel_rfl) (by kernel_rfl) (by kernel_rfl) (fun _ _ _ h => h) (Or.inl ⟨by rfl, ?hy15⟩) hHeld ?rest15
  case hy15 => (intro W hSw; (try dsimp only at hSw); obtain ⟨⟨s1, s2⟩, s3⟩ := hSw; go_simp; all_goals (with_reducible rfl))
  change wpAnyL _ _ _ _ _ _ _ _ (Act.put _ (some 18) _) _
  simp only [Act.put, List.setIfInBounds_toArray, List.set_cons_zero, List.set_cons_succ]
  refine wpAnyL_take [17] (i := 16) (v := ?v16) rfl (by kernel_rfl) (by kernel_rfl) (by kernel_rfl) (by kernel_rfl) (fun _ _ _ h => h) (Or.inl ⟨by rfl, ?hy16⟩) hHeld ?rest16
  case hy16 => (intro W hSw; (try dsimp only at hSw); obtain ⟨⟨s1, s2⟩, s3⟩ := hSw; go_simp; all_goals (with_reducible rfl))
  change wpAnyL _ _ _ _ _ _ _ _ (Act.put _ (some 19) _) _
  simp only [Act.put, List.setIfInBounds_toArray, List.set_cons_zero, List.set_cons_succ]
  refine wpAnyL_one (i := 17) (by kernel_rfl) rfl (fun K hK => ?_)
  try simp only [List.getElem_toArray, List.getElem_cons_succ, List.getElem_cons_zero]
  go_simp
  refine calls_args (put_c _ lo R M B bs p most 3 last n d b1 b2 f1 f2 _ out (HO.out.drewN _) b (by have : out.length ≤ most := Ho.out; omega) _ ?full ?put) rfl
  case full => (intro hm w2 hF2; exact ⟨rfl, HQ.out.full _ w2 A.out (by simp only; omega) ((HO.out.drewN _).md.fr hF2 (fun h => h)) ((Fs.of (Fr.of_drewN w 1) HO.out.ltM).join (Fs.of hF2 HO.out.ltM))⟩)
  intro hm ov' w2 hO2 hF2 hg
  have HF2 := hide ((Fs.of (M := M) (B := B) (Fr.of_drewN w 1) HO.out.ltM).join ((HO.out.drewN 1).frO hF2 hO2 hg))
  have HX2 := hide ((HX.out.keep (Fr.of_drewN w _) (fun _ h => h.elim)).put hF2 hg)
  have K12 := hide ((K1.out.keep (Fr.of_drewN w _) (fun _ h => h.elim)).put hF2 hg)
  have K22 := hide ((K2.out.keep (Fr.of_drewN w _) (fun _ h => h.elim)).put hF2 hg)
  have H2 := hide hO2
  have Hm := hide hm
  clear hO2 hF2 hg hm
  refine hK.out _ _ (fun h => absurd rfl h) (fun _ => ?_)
  clear hK K
  refine wpAnyL_done (by kernel_rfl) ?_ _
  have q5 : w2.cell? ⟨M, 5, none⟩ = some (.int .i64 (n : Int)) := cell_of H2.out.obj rfl
  have q3 : w2.cell? ⟨M, 3, none⟩ = some (.int .i64 3) := cell_of H2.out.obj rfl
  have z5 := frozen_of (o := 5) H2.out.obj
  have z3 := frozen_of (o := 3) H2.out.obj
  have He : Hid ((n : Int) - 1 = ((n - 1 : Nat) : Int)) := by show (n : Int) - 1 = ((n - 1 : Nat) : Int); omega
  have H3 := hide (H2.out.turn (fr_set w2 M 5 (.int .i64 ((n : Int) - 1))) (lf' := (n : Int) - 1) (heap_set (o := 5) _ H2.out.obj))
  have HF3 := hide (HF2.out.join (H2.out.frM (fr_set w2 M 5 (.int .i64 ((n : Int) - 1)))))
  have HX3 := hide (HX2.out.keep (fr_set w2 M 5 (.int .i64 ((n : Int) - 1))) (fun k e => Or.inr (Or.inl e)))
  have K13 := hide (K12.out.keep (fr_set w2 M 5 (.int .i64 ((n : Int) - 1))) (fun k e => Or.inr (Or.inl e)))
  have K23 := hide (K22.out.keep (fr_set w2 M 5 (.int .i64 ((n : Int) - 1))) (fun k e => Or.inr (Or.inl e)))
  have A1 := A.out
  have Hm' : out.length < most := by have := Hm.out; omega
  have Hl : (out ++ [b]).length ≤ most := by simp only [List.length_append, List.length_singleton]; omega
  by_cases hn : n = 1
  · subst hn
    rw [if_pos rfl] at A1
    have HA1 := hide A1
    have HHm := hide Hm'
    have HHl := hide Hl
    clear A1 Hm' Hl
    go_wp2
    have H4 := H3.out.turn (plc' := 2) (fr_set _ M 3 (.int .i64 2)) (heap_set (o := 3) (.int .i64 2) H3.out.obj)
    exact HQ.out.put _ _ HA1.out HHm.out ⟨_, _, _, _, f1, f2, _, H4, ⟨K13.out.keep (fr_set _ M 3 _) (fun k e => Or.inr (Or.inl e)), K23.out.keep (fr_set _ M 3 _) (fun k e => Or.inr (Or.inl e))⟩, HX3.out.keep (fr_set _ M 3 _) (fun k e => Or.inr (Or.inl e)), out_snoc Hb.out hbb, HHl.out⟩ (HF3.out.join (H3.out.frM (fr_set _ M 3 _)))
  · rw [if_neg hn] at A1
    have HA1 := hide A1
    have HHm := hide Hm'
    have HHl := hide Hl
    have hni : ((n : Int) - 1 == 0) = false := beq_false_of_ne (by omega)
    have hnj : ¬ (n : Int) - 1 = 0 := by omega
    have hnk : ¬ (n : Int) = 1 := by omega
    clear A1 Hm' Hl
    go_wp2
    exact HQ.out.put _ _ HA1.out HHm.out ⟨_, _, _, _, f1, f2, _, H3.out, ⟨He.out, rfl, by omega, by omega, hd1, by have := Hd2.out; simp only [List.length_append, List.length_singleton]; omega, K13.out, K23.out⟩, HX3.out, out_snoc Hb.out hbb, HHl.out⟩ HF3.out
set_option maxHeartbeats 2000000 in
set_option maxRecDepth 100000 in
theorem finish_c (w : World) (lo R M B : Nat) (bs : List Nat) (p : Nat) (mst plc : Int) (lst : Bool) (lf bk : Int) (b1 b2 f1 f2 ov : Value) (out : List Nat) (h : Mo w lo R M B bs p mst plc lst lf bk b1 b2 f1 f2 ov out) :
    Calls Tryz.prog 58 #[.pointer (some ⟨M, 0, none⟩)] w fun e w' => e = .returned (.tuple #[]) ∧ Mf w' M out ((p + 7) / 8) 0 ∧ Fs M B w w' := by
  have q0 : w.cell? ⟨M, 0, none⟩ = some (.pointer (some ⟨B, 0, none⟩)) := cell_of h.obj rfl
  have q1 : w.cell? ⟨M, 1, none⟩ = some (.int .i64 (bs.length : Int)) := cell_of h.obj rfl
  obtain ⟨oa, oc, rfl⟩ := ownsRow_shape h.own
  have q11 : w.cell? ⟨M, 11, none⟩ = some (.slice oa out.length oc) := cell_of h.obj rfl
  have hl := h.rd.elen
  have hp := h.rd.epos
  have H := hide h
  obtain ⟨n, hn⟩ : ∃ n, n = bs.length := ⟨_, rfl⟩
  obtain ⟨u, hu⟩ : ∃ u, u = (p + 7) / 8 := ⟨_, rfl⟩
  rw [← hn] at q1
  obtain ⟨v, hv⟩ : ∃ v : Nat, (8 * (n : Int) - (p : Int)).tdiv 8 = (v : Int) := ⟨((8 * (n : Int) - (p : Int)) / 8).toNat, by rw [Int.tdiv_eq_ediv_of_nonneg (by omega)]; omega⟩
  have hui : (n : Int) - (v : Int) = (u : Int) := by
    rw [← hv, Int.tdiv_eq_ediv_of_nonneg (by omega)]
    omega
  have hvb : v ≤ 2147483648 := by
    rw [Int.tdiv_eq_ediv_of_nonneg (by omega)] at hv
    omega
  have hwv : IntKind.i64.wrap (v : Int) = (v : Int) := wrap_i64_id _ (by omega) (by omega)
  have hwu : IntKind.i64.wrap (u : Int) = (u : Int) := wrap_i64_id _ (by omega) (by omega)
  have Hu := hide hu
  have Hl := hide (low_left (w.drewN 1) lo R B bs p _ _ (H.out.rd.drewN 1))
  rw [← hn] at Hl
  clear h hn hl hp hu
  go_enter Tryz.func58, Tryz.ntmps58
  refine wp_region_L (S := fun w' => (w'.cell? ⟨M, 11, none⟩ = some (.slice oa out.length oc) ∧ w'.cell? ⟨M, 1, none⟩ = some (.int .i64 (n : Int))) ∧ w'.cell? ⟨M, 0, none⟩ = some (.pointer (some ⟨B, 0, none⟩))) 18 (by kernel_rfl) (by exact ⟨⟨q11, q1⟩, q0⟩) (fun hHeld => ?_)
  refine wpAnyL_take [17, 18] (i := 0) (v := ?v0) rfl (by kernel_rfl) (by kernel_rfl) (by kernel_rfl) (by kernel_rfl) (fun _ _ _ h => h) (Or.inl ⟨by rfl, ?hy0⟩) hHeld ?rest0
  case hy0 => (intro W hSw; (try dsimp only at hSw); obtain ⟨⟨s1, s2⟩, s3⟩ := hSw; go_simp; all_goals (with_reducible rfl))
  change wpAnyL _ _ _ _ _ _ _ _ (Act.put _ (some 2) _) _
  simp only [Act.put, List.setIfInBounds_toArray, List.set_cons_zero, List.set_cons_succ]
  refine wpAnyL_take [2, 3, 4, 16, 18] (i := 1) (v := ?v1) rfl (by kernel_rfl) (by kernel_rfl) (by kernel_rfl) (by kernel_rfl) (fun _ _ _ h => h) (Or.inl ⟨by rfl, ?hy1⟩) hHeld ?rest1
  case hy1 => (intro W hSw; (try dsimp only at hSw); obtain ⟨⟨s1, s2⟩, s3⟩ := hSw; go_simp; all_goals (with_reducible rfl))
  change wpAnyL _ _ _ _ _ _ _ _ (Act.put _ (some 3) _) _
  simp only [Act.put, List.setIfInBounds_toArray, List.set_cons_zero, List.set_cons_succ]
  refine wpAnyL_take [6, 7, 8, 15, 16, 18] (i := 5) (v := ?v5) rfl (by kernel_rfl) (by kernel_rfl) (by kernel_rfl) (by kernel_rfl) (fun _ _ _ h => h) (Or.inl ⟨by rfl, ?hy5⟩) hHeld ?rest5
  case hy5 => (intro W hSw; (try dsimp only at hSw); obtain ⟨⟨s1, s2⟩, s3⟩ := hSw; go_simp; all_goals (with_reducible rfl))
  change wpAnyL _ _ _ _ _ _ _ _ (Act.put _ (some 7) _) _
  simp only [Act.put, List.setIfInBounds_toArray, List.set_cons_zero, List.set_cons_succ]
  refine wpAnyL_take [10, 11, 12, 13, 14, 15, 16, 18] (i := 9) (v := ?v9) rfl (by kernel_rfl) (by kernel_rfl) (by kernel_rfl) (by kernel_rfl) (fun _ _ _ h => h) (Or.inl ⟨by rfl, ?hy9⟩) hHeld ?rest9
  case hy9 => (intro W hSw; (try dsimp only at hSw); obtain ⟨⟨s1, s2⟩, s3⟩ := hSw; go_simp; all_goals (with_reducible rfl))
  change wpAnyL _ _ _ _ _ _ _ _ (Act.put _ (some 11) _) _
  simp only [Act.put, List.setIfInBounds_toArray, List.set_cons_zero, List.set_cons_succ]
  refine wpAnyL_take [3, 4, 16, 18] (i := 2) (v := ?v2) rfl (by kernel_rfl) (by kernel_rfl) (by kernel_rfl) (by kernel_rfl) (fun _ _ _ h => h) (Or.inl ⟨by rfl, ?hy2⟩) hHeld ?rest2
  case hy2 => (intro W hSw; (try dsimp only at hSw); obtain ⟨⟨s1, s2⟩, s3⟩ := hSw; go_simp; all_goals (with_reducible rfl))
  change wpAnyL _ _ _ _ _ _ _ _ (Act.put _ (some 4) _) _
  simp only [Act.put, List.setIfInBounds_toArray, List.set_cons_zero, List.set_cons_succ]
  refine wpAnyL_take [7, 8, 15, 16, 18] (i := 6) (v := ?v6) rfl (by kernel_rfl) (by kernel_rfl) (by kernel_rfl) (by kernel_rfl) (fun _ _ _ h => h) (Or.inl ⟨by rfl, ?hy6⟩) hHeld ?rest6
  case hy6 => (intro W hSw; (try dsimp only at hSw); obtain ⟨⟨s1, s2⟩, s3⟩ := hSw; go_simp; all_goals (with_reducible rfl))
  change wpAnyL _ _ _ _ _ _ _ _ (Act.put _ (some 8) _) _
  simp only [Act.put, List.setIfInBounds_toArray, List.set_cons_zero, List.set_cons_succ]
  refine wpAnyL_take [11, 12, 13, 14, 15, 16, 18] (i := 10) (v := ?v10) rfl (by kernel_rfl) (by kernel_rfl) (by kernel_rfl) (by kernel_rfl) (fun _ _ _ h => h) (Or.inl ⟨by rfl, ?hy10⟩) hHeld ?rest10
  case hy10 => (intro W hSw; (try dsimp only at hSw); obtain ⟨⟨s1, s2⟩, s3⟩ := hSw; go_simp; all_goals (with_reducible rfl))
  change wpAnyL _ _ _ _ _ _ _ _ (Act.put _ (some 12) _) _
  simp only [Act.put, List.setIfInBounds_toArray, List.set_cons_zero, List.set_cons_succ]
  refine wpAnyL_take [4, 16, 18] (i := 3) (v := ?v3) rfl (by kernel_rfl) (by kernel_rfl) (by kernel_rfl) (by kernel_rfl) (fun _ _ _ h => h) (Or.inl ⟨by rfl, ?hy3⟩) hHeld ?rest3
  case hy3 => (intro W hSw; (try dsimp only at hSw); obtain ⟨⟨s1, s2⟩, s3⟩ := hSw; go_simp; all_goals (with_reducible rfl))
  change wpAnyL _ _ _ _ _ _ _ _ (Act.put _ (some 5) _) _
  simp only [Act.put, List.setIfInBounds_toArray, List.set_cons_zero, List.set_cons_succ]
  refine wpAnyL_take [8, 15, 16, 18] (i := 7) (v := ?v7) rfl (by kernel_rfl) (by kernel_rfl) (by kernel_rfl) (by kernel_rfl) (fun _ _ _ h => h) (Or.inl ⟨by rfl, ?hy7⟩) hHeld ?rest7
  case hy7 => (intro W hSw; (try dsimp only at hSw); obtain ⟨⟨s1, s2⟩, s3⟩ := hSw; go_simp; all_goals (with_reducible rfl))
  change wpAnyL _ _ _ _ _ _ _ _ (Act.put _ (some 9) _) _
  simp only [Act.put, List.setIfInBounds_toArray, List.set_cons_zero, List.set_cons_succ]
  refine wpAnyL_take [12, 13, 14, 15, 16, 18] (i := 11) (v := ?v11) rfl (by kernel_rfl) (by kernel_rfl) (by kernel_rfl) (by kernel_rfl) (fun _ _ _ h => h) (Or.inl ⟨by rfl, ?hy11⟩) hHeld ?rest11
  case hy11 => (intro W hSw; (try dsimp only at hSw); obtain ⟨⟨s1, s2⟩, s3⟩ := hSw; go_simp; all_goals (with_reducible rfl))
  change wpAnyL _ _ _ _ _ _ _ _ (Act.put _ (some 13) _) _
  simp only [Act.put, List.setIfInBounds_toArray, List.set_cons_zero, List.set_cons_succ]
  refine wpAnyL_take [16, 18] (i := 4) (v := ?v4) rfl (by kernel_rfl) (by kernel_rfl) (by kernel_rfl) (by kernel_rfl) (fun _ _ _ h => h) (Or.inl ⟨by rfl, ?hy4⟩) hHeld ?rest4
  case hy4 => (intro W hSw; (try dsimp only at hSw); obtain ⟨⟨s1, s2⟩, s3⟩ := hSw; go_simp; all_goals (with_reducible rfl))
  change wpAnyL _ _ _ _ _ _ _ _ (Act.put _ (some 6) _) _
  simp only [Act.put, List.setIfInBounds_toArray, List.set_cons_zero, List.set_cons_succ]
  refine wpAnyL_take [15, 16, 18] (i := 8) (v := ?v8) rfl (by kernel_rfl) (by kernel_rfl) (by kernel_rfl) (by kernel_rfl) (fun _ _ _ h => h) (Or.inl ⟨by rfl, ?hy8⟩) hHeld ?rest8
  case hy8 => (intro W hSw; (try dsimp only at hSw); obtain ⟨⟨s1, s2⟩, s3⟩ := hSw; go_simp; all_goals (with_reducible rfl))
  change wpAnyL _ _ _ _ _ _ _ _ (Act.put _ (some 10) _) _
  simp only [Act.put, List.setIfInBounds_toArray, List.set_cons_zero, List.set_cons_succ]
  refine wpAnyL_take [13, 14, 15, 16, 18] (i := 12) (v := ?v12) rfl (by kernel_rfl) (by kernel_rfl) (by kernel_rfl) (by kernel_rfl) (fun _ _ _ h => h) (Or.inl ⟨by rfl, ?hy12⟩) hHeld ?rest12
  case hy12 => (intro W hSw; (try dsimp only at hSw); obtain ⟨⟨s1, s2⟩, s3⟩ := hSw; go_simp; all_goals (with_reducible rfl))
  change wpAnyL _ _ _ _ _ _ _ _ (Act.put _ (some 14) _) _
  simp only [Act.put, List.setIfInBounds_toArray, List.set_cons_zero, List.set_cons_succ]
  refine wpAnyL_one (i := 13) (by kernel_rfl) rfl (fun K hK => ?_)
  try simp only [List.getElem_toArray, List.getElem_cons_succ, List.getElem_cons_zero]
  go_simp
  refine Hl.out.mono ?_
  rintro e w1 ⟨rfl, k, rfl⟩
  refine hK.out _ _ (fun _ => ⟨⟨q11, q1⟩, q0⟩) (fun hHeld0 => ?_)
  have hHeld := hHeld0 (by decide)
  clear hHeld0
  clear hK K
  refine wpAnyL_take [15, 16, 18] (i := 14) (v := ?v14) rfl (by kernel_rfl) (by kernel_rfl) (by kernel_rfl) (by kernel_rfl) (fun _ _ _ h => h) (Or.inl ⟨by rfl, ?hy14⟩) hHeld ?rest14
  case hy14 => (intro W hSw; (try dsimp only at hSw); obtain ⟨⟨s1, s2⟩, s3⟩ := hSw; go_simp; all_goals (with_reducible rfl))
  change wpAnyL _ _ _ _ _ _ _ _ (Act.put _ (some 16) _) _
  simp only [Act.put, List.setIfInBounds_toArray, List.set_cons_zero, List.set_cons_succ]
  refine wpAnyL_take [16, 18] (i := 15) (v := ?v15) rfl (by kernel_rfl) (by kernel_rfl) (by kernel_rfl) (by kernel_rfl) (fun _ _ _ h => h) (Or.inl ⟨by rfl, ?hy15⟩) hHeld ?rest15
  case hy15 => (intro W hSw; (try dsimp only at hSw); obtain ⟨⟨s1, s2⟩, s3⟩ := hSw; go_simp; all_goals (with_reducible rfl))
  change wpAnyL _ _ _ _ _ _ _ _ (Act.put _ (some 17) _) _
  simp only [Act.put, List.setIfInBounds_toArray, List.set_cons_zero, List.set_cons_succ]
  refine wpAnyL_take [18] (i := 16) (v := ?v16) rfl (by kernel_rfl) (by kernel_rfl) (by kernel_rfl) (by kernel_rfl) (fun _ _ _ h => h) (Or.inl ⟨by rfl, ?hy16⟩) hHeld ?rest16
  case hy16 => (intro W hSw; (try dsimp only at hSw); obtain ⟨⟨s1, s2⟩, s3⟩ := hSw; go_simp; all_goals (with_reducible rfl))
  change wpAnyL _ _ _ _ _ _ _ _ (Act.put _ (some 18) _) _
  simp only [Act.put, List.setIfInBounds_toArray, List.set_cons_zero, List.set_cons_succ]
  refine wpAnyL_take [18] (i := 17) (v := ?v17) rfl (by kernel_rfl) (by kernel_rfl) (by kernel_rfl) (by kernel_rfl) (fun _ _ _ h => h) (Or.inl ⟨by rfl, ?hy17⟩) hHeld ?rest17
  case hy17 => (intro W hSw; (try dsimp only at hSw); obtain ⟨⟨s1, s2⟩, s3⟩ := hSw; go_simp; all_goals (with_reducible rfl))
  change wpAnyL _ _ _ _ _ _ _ _ (Act.put _ (some 19) _) _
  simp only [Act.put, List.setIfInBounds_toArray, List.set_cons_zero, List.set_cons_succ]
  refine wpAnyL_one (i := 18) (by kernel_rfl) rfl (fun K hK => ?_)
  try simp only [List.getElem_toArray, List.getElem_cons_succ, List.getElem_cons_zero]
  rw [if_pos (by rfl)]
  refine wp_store_row 78 (.tmp 19) (.tmp 18) rfl M 78 _ _ rfl rfl H.out.obj (by kernel_rfl) rfl (by simp [Value.oneCell']) ?_
  refine hK.out _ _ (fun h => absurd rfl h) (fun _ => ?_)
  clear hK K
  refine wpAnyL_done (by kernel_rfl) ?_ _
  go_end0
  have hM := H.out.ltM
  have fr : Fr (fun k => k = M) w (((w.drewN 1).drewN k).setRow M #[.pointer none, .int .i64 0, .int .i64 0, .int .i64 0, .bool false, .int .i64 0, .int .i64 0, .pointer none, .pointer none, .pointer none, .pointer none, .slice oa out.length oc, .int .i64 (u : Int), .int .i64 0, .bool true]) :=
    ⟨rfl, rfl, rfl, by simp, fun j _ hj => setRow_other _ _ _ _ hj⟩
  refine ⟨rfl, ⟨_, by rw [← Hu.out]; exact setRow_heap ((w.drewN 1).drewN k) M _ _ 78 _ H.out.obj, ⟨R, ownsRow_fr H.out.own fun j hj => fr.block j (H.out.own.lt j hj).2 (H.out.oM j hj)⟩, H.out.oM⟩, H.out.frM fr ((cell_of (setRow_heap ((w.drewN 1).drewN k) M _ _ 78 _ H.out.obj) rfl).trans q11.symm)⟩
end Go.Proofs.YtdpmpllbdoefdaaGreatDoor
namespace Go.Proofs.YtdpmpllbdoefdaaGreatDoor
open Go.RowKit
set_option maxHeartbeats 400000 in
set_option maxRecDepth 100000 in
theorem mustBe_c (a : Option Addr) (c : Nat) (ls : List Int) (w : World) (hl : LiesI w a ls) (hg : good ls) (Q : Ending → World → Prop)
    (hyes : codeOk ls → ∀ C w', Cd w' w.heap.size w'.heap.size C ls → Fr (fun _ => False) w w' → Q (.returned (.pointer (some ⟨C, 0, none⟩))) w')
    (hno : ¬ codeOk ls → ∀ w', Fr (fun _ => False) w w' → Q (errPanic 4) w') : Calls Tryz.prog 93 #[.slice a ls.length c] w Q := by
  have Hyes := hide hyes
  have Hno := hide hno
  by_cases hok : codeOk ls
  · have H := hide (new_ok a c ls w hl hg hok)
    clear hyes hno hl hg
    go_enter Tryz.func93, Tryz.ntmps93
    go_wp2_with fail
    refine H.out.mono ?_
    rintro e w1 ⟨C, rfl, hC, hF⟩
    have HC := hide hC
    have HF := hide hF
    clear hC hF
    go_wp2
    exact Hyes.out hok C _ HC.out HF.out
  · have H := hide (new_form a c ls w hl hg hok)
    clear hyes hno hl hg
    go_enter Tryz.func93, Tryz.ntmps93
    go_wp2_with fail
    refine H.out.mono ?_
    rintro e w1 ⟨rfl, hF⟩
    have HF := hide hF
    clear hF
    go_wp2
    exact ⟨rfl, Hno.out hok _ HF.out⟩
structure Reads2 (x : Rdr (Int × Nat)) (lo R B : Nat) (bs : List Nat) (p : Nat) (w : World) (Q : Ending → World → Prop) : Prop where
  ok : ∀ v (t : Nat) q w', x (leNum bs) (8 * bs.length) p = .ok ((v, t), q) → Rm w' lo R B bs q → Fr (fun k => k = B) w w' → Q (.returned (.tuple #[.int .i64 v, .int .i64 (t : Int)])) w'
  no : ∀ (er : Nat) w', x (leNum bs) (8 * bs.length) p = .error er → Fr (fun k => k = B) w w' → Q (errPanic er) w'
set_option maxHeartbeats 2000000 in
set_option maxRecDepth 100000 in
theorem codeLength_c (w : World) (lo R M B : Nat) (bs : List Nat) (p : Nat) (h : Mi w lo R M B bs p) (C clo chi : Nat) (cl : List Int) (hC : Cd w clo chi C cl) (hRc : R ≤ clo)
    (aa : Option Addr) (n ac : Nat) (acc : List Int) (hn : n = acc.length) (hA : LiesI w aa acc) (hAB : ∀ ad, aa = some ad → ad.block ≠ B) (hnl : acc.length ≤ 2147483648) (Q : Ending → World → Prop)
    (hQ : Reads2 (andThen (tk cl) fun s => rep s acc) lo R B bs p w Q) :
    Calls Tryz.prog 110 #[.pointer (some ⟨M, 0, none⟩), .pointer (some ⟨C, 0, none⟩), .slice aa n ac] w Q := by
  have q0 := h.ptr
  have H := hide h
  have HC := hide hC
  have Hap : Hid (chi ≤ B ∨ B < clo) := Or.inr (by have := h.rd.ehi; omega)
  have HQ := hide hQ
  have Hn : Hid (n = acc.length) := hn
  have hnb : n ≤ 2147483648 := by omega
  have HA : Hid (∀ w', Fr (fun k => k = B) w w' → 0 < n → ∃ ad, aa = some ad ∧ w'.cell? (ad.add (n - 1)) = some (.int .i64 (at0 acc (acc.length - 1)))) := by
    intro w' hF h0
    obtain ⟨ad, e, hc⟩ := hA (n - 1) (by omega)
    refine ⟨ad, e, ?_⟩
    have hb : (ad.add (n - 1)).block = ad.block := by cases ad; simp [Addr.add]; split <;> rfl
    rw [cell_blk (hF.block _ (cell_lt hc) (by rw [hb]; exact hAB ad e)), hc, hn]
  clear h hC hQ hRc hn hA hAB hnl
  go_enter Tryz.func110, Tryz.ntmps110
  go_wp2_with fail
  refine calls_args (take_E clo chi C lo R B cl bs p w HC.out H.out.rd Hap.out _ ⟨?ok1, ?no1⟩) rfl
  case no1 => (intro er w1 hx hF; exact ⟨rfl, HQ.out.no er w1 (then_err hx) hF⟩)
  intro s q w1 hx hR hF
  have E1 := hide (then_ok (f := fun s => rep s acc) hx)
  have H1 := hide (H.out.next hR hF)
  have HF1 := hide hF
  have q1 := H1.out.ptr
  clear hx hR hF q0
  by_cases h16 : s = 16
  · subst h16
    have E2 : Hid (rep 16 acc (leNum bs) (8 * bs.length) q = andThen (tkn 2) (fun x => if acc.length = 0 then bad 4 else ret (at0 acc (acc.length - 1), 3 + x)) (leNum bs) (8 * bs.length) q) := rfl
    go_wp2_with fail
    refine calls_args (low_reads _ lo R B bs q 2 H1.out.rd (by omega) _ ⟨?ok2, ?no2⟩) rfl
    case no2 => (intro er w2 hx hF; exact ⟨rfl, HQ.out.no er w2 (E1.out.trans (E2.out.trans (then_err hx))) (HF1.out.join hF)⟩)
    intro x q2 w2 hx hR hF
    have hxb : x < 4 := tkn_lt hx
    have E3 := (E1.out.trans (E2.out.trans (then_ok hx)))
    have HR2 := hide hR
    have HF2 := hide (HF1.out.join hF)
    clear hx hR hF q1
    by_cases h0 : n = 0
    · subst h0
      rw [if_pos Hn.out.symm] at E3
      have HE3 := hide E3
      clear E3
      go_wp2
      exact ⟨rfl, HQ.out.no 4 _ HE3.out HF2.out⟩
    · rw [if_neg (by rw [← Hn.out]; exact h0)] at E3
      have HE3 := hide E3
      obtain ⟨ad, rfl, hc⟩ := HA.out w2 HF2.out (by omega)
      obtain ⟨m, hm⟩ : ∃ m, n = m + 1 := ⟨n - 1, by omega⟩
      subst hm
      rw [show m + 1 - 1 = m by omega] at hc
      have h0i : ((m : Int) + 1 == 0) = false := beq_false_of_ne (by omega)
      have h0j : ¬ ((m : Int) + 1 = 0) := by omega
      clear E3 h0
      go_wp2
      have := HQ.out.ok _ _ _ _ HE3.out HR2.out HF2.out
      simpa using this
  · by_cases h17 : s = 17
    · subst h17
      have E2 : Hid (rep 17 acc (leNum bs) (8 * bs.length) q = andThen (tkn 3) (fun x => ret (0, 3 + x)) (leNum bs) (8 * bs.length) q) := rfl
      go_wp2_with fail
      refine calls_args (low_reads _ lo R B bs q 3 H1.out.rd (by omega) _ ⟨?ok3, ?no3⟩) rfl
      case no3 => (intro er w2 hx hF; exact ⟨rfl, HQ.out.no er w2 (E1.out.trans (E2.out.trans (then_err hx))) (HF1.out.join hF)⟩)
      intro x q2 w2 hx hR hF
      have hxb : x < 8 := tkn_lt hx
      have HE3 := hide (E1.out.trans (E2.out.trans (then_ok hx)))
      have HR2 := hide hR
      have HF2 := hide (HF1.out.join hF)
      clear hx hR hF q1
      go_wp2
      have := HQ.out.ok _ _ _ _ HE3.out HR2.out HF2.out
      simpa using this
    · by_cases h18 : s = 18
      · subst h18
        have E2 : Hid (rep 18 acc (leNum bs) (8 * bs.length) q = andThen (tkn 7) (fun x => ret (0, 11 + x)) (leNum bs) (8 * bs.length) q) := rfl
        go_wp2_with fail
        refine calls_args (low_reads _ lo R B bs q 7 H1.out.rd (by omega) _ ⟨?ok4, ?no4⟩) rfl
        case no4 => (intro er w2 hx hF; exact ⟨rfl, HQ.out.no er w2 (E1.out.trans (E2.out.trans (then_err hx))) (HF1.out.join hF)⟩)
        intro x q2 w2 hx hR hF
        have hxb : x < 128 := tkn_lt hx
        have HE3 := hide (E1.out.trans (E2.out.trans (then_ok hx)))
        have HR2 := hide hR
        have HF2 := hide (HF1.out.join hF)
        clear hx hR hF q1
        go_wp2
        have := HQ.out.ok _ _ _ _ HE3.out HR2.out HF2.out
        simpa using this
      · have E2 : Hid (rep s acc (leNum bs) (8 * bs.length) q = .ok (((s : Int), 1), q)) := by
          show rep s acc (leNum bs) (8 * bs.length) q = _
          unfold rep
          rw [if_neg h16, if_neg h17, if_neg h18]
          rfl
        have h1 : ((s : Int) == 16) = false := beq_false_of_ne (by omega)
        have h2 : ((s : Int) == 17) = false := beq_false_of_ne (by omega)
        have h3 : ((s : Int) == 18) = false := beq_false_of_ne (by omega)
        have k1 : ¬ (s : Int) = 16 := by omega
        have k2 : ¬ (s : Int) = 17 := by omega
        have k3 : ¬ (s : Int) = 18 := by omega
        clear h16 h17 h18 q1
        go_wp2
        exact HQ.out.ok _ _ _ _ (E1.out.trans E2.out) H1.out.rd HF1.out
end Go.Proofs.YtdpmpllbdoefdaaGreatDoor
