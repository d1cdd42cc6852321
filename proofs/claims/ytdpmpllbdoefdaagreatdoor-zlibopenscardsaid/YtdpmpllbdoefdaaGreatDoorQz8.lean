/-
  Texts of the seat, put together: Lf Ra Rb Rd Re Rg Rh Lg Lh Zc.
-/
import Derived.Test.YtdpmpllbdoefdaaGreatDoorQz7
import Derived.BigRegion
import Derived.Test.YtdpmpllbdoefdaaGreatDoorQz2
import Derived.Test.YtdpmpllbdoefdaaGreatDoorQz6
namespace Go.Proofs.YtdpmpllbdoefdaaGreatDoor
open Go.RowKit
def stepTo (taken len : Nat) (n : Int) : Nat := if 0 < n then taken + min n.toNat (len - taken) else taken
set_option maxHeartbeats 1600000 in
set_option maxRecDepth 100000 in
theorem step_on (lo M taken : Nat) (bs : List Nat) (s : Ms) (n : Int) (w : World) (h : MSt w lo M bs taken s) (ht : taken ≤ bs.length) (hn : 0 < n) (hn2 : n ≤ 9223372036854775807) :
    Calls Tryz.prog 33 #[.pointer (some ⟨M, 0, none⟩), .int .i64 n] w fun e w' => Fr (fun i => lo ≤ i) w w' ∧ ((stepTo taken bs.length n < bs.length ∧ e = .returned (.bool false) ∧ ∃ s', MSt w' lo M bs (stepTo taken bs.length n) s') ∨ (stepTo taken bs.length n = bs.length ∧ e = .returned (.bool true) ∧ ∃ os, Stream bs os ∧ Md w' lo M os)) := by
  obtain ⟨cs, N1, N2, g, hM⟩ := h.ex
  have hR := h.rch
  have hlen := hM.len
  obtain ⟨da, dc, hda, hdo, _⟩ := hM.c0
  have k0 := cell_of (o := 0) hM.blk hda
  have k1 := cell_of (o := 1) hM.blk hM.c1
  have k13 := cell_of (o := 13) hM.blk hM.c13
  have f1 := frozen_of (o := 1) hM.blk
  obtain ⟨L, hL⟩ : ∃ L, L = bs.length := ⟨_, rfl⟩
  obtain ⟨T, hT⟩ : ∃ T, T = stepTo taken bs.length n := ⟨_, rfl⟩
  rw [← hT, ← hL]
  rw [← hL] at k0 ht hlen
  have hTv : T = taken + min n.toNat (L - taken) := by rw [hT, hL]; unfold stepTo; rw [if_pos hn]
  have hTL : T ≤ L := by omega
  obtain ⟨d, hd⟩ : ∃ d : Nat, d = min n.toNat (L - taken) := ⟨_, rfl⟩
  have hmin : (if (L : Int) - (taken : Int) < n then (L : Int) - (taken : Int) else n) = (d : Int) := by split <;> omega
  have hadd : (taken : Int) + (d : Int) = (T : Int) := by omega
  have i1 : (L : Int) ≤ 4194304 := by omega
  have i2 : (taken : Int) ≤ (L : Int) := by omega
  have i3 : (d : Int) ≤ 4194304 := by omega
  have i4 : (T : Int) ≤ 4194304 := by omega
  have hlm := hM.loM.1
  have HM := hide hM
  have HR := hide hR
  have HL := hide hL
  have hML := lt_of hM.blk
  clear h hM hR hda hdo hL hT hTv hd
  go_enter Tryz.func33, Tryz.ntmps33
  go_wp2_with fail
  go_region
  go_wp2_with fail
  have hM := HM.out
  obtain ⟨hM2, hF2⟩ := hM.upd 1 (.int .i64 (T : Int)) (by omega) (taken' := T) (told' := s.told) (begin' := s.begin) (ps' := s.ps) (get_set _ hM.c1) (by rw [Array.getElem?_setIfInBounds_ne (by omega)]; exact hM.c2) (by rw [Array.getElem?_setIfInBounds_ne (by omega)]; exact hM.c3) (by
    obtain ⟨x, y, z1, z2⟩ := hM.c4
    exact ⟨x, y, by rw [Array.getElem?_setIfInBounds_ne (by omega)]; exact z1, z2⟩)
  have hst : MSt (w.setCell ⟨M, 1, none⟩ (.int .i64 (T : Int))).drew lo M bs T s := ⟨HR.out, _, N1, N2, g, hM2.keep (Fr.of_drewN _ 1) (fun _ _ _ e => e) (fun e => e)⟩
  have hF3 : Fr (fun i => lo ≤ i) w (w.setCell ⟨M, 1, none⟩ (.int .i64 (T : Int))).drew := (hF2.trans (Fr.of_drewN _ 1)).mono fun i _ e => by
    rcases e with e | e
    · omega
    · exact e.elim
  generalize (w.setCell ⟨M, 1, none⟩ (.int .i64 (T : Int))).drew = w3 at hst hF3 ⊢
  have Hst := hide hst
  have HF3 := hide hF3
  clear hM hM2 hF2 hst hF3 k0 k1 k13 f1
  refine (calls_args (advance_c lo M T bs s w3 Hst.out (by rw [← HL.out]; exact hTL)) (by rfl)).mono ?_
  rintro e w4 ⟨rfl, hF4, hres⟩
  have HF4 := hide (HF3.out.join hF4)
  rw [← HL.out] at hres
  rcases hres with ⟨z1, s', z2, _⟩ | ⟨z1, os, z2, z3⟩
  · obtain ⟨cs', _, _, _, hM'⟩ := z2.ex
    have k13 := cell_of (o := 13) hM'.blk hM'.c13
    have Hz := hide z2
    clear z2 hM' hF4
    go_wp2
    go_ret
    exact ⟨HF4.out, Or.inl ⟨z1, rfl, s', Hz.out⟩⟩
  · obtain ⟨cs', _, _, hb, _, _, h13⟩ := z3.ex
    have k13 := cell_of (o := 13) hb h13
    have Hz := hide z2
    have Hz3 := hide z3
    have Hz1 := hide z1
    clear z1 z2 z3 hb hF4 h13
    go_wp2
    go_ret
    exact ⟨HF4.out, Or.inr ⟨Hz1.out, rfl, os, Hz.out, Hz3.out⟩⟩
theorem own_lies5 {w : World} {lo c : Nat} {a : Option Addr} {bs : List Nat} (h : w.ownsRow lo 5 1 (.slice a bs.length c) bs.length (cellsOf bs)) : Lies w (.slice a bs.length c) bs := by
  rcases h.2 with ⟨hv, e0⟩ | ⟨g, cap, cur, hv, hg, hh, hr⟩
  · exact Or.inl ⟨hv, List.length_eq_zero_iff.1 e0⟩
  · obtain ⟨e1, _, _⟩ := Value.slice.inj hv
    subst e1
    exact Or.inr ⟨⟨g, 0, none⟩, c, rfl, fun j u hu => h.cells (g := g) rfl j u hu⟩
set_option maxHeartbeats 1600000 in
set_option maxRecDepth 100000 in
theorem new_c (a : Option Addr) (n c : Nat) (bs : List Nat) (w : World) (hl : Lies w (.slice a n c) bs) (hn : n = bs.length) (hn2 : n ≤ 4194304) (hb : ∀ b ∈ bs, b < 256) (hG : Gl w) :
    Calls Tryz.prog 32 #[.slice a n c] w fun e w' => ∃ M, e = .returned (.pointer (some ⟨M, 0, none⟩)) ∧ MSt w' w.heap.size M bs 0 (startS bs) ∧ Fr (fun _ => False) w w' := by
  have hi : ¬ (4194304 : Int) < (n : Int) := by omega
  have Hl := hide hl
  have Hn := hide hn
  have Hb := hide hb
  have HG := hide hG
  have hpos : 2 ≤ w.heap.size := cell_lt (hG 0 (by omega))
  have hlen : bs.length ≤ 4194304 := by omega
  clear hl hn hb hG
  go_enter Tryz.func32, Tryz.ntmps32
  go_wp2_with fail
  refine (calls_args (clone_c (.slice a n c) bs w Hl.out (by omega)) (by rfl)).mono ?_
  rintro e w1 ⟨da, dc, rfl, hown, hbel⟩
  have HF1 := hide ((Fr.of_below hbel).mono (S' := fun _ => False) (fun k hk h => by omega))
  have Hown := hide hown
  rw [← Hn.out]
  clear hown hbel
  go_wp2_with fail
  refine (calls_args (newFinder_c n w1) (by rfl)).mono ?_
  rintro e w2 ⟨N1, N2, rfl, hb1, hb2, hN1, hN2, hne, hF2⟩
  have ek : finK n 15 0 = kOf bs := by unfold kOf; rw [Hn.out]
  rw [ek] at hb1 hb2 ⊢
  have hk15 : kOf bs ≤ 15 := finK_le _ _ _ (by omega)
  obtain ⟨Z, hZ⟩ : ∃ Z, Z = 2 ^ kOf bs := ⟨_, rfl⟩
  rw [← hZ] at hb1 hb2 ⊢
  have HZ := hide hZ
  have Hb1 := hide hb1
  have Hb2 := hide hb2
  have HF2 := hide (HF1.out.join hF2)
  have Hf2 := hide hF2
  have hs1 := HF1.out.size
  clear hb1 hb2 hF2 hZ ek
  go_wp2
  go_ret
  obtain ⟨w3, hw3⟩ : ∃ w3, w3 = w2.alloc (.cells #[.slice da n dc, .int .i64 0, .int .i64 0, .int .i64 0, .slice none 0 0, .slice (some ⟨N1, 0, none⟩) Z Z, .slice (some ⟨N2, 0, none⟩) Z Z, .slice none 0 0, .int .i64 0, .slice none 0 0, .int .i64 0, .int .i64 0, .slice none 0 0, .bool false] 101) := ⟨_, rfl⟩
  rw [← hw3]
  have hF3 : Fr (fun _ => False) w2 w3 := by rw [hw3]; exact Fr.of_alloc _ _
  have hblk : w3.heap[w2.heap.size]? = some (.cells #[.slice da n dc, .int .i64 0, .int .i64 0, .int .i64 0, .slice none 0 0, .slice (some ⟨N1, 0, none⟩) Z Z, .slice (some ⟨N2, 0, none⟩) Z Z, .slice none 0 0, .int .i64 0, .slice none 0 0, .int .i64 0, .int .i64 0, .slice none 0 0, .bool false] 101 (0, 0)) := by rw [hw3]; exact heap_alloc_at rfl
  have ho := Hown.out
  have ho3 : w3.ownsRow w.heap.size 5 1 (.slice da bs.length dc) bs.length (cellsOf bs) := ownsRow_fr ho fun j hj => (Hf2.out.join hF3).block j (ho.lt j hj).2 (fun e => e)
  have g1 := cells_at Hb1.out hF3 (fun e => e)
  have g2 := cells_at Hb2.out hF3 (fun e => e)
  have hw2 := HF2.out.size
  refine ⟨w2.heap.size, rfl, ⟨Rch.start, #[.slice da n dc, .int .i64 0, .int .i64 0, .int .i64 0, .slice none 0 0, .slice (some ⟨N1, 0, none⟩) Z Z, .slice (some ⟨N2, 0, none⟩) Z Z, .slice none 0 0, .int .i64 0, .slice none 0 0, .int .i64 0, .int .i64 0, .slice none 0 0, .bool false], N1, N2, none, ?_⟩, HF2.out.join hF3⟩
  refine ⟨⟨⟨[], ⟨⟨.slice none 0 0, hblk, rfl, rfl, World.ownsRow_nil _ _ _ _, rfl⟩, fun k hk => by cases hk⟩, (show LowSt [] 0 from ⟨rfl, fun b hb => absurd hb (by simp), by decide⟩), rfl⟩, rfl⟩, rfl, ⟨da, dc, by rw [← Hn.out]; rfl, ho3, fun ad _ e => by cases e⟩, rfl, rfl, rfl, ⟨none, 0, rfl, World.ownsRow_nil _ _ _ _⟩, ⟨?_, ?_, ?_, ?_, ?_, ?_, ?_, ?_, ?_, ?_, hne, hk15⟩, rfl, rfl, ⟨hw2, by omega, by omega⟩, fun j hj => (by cases hj), hpos, (HG.out.keep (HF2.out.join hF3) (fun e => e)), Hb.out, hlen⟩
  · exact cell_of (o := 5) hblk (by rw [← HZ.out]; rfl)
  · exact cell_of (o := 6) hblk (by rw [← HZ.out]; rfl)
  · show _ = some (Obj.cells (cells32 (List.replicate (2 ^ kOf bs) 0)).toArray 21 (0, 0)); rw [← HZ.out]; exact g1
  · show _ = some (Obj.cells (cells32 (List.replicate (2 ^ kOf bs) 0)).toArray 21 (0, 0)); rw [← HZ.out]; exact g2
  · exact List.length_replicate
  · exact List.length_replicate
  · intro x hx; rw [(List.mem_replicate.1 hx).2]; exact Nat.zero_le _
  · intro x hx; rw [(List.mem_replicate.1 hx).2]; exact Nat.zero_le _
  · exact blk_ne g1 hblk (by decide)
  · exact blk_ne g2 hblk (by decide)
set_option maxHeartbeats 1600000 in
set_option maxRecDepth 100000 in
theorem all_c (a : Option Addr) (n c : Nat) (bs : List Nat) (w : World) (hl : Lies w (.slice a n c) bs) (hn : n = bs.length) (hn2 : n ≤ 4194304) (hb : ∀ b ∈ bs, b < 256) (hG : Gl w) :
    Calls Tryz.prog 18 #[.slice a n c] w fun e w' => ∃ os ra rc, Stream bs os ∧ e = .returned (.slice ra os.length rc) ∧ w'.ownsRow w.heap.size 5 1 (.slice ra os.length rc) os.length (cellsOf os) ∧ Fr (fun _ => False) w w' := by
  have Hnew := hide (new_c a n c bs w hl hn hn2 hb hG)
  have Hb := hide hb
  have hlen : bs.length ≤ 4194304 := by omega
  clear hl hb hG hn
  go_enter Tryz.func18, Tryz.ntmps18
  go_wp2_with fail
  refine (calls_args Hnew.out (by rfl)).mono ?_
  rintro e w1 ⟨M, rfl, hM, hF1⟩
  have HM := hide hM
  have HF1 := hide hF1
  clear hM hF1
  go_wp2_with fail
  go_loopw [6] (fun _ wr => wr = w1) (fun _ _ => 0)
  case atStart => exact rfl
  case round =>
    subst hrel
    go_wp2_with fail
    refine (calls_args (step_on w.heap.size M 0 bs (startS bs) 9223372036854775807 wr HM.out (Nat.zero_le _) (by decide) (by decide)) (by rfl)).mono ?_
    have hst : stepTo 0 bs.length 9223372036854775807 = bs.length := by
      unfold stepTo
      rw [if_pos (by decide)]
      have : (9223372036854775807 : Int).toNat = 9223372036854775807 := rfl
      omega
    rw [hst]
    rintro e w2 ⟨hF2, ⟨z1, _⟩ | ⟨_, rfl, os, z2, z3⟩⟩
    · exact absurd z1 (Nat.lt_irrefl _)
    have HF2 := hide ((HF1.out.trans hF2).mono (S' := fun _ => False) fun i hi e => e.elim id (fun e => by omega))
    have HS := hide z2
    obtain ⟨cs, oa, oc, q1, q2, q3, q4⟩ := z3.ex
    have hos : os.length ≤ 2147483648 := by have := z2.len Hb.out; unfold mostF at this; omega
    have Hout := hide (out_c M (.slice oa os.length oc) os w2 (cell_of (o := 12) q1 q2) (own_lies5 q3) hos)
    clear hF2 z2 z3 q1 q2 q3 q4 hst
    go_wp2_with fail
    refine (calls_args Hout.out (by rfl)).mono ?_
    rintro e w3 ⟨ra, rc, rfl, hown, hF3⟩
    have Hown := hide hown
    have HF3 := hide (HF2.out.join hF3)
    clear hown hF3
    go_wp2
    go_ret
    have ho := Hown.out
    refine ⟨os, ra, rc, HS.out, rfl, ⟨ho.1, ho.2.imp id fun ⟨g, cap, cur, y1, y2, y3⟩ => ⟨g, cap, cur, y1, by have := HF2.out.size; omega, y3⟩⟩, HF3.out⟩
end Go.Proofs.YtdpmpllbdoefdaaGreatDoor
namespace Go.Proofs.YtdpmpllbdoefdaaGreatDoor
open Go.RowKit
structure Rz (w : World) (lo R : Nat) (sv : Value) (bs : List Nat) (p : Nat) : Prop where
  rf : Rf w R sv bs p false
  hR : lo ≤ R
  sb : bs ≠ [] → ∀ ad n c, sv = .slice (some ad) n c → ad.block < lo
  slo : lo ≤ w.heap.size
section
variable {w w' : World} {lo R : Nat} {sv : Value} {bs : List Nat} {p q : Nat}
theorem Rz.lt (h : Rz w lo R sv bs p) : R < w.heap.size := by obtain ⟨sh, ho⟩ := h.rf.eobj; exact lt_of ho
theorem Rz.next (h : Rz w lo R sv bs p) (hr : Rf w' R sv bs q false) (hF : Fr (fun k => k = R) w w') : Rz w' lo R sv bs q := ⟨hr, h.hR, h.sb, Nat.le_trans h.slo hF.size⟩
theorem Rz.keep (h : Rz w lo R sv bs p) {S : Nat → Prop} (hF : Fr S w w') (hS : ∀ k, S k → lo ≤ k ∧ k ≠ R) : Rz w' lo R sv bs p :=
  ⟨h.rf.keep hF (fun e => (hS R e).2 rfl) (fun hne ad n c e => ⟨Nat.lt_of_lt_of_le (h.sb hne ad n c e) h.slo, fun e2 => by have := (hS _ e2).1; have := h.sb hne ad n c e; omega⟩), h.hR, h.sb, Nat.le_trans h.slo hF.size⟩
theorem Rz.low (h : Rz w lo R sv bs p) {a b : World} (hF : Fr (fun k => k = R) a b) : Fl lo a b := hF.mono fun k _ e => by have := h.hR; omega
end
structure RTakes (n : Nat) (R : Nat) (sv : Value) (bs : List Nat) (p : Nat) (w : World) (Q : Ending → World → Prop) : Prop where
  ok : ∀ (a q : Nat) w', tkn n (leNum bs) (8 * bs.length) p = .ok (a, q) → Rf w' R sv bs q false → Fr (fun k => k = R) w w' → Q (.returned (.tuple #[.int .i64 (a : Int), .bool true])) w'
  no : ∀ w', tkn n (leNum bs) (8 * bs.length) p = .error 2 → Fr (fun k => k = R) w w' → Q (.returned (.tuple #[.int .i64 0, .bool false])) w'
theorem rtakes (w : World) (lo R : Nat) (sv : Value) (bs : List Nat) (p n : Nat) (h : Rz w lo R sv bs p) (hn : n ≤ 24) (Q : Ending → World → Prop) (hQ : RTakes n R sv bs p w Q) :
    Calls Tryz.prog 27 #[.pointer (some ⟨R, 0, none⟩), .int .i64 (n : Int)] w Q := by
  by_cases hf : p + n ≤ 8 * bs.length
  · exact (ref_take_low w R sv bs p n h.rf hn hf).mono fun e w' ⟨he, hr, hF⟩ => by rw [he]; exact hQ.ok _ _ w' (tkn_ok hf) hr hF
  · exact (ref_take_no w R sv bs p n false h.rf (Or.inr (by omega))).mono fun e w' ⟨he, _, hF⟩ => by rw [he]; exact hQ.no w' (tkn_err hf) hF
structure RWords (x : Rdr Nat) (R : Nat) (sv : Value) (bs : List Nat) (p : Nat) (w : World) (Q : Ending → World → Prop) : Prop where
  ok : ∀ (a q : Nat) w', x (leNum bs) (8 * bs.length) p = .ok (a, q) → Rf w' R sv bs q false → Fr (fun k => k = R) w w' → Q (.returned (.tuple #[.int .i64 (a : Int), .int .i64 0])) w'
  no : ∀ (er : Nat) w', x (leNum bs) (8 * bs.length) p = .error er → Fr (fun k => k = R) w w' → Q (.returned (.tuple #[.int .i64 0, .int .i64 (er : Int)])) w'
theorem rwords (w : World) (lo R : Nat) (sv : Value) (bs : List Nat) (p : Nat) (h : Rz w lo R sv bs p) (M clo chi : Nat) (ls : List Int) (hC : Rc w clo chi M ls) (hap : chi ≤ R ∨ R < clo) (Q : Ending → World → Prop) (hQ : RWords (tk ls) R sv bs p w Q) :
    Calls Tryz.prog 43 #[.pointer (some ⟨M, 0, none⟩), .pointer (some ⟨R, 0, none⟩)] w Q :=
  rtake_Q clo chi M R ls sv bs p w hC h.rf hap Q (fun _ y w' hh hy hr hF => hQ.ok y _ w' (hh.tk hy) hr hF) (fun er _ w' hh hF => hQ.no er w' hh.tk hF)
set_option maxHeartbeats 400000 in
set_option maxRecDepth 100000 in
theorem ralign_c (w : World) (lo R : Nat) (sv : Value) (bs : List Nat) (p : Nat) (h : Rz w lo R sv bs p) :
    Calls Tryz.prog 41 #[.pointer (some ⟨R, 0, none⟩)] w fun e w' => e = .returned (.tuple #[]) ∧ Rz w' lo R sv bs ((p + 7) / 8 * 8) ∧ Fr (fun k => k = R) w w' := by
  obtain ⟨a, c, h0, h1, _, _, h2, _⟩ := h.rf.facts
  have hl := h.rf.elen
  have hp := h.rf.epos
  have H := hide h
  obtain ⟨q, hq⟩ : ∃ q, q = (p + 7) / 8 := ⟨_, rfl⟩
  have hqi : ((p : Int) + 7) / 8 = (q : Int) := by omega
  have hqb : q ≤ 20000000000 := by omega
  have Hq := hide hq
  clear h hq
  go_enter Tryz.func41, Tryz.ntmps41
  go_wp2
  go_end0
  have hm : Moved R (q * 8) w (w.setCell ⟨R, 1, none⟩ (.int .i64 ((q : Int) * 8))) := moved_of (by omega)
  have hr := H.out.rf.moved hm (by have := Hq.out; omega)
  rw [← Hq.out]
  exact ⟨rfl, H.out.next hr (Fr.of_moved hm), Fr.of_moved hm⟩
def lb (i : Nat) : Nat := if i = 28 then 258 else if i < 8 then 3 + i else 3 + (4 + i % 4) * 2 ^ (i / 4 - 1)
def lm (i : Nat) : Nat := if i = 28 then 0 else if i < 8 then 0 else i / 4 - 1
def lbs : List Int := [3, 4, 5, 6, 7, 8, 9, 10, 11, 13, 15, 17, 19, 23, 27, 31, 35, 43, 51, 59, 67, 83, 99, 115, 131, 163, 195, 227, 258]
def lms : List Int := [0, 0, 0, 0, 0, 0, 0, 0, 1, 1, 1, 1, 2, 2, 2, 2, 3, 3, 3, 3, 4, 4, 4, 4, 5, 5, 5, 5, 0]
theorem lbs_at (i : Nat) (hi : i < 29) : at0 lbs i = (lb i : Nat) := by
  have : ∀ j : Fin 29, at0 lbs j.1 = (lb j.1 : Nat) := by decide
  exact this ⟨i, hi⟩
theorem lms_at (i : Nat) (hi : i < 29) : at0 lms i = (lm i : Nat) := by
  have : ∀ j : Fin 29, at0 lms j.1 = (lm j.1 : Nat) := by decide
  exact this ⟨i, hi⟩
theorem rlen_tab (i : Nat) (hi : i < 29) {V L p : Nat} (hp : p ≤ L) : rlen (257 + i) V L p = andThen (tkn (lm i)) (fun x => ret (lb i + x)) V L p := by
  unfold rlen lm lb
  rw [if_neg (by omega)]
  by_cases h28 : i = 28
  · subst h28
    simp only [if_true]
    rw [then_ok (tkn_ok (n := 0) (by omega)), lowBits_zero]
    rfl
  rw [if_neg (by omega), if_neg h28, if_neg h28, show 257 + i - 257 = i by omega]
  unfold rung
  by_cases h8 : i < 8
  · rw [if_pos (by omega), if_pos h8, if_pos h8, then_ok (tkn_ok (n := 0) (by omega)), lowBits_zero]
    rfl
  · rw [if_neg (by omega), if_neg h8, if_neg h8]
    simp only [andThen]
    cases tkn (i / 4 - 1) V L p with
    | error e => rfl
    | ok aq =>
      simp only [ret]
      rw [Nat.add_assoc]
set_option maxHeartbeats 800000 in
set_option maxRecDepth 100000 in
theorem lengthOf_c (i : Nat) (hi : i < 29) (w : World) : Calls Tryz.prog 44 #[.int .i64 ((257 + i : Nat) : Int)] w fun e w' => e = .returned (.tuple #[.int .i64 (lb i : Int), .int .i64 (lm i : Int), .bool true]) ∧ Fr (fun _ => False) w w' := by
  have e1 : ((257 + i : Nat) : Int) - 257 = (i : Int) := by omega
  have e2 : ¬ ((257 + i : Nat) : Int) < 257 := by omega
  have e3 : ¬ (285 : Int) < ((257 + i : Nat) : Int) := by omega
  have i29 : (i : Int) < 29 := by omega
  have f1 := Fr.of_alloc w (.cells (cellsZ lbs).toArray 3)
  have f2 := Fr.of_alloc (w.alloc (.cells (cellsZ lbs).toArray 3)) (.cells (cellsZ lms).toArray 3)
  have h1 : ((w.alloc (.cells (cellsZ lbs).toArray 3)).alloc (.cells (cellsZ lms).toArray 3)).cell? ⟨w.heap.size, i, none⟩ = some (.int .i64 (lb i : Int)) := by
    rw [cell_blk (f2.block w.heap.size (by simp) (fun h => h))]
    rw [← lbs_at i hi]
    exact cell_of (heap_alloc_new _ _) (by simp [cellsZ, at0, List.getElem?_eq_getElem (show i < lbs.length from hi)])
  have h2 : ((w.alloc (.cells (cellsZ lbs).toArray 3)).alloc (.cells (cellsZ lms).toArray 3)).cell? ⟨w.heap.size + 1, i, none⟩ = some (.int .i64 (lm i : Int)) := by
    rw [← lms_at i hi]
    refine cell_of (heap_alloc_at (by simp)) (by simp [cellsZ, at0, List.getElem?_eq_getElem (show i < lms.length from hi)])
  obtain ⟨w2, hw2⟩ : ∃ w2, w2 = (w.alloc (.cells #[.int .i64 3, .int .i64 4, .int .i64 5, .int .i64 6, .int .i64 7, .int .i64 8, .int .i64 9, .int .i64 10, .int .i64 11, .int .i64 13, .int .i64 15, .int .i64 17, .int .i64 19, .int .i64 23, .int .i64 27, .int .i64 31, .int .i64 35, .int .i64 43, .int .i64 51, .int .i64 59, .int .i64 67, .int .i64 83, .int .i64 99, .int .i64 115, .int .i64 131, .int .i64 163, .int .i64 195, .int .i64 227, .int .i64 258] 3)).alloc (.cells #[.int .i64 0, .int .i64 0, .int .i64 0, .int .i64 0, .int .i64 0, .int .i64 0, .int .i64 0, .int .i64 0, .int .i64 1, .int .i64 1, .int .i64 1, .int .i64 1, .int .i64 2, .int .i64 2, .int .i64 2, .int .i64 2, .int .i64 3, .int .i64 3, .int .i64 3, .int .i64 3, .int .i64 4, .int .i64 4, .int .i64 4, .int .i64 4, .int .i64 5, .int .i64 5, .int .i64 5, .int .i64 5, .int .i64 0] 3) := ⟨_, rfl⟩
  have h1' : w2.cell? ⟨w.heap.size, i, none⟩ = some (.int .i64 (lb i : Int)) := by rw [hw2]; exact h1
  have h2' : w2.cell? ⟨w.heap.size + 1, i, none⟩ = some (.int .i64 (lm i : Int)) := by rw [hw2]; exact h2
  have F : Hid (Fr (fun _ => False) w w2) := by rw [hw2]; exact f1.join f2
  obtain ⟨s, hs⟩ : ∃ s, s = 257 + i := ⟨_, rfl⟩
  rw [← hs] at e1 e2 e3 ⊢
  obtain ⟨B, hB⟩ : ∃ B, B = lb i := ⟨_, rfl⟩
  obtain ⟨C, hC⟩ : ∃ C, C = lm i := ⟨_, rfl⟩
  rw [← hB] at h1' ⊢
  rw [← hC] at h2' ⊢
  have Hw2 := hide hw2
  clear hs f1 f2 hB hC hi h1 h2 hw2
  go_enter Tryz.func44, Tryz.ntmps44
  go_wp2_with fail
  rw [← Hw2.out]
  clear Hw2
  go_quiet (fail)
  go_wp2
  go_ret3
  exact ⟨rfl, F.out.join (Fr.of_drewN _ _)⟩
set_option maxHeartbeats 400000 in
set_option maxRecDepth 100000 in
theorem lengthOf_no (s : Nat) (hs : 285 < s) (w : World) : Calls Tryz.prog 44 #[.int .i64 (s : Int)] w fun e w' => e = .returned (.tuple #[.int .i64 0, .int .i64 0, .bool false]) ∧ Fr (fun _ => False) w w' := by
  have e2 : ¬ (s : Int) < 257 := by omega
  have e3 : (285 : Int) < (s : Int) := by omega
  go_enter Tryz.func44, Tryz.ntmps44
  go_wp2
  go_ret3
  exact ⟨rfl, (Fr.of_alloc _ _).join (Fr.of_alloc _ _)⟩
def db (s : Nat) : Nat := if s < 4 then 1 + s else 1 + (2 + s % 2) * 2 ^ (s / 2 - 1)
def dm (s : Nat) : Nat := if s < 4 then 0 else s / 2 - 1
set_option maxHeartbeats 400000 in
set_option maxRecDepth 100000 in
theorem distanceOf_c (s : Nat) (hs : s < 30) (w : World) : Calls Tryz.prog 45 #[.int .i64 (s : Int)] w fun e w' => e = .returned (.tuple #[.int .i64 (db s : Int), .int .i64 (dm s : Int), .bool true]) ∧ w = w' := by
  have e1 : ¬ (s : Int) < 0 := by omega
  have e2 : ¬ (29 : Int) < (s : Int) := by omega
  unfold db dm
  by_cases h4 : s < 4
  · have h4i : (s : Int) < 4 := by omega
    rw [if_pos h4, if_pos h4]
    go_enter Tryz.func45, Tryz.ntmps45
    go_wp2
    go_ret3
    exact ⟨by simp; omega, rfl⟩
  · have h4i : ¬ (s : Int) < 4 := by omega
    rw [if_neg h4, if_neg h4]
    obtain ⟨f, hf⟩ : ∃ f, f = s / 2 - 1 := ⟨_, rfl⟩
    have hfi : ((s : Int) / 2) - 1 = (f : Int) := by omega
    have hf13 : f ≤ 13 := by omega
    obtain ⟨t, ht⟩ : ∃ t, t = s % 2 := ⟨_, rfl⟩
    have hti : (s : Int).tmod 2 = (t : Int) := by rw [Int.tmod_eq_emod_of_nonneg (by omega)]; omega
    have hti2 : (s : Int) % 2 = (t : Int) := by omega
    have htb : t < 2 := by omega
    obtain ⟨P2, hP2⟩ : ∃ P2, P2 = 2 ^ f := ⟨_, rfl⟩
    have hP3 : (2 : Int) ^ f = (P2 : Int) := by rw [hP2]; simp
    have hPb : P2 ≤ 8192 := by rw [hP2]; exact Nat.pow_le_pow_right (by decide) hf13
    obtain ⟨X, hX⟩ : ∃ X, X = (2 + t) * P2 := ⟨_, rfl⟩
    have hXb : X ≤ 65536 := by
      rw [hX]
      exact Nat.le_trans (Nat.mul_le_mul (show 2 + t ≤ 8 by omega) hPb) (by decide)
    have hXi : ((2 : Int) + (t : Int)) * (P2 : Int) = (X : Int) := by rw [hX]; simp
    have hwf : IntKind.u64.wrap (f : Int) = (f : Int) := by show (f : Int) % 18446744073709551616 = f; omega
    rw [← hf, ← ht, ← hP2, ← hX]
    clear hf ht hP2 hX
    go_enter Tryz.func45, Tryz.ntmps45
    go_wp2
    go_ret3
    exact ⟨by rw [Int.add_comm]; rfl, rfl⟩
set_option maxHeartbeats 400000 in
set_option maxRecDepth 100000 in
theorem distanceOf_no (s : Nat) (hs : 30 ≤ s) (w : World) : Calls Tryz.prog 45 #[.int .i64 (s : Int)] w fun e w' => e = .returned (.tuple #[.int .i64 0, .int .i64 0, .bool false]) ∧ w = w' := by
  have e1 : ¬ (s : Int) < 0 := by omega
  have e2 : (29 : Int) < (s : Int) := by omega
  go_enter Tryz.func45, Tryz.ntmps45
  go_wp2
  go_ret3
  exact ⟨rfl, rfl⟩
end Go.Proofs.YtdpmpllbdoefdaaGreatDoor
namespace Go.Proofs.YtdpmpllbdoefdaaGreatDoor
open Go.RowKit
structure Ro (w : World) (lo R : Nat) (a : Option Addr) (c : Nat) (out : List Nat) : Prop where
  own : w.ownsRow lo 5 1 (.slice a out.length c) out.length (cellsOf out)
  oR : ∀ g, (Value.slice a out.length c).ownBlock = some g → g ≠ R
theorem Ro.next {w w' : World} {lo R : Nat} {a : Option Addr} {c : Nat} {out : List Nat} (h : Ro w lo R a c out) (hF : Fr (fun k => k = R) w w') : Ro w' lo R a c out :=
  ⟨ownsRow_fr h.own fun k hk => hF.block k (h.own.lt k hk).2 (h.oR k hk), h.oR⟩
theorem Ro.fr {w w' : World} {lo R : Nat} {a : Option Addr} {c : Nat} {out : List Nat} (h : Ro w lo R a c out) (hF : Fr (fun _ => False) w w') : Ro w' lo R a c out :=
  ⟨ownsRow_fr h.own fun k hk => hF.block k (h.own.lt k hk).2 (fun h => h), h.oR⟩
theorem ro_append {w w1 : World} {lo R : Nat} {a : Option Addr} {c : Nat} {out : List Nat} {b N g cap : Nat} {o : Obj} (hR : R < w.heap.size) (h : Ro w lo R a c out) (hN : N = out.length)
    (hown : w1.ownsRow lo 5 1 (.slice (some ⟨g, 0, none⟩) (N + 1) cap) (N + 1) (cellsOf out ++ [.int .u8 (b : Int)])) (hgrow : (w.alloc o).grownBy w1 (Value.slice a N c).ownBlock) (hat : (Value.slice a N c).ownBlock = some g ∨ g = w.heap.size + 1) :
    Ro w1 lo R (some ⟨g, 0, none⟩) cap (out ++ [b]) ∧ Fr (fun k => (Value.slice a N c).ownBlock = some k) w w1 := by
  subst hN
  have f1 : Fr (fun k => (Value.slice a out.length c).ownBlock = some k) (w.alloc o) w1 := ⟨hgrow.os, hgrow.tape, hgrow.output, hgrow.size, fun k hk hn => hgrow.block k hk (fun e => hn e.symm)⟩
  have e : (out ++ [b]).length = out.length + 1 := by simp
  refine ⟨⟨?_, ?_⟩, ((Fr.of_alloc w o).trans f1).mono fun k _ h => h.elim (fun x => x.elim) id⟩
  · rw [e]
    simpa [cellsOf] using hown
  · intro g' hg'
    have : g = g' := by simpa [Value.ownBlock] using hg'
    subst this
    rcases hat with h1 | h1
    · exact h.oR g h1
    · omega
set_option maxHeartbeats 1600000 in
set_option maxRecDepth 100000 in
theorem rstored_c (w : World) (lo R : Nat) (sv : Value) (bs : List Nat) (p : Nat) (h : Rz w lo R sv bs p) (oa : Option Addr) (oc : Nat) (out : List Nat) (ho : Ro w lo R oa oc out) (most : Nat) (hmost : most ≤ 2147483647) (hom : out.length ≤ most) (Q : Ending → World → Prop)
    (hno : ∀ (er : Nat) w', storedHead (leNum bs) (8 * bs.length) p = .error er → Fl lo w w' → Q (.returned (.tuple #[.slice none 0 0, .int .i64 (er : Int)])) w')
    (hok : ∀ n q a' c' out' p' w', storedHead (leNum bs) (8 * bs.length) p = .ok (n, q) → Rz w' lo R sv bs p' → Ro w' lo R a' c' out' → out'.length ≤ most →
      (∀ last r, Runs (leNum bs) (8 * bs.length) most ⟨p', last, out', .ahead⟩ r → Runs (leNum bs) (8 * bs.length) most ⟨q, last, out, .stored n⟩ r) → Fl lo w w' → Q (.returned (.tuple #[.slice a' out'.length c', .int .i64 0])) w')
    (herr : ∀ n q (er : Nat) w', storedHead (leNum bs) (8 * bs.length) p = .ok (n, q) → er ≠ 0 → (∀ last, Runs (leNum bs) (8 * bs.length) most ⟨q, last, out, .stored n⟩ (.error er)) → Fl lo w w' → Q (.returned (.tuple #[.slice none 0 0, .int .i64 (er : Int)])) w') :
    Calls Tryz.prog 28 #[.pointer (some ⟨R, 0, none⟩), .slice oa out.length oc, .int .i64 (most : Int)] w Q := by
  obtain ⟨i0, hi, hz0, hz1, hz2⟩ := info_parts Tryz.info5
  have hl := h.rf.elen
  have H := hide h
  have HO := hide ho
  have Hno := hide hno
  have Hok := hide hok
  have Herr := hide herr
  have E : Hid (storedHead (leNum bs) (8 * bs.length) p = andThen (tkn 16) (fun n => andThen (tkn 16) fun m => if n + m = 65535 then ret n else bad 4) (leNum bs) (8 * bs.length) ((p + 7) / 8 * 8)) := rfl
  clear h ho hno hok herr
  go_enter Tryz.func28, Tryz.ntmps28
  go_wp2_with fail
  refine (ralign_c w lo R sv bs p H.out).mono ?_
  rintro e w1 ⟨rfl, hz, hF⟩
  have H1 := hide hz
  have HO1 := hide (HO.out.next hF)
  have HF1 := hide (H.out.low hF)
  have hp1 := hz.rf.epos
  clear hz hF
  generalize (p + 7) / 8 * 8 = p1 at *
  go_wp2_with fail
  refine (ref_left w1 R sv bs p1 false H1.out.rf).mono ?_
  rintro e w2 ⟨rfl, k, rfl⟩
  have H2 := hide (H1.out.keep (Fr.of_drewN w1 k) (fun _ h => h.elim))
  have HO2 := hide (HO1.out.fr (Fr.of_drewN w1 k))
  have HF2 := hide (HF1.out.join (Fr.none (S := fun j => lo ≤ j) k))
  clear H1 HO1 HF1
  generalize w1.drewN k = w2 at *
  obtain ⟨Lb, hLb⟩ : ∃ Lb, Lb = 8 * bs.length := ⟨_, rfl⟩
  have eL : 8 * (bs.length : Int) - (p1 : Int) = ((Lb - p1 : Nat) : Int) := by omega
  by_cases h32 : p1 + 32 ≤ 8 * bs.length
  · have q32 : ¬ 8 * (bs.length : Int) - (p1 : Int) < 32 := by omega
    go_wp2_with fail
    refine rtakes w2 lo R sv bs p1 16 H2.out (by omega) _ ⟨?ok1, ?no1⟩
    case no1 => (intro w3 hx; rw [tkn_ok (by omega)] at hx; cases hx)
    intro n p2 w3 hx hr hF
    have hn : n < 65536 := tkn_lt hx
    have hp2 := (tkn_inv hx).2.2
    have E1 := hide (E.out.trans (then_ok hx))
    have H3 := hide (H2.out.next hr hF)
    have HO3 := hide (HO2.out.next hF)
    have HF3 := hide (HF2.out.join (H2.out.low hF))
    clear hx hr hF
    go_wp2_with fail
    refine rtakes w3 lo R sv bs p2 16 H3.out (by omega) _ ⟨?ok2, ?no2⟩
    case no2 => (intro w4 hx; rw [tkn_ok (by omega)] at hx; cases hx)
    intro m q w4 hx hr hF
    have hm : m < 65536 := tkn_lt hx
    have E2 := hide (E1.out.trans (then_ok hx))
    have H4 := hide (H3.out.next hr hF)
    have HO4 := hide (HO3.out.next hF)
    have HF4 := hide (HF3.out.join (H3.out.low hF))
    clear hx hr hF hp2
    by_cases hnm : n + m = 65535
    · have e1 : (n : Int) = 65535 - (m : Int) := by omega
      have e2 : ((n : Int) == 65535 - (m : Int)) = true := by simpa using e1
      have E3 := E2.out
      rw [if_pos hnm] at E3
      have HE3 : Hid (storedHead (leNum bs) (8 * bs.length) p = .ok (n, q)) := E3
      obtain ⟨mm, hmm⟩ : ∃ mm : Nat, (65535 : Int) - (m : Int) = (mm : Int) := ⟨65535 - m, by omega⟩
      have e4 : n = mm := by omega
      subst e4
      clear E3 e1 e2
      go_wp2
      go_loopw [1, 12, 13, 14] (fun v iv _ _ wr => ∃ (i : Nat) (out' : List Nat) (p' : Nat) (a' : Option Addr) (c' N : Nat), i ≤ n ∧ iv = .int .i64 (i : Int) ∧ v = .slice a' N c' ∧ Hid (N = out'.length) ∧ Hid (Rz wr lo R sv bs p') ∧ Hid (Ro wr lo R a' c' out') ∧ Hid (out'.length ≤ most) ∧
        Hid (∀ last r, Runs (leNum bs) (8 * bs.length) most ⟨p', last, out', .stored (n - i)⟩ r → Runs (leNum bs) (8 * bs.length) most ⟨q, last, out, .stored n⟩ r) ∧ Hid (Fl lo w wr)) (fun _ iv _ _ _ => n - (intOf iv).toNat)
      case atStart => exact ⟨0, out, q, oa, oc, out.length, Nat.zero_le _, rfl, rfl, rfl, H4.out, HO4.out, hom, fun _ _ h => h, HF4.out⟩
      case round =>
        obtain ⟨i, out', p', a', c', N, hi1, rfl, rfl, G0, G1, G2, G3, G4, G5⟩ := hrel
        by_cases hlt : i < n
        · have hlti : (i : Int) < (n : Int) := by omega
          have hN : N ≤ 2147483647 := by have := G0.out; have := G3.out; omega
          go_wp2_with fail
          refine (ref_left wr R sv bs p' false G1.out.rf).mono ?_
          rintro e w5 ⟨rfl, k5, rfl⟩
          have K1 := hide (G1.out.keep (Fr.of_drewN wr k5) (fun _ h => h.elim))
          have K2 := hide (G2.out.fr (Fr.of_drewN wr k5))
          have K5 := hide (G5.out.join (Fr.none (S := fun j => lo ≤ j) k5))
          have Kp := G1.out.rf.epos
          clear G1 G2 G5
          generalize wr.drewN k5 = w5 at *
          by_cases h8 : p' + 8 ≤ 8 * bs.length
          · have q8 : ¬ 8 * (bs.length : Int) - (p' : Int) < 8 := by omega
            obtain ⟨b, hb⟩ : ∃ b, b = lowBits (leNum bs) p' 8 := ⟨_, rfl⟩
            have hb8 : b < 256 := by rw [hb]; exact lowBits_lt _ _ _
            have A : ∀ last, adv (leNum bs) (8 * bs.length) ⟨p', last, out', .stored (n - i)⟩ = .put ⟨p' + 8, last, out' ++ [b], .stored (n - (i + 1))⟩ := by
              intro last
              simp only [adv]
              rw [if_neg (by omega), tkn_ok h8, ← hb, show n - i - 1 = n - (i + 1) by omega]
            have HA := hide A
            clear A
            by_cases hful : most ≤ N
            · have hfi : (most : Int) ≤ (N : Int) := by omega
              have X := hide (Herr.out n q 6 w5 HE3.out (by omega) (fun last => G4.out last _ (.full (HA.out last) (by rw [← G0.out]; exact hful))) K5.out)
              go_wp2
              exact X.out
            · have hfi : ¬ (most : Int) ≤ (N : Int) := by omega
              go_wp2_with fail
              refine rtakes w5 lo R sv bs p' 8 K1.out (by omega) _ ⟨?ok3, ?no3⟩
              case no3 => (intro w6 hx; rw [tkn_ok h8] at hx; cases hx)
              intro b' p2' w6 hx hr hF
              rw [tkn_ok h8, ← hb] at hx
              have ex : b = b' ∧ p' + 8 = p2' := by simpa using hx
              obtain ⟨rfl, rfl⟩ := ex
              have L1 := hide (K1.out.next hr hF)
              have L2 := hide (K2.out.next hF)
              have L5 := hide (K5.out.join (K1.out.low hF))
              have hRl : R < w6.heap.size := L1.out.lt
              have hlow : lo ≤ w6.heap.size := L1.out.slo
              have hown := L2.out.own
              rw [← G0.out] at hown
              have Hown := hide hown
              have hwb : IntKind.u8.wrap (b : Int) = (b : Int) := wrap_u8 _ (by omega) (by omega)
              clear hx hr hF hown K1 K2 K5 hb
              go_wp2_with (at_builtin; go_must (refine wpList_append_lies _ rfl _ _ 22 rfl lo 5 i0 (.int .u8 0) 1 1 Tryz.underlying22 hi hz0 hz1 hz2 rfl (by decide) (.slice a' N c') N (cellsOf out') rfl (Hown.out.alloc _) ⟨w6.heap.size, 0, none⟩ 1 1 [.int .u8 (b : Int)] rfl rfl (cell_one_new _ _ _) (fun x hx => by simp at hx; subst hx; rfl) (by decide) (by unfold maxLen; omega) (by omega) (by simp; omega) (w6.heap.size + 1) (by simp) ?_); intro g cap w7 hown7 hgrow hat hlt7)
              obtain ⟨r1, r2⟩ := ro_append hRl L2.out G0.out hown7 hgrow hat
              have hS : ∀ k, (Value.slice a' N c').ownBlock = some k → lo ≤ k ∧ k ≠ R := fun k hk => by
                have e := G0.out
                subst e
                exact ⟨(L2.out.own.lt k hk).1, L2.out.oR k hk⟩
              have M1 := hide (L1.out.keep r2 hS)
              have M2 := hide r1
              have M5 := hide (L5.out.join (r2.mono fun k _ hk => (hS k hk).1))
              have M4 : Hid (∀ last r, Runs (leNum bs) (8 * bs.length) most ⟨p' + 8, last, out' ++ [b], .stored (n - (i + 1))⟩ r → Runs (leNum bs) (8 * bs.length) most ⟨q, last, out, .stored n⟩ r) := fun last r hr => G4.out last r (.put (HA.out last) (by show out'.length < most; rw [← G0.out]; omega) hr)
              have M0 : Hid (N + 1 = (out' ++ [b]).length) := by show _ = _; rw [G0.out]; simp
              clear r1 r2 hown7 hgrow hat hlt7
              go_roundw
              case rel => exact ⟨i + 1, out' ++ [b], p' + 8, some ⟨g, 0, none⟩, cap, N + 1, by omega, by go_num, rfl, M0, M1, M2, (by show (out' ++ [b]).length ≤ most; rw [← M0.out]; omega), M4, M5⟩
              case measure => simp [intOf]; omega
          · have q8 : 8 * (bs.length : Int) - (p' : Int) < 8 := by omega
            have X := hide (Herr.out n q 2 w5 HE3.out (by omega) (fun last => G4.out last _ (.fail (by simp only [adv]; rw [if_neg (by omega), tkn_err h8]))) K5.out)
            go_wp2
            exact X.out
        · have hlti : ¬ (i : Int) < (n : Int) := by omega
          have hie : i = n := by omega
          subst hie
          have X := hide (Hok.out i q a' c' out' p' wr HE3.out G1.out G2.out G3.out (fun last r hr => G4.out last r (.go (s' := ⟨p', last, out', .ahead⟩) (by simp only [adv]; rw [Nat.sub_self, if_pos rfl]) hr)) G5.out)
          rw [← G0.out] at X
          go_wp2
          exact X.out
    · have e1 : ¬ (n : Int) = 65535 - (m : Int) := by omega
      have e2 : ((n : Int) == 65535 - (m : Int)) = false := beq_false_of_ne e1
      have E3 := E2.out
      rw [if_neg hnm] at E3
      have X := hide (Hno.out 4 w4 E3 HF4.out)
      clear E3
      go_wp2
      exact X.out
  · have q32 : 8 * (bs.length : Int) - (p1 : Int) < 32 := by omega
    have E1 : storedHead (leNum bs) (8 * bs.length) p = .error 2 := by
      rw [E.out]
      by_cases h16 : p1 + 16 ≤ 8 * bs.length
      · rw [then_ok (tkn_ok h16), then_err (tkn_err (by omega))]
      · rw [then_err (tkn_err h16)]
    have X := hide (Hno.out 2 w2 E1 HF2.out)
    clear E1
    go_wp2
    exact X.out
end Go.Proofs.YtdpmpllbdoefdaaGreatDoor
namespace Go.Proofs.YtdpmpllbdoefdaaGreatDoor
open Go.RowKit
def CodeR (w : World) (R : Nat) (a : Option Addr) (N c M : Nat) (ls : List Int) : Prop :=
  ∃ clo chi, Rc w clo chi M ls ∧ (chi ≤ R ∨ R < clo) ∧ ∀ g, (Value.slice a N c).ownBlock = some g → chi ≤ g ∨ g < clo
theorem CodeR.next {w w' : World} {R : Nat} {a : Option Addr} {N c M : Nat} {ls : List Int} (h : CodeR w R a N c M ls) (hF : Fr (fun k => k = R) w w') : CodeR w' R a N c M ls := by
  obtain ⟨clo, chi, h1, h2, h3⟩ := h
  exact ⟨clo, chi, h1.keep hF (fun k _ _ e => by omega), h2, h3⟩
theorem CodeR.fr {w w' : World} {R : Nat} {a : Option Addr} {N c M : Nat} {ls : List Int} (h : CodeR w R a N c M ls) (hF : Fr (fun _ => False) w w') : CodeR w' R a N c M ls := by
  obtain ⟨clo, chi, h1, h2, h3⟩ := h
  exact ⟨clo, chi, h1.keep hF (fun _ _ _ e => e), h2, h3⟩
theorem CodeR.put {w w' : World} {R : Nat} {a : Option Addr} {N c M g cap : Nat} {ls : List Int} (h : CodeR w R a N c M ls) (hF : Fr (fun k => (Value.slice a N c).ownBlock = some k) w w') (hg : (Value.slice a N c).ownBlock = some g ∨ g = w.heap.size + 1) : CodeR w' R (some ⟨g, 0, none⟩) (N + 1) cap M ls := by
  obtain ⟨clo, chi, h1, h2, h3⟩ := h
  refine ⟨clo, chi, h1.keep hF (fun k _ _ e => by have := h3 k e; omega), h2, fun g' hg' => ?_⟩
  have : g = g' := by simpa [Value.ownBlock] using hg'
  subst this
  rcases hg with hg | hg
  · exact h3 g hg
  · have := h1.esz; exact Or.inl (by omega)
theorem rdist_tab2 (s o : Nat) {V L p : Nat} (hp : p ≤ L) : andThen (rung s 2) (fun x => if o < 1 + x then bad 4 else ret (1 + x)) V L p = andThen (tkn (dm s)) (fun x => if o < db s + x then bad 4 else ret (db s + x)) V L p := by
  unfold rung dm db
  by_cases h4 : s < 4
  · rw [if_pos (by omega), if_pos h4, if_pos h4, then_ok (x := tkn 0) (tkn_ok (n := 0) (by omega)), lowBits_zero]
    rfl
  · rw [if_neg (by omega), if_neg h4, if_neg h4]
    simp only [andThen]
    cases tkn (s / 2 - 1) V L p with
    | error e => rfl
    | ok aq =>
      simp only [ret]
      rw [Nat.add_assoc]
theorem lm_le (i : Nat) (hi : i < 29) : lm i ≤ 5 ∧ lb i ≤ 258 := by
  have : ∀ j : Fin 29, lm j.1 ≤ 5 ∧ lb j.1 ≤ 258 := by decide
  exact this ⟨i, hi⟩
theorem lb_ge (i : Nat) (hi : i < 29) : 3 ≤ lb i := by
  have : ∀ j : Fin 29, 3 ≤ lb j.1 := by decide
  exact this ⟨i, hi⟩
theorem dm_le (s : Nat) (hs : s < 30) : dm s ≤ 13 ∧ 1 ≤ db s ∧ db s ≤ 65536 := by
  have : ∀ j : Fin 30, dm j.1 ≤ 13 ∧ 1 ≤ db j.1 ∧ db j.1 ≤ 65536 := by decide
  exact this ⟨s, hs⟩
def rowSt (m d : Nat) (ll dl : List Int) : Pl := if m = 0 then .coded ll dl else .row m d ll dl
theorem adv_rowSt {V L p : Nat} {last : Bool} {out : List Nat} {m d : Nat} {ll dl : List Int} (hm : 1 ≤ m) : adv V L ⟨p, last, out, rowSt m d ll dl⟩ = .put ⟨p, last, out ++ [out.getD (out.length - d) 0], rowSt (m - 1) d ll dl⟩ := by
  unfold rowSt
  rw [if_neg (by omega)]
  simp only [adv]
  by_cases h1 : m = 1
  · subst h1; rfl
  · rw [if_neg h1, if_neg (by omega)]
structure Cw (w wr : World) (lo R : Nat) (sv : Value) (bs : List Nat) (most : Nat) (LM DM : Nat) (ll dl : List Int) (p : Nat) (out : List Nat) (a : Option Addr) (c N : Nat) : Prop where
  n : N = out.length
  z : Rz wr lo R sv bs p
  o : Ro wr lo R a c out
  cl : CodeR wr R a N c LM ll
  cd : CodeR wr R a N c DM dl
  le : out.length ≤ most
  fl : Fl lo w wr
section
variable {w wr w' : World} {lo R : Nat} {sv : Value} {bs : List Nat} {most LM DM : Nat} {ll dl : List Int} {p : Nat} {out : List Nat} {a : Option Addr} {c N : Nat}
theorem Cw.next (h : Cw w wr lo R sv bs most LM DM ll dl p out a c N) {q : Nat} (hr : Rf w' R sv bs q false) (hF : Fr (fun k => k = R) wr w') : Cw w w' lo R sv bs most LM DM ll dl q out a c N :=
  ⟨h.n, h.z.next hr hF, h.o.next hF, h.cl.next hF, h.cd.next hF, h.le, h.fl.join (h.z.low hF)⟩
theorem Cw.fr (h : Cw w wr lo R sv bs most LM DM ll dl p out a c N) (hF : Fr (fun _ => False) wr w') : Cw w w' lo R sv bs most LM DM ll dl p out a c N :=
  ⟨h.n, h.z.keep hF (fun _ h => h.elim), h.o.fr hF, h.cl.fr hF, h.cd.fr hF, h.le, h.fl.join (Fl0 hF)⟩
theorem Cw.put (h : Cw w wr lo R sv bs most LM DM ll dl p out a c N) {b g cap : Nat} {o : Obj} (hlt : N < most) (hown : w'.ownsRow lo 5 1 (.slice (some ⟨g, 0, none⟩) (N + 1) cap) (N + 1) (cellsOf out ++ [.int .u8 (b : Int)]))
    (hgrow : (wr.alloc o).grownBy w' (Value.slice a N c).ownBlock) (hat : (Value.slice a N c).ownBlock = some g ∨ g = wr.heap.size + 1) : Cw w w' lo R sv bs most LM DM ll dl p (out ++ [b]) (some ⟨g, 0, none⟩) cap (N + 1) := by
  obtain ⟨r1, r2⟩ := ro_append h.z.lt h.o h.n hown hgrow hat
  have hS : ∀ k, (Value.slice a N c).ownBlock = some k → lo ≤ k ∧ k ≠ R := fun k hk => by
    have e := h.n
    subst e
    exact ⟨(h.o.own.lt k hk).1, h.o.oR k hk⟩
  have hn := h.n
  exact ⟨by rw [h.n]; simp, h.z.keep r2 hS, r1, h.cl.put r2 hat, h.cd.put r2 hat, by rw [List.length_append, List.length_singleton]; omega, h.fl.join (r2.mono fun k _ hk => (hS k hk).1)⟩
theorem Cw.low (h : Cw w wr lo R sv bs most LM DM ll dl p out a c N) : wr.ownsRow lo 5 1 (.slice a N c) N (cellsOf out) ∧ R < wr.heap.size ∧ lo ≤ wr.heap.size := by
  refine ⟨?_, h.z.lt, h.z.slo⟩
  have := h.o.own
  rw [← h.n] at this
  exact this
theorem Cw.pos (h : Cw w wr lo R sv bs most LM DM ll dl p out a c N) : cellI wr R 1 = p := by
  obtain ⟨_, _, _, f1, _⟩ := h.z.rf.facts
  unfold cellI
  rw [f1]
  simp
end
theorem Ro.at {w : World} {lo R : Nat} {a : Option Addr} {c N : Nat} {out : List Nat} (h : Ro w lo R a c out) (hN : N = out.length) {j : Nat} (hj : j < N) : ∃ ad, a = some ad ∧ w.cell? (ad.add j) = some (.int .u8 (out.getD j 0 : Nat)) := by
  subst hN
  rcases h.own.2 with ⟨_, e0⟩ | ⟨g, cap, cur, hv, hg, hh, hr⟩
  · omega
  · cases hv
    refine ⟨⟨g, 0, none⟩, rfl, h.own.cells (g := g) rfl j _ ?_⟩
    simp [cellsOf, List.getElem?_eq_getElem hj]
set_option maxHeartbeats 3200000 in
set_option maxRecDepth 100000 in
theorem rcoded_c (w : World) (lo R : Nat) (sv : Value) (bs : List Nat) (most : Nat) (hmost : most ≤ 2147480000) (LM DM : Nat) (ll dl : List Int) (p0 : Nat) (out0 : List Nat) (oa : Option Addr) (oc n0 : Nat) (h : Cw w w lo R sv bs most LM DM ll dl p0 out0 oa oc n0) (Q : Ending → World → Prop)
    (hok : ∀ a' c' N out' p' w', Cw w w' lo R sv bs most LM DM ll dl p' out' a' c' N → (∀ last r, Runs (leNum bs) (8 * bs.length) most ⟨p', last, out', .ahead⟩ r → Runs (leNum bs) (8 * bs.length) most ⟨p0, last, out0, .coded ll dl⟩ r) → Q (.returned (.tuple #[.slice a' N c', .int .i64 0])) w')
    (herr : ∀ (er : Nat) w', er ≠ 0 → (∀ last, Runs (leNum bs) (8 * bs.length) most ⟨p0, last, out0, .coded ll dl⟩ (.error er)) → Fl lo w w' → Q (.returned (.tuple #[.slice none 0 0, .int .i64 (er : Int)])) w') :
    Calls Tryz.prog 30 #[.pointer (some ⟨R, 0, none⟩), .pointer (some ⟨LM, 0, none⟩), .pointer (some ⟨DM, 0, none⟩), .slice oa n0 oc, .int .i64 (most : Int)] w Q := by
  obtain ⟨i0, hi, hz0, hz1, hz2⟩ := info_parts Tryz.info5
  have H := hide h
  have Hok := hide hok
  have Herr := hide herr
  clear h hok herr
  go_enter Tryz.func30, Tryz.ntmps30
  go_wp2
  go_loopw [3, 12, 13, 14, 15, 16, 17, 18, 19, 20] (fun v _ _ _ _ _ _ _ _ _ wr => ∃ (out : List Nat) (p : Nat) (a : Option Addr) (c N : Nat), v = .slice a N c ∧ Hid (Cw w wr lo R sv bs most LM DM ll dl p out a c N) ∧
    Hid (∀ last r, Runs (leNum bs) (8 * bs.length) most ⟨p, last, out, .coded ll dl⟩ r → Runs (leNum bs) (8 * bs.length) most ⟨p0, last, out0, .coded ll dl⟩ r)) (fun _ _ _ _ _ _ _ _ _ _ wr => 8 * bs.length - cellI wr R 1)
  case atStart => exact ⟨out0, p0, oa, oc, n0, rfl, H.out, fun _ _ h => h⟩
  case round =>
    obtain ⟨out, p, a, c, N, rfl, C0, G⟩ := hrel
    have hN : N ≤ 2147480000 := by have := C0.out.n; have := C0.out.le; omega
    obtain ⟨clo, chi, k1, k2, k3⟩ := C0.out.cl
    have A1 : Hid (∀ er, word ll dl out.length (leNum bs) (8 * bs.length) p = .error er → ∀ last, Runs (leNum bs) (8 * bs.length) most ⟨p0, last, out0, .coded ll dl⟩ (.error er)) := by
      intro er hw last
      exact G.out last _ (.fail (by simp only [adv, hw]))
    have E0 : Hid (word ll dl out.length (leNum bs) (8 * bs.length) p = andThen (tk ll) (fun s => if s < 256 then ret (.lit s) else if s = 256 then ret .fin else andThen (rlen s) fun n => andThen (rdist dl out.length) fun d => ret (.row n d)) (leNum bs) (8 * bs.length) p) := rfl
    go_wp2_with fail
    refine rwords wr lo R sv bs p C0.out.z LM clo chi ll k1 k2 _ ⟨?ok1, ?no1⟩
    case no1 =>
      intro er w1 hx hF
      have her : er ≠ 0 := (Ne0.tk ll).ne hx
      have hei : ((er : Int) == 0) = false := beq_false_of_ne (by omega)
      have hej : ¬ (er : Int) = 0 := by omega
      have X := hide (Herr.out er w1 her (A1.out er (E0.out.trans (then_err hx))) (C0.out.fl.join (C0.out.z.low hF)))
      clear hx hF k1 k2 k3
      go_wp2
      exact X.out
    intro s q w1 hx hr hF
    have hpq : p < q := (tkFrom_good ll _ _ hx).1
    have hqL : q ≤ 8 * bs.length := hr.epos
    have E1 := hide (E0.out.trans (then_ok hx))
    have C1 := hide (C0.out.next hr hF)
    have Hm0 : Hid (cellI wr R 1 = p) := C0.out.pos
    clear hx hr hF k1 k2 k3
    by_cases h256 : s = 256
    · subst h256
      have E2 : word ll dl out.length (leNum bs) (8 * bs.length) p = .ok (.fin, q) := E1.out
      have X := hide (Hok.out a c N out q w1 C1.out (fun last r hr => G.out last r (.go (s' := ⟨q, last, out, .ahead⟩) (by simp only [adv, E2]) hr)))
      clear E2
      go_wp2
      exact X.out
    · have h6 : ((s : Int) == 256) = false := beq_false_of_ne (by omega)
      have h6j : ¬ (s : Int) = 256 := by omega
      by_cases hlit : s < 256
      · have hli : (s : Int) < 256 := by omega
        have E2 := E1.out
        rw [if_pos hlit] at E2
        have E2' : word ll dl out.length (leNum bs) (8 * bs.length) p = .ok (.lit s, q) := E2
        have A2 : Hid (∀ last, adv (leNum bs) (8 * bs.length) ⟨p, last, out, .coded ll dl⟩ = .put ⟨q, last, out ++ [s], .coded ll dl⟩) := by
          intro last
          simp only [adv, E2']
        clear E2 E2'
        by_cases hful : most ≤ N
        · have hfi : (most : Int) ≤ (N : Int) := by omega
          have X := hide (Herr.out 6 w1 (by omega) (fun last => G.out last _ (.full (A2.out last) (by show most ≤ out.length; rw [← C1.out.n]; exact hful))) C1.out.fl)
          go_wp2
          exact X.out
        · have hfi : ¬ (most : Int) ≤ (N : Int) := by omega
          obtain ⟨hown, hRl, hlow⟩ := C1.out.low
          have Hown := hide hown
          have hwb : IntKind.u8.wrap (s : Int) = (s : Int) := wrap_u8 _ (by omega) (by omega)
          clear hown
          go_wp2_with (at_builtin; go_must (refine wpList_append_lies _ rfl _ _ 22 rfl lo 5 i0 (.int .u8 0) 1 1 Tryz.underlying22 hi hz0 hz1 hz2 rfl (by decide) (.slice a N c) N (cellsOf out) rfl (Hown.out.alloc _) ⟨w1.heap.size, 0, none⟩ 1 1 [.int .u8 (s : Int)] rfl rfl (cell_one_new _ _ _) (fun x hx => by simp at hx; subst hx; rfl) (by decide) (by unfold maxLen; omega) (by omega) (by simp; omega) (w1.heap.size + 1) (by simp) ?_); intro g cap w7 hown7 hgrow hat hlt7)
          have C2 := hide (C1.out.put (by omega) hown7 hgrow hat)
          have G2 : Hid (∀ last r, Runs (leNum bs) (8 * bs.length) most ⟨q, last, out ++ [s], .coded ll dl⟩ r → Runs (leNum bs) (8 * bs.length) most ⟨p0, last, out0, .coded ll dl⟩ r) := fun last r hr => G.out last r (.put (A2.out last) (by show out.length < most; rw [← C1.out.n]; omega) hr)
          clear hown7 hgrow hat hlt7
          go_roundw
          case rel => exact ⟨out ++ [s], q, some ⟨g, 0, none⟩, cap, N + 1, rfl, C2.out, G2.out⟩
          case measure => rw [C2.out.pos, Hm0.out]; omega
      · have hli : ¬ (s : Int) < 256 := by omega
        have E2 := E1.out
        rw [if_neg hlit, if_neg h256] at E2
        have HE2 := hide E2
        clear E2
        by_cases h285 : 285 < s
        · go_wp2_with fail
          refine (lengthOf_no s h285 w1).mono ?_
          rintro e w2 ⟨rfl, hF⟩
          have X := hide (Herr.out 4 w2 (by omega) (A1.out 4 (HE2.out.trans (then_err (by unfold rlen; rw [if_pos h285]; rfl)))) (C1.out.fl.join (Fl0 hF)))
          clear hF
          go_wp2
          exact X.out
        · obtain ⟨i, rfl⟩ : ∃ i, s = 257 + i := ⟨s - 257, by omega⟩
          have hi29 : i < 29 := by omega
          obtain ⟨hlm, hlb⟩ := lm_le i hi29
          have hlb3 := lb_ge i hi29
          have E3 := HE2.out
          have E4 : Hid (rlen (257 + i) (leNum bs) (8 * bs.length) q = andThen (tkn (lm i)) (fun x => ret (lb i + x)) (leNum bs) (8 * bs.length) q) := rlen_tab i hi29 hqL
          obtain ⟨LB, hLB⟩ : ∃ LB, LB = lb i := ⟨_, rfl⟩
          obtain ⟨LMo, hLM⟩ : ∃ LMo, LMo = lm i := ⟨_, rfl⟩
          have HL := hide (lengthOf_c i hi29 w1)
          rw [← hLB, ← hLM] at HL E4
          rw [← hLB] at hlb hlb3
          rw [← hLM] at hlm
          obtain ⟨sy, hsy⟩ : ∃ sy, sy = 257 + i := ⟨_, rfl⟩
          rw [← hsy] at HL HE2 E4 hlit h256 h6 h6j hli ⊢
          clear E3 hLB hLM hsy h285
          go_wp2_with fail
          refine HL.out.mono ?_
          rintro e w2 ⟨rfl, hF⟩
          have C2 := hide (C1.out.fr hF)
          clear hF
          go_wp2_with fail
          refine rtakes w2 lo R sv bs q LMo C2.out.z (by omega) _ ⟨?ok2, ?no2⟩
          case no2 =>
            intro w3 hx hF
            have X := hide (Herr.out 2 w3 (by omega) (A1.out 2 (HE2.out.trans (then_err (E4.out.trans (then_err hx))))) (C2.out.fl.join (C2.out.z.low hF)))
            clear hx hF
            go_wp2
            exact X.out
          intro x q2 w3 hx hr hF
          have hxb : x < 32 := Nat.lt_of_lt_of_le (tkn_lt hx) (Nat.pow_le_pow_right (by decide) hlm)
          have hq2 : q ≤ q2 := by have := (tkn_inv hx).2.2; omega
          have E5 := hide (HE2.out.trans (then_ok (E4.out.trans (then_ok hx))))
          have C3 := hide (C2.out.next hr hF)
          obtain ⟨n, hn⟩ : ∃ n, n = LB + x := ⟨_, rfl⟩
          have hni : (LB : Int) + (x : Int) = (n : Int) := by omega
          have hnb : 3 ≤ n ∧ n ≤ 300 := by omega
          rw [← hn] at E5
          obtain ⟨dlo, dhi, j1, j2, j3⟩ := C3.out.cd
          have E6 : Hid (word ll dl out.length (leNum bs) (8 * bs.length) p = andThen (andThen (tk dl) fun s => if 30 ≤ s then bad 4 else andThen (rung s 2) fun x => if out.length < 1 + x then bad 4 else ret (1 + x)) (fun d => ret (.row n d)) (leNum bs) (8 * bs.length) q2) := E5.out
          clear hx hr hF hn E5
          go_wp2_with fail
          refine rwords w3 lo R sv bs q2 C3.out.z DM dlo dhi dl j1 j2 _ ⟨?ok3, ?no3⟩
          case no3 =>
            intro er w4 hx hF
            have her : er ≠ 0 := (Ne0.tk dl).ne hx
            have hei : ((er : Int) == 0) = false := beq_false_of_ne (by omega)
            have hej : ¬ (er : Int) = 0 := by omega
            have X := hide (Herr.out er w4 her (A1.out er (E6.out.trans (then_err (then_err hx)))) (C3.out.fl.join (C3.out.z.low hF)))
            clear hx hF j1 j2 j3
            go_wp2
            exact X.out
          intro d q3 w4 hx hr hF
          have hq3 : q2 < q3 := (tkFrom_good dl _ _ hx).1
          have hq3L : q3 ≤ 8 * bs.length := hr.epos
          have E7 : Hid (word ll dl out.length (leNum bs) (8 * bs.length) p = andThen (if 30 ≤ d then bad 4 else andThen (rung d 2) fun x => if out.length < 1 + x then bad 4 else ret (1 + x)) (fun d => ret (.row n d)) (leNum bs) (8 * bs.length) q3) := by
            show _ = _
            rw [E6.out]
            simp only [andThen, hx]
          have C4 := hide (C3.out.next hr hF)
          clear hx hr hF j1 j2 j3
          by_cases h30 : 30 ≤ d
          · have E8 := E7.out
            rw [if_pos h30] at E8
            go_wp2_with fail
            refine (distanceOf_no d h30 w4).mono ?_
            rintro e w5 ⟨rfl, rfl⟩
            have X := hide (Herr.out 4 w4 (by omega) (A1.out 4 (E8.trans (then_err rfl))) C4.out.fl)
            clear E8
            go_wp2
            exact X.out
          · have E8 := E7.out
            rw [if_neg h30] at E8
            obtain ⟨hdm, hdb1, hdb2⟩ := dm_le d (by omega)
            have E9 : Hid (word ll dl out.length (leNum bs) (8 * bs.length) p = andThen (andThen (tkn (dm d)) fun x => if out.length < db d + x then bad 4 else ret (db d + x)) (fun d => ret (.row n d)) (leNum bs) (8 * bs.length) q3) := by
              show _ = _
              rw [E8]
              have := rdist_tab2 d out.length (V := leNum bs) hq3L
              simp only [andThen] at this ⊢
              rw [this]
            obtain ⟨DB, hDB⟩ : ∃ DB, DB = db d := ⟨_, rfl⟩
            obtain ⟨DMo, hDM⟩ : ∃ DMo, DMo = dm d := ⟨_, rfl⟩
            have HD := hide (distanceOf_c d (by omega) w4)
            rw [← hDB, ← hDM] at HD E9
            rw [← hDB] at hdb1 hdb2
            rw [← hDM] at hdm
            clear E8 hDB hDM
            go_wp2_with fail
            refine HD.out.mono ?_
            rintro e w5 ⟨rfl, rfl⟩
            go_wp2_with fail
            refine rtakes w4 lo R sv bs q3 DMo C4.out.z (by omega) _ ⟨?ok4, ?no4⟩
            case no4 =>
              intro w6 hx hF
              have X := hide (Herr.out 2 w6 (by omega) (A1.out 2 (E9.out.trans (then_err (then_err hx)))) (C4.out.fl.join (C4.out.z.low hF)))
              clear hx hF
              go_wp2
              exact X.out
            intro x2 q4 w6 hx hr hF
            have hx2b : x2 < 8192 := Nat.lt_of_lt_of_le (tkn_lt hx) (Nat.pow_le_pow_right (by decide) hdm)
            have hq4 : q3 ≤ q4 := by have := (tkn_inv hx).2.2; omega
            have hq4L : q4 ≤ 8 * bs.length := hr.epos
            obtain ⟨bk, hbk⟩ : ∃ bk, bk = DB + x2 := ⟨_, rfl⟩
            have hbki : (DB : Int) + (x2 : Int) = (bk : Int) := by omega
            have hbkb : 1 ≤ bk ∧ bk ≤ 100000 := by omega
            have EA : Hid (word ll dl out.length (leNum bs) (8 * bs.length) p = andThen (if out.length < bk then bad 4 else ret bk) (fun d => ret (.row n d)) (leNum bs) (8 * bs.length) q4) := by
              show _ = _
              rw [E9.out, hbk]
              simp only [andThen, hx]
            have C6 := hide (C4.out.next hr hF)
            clear hx hr hF hbk
            by_cases hback : N < bk
            · have hbi : (N : Int) < (bk : Int) := by omega
              have EB := EA.out
              rw [if_pos (by rw [← C6.out.n]; exact hback)] at EB
              have X := hide (Herr.out 4 w6 (by omega) (A1.out 4 (EB.trans (then_err rfl))) C6.out.fl)
              clear EB
              go_wp2
              exact X.out
            · have hbi : ¬ (N : Int) < (bk : Int) := by omega
              have EB := EA.out
              rw [if_neg (by rw [← C6.out.n]; exact hback)] at EB
              have EC : word ll dl out.length (leNum bs) (8 * bs.length) p = .ok (.row n bk, q4) := EB
              have G6 : Hid (∀ last r, Runs (leNum bs) (8 * bs.length) most ⟨q4, last, out, rowSt n bk ll dl⟩ r → Runs (leNum bs) (8 * bs.length) most ⟨p0, last, out0, .coded ll dl⟩ r) := by
                intro last r hr
                refine G.out last r (.go (s' := ⟨q4, last, out, .row n bk ll dl⟩) (by simp only [adv, EC]) ?_)
                unfold rowSt at hr
                rw [if_neg (by omega)] at hr
                exact hr
              clear EB EC
              go_wp2
              go_loopw [3, 20] (fun v iv wq => ∃ (i : Nat) (out' : List Nat) (a' : Option Addr) (c' N' : Nat), i ≤ n ∧ iv = .int .i64 (i : Int) ∧ v = .slice a' N' c' ∧ bk ≤ N' ∧ Hid (Cw w wq lo R sv bs most LM DM ll dl q4 out' a' c' N') ∧
                Hid (∀ last r, Runs (leNum bs) (8 * bs.length) most ⟨q4, last, out', rowSt (n - i) bk ll dl⟩ r → Runs (leNum bs) (8 * bs.length) most ⟨p0, last, out0, .coded ll dl⟩ r)) (fun _ iv _ => n - (intOf iv).toNat)
              case atStart => exact ⟨0, out, a, c, N, Nat.zero_le _, rfl, rfl, by omega, C6.out, G6.out⟩
              case round =>
                obtain ⟨i, out', a', c', N', hi1, rfl, rfl, hbN, D0, D1⟩ := hrel
                have hN' : N' ≤ 2147480000 := by have := D0.out.n; have := D0.out.le; omega
                by_cases hlt : i < n
                · have hlti : (i : Int) < (n : Int) := by omega
                  by_cases hful : most ≤ N'
                  · have hfi : (most : Int) ≤ (N' : Int) := by omega
                    have X := hide (Herr.out 6 wr (by omega) (fun last => D1.out last _ (.full (adv_rowSt (by omega)) (by show most ≤ out'.length; rw [← D0.out.n]; exact hful))) D0.out.fl)
                    go_wp2
                    exact X.out
                  · have hfi : ¬ (most : Int) ≤ (N' : Int) := by omega
                    obtain ⟨j, hj⟩ : ∃ j, j = N' - bk := ⟨_, rfl⟩
                    have hji : (N' : Int) - (bk : Int) = (j : Int) := by omega
                    have hjN : (j : Int) < (N' : Int) := by omega
                    obtain ⟨ad, rfl, had⟩ := D0.out.o.at D0.out.n (show j < N' by omega)
                    obtain ⟨b, hb⟩ : ∃ b, b = out'.getD j 0 := ⟨_, rfl⟩
                    rw [← hb] at had
                    have A3 : Hid (∀ last, adv (leNum bs) (8 * bs.length) ⟨q4, last, out', rowSt (n - i) bk ll dl⟩ = .put ⟨q4, last, out' ++ [b], rowSt (n - (i + 1)) bk ll dl⟩) := by
                      intro last
                      rw [adv_rowSt (by omega), ← D0.out.n, ← hj, ← hb, show n - i - 1 = n - (i + 1) by omega]
                    obtain ⟨hown, hRl, hlow⟩ := D0.out.low
                    have Hown := hide hown
                    clear hown hj hb
                    go_wp2_with (at_builtin; go_must (refine wpList_append_lies _ rfl _ _ 22 rfl lo 5 i0 (.int .u8 0) 1 1 Tryz.underlying22 hi hz0 hz1 hz2 rfl (by decide) (.slice (some ad) N' c') N' (cellsOf out') rfl (Hown.out.alloc _) ⟨wr.heap.size, 0, none⟩ 1 1 [.int .u8 (b : Int)] rfl rfl (cell_one_new _ _ _) (fun x hx => by simp at hx; subst hx; rfl) (by decide) (by unfold maxLen; omega) (by omega) (by simp; omega) (wr.heap.size + 1) (by simp) ?_); intro g cap w7 hown7 hgrow hat hlt7)
                    have D2 := hide (D0.out.put (by omega) hown7 hgrow hat)
                    have D3 : Hid (∀ last r, Runs (leNum bs) (8 * bs.length) most ⟨q4, last, out' ++ [b], rowSt (n - (i + 1)) bk ll dl⟩ r → Runs (leNum bs) (8 * bs.length) most ⟨p0, last, out0, .coded ll dl⟩ r) := fun last r hr => D1.out last r (.put (A3.out last) (by show out'.length < most; rw [← D0.out.n]; omega) hr)
                    clear hown7 hgrow hat hlt7
                    go_roundw
                    case rel => exact ⟨i + 1, out' ++ [b], some ⟨g, 0, none⟩, cap, N' + 1, by omega, by go_num, rfl, by omega, D2.out, D3.out⟩
                    case measure => simp [intOf]; omega
                · have hlti : ¬ (i : Int) < (n : Int) := by omega
                  have hie : i = n := by omega
                  subst hie
                  have D2 : Hid (∀ last r, Runs (leNum bs) (8 * bs.length) most ⟨q4, last, out', .coded ll dl⟩ r → Runs (leNum bs) (8 * bs.length) most ⟨p0, last, out0, .coded ll dl⟩ r) := by
                    intro last r hr
                    refine D1.out last r ?_
                    rw [Nat.sub_self]
                    exact hr
                  go_wp2
                  go_roundw
                  case rel => exact ⟨out', q4, a', c', N', rfl, D0.out, D2.out⟩
                  case measure => rw [D0.out.pos, Hm0.out]; omega
end Go.Proofs.YtdpmpllbdoefdaaGreatDoor
namespace Go.Proofs.YtdpmpllbdoefdaaGreatDoor
open Go.RowKit
theorem take_succZ {L : List Int} {i : Nat} (hi : i < L.length) : L.take (i + 1) = L.take i ++ [at0 L i] := by
  rw [List.take_add_one, List.getElem?_eq_getElem hi]
  simp [at0, List.getElem?_eq_getElem hi]
theorem row_append {w wr w3 : World} {L : List Int} {a : Option Addr} {i c g cap : Nat} {v : Int} {o : Obj} (hF : Fr (fun _ => False) w wr) (hown : wr.ownsRow w.heap.size 3 1 (.slice a i c) i (cellsZ (L.take i))) (hi : i < L.length) (hv : at0 L i = v)
    (hown3 : w3.ownsRow w.heap.size 3 1 (.slice (some ⟨g, 0, none⟩) (i + 1) cap) (i + 1) (cellsZ (L.take i) ++ [.int .i64 v])) (hgrow : (wr.alloc o).grownBy w3 (Value.slice a i c).ownBlock) :
    w3.ownsRow w.heap.size 3 1 (.slice (some ⟨g, 0, none⟩) (i + 1) cap) (i + 1) (cellsZ (L.take (i + 1))) ∧ Fr (fun _ => False) w w3 := by
  refine ⟨by rw [take_succZ hi, hv, ← cellsZ_snoc]; exact hown3, ?_⟩
  have f1 : Fr (fun k => (Value.slice a i c).ownBlock = some k) (wr.alloc o) w3 := ⟨hgrow.os, hgrow.tape, hgrow.output, hgrow.size, fun k hk hn => hgrow.block k hk (fun e => hn e.symm)⟩
  exact ((hF.trans (Fr.of_alloc wr o)).trans f1).mono fun k hk h => by
    rcases h with (h | h) | h
    · exact h
    · exact h
    · have := (hown.lt k h).1; omega
set_option maxHeartbeats 1600000 in
set_option maxRecDepth 100000 in
theorem rfixed_c (w : World) : Calls Tryz.prog 29 #[] w fun e w' => ∃ A B l1 h1 l2 h2, e = .returned (.tuple #[.pointer (some ⟨A, 0, none⟩), .pointer (some ⟨B, 0, none⟩)]) ∧ Rc w' l1 h1 A fixL ∧ Rc w' l2 h2 B fixD ∧ w.heap.size ≤ l1 ∧ w.heap.size ≤ l2 ∧ Fr (fun _ => False) w w' := by
  obtain ⟨i0, hi, hz0, hz1, hz2⟩ := info_parts Tryz.info3
  go_enter Tryz.func29, Tryz.ntmps29
  go_wp2
  go_loopw [2, 4] (fun v iv wr => ∃ i : Nat, i ≤ 288 ∧ iv = .int .i64 (i : Int) ∧ ∃ a c, v = .slice a i c ∧ wr.ownsRow w.heap.size 3 1 (.slice a i c) i (cellsZ (fixL.take i)) ∧ Fr (fun _ => False) w wr) (fun _ iv _ => 288 - (intOf iv).toNat)
  case atStart => exact ⟨0, Nat.zero_le _, rfl, none, 0, rfl, World.ownsRow_nil _ _ _ _, Fr.refl _ _⟩
  case round =>
    obtain ⟨i, hi1, rfl, a, c, rfl, hown, hF⟩ := hrel
    have Hown := hide hown
    have HF := hide hF
    have hsz := hF.size
    clear hown hF
    by_cases hlt : i < 288
    · have hlti : (i : Int) < 288 := by omega
      by_cases a1 : i < 144
      · have a1i : (i : Int) < 144 := by omega
        go_wp2_with (at_builtin; go_must (refine wpList_append_lies _ rfl _ _ 81 rfl w.heap.size 3 i0 (.int .i64 0) 1 8 Tryz.underlying81 hi hz0 hz1 hz2 rfl (by decide) (.slice a i c) i (cellsZ (fixL.take i)) rfl (Hown.out.alloc _) ⟨wr.heap.size, 0, none⟩ 1 1 [.int .i64 8] rfl rfl (cell_one_new _ _ _) (fun x hx => by simp at hx; subst hx; rfl) (by decide) (by unfold maxLen; omega) (by omega) (by simp; omega) (wr.heap.size + 1) (by simp) ?_); intro g cap w3 hown3 hgrow hat hlt3)
        obtain ⟨G1, G2⟩ := row_append (v := 8) HF.out Hown.out (by rw [fixL_len]; omega) (by rw [fixL_at, if_pos a1]) hown3 hgrow
        have G1' := hide G1
        have G2' := hide G2
        clear G1 G2 hown3 hgrow hat hlt3
        go_roundw
        case rel => exact ⟨i + 1, by omega, by go_num, some ⟨g, 0, none⟩, cap, rfl, G1'.out, G2'.out⟩
        case measure => simp [intOf]; omega
      · have a1i : ¬ (i : Int) < 144 := by omega
        by_cases a2 : i < 256
        · have a2i : (i : Int) < 256 := by omega
          go_wp2_with (at_builtin; go_must (refine wpList_append_lies _ rfl _ _ 81 rfl w.heap.size 3 i0 (.int .i64 0) 1 8 Tryz.underlying81 hi hz0 hz1 hz2 rfl (by decide) (.slice a i c) i (cellsZ (fixL.take i)) rfl (Hown.out.alloc _) ⟨wr.heap.size, 0, none⟩ 1 1 [.int .i64 9] rfl rfl (cell_one_new _ _ _) (fun x hx => by simp at hx; subst hx; rfl) (by decide) (by unfold maxLen; omega) (by omega) (by simp; omega) (wr.heap.size + 1) (by simp) ?_); intro g cap w3 hown3 hgrow hat hlt3)
          obtain ⟨G1, G2⟩ := row_append (v := 9) HF.out Hown.out (by rw [fixL_len]; omega) (by rw [fixL_at, if_neg a1, if_pos a2]) hown3 hgrow
          have G1' := hide G1
          have G2' := hide G2
          clear G1 G2 hown3 hgrow hat hlt3
          go_roundw
          case rel => exact ⟨i + 1, by omega, by go_num, some ⟨g, 0, none⟩, cap, rfl, G1'.out, G2'.out⟩
          case measure => simp [intOf]; omega
        · have a2i : ¬ (i : Int) < 256 := by omega
          by_cases a3 : i < 280
          · have a3i : (i : Int) < 280 := by omega
            go_wp2_with (at_builtin; go_must (refine wpList_append_lies _ rfl _ _ 81 rfl w.heap.size 3 i0 (.int .i64 0) 1 8 Tryz.underlying81 hi hz0 hz1 hz2 rfl (by decide) (.slice a i c) i (cellsZ (fixL.take i)) rfl (Hown.out.alloc _) ⟨wr.heap.size, 0, none⟩ 1 1 [.int .i64 7] rfl rfl (cell_one_new _ _ _) (fun x hx => by simp at hx; subst hx; rfl) (by decide) (by unfold maxLen; omega) (by omega) (by simp; omega) (wr.heap.size + 1) (by simp) ?_); intro g cap w3 hown3 hgrow hat hlt3)
            obtain ⟨G1, G2⟩ := row_append (v := 7) HF.out Hown.out (by rw [fixL_len]; omega) (by rw [fixL_at, if_neg a1, if_neg a2, if_pos a3]) hown3 hgrow
            have G1' := hide G1
            have G2' := hide G2
            clear G1 G2 hown3 hgrow hat hlt3
            go_roundw
            case rel => exact ⟨i + 1, by omega, by go_num, some ⟨g, 0, none⟩, cap, rfl, G1'.out, G2'.out⟩
            case measure => simp [intOf]; omega
          · have a3i : ¬ (i : Int) < 280 := by omega
            go_wp2_with (at_builtin; go_must (refine wpList_append_lies _ rfl _ _ 81 rfl w.heap.size 3 i0 (.int .i64 0) 1 8 Tryz.underlying81 hi hz0 hz1 hz2 rfl (by decide) (.slice a i c) i (cellsZ (fixL.take i)) rfl (Hown.out.alloc _) ⟨wr.heap.size, 0, none⟩ 1 1 [.int .i64 8] rfl rfl (cell_one_new _ _ _) (fun x hx => by simp at hx; subst hx; rfl) (by decide) (by unfold maxLen; omega) (by omega) (by simp; omega) (wr.heap.size + 1) (by simp) ?_); intro g cap w3 hown3 hgrow hat hlt3)
            obtain ⟨G1, G2⟩ := row_append (v := 8) HF.out Hown.out (by rw [fixL_len]; omega) (by rw [fixL_at, if_neg a1, if_neg a2, if_neg a3, if_pos hlt]) hown3 hgrow
            have G1' := hide G1
            have G2' := hide G2
            clear G1 G2 hown3 hgrow hat hlt3
            go_roundw
            case rel => exact ⟨i + 1, by omega, by go_num, some ⟨g, 0, none⟩, cap, rfl, G1'.out, G2'.out⟩
            case measure => simp [intOf]; omega
    · have hlti : ¬ (i : Int) < 288 := by omega
      have hie : i = 288 := by omega
      subst hie
      rw [List.take_of_length_le (by rw [fixL_len]; exact Nat.le_refl _)] at Hown
      have HL := hide (own_lies Hown.out)
      obtain ⟨al, hal⟩ : ∃ al, al = a := ⟨_, rfl⟩
      obtain ⟨cl, hcl⟩ : ∃ cl, cl = c := ⟨_, rfl⟩
      obtain ⟨wl, hwl⟩ : ∃ wl, wl = wr := ⟨_, rfl⟩
      rw [← hal, ← hwl] at HL
      rw [← hwl] at HF
      rw [← hal, ← hcl]
      clear hlt Hown
      subst hwl
      go_wp2
      go_loopw [3, 5] (fun v iv wr => ∃ i : Nat, i ≤ 32 ∧ iv = .int .i64 (i : Int) ∧ ∃ a c, v = .slice a i c ∧ wr.ownsRow wl.heap.size 3 1 (.slice a i c) i (cellsZ (fixD.take i)) ∧ Fr (fun _ => False) wl wr) (fun _ iv _ => 32 - (intOf iv).toNat)
      case atStart => exact ⟨0, Nat.zero_le _, rfl, none, 0, rfl, World.ownsRow_nil _ _ _ _, Fr.refl _ _⟩
      case round =>
        obtain ⟨i, hi1, rfl, a, c, rfl, hown, hFl⟩ := hrel
        have Hown := hide hown
        have HFl := hide hFl
        have hsz := hFl.size
        clear hown hFl
        by_cases hlt : i < 32
        · have hlti : (i : Int) < 32 := by omega
          go_wp2_with (at_builtin; go_must (refine wpList_append_lies _ rfl _ _ 81 rfl wl.heap.size 3 i0 (.int .i64 0) 1 8 Tryz.underlying81 hi hz0 hz1 hz2 rfl (by decide) (.slice a i c) i (cellsZ (fixD.take i)) rfl (Hown.out.alloc _) ⟨wr.heap.size, 0, none⟩ 1 1 [.int .i64 5] rfl rfl (cell_one_new _ _ _) (fun x hx => by simp at hx; subst hx; rfl) (by decide) (by unfold maxLen; omega) (by omega) (by simp; omega) (wr.heap.size + 1) (by simp) ?_); intro g cap w3 hown3 hgrow hat hlt3)
          obtain ⟨G1, G2⟩ := row_append (v := 5) HFl.out Hown.out (by rw [fixD_len]; omega) (by rw [fixD_at, if_pos hlt]) hown3 hgrow
          have G1' := hide G1
          have G2' := hide G2
          clear G1 G2 hown3 hgrow hat hlt3
          go_roundw
          case rel => exact ⟨i + 1, by omega, by go_num, some ⟨g, 0, none⟩, cap, rfl, G1'.out, G2'.out⟩
          case measure => simp [intOf]; omega
        · have hlti : ¬ (i : Int) < 32 := by omega
          have hie : i = 32 := by omega
          subst hie
          rw [List.take_of_length_le (by rw [fixD_len]; exact Nat.le_refl _)] at Hown
          have HD := hide (own_lies Hown.out)
          have HL2 := hide (HL.out.fr HFl.out)
          clear hlt Hown
          go_wp2_with fail
          refine calls_args (refNew_c al cl fixL wr HL2.out (by rw [fixL_len]; omega) _ ?b1 ?n1 ?y1) (by rw [fixL_len, hal, hcl])
          case b1 => (intro h; exact absurd fixL_good h)
          case n1 => (intro _ h; exact absurd fixL_ok h)
          intro _ _ w4 A hA hF4
          have HA := hide hA
          have HF4 := hide hF4
          have HD4 := hide (HD.out.fr hF4)
          clear hA hF4
          go_wp2_with fail
          refine calls_args (refNew_c a c fixD w4 HD4.out (by rw [fixD_len]; omega) _ ?b2 ?n2 ?y2) (by rw [fixD_len])
          case b2 => (intro h; exact absurd fixD_good h)
          case n2 => (intro _ h; exact absurd fixD_ok h)
          intro _ _ w5 B hB hF5
          have HB := hide hB
          have HF5 := hide hF5
          have HA5 := hide (HA.out.keep hF5 (fun _ _ _ h => h))
          clear hB hF5
          go_wp2
          go_ret2
          have s1 := HF.out.size
          have s4 := HF4.out.size
          exact ⟨A, B, _, _, _, _, rfl, HA5.out, HB.out, by omega, by omega, HF.out.join (HFl.out.join (HF4.out.join HF5.out))⟩
end Go.Proofs.YtdpmpllbdoefdaaGreatDoor
namespace Go.Proofs.YtdpmpllbdoefdaaGreatDoor
open Go.RowKit
theorem make19 (W : World) : (Instr.makeSlice 81 (.int .i64 19) (.int .i64 19)).run Tryz.prog W = .ok (.slice (some ⟨W.heap.size, 0, none⟩) 19 19) (W.alloc (.cells (cellsZ zero19).toArray 3)) := by
  obtain ⟨i0, hi, hz0, hz1, hz2⟩ := info_parts Tryz.info3
  have := run_make (P := Tryz.prog) W 81 3 i0 (.int .i64 0) Tryz.underlying81 hi hz0 .i64 .i64 19 19 (by omega) (Int.le_refl _) (by rw [hz2]; omega) (by omega)
  rw [hz1] at this
  rw [this]
  have e2 : (cellsZ zero19).toArray = (List.replicate 19 (Value.int .i64 0)).toArray := by rw [cellsZ, zero19, List.map_replicate]
  have e : madeCells (Value.int .i64 0).cells (Int.toNat 19 * 1) = (cellsZ zero19).toArray := by
    rw [e2]
    apply Array.ext
    · rw [size_madeCells]; rfl
    · intro i h1 h2
      have h3 : i % 1 = 0 := by omega
      simp only [List.getElem_toArray, List.getElem_replicate]
      simp [madeCells, Value.cells, h3]
  rw [e]
  rfl
theorem own_short {V L p : Nat} (h : ¬ p + 14 ≤ L) : own V L p = .error 2 := by
  show andThen (tkn 5) _ V L p = _
  by_cases h5 : p + 5 ≤ L
  · rw [then_ok (tkn_ok h5)]
    by_cases h10 : p + 5 + 5 ≤ L
    · rw [then_ok (tkn_ok h10), then_err (tkn_err (by omega))]
    · rw [then_err (tkn_err h10)]
  · rw [then_err (tkn_err h5)]
structure Al (w wr : World) (lo R : Nat) (sv : Value) (bs : List Nat) (X : Except Nat (List Int × Nat)) (cl : List Int) (n : Nat) (acc : List Int) (q : Nat) (a : Option Addr) (c k : Nat) : Prop where
  kk : k = acc.length
  z : Rz wr lo R sv bs q
  fr : Fr (fun k => k = R) w wr
  own : wr.ownsRow w.heap.size 3 1 (.slice a k c) k (cellsZ acc)
  le : acc.length ≤ n
  eq : ∃ f, n < acc.length + f ∧ X = lens cl n f acc (leNum bs) (8 * bs.length) q
  good : fine acc
theorem Al.next {w wr w' : World} {lo R : Nat} {sv : Value} {bs : List Nat} {X : Except Nat (List Int × Nat)} {cl : List Int} {n : Nat} {acc : List Int} {q : Nat} {a : Option Addr} {c k : Nat} (hw : R < w.heap.size) (h : Al w wr lo R sv bs X cl n acc q a c k) {q' : Nat} (hr : Rf w' R sv bs q' false) (hF : Fr (fun k => k = R) wr w') :
    Rz w' lo R sv bs q' ∧ Fr (fun k => k = R) w w' ∧ w'.ownsRow w.heap.size 3 1 (.slice a k c) k (cellsZ acc) :=
  ⟨h.z.next hr hF, h.fr.join hF, ownsRow_fr h.own fun j hj => hF.block j (h.own.lt j hj).2 (fun e => by have := (h.own.lt j hj).1; omega)⟩
theorem al_next {w wr w' : World} {lo R : Nat} {sv : Value} {bs : List Nat} {acc : List Int} {q : Nat} {a : Option Addr} {c k : Nat} (hw : R < w.heap.size) (hz : Rz wr lo R sv bs q) (hfr : Fr (fun k => k = R) w wr) (hown : wr.ownsRow w.heap.size 3 1 (.slice a k c) k (cellsZ acc)) {q' : Nat} (hr : Rf w' R sv bs q' false) (hF : Fr (fun k => k = R) wr w') :
    Rz w' lo R sv bs q' ∧ Fr (fun k => k = R) w w' ∧ w'.ownsRow w.heap.size 3 1 (.slice a k c) k (cellsZ acc) :=
  ⟨hz.next hr hF, hfr.join hF, ownsRow_fr hown fun j hj => hF.block j (hown.lt j hj).2 (fun e => by have := (hown.lt j hj).1; omega)⟩
theorem al_append {w wr w3 : World} {lo R : Nat} {sv : Value} {bs : List Nat} {acc : List Int} {q : Nat} {a : Option Addr} {c k g cap : Nat} {v : Int} {o : Obj} (hw : R < w.heap.size) (hlo : lo ≤ w.heap.size) (hz : Rz wr lo R sv bs q) (hF : Fr (fun k => k = R) w wr) (hown : wr.ownsRow w.heap.size 3 1 (.slice a k c) k (cellsZ acc))
    (hown3 : w3.ownsRow w.heap.size 3 1 (.slice (some ⟨g, 0, none⟩) (k + 1) cap) (k + 1) (cellsZ acc ++ [.int .i64 v])) (hgrow : (wr.alloc o).grownBy w3 (Value.slice a k c).ownBlock) :
    Rz w3 lo R sv bs q ∧ Fr (fun k => k = R) w w3 ∧ w3.ownsRow w.heap.size 3 1 (.slice (some ⟨g, 0, none⟩) (k + 1) cap) (k + 1) (cellsZ (acc ++ [v])) := by
  have f1 : Fr (fun j => (Value.slice a k c).ownBlock = some j) (wr.alloc o) w3 := ⟨hgrow.os, hgrow.tape, hgrow.output, hgrow.size, fun k hk hn => hgrow.block k hk (fun e => hn e.symm)⟩
  have f2 : Fr (fun j => (Value.slice a k c).ownBlock = some j) wr w3 := ((Fr.of_alloc wr o).trans f1).mono fun k _ h => h.elim (fun x => x.elim) id
  refine ⟨hz.keep f2 (fun j hj => ?_), (hF.trans f2).mono fun j hj h => ?_, by rw [← cellsZ_snoc]; exact hown3⟩
  · have := (hown.lt j hj).1; omega
  · rcases h with h | h
    · exact h
    · have := (hown.lt j h).1; omega
set_option maxHeartbeats 4000000 in
set_option maxRecDepth 100000 in
theorem rdynamic_c (w : World) (lo R : Nat) (sv : Value) (bs : List Nat) (p : Nat) (h : Rz w lo R sv bs p) (Q : Ending → World → Prop)
    (hno : ∀ (er : Nat) w', er ≠ 0 → own (leNum bs) (8 * bs.length) p = .error er → Fr (fun k => k = R) w w' → Q (.returned (.tuple #[.pointer none, .pointer none, .int .i64 (er : Int)])) w')
    (hok : ∀ ll dl q A B l1 h1 l2 h2 w', own (leNum bs) (8 * bs.length) p = .ok ((ll, dl), q) → Rc w' l1 h1 A ll → Rc w' l2 h2 B dl → w.heap.size ≤ l1 → w.heap.size ≤ l2 → Rz w' lo R sv bs q → Fr (fun k => k = R) w w' → Q (.returned (.tuple #[.pointer (some ⟨A, 0, none⟩), .pointer (some ⟨B, 0, none⟩), .int .i64 0])) w') :
    Calls Tryz.prog 31 #[.pointer (some ⟨R, 0, none⟩)] w Q := by
  obtain ⟨i0, hi, hz0, hz1, hz2⟩ := info_parts Tryz.info3
  have hRw := h.lt
  have hlow := h.slo
  have hl := h.rf.elen
  have hmk := make19
  have H := hide h
  have Hno := hide hno
  have Hok := hide hok
  have E : Hid (own (leNum bs) (8 * bs.length) p = andThen (tkn 5) (fun a => andThen (tkn 5) fun b => andThen (tkn 4) fun c => ownB a b c) (leNum bs) (8 * bs.length) p) := rfl
  have hp0 := h.rf.epos
  clear h hno hok
  go_enter Tryz.func31, Tryz.ntmps31
  go_wp2_with fail
  refine (ref_left w R sv bs p false H.out.rf).mono ?_
  rintro e w1 ⟨rfl, k, rfl⟩
  have H1 := hide (H.out.keep (Fr.of_drewN w k) (fun _ h => h.elim))
  have F1 := hide (Fr.none (S := fun j => j = R) (w := w) k)
  generalize w.drewN k = w1 at *
  by_cases h14 : p + 14 ≤ 8 * bs.length
  · have q14 : ¬ 8 * (bs.length : Int) - (p : Int) < 14 := by omega
    go_wp2_with fail
    refine rtakes w1 lo R sv bs p 5 H1.out (by omega) _ ⟨?ok1, ?no1⟩
    case no1 => (intro w2 hx; rw [tkn_ok (by omega)] at hx; cases hx)
    intro a p1 w2 hx hr hF
    have hab : a < 32 := tkn_lt hx
    have hp1 := (tkn_inv hx).2.2
    have E1 := hide (E.out.trans (then_ok hx))
    have H2 := hide (H1.out.next hr hF)
    have F2 := hide (F1.out.join hF)
    clear hx hr hF
    go_wp2_with fail
    refine rtakes w2 lo R sv bs p1 5 H2.out (by omega) _ ⟨?ok2, ?no2⟩
    case no2 => (intro w3 hx; rw [tkn_ok (by omega)] at hx; cases hx)
    intro b p2 w3 hx hr hF
    have hbb : b < 32 := tkn_lt hx
    have hp2 := (tkn_inv hx).2.2
    have E2 := hide (E1.out.trans (then_ok hx))
    have H3 := hide (H2.out.next hr hF)
    have F3 := hide (F2.out.join hF)
    clear hx hr hF
    go_wp2_with fail
    refine rtakes w3 lo R sv bs p2 4 H3.out (by omega) _ ⟨?ok3, ?no3⟩
    case no3 => (intro w4 hx; rw [tkn_ok (by omega)] at hx; cases hx)
    intro c p3 w4 hx hr hF
    have hcb : c < 16 := tkn_lt hx
    have E3 := hide (E2.out.trans (then_ok hx))
    have H4 := hide (H3.out.next hr hF)
    have F4 := hide (F3.out.join hF)
    clear hx hr hF hp1 hp2
    obtain ⟨n1, hn1⟩ : ∃ n1, n1 = 257 + a := ⟨_, rfl⟩
    obtain ⟨n2, hn2⟩ : ∃ n2, n2 = 1 + b := ⟨_, rfl⟩
    obtain ⟨N, hN⟩ : ∃ N, N = 4 + c := ⟨_, rfl⟩
    have e1 : (a : Int) + 257 = (n1 : Int) := by omega
    have e2 : (b : Int) + 1 = (n2 : Int) := by omega
    have e3 : (c : Int) + 4 = (N : Int) := by omega
    have E4 := E3.out
    unfold ownB at E4
    rw [← hn1, ← hn2, ← hN] at E4
    by_cases hbad : 286 < n1 ∨ 30 < n2
    · rw [if_pos hbad] at E4
      have X := hide (Hno.out 4 w4 (by omega) E4 F4.out)
      clear E4 hn1 hn2 hN
      rcases (show 286 < n1 ∨ (n1 ≤ 286 ∧ 30 < n2) by omega) with hc | ⟨hc1, hc2⟩
      · have k1 : (286 : Int) < n1 := by omega
        go_wp2
        go_ret3
        exact X.out
      · have k1 : ¬ (286 : Int) < n1 := by omega
        have k2 : (30 : Int) < n2 := by omega
        go_wp2
        go_ret3
        exact X.out
    · rw [if_neg hbad] at E4
      have HE4 := hide E4
      have k1 : ¬ (286 : Int) < n1 := by omega
      have k2 : ¬ (30 : Int) < n2 := by omega
      have hn1b : 257 ≤ n1 ∧ n1 ≤ 286 := by omega
      have hn2b : 1 ≤ n2 ∧ n2 ≤ 30 := by omega
      have hNb : N ≤ 19 := by omega
      clear E4 hn1 hn2 hN hbad
      go_wp2
      obtain ⟨O, hO⟩ : ∃ O, O = w4.heap.size := ⟨_, rfl⟩
      obtain ⟨w5, hw5⟩ : ∃ w5, w5 = (w4.alloc (.cells #[.int .i64 16, .int .i64 17, .int .i64 18, .int .i64 0, .int .i64 8, .int .i64 7, .int .i64 9, .int .i64 6, .int .i64 10, .int .i64 5, .int .i64 11, .int .i64 4, .int .i64 12, .int .i64 3, .int .i64 13, .int .i64 2, .int .i64 14, .int .i64 1, .int .i64 15] 3)).alloc (.cells (cellsZ zero19).toArray 3) := ⟨_, rfl⟩
      have f5 : Fr (fun _ => False) w4 w5 := by rw [hw5]; exact (Fr.of_alloc _ _).join (Fr.of_alloc _ _)
      have g5 : w5.heap[O + 1]? = some (.cells (cellsZ zero19).toArray 3 (0, 0)) := by rw [hw5]; exact heap_alloc_at (by rw [size_alloc, hO])
      have o5 : w5.heap[O]? = some (.cells (cellsZ (order.map fun (n : Nat) => (n : Int))).toArray 3 (0, 0)) := by
        rw [hw5, (Fr.of_alloc (w4.alloc (.cells #[.int .i64 16, .int .i64 17, .int .i64 18, .int .i64 0, .int .i64 8, .int .i64 7, .int .i64 9, .int .i64 6, .int .i64 10, .int .i64 5, .int .i64 11, .int .i64 4, .int .i64 12, .int .i64 3, .int .i64 13, .int .i64 2, .int .i64 14, .int .i64 1, .int .i64 15] 3)) (.cells (cellsZ zero19).toArray 3)).block O (by rw [size_alloc]; omega) (fun h => h)]
        exact heap_alloc_at hO
      rw [← hw5, ← hO]
      have H5 := hide (H4.out.keep f5 (fun _ h => h.elim))
      have F5 := hide (F4.out.join (Fl0 f5))
      have hOw : w.heap.size ≤ O := by rw [hO]; exact F4.out.size
      obtain ⟨X, hX⟩ : ∃ X, X = told N 0 zero19 (leNum bs) (8 * bs.length) p3 := ⟨_, rfl⟩
      have HX := hide hX
      have Ho5 := hide o5
      have Hg5 := hide g5
      clear hw5 hO f5 g5 o5 hX
      obtain ⟨G, hG⟩ : ∃ G, G = O + 1 := ⟨_, rfl⟩
      rw [← hG] at Hg5 ⊢
      have hOG : O < G := by omega
      clear hG
      go_loopw [13, 14, 15] (fun iv _ _ wr => ∃ (i : Nat) (cl : List Int) (q : Nat), i ≤ N ∧ iv = .int .i64 (i : Int) ∧ Hid (Rz wr lo R sv bs q) ∧ Hid (Fr (fun k => k = R) w wr) ∧ Hid (wr.heap[G]? = some (.cells (cellsZ cl).toArray 3 (0, 0))) ∧ Hid (wr.heap[O]? = some (.cells (cellsZ (order.map fun (n : Nat) => (n : Int))).toArray 3 (0, 0))) ∧ Hid (cl.length = 19) ∧ Hid (fine cl) ∧ Hid (X = told (N - i) i cl (leNum bs) (8 * bs.length) q)) (fun iv _ _ _ => N - (intOf iv).toNat)
      case atStart => exact ⟨0, zero19, p3, Nat.zero_le _, rfl, H5.out, F5.out, Hg5.out, Ho5.out, rfl, fine_zero, HX.out⟩
      case round =>
        obtain ⟨i, cl, q, hi1, rfl, T1, T2, T3, T4, T5, T6, T7⟩ := hrel
        by_cases hlt : i < N
        · have hlti : (i : Int) < (N : Int) := by omega
          have hi19 : (i : Int) < 19 := by omega
          have E0 : Hid (X = andThen (tkn 3) (fun x => told (N - (i + 1)) (i + 1) (cl.set (order.getD i 0) (x : Int))) (leNum bs) (8 * bs.length) q) := by
            show X = _
            rw [T7.out, show N - i = (N - (i + 1)) + 1 by omega]
            rfl
          obtain ⟨j, hj⟩ : ∃ j, j = order.getD i 0 := ⟨_, rfl⟩
          have hj19 : j < 19 := by rw [hj]; exact order_lt i
          have hji : (j : Int) < 19 := by omega
          rw [← hj] at E0
          have qo : ∀ w', Fr (fun k => k = R) wr w' → w'.cell? ⟨O, i, none⟩ = some (.int .i64 (j : Int)) ∧ w'.heap[G]? = some (.cells (cellsZ cl).toArray 3 (0, 0)) := by
            intro w' hF
            refine ⟨cell_of (by rw [hF.block O (lt_of T4.out) (by omega)]; exact T4.out) ?_, by rw [hF.block G (lt_of T3.out) (by omega)]; exact T3.out⟩
            have hio : i < order.length := by show i < 19; omega
            rw [hj]
            simp [cellsZ, List.getD_eq_getElem?_getD, List.getElem?_eq_getElem hio]
          have Qo := hide qo
          clear hj qo
          go_wp2_with fail
          refine rtakes wr lo R sv bs q 3 T1.out (by omega) _ ⟨?ok4, ?no4⟩
          case no4 =>
            intro w6 hx hF
            have X2 := hide (Hno.out 2 w6 (by omega) (HE4.out.trans (then_err (HX.out.symm.trans (E0.out.trans (then_err hx))))) (T2.out.join hF))
            clear hx hF
            go_wp2
            go_ret3
            exact X2.out
          intro x q2 w6 hx hr hF
          have hxb : x < 8 := tkn_lt hx
          have E1' := hide (E0.out.trans (then_ok hx))
          have U1 := hide (T1.out.next hr hF)
          have U2 := hide (T2.out.join hF)
          obtain ⟨qO, hob⟩ := Qo.out w6 hF
          have hl19 := T5.out
          have cG : w6.cell? ⟨G, j, none⟩ = some (.int .i64 (at0 cl j)) := cell_of hob (by simp [cellsZ, at0, List.getElem?_eq_getElem (show j < cl.length by omega)])
          have zG := frozen_of (o := j) hob
          have Hob := hide hob
          have V4 : Hid (w6.heap[O]? = some (.cells (cellsZ (order.map fun (n : Nat) => (n : Int))).toArray 3 (0, 0))) := (hF.block O (lt_of T4.out) (by omega)).trans T4.out
          clear hx hr hF hob
          go_wp2
          go_roundw
          case rel =>
            have fs := fr_set w6 G j (.int .i64 (x : Int))
            refine ⟨i + 1, cl.set j (x : Int), q2, by omega, by go_num, U1.out.keep fs (fun k e => by omega), (U2.out.trans fs).mono fun k hk e => by omega, ?_, (fs.block O (lt_of V4.out) (by omega)).trans V4.out, ?_, fine_set T6.out (by omega), E1'.out⟩
            · show _ = _
              rw [heap_set _ Hob.out]
              simp [cellsZ, List.map_set]
            · show (cl.set j (x : Int)).length = 19
              simp [hl19]
          case measure => simp [intOf]; omega
        · have hlti : ¬ (i : Int) < (N : Int) := by omega
          have hie : i = N := by omega
          subst hie
          have E0 : Hid (told i 0 zero19 (leNum bs) (8 * bs.length) p3 = .ok (cl, q)) := by
            show _ = _
            rw [← HX.out, T7.out, Nat.sub_self]
            rfl
          have hl19 := T5.out
          have hLies : Hid (LiesI wr (some ⟨G, 0, none⟩) cl) := RowAt.lies T3.out
          clear hlt
          go_wp2_with fail
          refine calls_args (refNew_c (some ⟨G, 0, none⟩) 19 cl wr hLies.out (by omega) _ ?b1 ?n1 ?y1) (by rw [hl19])
          case b1 => (intro hb; exact absurd ⟨by omega, T6.out⟩ hb)
          case n1 =>
            intro _ hn w6 hF
            have X2 := hide (Hno.out 4 w6 (by omega) (HE4.out.trans ((then_ok E0.out).trans (by rw [if_neg hn]; rfl))) (T2.out.join (Fl0 hF)))
            clear hF
            go_wp2
            go_ret3
            exact X2.out
          intro _ hcok w6 CM hC hF
          have E5 := HE4.out.trans (then_ok E0.out)
          rw [if_pos hcok] at E5
          have HE5 := hide E5
          have hwz := T2.out.size
          have F6 := hide (T2.out.join (Fl0 hF))
          have A0 : Hid (Al w6 w6 lo R sv bs (lens cl (n1 + n2) (n1 + n2 + 1) [] (leNum bs) (8 * bs.length) q) cl (n1 + n2) [] q none 0 0) := ⟨rfl, T1.out.keep hF (fun _ h => h.elim), Fr.refl _ _, World.ownsRow_nil _ _ _ _, Nat.zero_le _, ⟨n1 + n2 + 1, by simp, rfl⟩, fun i hi => absurd hi (Nat.not_lt_zero _)⟩
          obtain ⟨Y, hY⟩ : ∃ Y, Y = lens cl (n1 + n2) (n1 + n2 + 1) [] (leNum bs) (8 * bs.length) q := ⟨_, rfl⟩
          have HY := hide hY
          rw [← hY] at A0
          have HC := hide hC
          obtain ⟨clo, hclo⟩ : ∃ clo, clo = wr.heap.size := ⟨_, rfl⟩
          rw [← hclo] at HC
          have hRc : R < clo := by have := T1.out.lt; omega
          have hwc : w.heap.size ≤ clo := by omega
          obtain ⟨nn, hnn⟩ : ∃ nn, nn = n1 + n2 := ⟨_, rfl⟩
          have hnni : (n1 : Int) + (n2 : Int) = (nn : Int) := by omega
          have hnb : nn ≤ 400 := by omega
          rw [← hnn] at A0
          have Hnn := hide hnn
          have hC6 := hC.esz
          clear E5 hC hF hY hnn hclo
          have hR6 : R < w6.heap.size := A0.out.z.lt
          have hlow6 : lo ≤ w6.heap.size := A0.out.z.slo
          have hw6 : w.heap.size ≤ w6.heap.size := F6.out.size
          go_wp2
          go_loopw [18, 19, 20, 21, 22, 23, 24, 25, 26] (fun v _ _ _ _ _ _ _ _ wr => ∃ (acc : List Int) (q : Nat) (a : Option Addr) (c k : Nat), v = .slice a k c ∧ Hid (Al w6 wr lo R sv bs Y cl nn acc q a c k)) (fun v _ _ _ _ _ _ _ _ _ => nn - lenOf v)
          case atStart => exact ⟨[], q, none, 0, 0, rfl, A0⟩
          case round =>
            obtain ⟨acc, q7, a, c, k, rfl, HA⟩ := hrel
            have Hk : Hid (k = acc.length) := HA.out.kk
            have hkn : k ≤ nn := by have := Hk.out; have := HA.out.le; omega
            obtain ⟨f, hf, hYf⟩ := HA.out.eq
            have Hgood := hide HA.out.good
            by_cases hlt : k < nn
            · have hlti : (k : Int) < (nn : Int) := by omega
              obtain ⟨f', rfl⟩ : ∃ f', f = f' + 1 := ⟨f - 1, by have := Hk.out; omega⟩
              have E6 : Hid (Y = andThen (tk cl) (fun s => andThen (rep s acc) fun vt => if nn < acc.length + vt.2 then bad 4 else lens cl nn f' (acc ++ List.replicate vt.2 vt.1)) (leNum bs) (8 * bs.length) q7) := by
                show Y = _
                rw [hYf]
                simp only [lens]
                rw [if_neg (by have := Hk.out; omega)]
              have Hf : Hid (nn < acc.length + (f' + 1)) := hf
              have Hc7 := hide (HC.out.keep HA.out.fr (fun j h1 h2 e => by omega))
              clear hf hYf
              go_wp2_with fail
              refine rwords wr lo R sv bs q7 HA.out.z CM clo _ cl Hc7.out (Or.inr hRc) _ ⟨?ok5, ?no5⟩
              case no5 =>
                intro er w7 hx hF
                have her : er ≠ 0 := (Ne0.tk cl).ne hx
                have hei : ((er : Int) == 0) = false := beq_false_of_ne (by omega)
                have hej : ¬ (er : Int) = 0 := by omega
                have X2 := hide (Hno.out er w7 her (HE5.out.trans (then_err (HY.out.symm.trans (E6.out.trans (then_err hx))))) (F6.out.join (HA.out.fr.join hF)))
                clear hx hF
                go_wp2
                go_ret3
                exact X2.out
              intro s q9 w7 hx hr hF
              have hs19 : s < 19 := by have := tk_lt hx (by omega); omega
              obtain ⟨B1', B2', B3'⟩ := HA.out.next hR6 hr hF
              have E7 := hide (E6.out.trans (then_ok hx))
              have B1 := hide B1'
              have B2 := hide B2'
              have B3 := hide B3'
              clear hx hr hF B1' B2' B3' HA E6 Hc7
              by_cases h16 : s < 16
              · have h16i : (s : Int) < 16 := by omega
                have E8 : Hid (Y = lens cl nn f' (acc ++ List.replicate 1 (s : Int)) (leNum bs) (8 * bs.length) q9) := by
                  show _ = _
                  rw [E7.out]
                  unfold rep
                  rw [if_neg (by omega), if_neg (by omega), if_neg (by omega)]
                  show (if nn < acc.length + 1 then bad 4 else lens cl nn f' (acc ++ List.replicate 1 (s : Int))) (leNum bs) (8 * bs.length) q9 = _
                  rw [if_neg (by have := Hk.out; omega)]
                have hsz := B2.out.size
                go_wp2_with (at_builtin; go_must (refine wpList_append_lies _ rfl _ _ 81 rfl w6.heap.size 3 i0 (.int .i64 0) 1 8 Tryz.underlying81 hi hz0 hz1 hz2 rfl (by decide) (.slice a k c) k (cellsZ acc) rfl (B3.out.alloc _) ⟨w7.heap.size, 0, none⟩ 1 1 [.int .i64 (s : Int)] rfl rfl (cell_one_new _ _ _) (fun x hx => by simp at hx; subst hx; rfl) (by decide) (by unfold maxLen; omega) (by omega) (by simp; omega) (w7.heap.size + 1) (by simp) ?_); intro g cap w9 hown9 hgrow hat hlt9)
                obtain ⟨J1, J2, J3⟩ := al_append hR6 hlow6 B1.out B2.out B3.out hown9 hgrow
                have A2 : Hid (Al w6 w9 lo R sv bs Y cl nn (acc ++ [(s : Int)]) q9 (some ⟨g, 0, none⟩) cap (k + 1)) := by
                  have e1 := Hk.out
                  refine ⟨by simp; omega, J1, J2, J3, by simp; omega, ⟨f', by have := Hf.out; simp; omega, E8.out⟩, fine_rep 1 Hgood.out (by omega)⟩
                clear J1 J2 J3 hown9 hgrow hat hlt9
                go_roundw
                case rel => exact ⟨_, q9, some ⟨g, 0, none⟩, cap, k + 1, rfl, A2⟩
                case measure => simp [lenOf]; omega
              · have h16i : ¬ (s : Int) < 16 := by omega
                rcases (by omega : s = 16 ∨ s = 17 ∨ s = 18) with rfl | rfl | rfl
                · by_cases hk0 : k = 0
                  · subst hk0
                    have hacc : acc.length = 0 := Hk.out.symm
                    have E8 : Hid (Y = andThen (andThen (tkn 2) fun x => if acc.length = 0 then bad 4 else ret (at0 acc (acc.length - 1), 3 + x)) (fun vt => if nn < acc.length + vt.2 then bad 4 else lens cl nn f' (acc ++ List.replicate vt.2 vt.1)) (leNum bs) (8 * bs.length) q9) := E7.out
                    go_wp2_with fail
                    refine rtakes w7 lo R sv bs q9 2 B1.out (by omega) _ ⟨?ok6, ?no6⟩
                    case no6 =>
                      intro w8 hx hF
                      have X2 := hide (Hno.out 2 w8 (by omega) (HE5.out.trans (then_err (HY.out.symm.trans (E8.out.trans (then_err (then_err hx)))))) (F6.out.join (B2.out.join hF)))
                      clear hx hF
                      go_wp2
                      go_ret3
                      exact X2.out
                    intro x q8 w8 hx hr hF
                    have E9 : Y = .error 4 := by
                      rw [E8.out]
                      simp only [andThen, hx]
                      rw [if_pos hacc]
                      rfl
                    have X2 := hide (Hno.out 4 w8 (by omega) (HE5.out.trans (then_err (HY.out.symm.trans E9))) (F6.out.join (B2.out.join hF)))
                    clear hx hr hF E9
                    go_wp2
                    go_ret3
                    exact X2.out
                  · have hacc : ¬ acc.length = 0 := by have := Hk.out; omega
                    obtain ⟨v, hv⟩ : ∃ v, v = at0 acc (acc.length - 1) := ⟨_, rfl⟩
                    have hvr : 0 ≤ v ∧ v ≤ 15 := by rw [hv]; exact Hgood.out _ (by omega)
                    have E8 : Hid (Y = andThen (andThen (tkn 2) fun x => if acc.length = 0 then bad 4 else ret (v, 3 + x)) (fun vt => if nn < acc.length + vt.2 then bad 4 else lens cl nn f' (acc ++ List.replicate vt.2 vt.1)) (leNum bs) (8 * bs.length) q9) := by rw [hv]; exact E7.out
                    have E8' : Hid (Y = andThen (andThen (tkn 2) fun x => ret (v, 3 + x)) (fun vt => if nn < acc.length + vt.2 then bad 4 else lens cl nn f' (acc ++ List.replicate vt.2 vt.1)) (leNum bs) (8 * bs.length) q9) := by
                      show _ = _
                      rw [E8.out]
                      simp only [if_neg hacc]
                    clear E8
                    obtain ⟨E8, _⟩ : ∃ e : Hid (Y = andThen (andThen (tkn 2) fun x => ret (v, 3 + x)) (fun vt => if nn < acc.length + vt.2 then bad 4 else lens cl nn f' (acc ++ List.replicate vt.2 vt.1)) (leNum bs) (8 * bs.length) q9), True := ⟨E8', trivial⟩
                    obtain ⟨m, hm⟩ : ∃ m, k = m + 1 := ⟨k - 1, by omega⟩
                    obtain ⟨ad, rfl, hcell⟩ : ∃ ad, a = some ad ∧ w7.cell? (ad.add m) = some (.int .i64 v) := by
                      obtain ⟨ad, e1, e2⟩ := own_lies B3.out (acc.length - 1) (by omega)
                      refine ⟨ad, e1, ?_⟩
                      have hk1 := Hk.out
                      rw [show m = acc.length - 1 by omega, hv]
                      exact e2
                    have hk0i : (0 : Int) < (k : Int) := by omega
                    have hk0j : ((k : Int) == 0) = false := beq_false_of_ne (by omega)
                    have hk0l : ¬ (k : Int) = 0 := by omega
                    have hkm : (k : Int) - 1 = (m : Int) := by omega
                    have hmk : (m : Int) < (k : Int) := by omega
                    clear hv hm E8'
                    go_wp2_with fail
                    refine rtakes w7 lo R sv bs q9 2 B1.out (by omega) _ ⟨?ok7, ?no7⟩
                    case no7 =>
                      intro w8 hx hF
                      have X2 := hide (Hno.out 2 w8 (by omega) (HE5.out.trans (then_err (HY.out.symm.trans (E8.out.trans (then_err (then_err hx)))))) (F6.out.join (B2.out.join hF)))
                      clear hx hF
                      go_wp2
                      go_ret3
                      exact X2.out
                    intro x q8 w8 hx hr hF
                    have hxb : x < 4 := tkn_lt hx
                    obtain ⟨D1, D2, D3⟩ := al_next hR6 B1.out B2.out B3.out hr hF
                    have E9 : Hid (Y = (if nn < acc.length + (3 + x) then bad 4 else lens cl nn f' (acc ++ List.replicate (3 + x) v)) (leNum bs) (8 * bs.length) q8) := by
                      show _ = _
                      rw [E8.out]
                      simp only [andThen, hx]
                      rfl
                    have C1 := hide D1
                    have C2 := hide D2
                    have C3 := hide D3
                    clear hx hr hF D1 D2 D3
                    obtain ⟨t, ht⟩ : ∃ t, t = 3 + x := ⟨_, rfl⟩
                    have hti : (3 : Int) + (x : Int) = (t : Int) := by omega
                    have htb : 1 ≤ t ∧ t ≤ 200 := by omega
                    rw [← ht] at E9
                    have hsum : (k : Int) + 3 + (x : Int) = (k : Int) + (t : Int) := by omega
                    clear ht
                    by_cases hbig : nn < k + t
                    · have hbi : (nn : Int) < (k : Int) + (t : Int) := by omega
                      have hbj : (nn : Int) < (k : Int) + 3 + (x : Int) := by omega
                      have EA := E9.out
                      rw [if_pos (by rw [← Hk.out]; exact hbig)] at EA
                      have X2 := hide (Hno.out 4 w8 (by omega) (HE5.out.trans (then_err (HY.out.symm.trans EA))) (F6.out.join C2.out))
                      clear EA
                      go_wp2
                      go_ret3
                      exact X2.out
                    · have hbi : ¬ (nn : Int) < (k : Int) + (t : Int) := by omega
                      have hbj : ¬ (nn : Int) < (k : Int) + 3 + (x : Int) := by omega
                      have EA := E9.out
                      rw [if_neg (by rw [← Hk.out]; exact hbig)] at EA
                      have HEA := hide EA
                      clear EA
                      go_wp2
                      go_loopw [18, 26] (fun lv iv wq => ∃ (i : Nat) (a' : Option Addr) (c' k' : Nat), i ≤ t ∧ iv = .int .i64 (i : Int) ∧ lv = .slice a' k' c' ∧ Hid (k' = k + i) ∧ Hid (Rz wq lo R sv bs q8) ∧ Hid (Fr (fun k => k = R) w6 wq) ∧ Hid (wq.ownsRow w6.heap.size 3 1 (.slice a' k' c') k' (cellsZ (acc ++ List.replicate i v)))) (fun _ iv _ => t - (intOf iv).toNat)
                      case atStart => exact ⟨0, some ad, c, k, Nat.zero_le _, rfl, rfl, rfl, C1.out, C2.out, hide (by simpa using C3.out)⟩
                      case round =>
                        obtain ⟨i, a', c', k', hi1, rfl, rfl, I0, I1, I2, I3⟩ := hrel
                        have hk' : k' ≤ 800 := by have := I0.out; omega
                        by_cases hlt : i < t
                        · have hlti : (i : Int) < (t : Int) := by omega
                          have hltj : (i : Int) < 3 + (x : Int) := by omega
                          have hsz := I2.out.size
                          go_wp2_with (at_builtin; go_must (refine wpList_append_lies _ rfl _ _ 81 rfl w6.heap.size 3 i0 (.int .i64 0) 1 8 Tryz.underlying81 hi hz0 hz1 hz2 rfl (by decide) (.slice a' k' c') k' (cellsZ (acc ++ List.replicate i v)) rfl (I3.out.alloc _) ⟨wr.heap.size, 0, none⟩ 1 1 [.int .i64 v] rfl rfl (cell_one_new _ _ _) (fun x hx => by simp at hx; subst hx; rfl) (by decide) (by unfold maxLen; omega) (by omega) (by simp; omega) (wr.heap.size + 1) (by simp) ?_); intro g cap w9 hown9 hgrow hat hlt9)
                          obtain ⟨J1, J2, J3⟩ := al_append hR6 hlow6 I1.out I2.out I3.out hown9 hgrow
                          rw [rep_snoc] at J3
                          have K1 := hide J1
                          have K2 := hide J2
                          have K3 := hide J3
                          clear J1 J2 J3 hown9 hgrow hat hlt9
                          go_roundw
                          case rel => exact ⟨i + 1, some ⟨g, 0, none⟩, cap, k' + 1, by omega, by go_num, rfl, (by have := I0.out; show k' + 1 = k + (i + 1); omega), K1.out, K2.out, K3.out⟩
                          case measure => simp [intOf]; omega
                        · have hlti : ¬ (i : Int) < (t : Int) := by omega
                          have hltj : ¬ (i : Int) < 3 + (x : Int) := by omega
                          have hie : i = t := by omega
                          subst hie
                          have A2 : Hid (Al w6 wr lo R sv bs Y cl nn (acc ++ List.replicate i v) q8 a' c' k') := by
                            have e0 := I0.out
                            have e1 := Hk.out
                            refine ⟨by simp; omega, I1.out, I2.out, I3.out, by simp; omega, ⟨f', by have := Hf.out; simp; omega, HEA.out⟩, fine_rep i Hgood.out hvr⟩
                          go_wp2
                          go_roundw
                          case rel => exact ⟨_, q8, a', c', k', rfl, A2⟩
                          case measure => have := I0.out; simp [lenOf]; omega
                · have E8 : Hid (Y = andThen (andThen (tkn 3) fun x => ret ((0 : Int), 3 + x)) (fun vt => if nn < acc.length + vt.2 then bad 4 else lens cl nn f' (acc ++ List.replicate vt.2 vt.1)) (leNum bs) (8 * bs.length) q9) := E7.out
                  go_wp2_with fail
                  refine rtakes w7 lo R sv bs q9 3 B1.out (by omega) _ ⟨?ok8, ?no8⟩
                  case no8 =>
                    intro w8 hx hF
                    have X2 := hide (Hno.out 2 w8 (by omega) (HE5.out.trans (then_err (HY.out.symm.trans (E8.out.trans (then_err (then_err hx)))))) (F6.out.join (B2.out.join hF)))
                    clear hx hF
                    go_wp2
                    go_ret3
                    exact X2.out
                  intro x q8 w8 hx hr hF
                  have hxb : x < 8 := tkn_lt hx
                  obtain ⟨D1, D2, D3⟩ := al_next hR6 B1.out B2.out B3.out hr hF
                  have E9 : Hid (Y = (if nn < acc.length + (3 + x) then bad 4 else lens cl nn f' (acc ++ List.replicate (3 + x) (0 : Int))) (leNum bs) (8 * bs.length) q8) := by
                    show _ = _
                    rw [E8.out]
                    simp only [andThen, hx]
                    rfl
                  have C1 := hide D1
                  have C2 := hide D2
                  have C3 := hide D3
                  clear hx hr hF D1 D2 D3
                  obtain ⟨t, ht⟩ : ∃ t, t = 3 + x := ⟨_, rfl⟩
                  have hti : (3 : Int) + (x : Int) = (t : Int) := by omega
                  have htb : 1 ≤ t ∧ t ≤ 200 := by omega
                  rw [← ht] at E9
                  have hsum : (k : Int) + 3 + (x : Int) = (k : Int) + (t : Int) := by omega
                  clear ht
                  by_cases hbig : nn < k + t
                  · have hbi : (nn : Int) < (k : Int) + (t : Int) := by omega
                    have hbj : (nn : Int) < (k : Int) + 3 + (x : Int) := by omega
                    have EA := E9.out
                    rw [if_pos (by rw [← Hk.out]; exact hbig)] at EA
                    have X2 := hide (Hno.out 4 w8 (by omega) (HE5.out.trans (then_err (HY.out.symm.trans EA))) (F6.out.join C2.out))
                    clear EA
                    go_wp2
                    go_ret3
                    exact X2.out
                  · have hbi : ¬ (nn : Int) < (k : Int) + (t : Int) := by omega
                    have hbj : ¬ (nn : Int) < (k : Int) + 3 + (x : Int) := by omega
                    have EA := E9.out
                    rw [if_neg (by rw [← Hk.out]; exact hbig)] at EA
                    have HEA := hide EA
                    clear EA
                    go_wp2
                    go_loopw [18, 26] (fun lv iv wq => ∃ (i : Nat) (a' : Option Addr) (c' k' : Nat), i ≤ t ∧ iv = .int .i64 (i : Int) ∧ lv = .slice a' k' c' ∧ Hid (k' = k + i) ∧ Hid (Rz wq lo R sv bs q8) ∧ Hid (Fr (fun k => k = R) w6 wq) ∧ Hid (wq.ownsRow w6.heap.size 3 1 (.slice a' k' c') k' (cellsZ (acc ++ List.replicate i (0 : Int))))) (fun _ iv _ => t - (intOf iv).toNat)
                    case atStart => exact ⟨0, a, c, k, Nat.zero_le _, rfl, rfl, rfl, C1.out, C2.out, hide (by simpa using C3.out)⟩
                    case round =>
                      obtain ⟨i, a', c', k', hi1, rfl, rfl, I0, I1, I2, I3⟩ := hrel
                      have hk' : k' ≤ 800 := by have := I0.out; omega
                      by_cases hlt : i < t
                      · have hlti : (i : Int) < (t : Int) := by omega
                        have hltj : (i : Int) < 3 + (x : Int) := by omega
                        have hsz := I2.out.size
                        go_wp2_with (at_builtin; go_must (refine wpList_append_lies _ rfl _ _ 81 rfl w6.heap.size 3 i0 (.int .i64 0) 1 8 Tryz.underlying81 hi hz0 hz1 hz2 rfl (by decide) (.slice a' k' c') k' (cellsZ (acc ++ List.replicate i (0 : Int))) rfl (I3.out.alloc _) ⟨wr.heap.size, 0, none⟩ 1 1 [.int .i64 (0 : Int)] rfl rfl (cell_one_new _ _ _) (fun x hx => by simp at hx; subst hx; rfl) (by decide) (by unfold maxLen; omega) (by omega) (by simp; omega) (wr.heap.size + 1) (by simp) ?_); intro g cap w9 hown9 hgrow hat hlt9)
                        obtain ⟨J1, J2, J3⟩ := al_append hR6 hlow6 I1.out I2.out I3.out hown9 hgrow
                        rw [rep_snoc] at J3
                        have K1 := hide J1
                        have K2 := hide J2
                        have K3 := hide J3
                        clear J1 J2 J3 hown9 hgrow hat hlt9
                        go_roundw
                        case rel => exact ⟨i + 1, some ⟨g, 0, none⟩, cap, k' + 1, by omega, by go_num, rfl, (by have := I0.out; show k' + 1 = k + (i + 1); omega), K1.out, K2.out, K3.out⟩
                        case measure => simp [intOf]; omega
                      · have hlti : ¬ (i : Int) < (t : Int) := by omega
                        have hltj : ¬ (i : Int) < 3 + (x : Int) := by omega
                        have hie : i = t := by omega
                        subst hie
                        have A2 : Hid (Al w6 wr lo R sv bs Y cl nn (acc ++ List.replicate i (0 : Int)) q8 a' c' k') := by
                          have e0 := I0.out
                          have e1 := Hk.out
                          refine ⟨by simp; omega, I1.out, I2.out, I3.out, by simp; omega, ⟨f', by have := Hf.out; simp; omega, HEA.out⟩, fine_rep i Hgood.out (by omega)⟩
                        go_wp2
                        go_roundw
                        case rel => exact ⟨_, q8, a', c', k', rfl, A2⟩
                        case measure => have := I0.out; simp [lenOf]; omega
                · have E8 : Hid (Y = andThen (andThen (tkn 7) fun x => ret ((0 : Int), 11 + x)) (fun vt => if nn < acc.length + vt.2 then bad 4 else lens cl nn f' (acc ++ List.replicate vt.2 vt.1)) (leNum bs) (8 * bs.length) q9) := E7.out
                  go_wp2_with fail
                  refine rtakes w7 lo R sv bs q9 7 B1.out (by omega) _ ⟨?ok9, ?no9⟩
                  case no9 =>
                    intro w8 hx hF
                    have X2 := hide (Hno.out 2 w8 (by omega) (HE5.out.trans (then_err (HY.out.symm.trans (E8.out.trans (then_err (then_err hx)))))) (F6.out.join (B2.out.join hF)))
                    clear hx hF
                    go_wp2
                    go_ret3
                    exact X2.out
                  intro x q8 w8 hx hr hF
                  have hxb : x < 128 := tkn_lt hx
                  obtain ⟨D1, D2, D3⟩ := al_next hR6 B1.out B2.out B3.out hr hF
                  have E9 : Hid (Y = (if nn < acc.length + (11 + x) then bad 4 else lens cl nn f' (acc ++ List.replicate (11 + x) (0 : Int))) (leNum bs) (8 * bs.length) q8) := by
                    show _ = _
                    rw [E8.out]
                    simp only [andThen, hx]
                    rfl
                  have C1 := hide D1
                  have C2 := hide D2
                  have C3 := hide D3
                  clear hx hr hF D1 D2 D3
                  obtain ⟨t, ht⟩ : ∃ t, t = 11 + x := ⟨_, rfl⟩
                  have hti : (11 : Int) + (x : Int) = (t : Int) := by omega
                  have htb : 1 ≤ t ∧ t ≤ 200 := by omega
                  rw [← ht] at E9
                  have hsum : (k : Int) + 11 + (x : Int) = (k : Int) + (t : Int) := by omega
                  clear ht
                  by_cases hbig : nn < k + t
                  · have hbi : (nn : Int) < (k : Int) + (t : Int) := by omega
                    have hbj : (nn : Int) < (k : Int) + 11 + (x : Int) := by omega
                    have EA := E9.out
                    rw [if_pos (by rw [← Hk.out]; exact hbig)] at EA
                    have X2 := hide (Hno.out 4 w8 (by omega) (HE5.out.trans (then_err (HY.out.symm.trans EA))) (F6.out.join C2.out))
                    clear EA
                    go_wp2
                    go_ret3
                    exact X2.out
                  · have hbi : ¬ (nn : Int) < (k : Int) + (t : Int) := by omega
                    have hbj : ¬ (nn : Int) < (k : Int) + 11 + (x : Int) := by omega
                    have EA := E9.out
                    rw [if_neg (by rw [← Hk.out]; exact hbig)] at EA
                    have HEA := hide EA
                    clear EA
                    go_wp2
                    go_loopw [18, 26] (fun lv iv wq => ∃ (i : Nat) (a' : Option Addr) (c' k' : Nat), i ≤ t ∧ iv = .int .i64 (i : Int) ∧ lv = .slice a' k' c' ∧ Hid (k' = k + i) ∧ Hid (Rz wq lo R sv bs q8) ∧ Hid (Fr (fun k => k = R) w6 wq) ∧ Hid (wq.ownsRow w6.heap.size 3 1 (.slice a' k' c') k' (cellsZ (acc ++ List.replicate i (0 : Int))))) (fun _ iv _ => t - (intOf iv).toNat)
                    case atStart => exact ⟨0, a, c, k, Nat.zero_le _, rfl, rfl, rfl, C1.out, C2.out, hide (by simpa using C3.out)⟩
                    case round =>
                      obtain ⟨i, a', c', k', hi1, rfl, rfl, I0, I1, I2, I3⟩ := hrel
                      have hk' : k' ≤ 800 := by have := I0.out; omega
                      by_cases hlt : i < t
                      · have hlti : (i : Int) < (t : Int) := by omega
                        have hltj : (i : Int) < 11 + (x : Int) := by omega
                        have hsz := I2.out.size
                        go_wp2_with (at_builtin; go_must (refine wpList_append_lies _ rfl _ _ 81 rfl w6.heap.size 3 i0 (.int .i64 0) 1 8 Tryz.underlying81 hi hz0 hz1 hz2 rfl (by decide) (.slice a' k' c') k' (cellsZ (acc ++ List.replicate i (0 : Int))) rfl (I3.out.alloc _) ⟨wr.heap.size, 0, none⟩ 1 1 [.int .i64 (0 : Int)] rfl rfl (cell_one_new _ _ _) (fun x hx => by simp at hx; subst hx; rfl) (by decide) (by unfold maxLen; omega) (by omega) (by simp; omega) (wr.heap.size + 1) (by simp) ?_); intro g cap w9 hown9 hgrow hat hlt9)
                        obtain ⟨J1, J2, J3⟩ := al_append hR6 hlow6 I1.out I2.out I3.out hown9 hgrow
                        rw [rep_snoc] at J3
                        have K1 := hide J1
                        have K2 := hide J2
                        have K3 := hide J3
                        clear J1 J2 J3 hown9 hgrow hat hlt9
                        go_roundw
                        case rel => exact ⟨i + 1, some ⟨g, 0, none⟩, cap, k' + 1, by omega, by go_num, rfl, (by have := I0.out; show k' + 1 = k + (i + 1); omega), K1.out, K2.out, K3.out⟩
                        case measure => simp [intOf]; omega
                      · have hlti : ¬ (i : Int) < (t : Int) := by omega
                        have hltj : ¬ (i : Int) < 11 + (x : Int) := by omega
                        have hie : i = t := by omega
                        subst hie
                        have A2 : Hid (Al w6 wr lo R sv bs Y cl nn (acc ++ List.replicate i (0 : Int)) q8 a' c' k') := by
                          have e0 := I0.out
                          have e1 := Hk.out
                          refine ⟨by simp; omega, I1.out, I2.out, I3.out, by simp; omega, ⟨f', by have := Hf.out; simp; omega, HEA.out⟩, fine_rep i Hgood.out (by omega)⟩
                        go_wp2
                        go_roundw
                        case rel => exact ⟨_, q8, a', c', k', rfl, A2⟩
                        case measure => have := I0.out; simp [lenOf]; omega
            · have hlti : ¬ (k : Int) < (nn : Int) := by omega
              have hke : k = nn := by omega
              have Hll : Hid (acc.length = nn) := by
                have := Hk.out
                show acc.length = nn
                omega
              have EY : Y = .ok (acc, q7) := by
                obtain ⟨f', rfl⟩ : ∃ f', f = f' + 1 := ⟨f - 1, by have := Hll.out; omega⟩
                rw [hYf]
                simp only [lens]
                rw [if_pos (by have := Hll.out; omega)]
                rfl
              have E6 := hide (HE5.out.trans (then_ok (HY.out.symm.trans EY)))
              have HL0 : Hid (LiesI wr a acc) := own_lies HA.out.own
              obtain ⟨g, hag, hcap⟩ : ∃ g, a = some ⟨g, 0, none⟩ ∧ k ≤ c := by
                have h := HA.out.own
                rcases h.2 with ⟨hv, e0⟩ | ⟨g, cap, cur, hv, hg, hh, hr⟩
                · have h1 := h.1
                  have := Hll.out
                  simp [cellsZ] at h1
                  exfalso
                  cases hv
                  omega
                · cases hv
                  have h1 := h.1
                  exact ⟨g, rfl, hr.1⟩
              subst hag
              have hl256 : wr.cell? ⟨g, 256, none⟩ = some (.int .i64 (at0 acc 256)) := by
                obtain ⟨ad, e, hc⟩ := HL0.out 256 (by have := Hll.out; have := Hnn.out; omega)
                cases e
                rw [add_none, Nat.zero_add] at hc
                exact hc
              have hk256 : (256 : Int) < (k : Int) := by have := Hnn.out; omega
              have hn1c : (n1 : Int) ≤ (c : Int) := by have := Hnn.out; omega
              have hn1k : (n1 : Int) ≤ (k : Int) := by have := Hnn.out; omega
              have hkc : (k : Int) ≤ (c : Int) := by omega
              have F7 := hide (F6.out.join HA.out.fr)
              have HZ := hide HA.out.z
              have hs7 := HA.out.fr.size
              clear EY hf hYf
              by_cases hz : at0 acc 256 = 0
              · have X2 := hide (Hno.out 4 wr (by omega) (E6.out.trans (by rw [if_neg (fun h => h.2.2 hz)]; rfl)) F7.out)
                rw [hz] at hl256
                clear hz
                go_wp2
                go_ret3
                exact X2.out
              · obtain ⟨z, hzz⟩ : ∃ z, z = at0 acc 256 := ⟨_, rfl⟩
                have Hz := hide hz
                rw [← hzz] at hl256 hz
                have hzi : (z == 0) = false := beq_false_of_ne hz
                clear hzz
                have ek1 : (acc.take n1).length = n1 := len_take (by have := Hll.out; have := Hnn.out; omega)
                have ek2 : (acc.drop n1).length = nn - n1 := by have := Hll.out; simp; omega
                have Ek1 := hide ek1
                have Ek2 := hide ek2
                clear ek1 ek2
                go_wp2_with fail
                refine calls_args (refNew_c (some ⟨g, 0, none⟩) c (acc.take n1) wr (lies_take n1 HL0.out) (by rw [Ek1.out]; omega) _ ?b3 ?n3 ?y3) (by rw [Ek1.out])
                case b3 => (intro hb; exact absurd (good_take Hgood.out (by omega)) hb)
                case n3 =>
                  intro _ hn w7 hF
                  have HL7 := hide (HL0.out.fr hF)
                  have F8 := hide (F7.out.join (Fl0 hF))
                  clear hF
                  go_wp2_with fail
                  refine calls_args (refNew_c (some ⟨g, n1, none⟩) (c - n1) (acc.drop n1) w7 (lies_drop n1 HL7.out) (by rw [Ek2.out]; omega) _ ?b4 ?n4 ?y4) (by rw [Ek2.out]; try rfl)
                  case b4 => (intro hb; exact absurd (good_drop Hgood.out (by have := Hll.out; omega)) hb)
                  case n4 =>
                    intro _ hn2 w8 hF
                    have X2 := hide (Hno.out 4 w8 (by omega) (E6.out.trans (by rw [if_neg (fun h => hn h.1)]; rfl)) (F8.out.join (Fl0 hF)))
                    clear hF
                    go_wp2
                    go_ret3
                    exact X2.out
                  case y4 =>
                    intro _ hn2 w8 B _ hF
                    have X2 := hide (Hno.out 4 w8 (by omega) (E6.out.trans (by rw [if_neg (fun h => hn h.1)]; rfl)) (F8.out.join (Fl0 hF)))
                    clear hF
                    go_wp2
                    go_ret3
                    exact X2.out
                case y3 =>
                  intro _ hok1 w7 A hC1 hF
                  have HL7 := hide (HL0.out.fr hF)
                  have F8 := hide (F7.out.join (Fl0 hF))
                  have HZ7 := hide (HZ.out.keep hF (fun _ h => h.elim))
                  have HC1 := hide hC1
                  have hs8 := hF.size
                  clear hF hC1
                  go_wp2_with fail
                  refine calls_args (refNew_c (some ⟨g, n1, none⟩) (c - n1) (acc.drop n1) w7 (lies_drop n1 HL7.out) (by rw [Ek2.out]; omega) _ ?b5 ?n5 ?y5) (by rw [Ek2.out]; try rfl)
                  case b5 => (intro hb; exact absurd (good_drop Hgood.out (by have := Hll.out; omega)) hb)
                  case n5 =>
                    intro _ hn2 w8 hF
                    have X2 := hide (Hno.out 4 w8 (by omega) (E6.out.trans (by rw [if_neg (fun h => hn2 h.2.1)]; rfl)) (F8.out.join (Fl0 hF)))
                    clear hF
                    go_wp2
                    go_ret3
                    exact X2.out
                  case y5 =>
                    intro _ hok2 w8 B hC2 hF
                    have X2 := hide (Hok.out (acc.take n1) (acc.drop n1) q7 A B _ _ _ _ w8 (E6.out.trans (by rw [if_pos ⟨hok1, hok2, Hz.out⟩]; rfl)) (HC1.out.keep hF (fun _ _ _ h => h)) hC2 (by omega) (by omega) (HZ7.out.keep hF (fun _ h => h.elim)) (F8.out.join (Fl0 hF)))
                    clear hF hC2
                    go_wp2
                    go_ret3
                    exact X2.out
  · have q14 : 8 * (bs.length : Int) - (p : Int) < 14 := by omega
    have X := hide (Hno.out 2 w1 (by omega) (own_short h14) F1.out)
    go_wp2
    go_ret3
    exact X.out
end Go.Proofs.YtdpmpllbdoefdaaGreatDoor
namespace Go.Proofs.YtdpmpllbdoefdaaGreatDoor
open Go.RowKit
theorem head_of {V L p l q1 k q2 : Nat} (h1 : tkn 1 V L p = .ok (l, q1)) (h2 : tkn 2 V L q1 = .ok (k, q2)) : head V L p = andThen (kindOf k) (fun pl => ret (decide (l = 1), pl)) V L q2 := (then_ok h1).trans (then_ok h2)
theorem head_short {V L p : Nat} (h : ¬ p + 3 ≤ L) : head V L p = .error 2 := by
  show andThen (tkn 1) _ V L p = _
  by_cases h1 : p + 1 ≤ L
  · rw [then_ok (tkn_ok h1), then_err (tkn_err (by omega))]
  · rw [then_err (tkn_err h1)]
theorem ahead_fail {V L most p er : Nat} {out : List Nat} (h : head V L p = .error er) : Runs V L most ⟨p, false, out, .ahead⟩ (.error er) := .fail (by simp [adv, h])
theorem ahead_go {V L most p q : Nat} {b : Bool} {pl : Pl} {out : List Nat} {r : Except Nat (List Nat × Nat)} (h : head V L p = .ok ((b, pl), q)) (hr : Runs V L most ⟨q, b, out, pl⟩ r) : Runs V L most ⟨p, false, out, .ahead⟩ r := .go (by simp [adv, h]) hr
theorem cw_of2 {w4 w5 : World} {lo R : Nat} {sv : Value} {bs : List Nat} {m LM DM : Nat} {ll dl : List Int} {q : Nat} {out : List Nat} {a : Option Addr} {c l1 h1 l2 h2 : Nat} (hz : Rz w5 lo R sv bs q) (ho : Ro w4 lo R a c out) (hC1 : Rc w5 l1 h1 LM ll) (hC2 : Rc w5 l2 h2 DM dl) (e1 : w4.heap.size ≤ l1) (e2 : w4.heap.size ≤ l2) (hR : R < w4.heap.size) (hF : Fr (fun k => k = R) w4 w5) (hle : out.length ≤ m) :
    Cw w5 w5 lo R sv bs m LM DM ll dl q out a c out.length :=
  ⟨rfl, hz, ho.next hF, ⟨l1, h1, hC1, Or.inr (by omega), fun g hg => Or.inr (by have := (ho.own.lt g hg).2; omega)⟩, ⟨l2, h2, hC2, Or.inr (by omega), fun g hg => Or.inr (by have := (ho.own.lt g hg).2; omega)⟩, hle, Fr.refl _ _⟩
theorem cw_of {w4 w5 : World} {lo R : Nat} {sv : Value} {bs : List Nat} {m LM DM : Nat} {ll dl : List Int} {q : Nat} {out : List Nat} {a : Option Addr} {c l1 h1 l2 h2 : Nat} (hz : Rz w4 lo R sv bs q) (ho : Ro w4 lo R a c out) (hC1 : Rc w5 l1 h1 LM ll) (hC2 : Rc w5 l2 h2 DM dl) (e1 : w4.heap.size ≤ l1) (e2 : w4.heap.size ≤ l2) (hF : Fr (fun _ => False) w4 w5) (hle : out.length ≤ m) :
    Cw w5 w5 lo R sv bs m LM DM ll dl q out a c out.length :=
  cw_of2 (hz.keep hF (fun _ h => h.elim)) ho hC1 hC2 e1 e2 hz.lt (hF.mono fun _ _ h => h.elim) hle
structure Ri (w wr : World) (R : Nat) (sv : Value) (bs : List Nat) (most : Nat) (out : List Nat) (p : Nat) (a : Option Addr) (c N : Nat) : Prop where
  n : N = out.length
  z : Rz wr w.heap.size R sv bs p
  o : Ro wr w.heap.size R a c out
  le : out.length ≤ most
  fl : Fl w.heap.size w wr
  run : ∀ r, Runs (leNum bs) (8 * bs.length) most ⟨p, false, out, .ahead⟩ r → Runs (leNum bs) (8 * bs.length) most init r
theorem rNe_stored : Ne0 storedHead := .andThen .algn fun _ => .andThen (.tkn _) fun _ => .andThen (.tkn _) fun _ => .ite (.ret _) (.bad (by omega))
def Ra1 (w : World) (bs : List Nat) (most : Int) (e : Ending) (w' : World) : Prop :=
  ∃ r a c, AllOk bs most r ∧ e = .returned (.tuple #[.slice a (outOf r).length c, .int .i64 (usedOf r : Int), .int .i64 (errOf r : Int)]) ∧ Lies w' (.slice a (outOf r).length c) (outOf r) ∧ Fr (fun _ => False) w w'
theorem fl_none {w w' : World} (h : Fl w.heap.size w w') : Fr (fun _ => False) w w' := h.mono fun k hk h2 => by omega
theorem at7 (p : Nat) : Int.tdiv ((p : Int) + 7) 8 = (((p + 7) / 8 : Nat) : Int) := by
  rw [Int.tdiv_eq_ediv_of_nonneg (by omega)]
  omega
set_option maxHeartbeats 4000000 in
set_option maxRecDepth 100000 in
theorem rInflate_c (sv : Value) (bs : List Nat) (most : Int) (w : World) (h : Lies w sv bs) (hlt : ∀ b ∈ bs, b < 256) (hlen : bs.length ≤ 2147483648) (hm : most ≤ 2147480000) :
    Calls Tryz.prog 16 #[sv, .int .i64 most] w (Ra1 w bs most) := by
  obtain ⟨sa, sn, sc, hs⟩ : ∃ a n c, sv = .slice a n c := by
    rcases h with ⟨rfl, _⟩ | ⟨ad, c, rfl, _⟩
    · exact ⟨none, 0, 0, rfl⟩
    · exact ⟨some ad, _, c, rfl⟩
  by_cases hneg : most < 0
  · have X2 : Hid (Ra1 w bs most (.returned (.tuple #[.slice none 0 0, .int .i64 0, .int .i64 1])) w) := ⟨.error 1, none, 0, Or.inl ⟨hneg, rfl⟩, rfl, Or.inl ⟨rfl, rfl⟩, Fr.refl _ _⟩
    subst hs
    clear h hlt
    go_enter Tryz.func16, Tryz.ntmps16
    go_wp2
    go_ret3
    exact X2.out
  obtain ⟨m, rfl⟩ : ∃ m : Nat, most = (m : Int) := ⟨most.toNat, by omega⟩
  obtain ⟨R, hR⟩ : ∃ R, R = w.heap.size := ⟨_, rfl⟩
  obtain ⟨w1, hw1⟩ : ∃ w1, w1 = (w.alloc (.cells #[sv, .int .i64 0, .bool false, .bool false] 60)).alloc (.cells #[] 5) := ⟨_, rfl⟩
  have f1 : Fr (fun _ => False) w w1 := by rw [hw1]; exact (Fr.of_alloc _ _).join (Fr.of_alloc _ _)
  have hob : w1.heap[R]? = some (.cells #[sv, .int .i64 0, .bool false, .bool false] 60 (0, 0)) := by
    rw [hw1, (Fr.of_alloc (w.alloc (.cells #[sv, .int .i64 0, .bool false, .bool false] 60)) (.cells #[] 5)).block R (by rw [size_alloc]; omega) (fun h => h)]
    exact heap_alloc_at hR
  have hoo : w1.heap[R + 1]? = some (.cells #[] 5 (0, 0)) := by rw [hw1]; exact heap_alloc_at (by rw [size_alloc, hR])
  have hsb : bs ≠ [] → ∀ ad n c, sv = .slice (some ad) n c → ad.block < w.heap.size := by
    intro hne ad n c he
    rcases h with ⟨_, rfl⟩ | ⟨ad', c', e', hc⟩
    · exact absurd rfl hne
    · have hpos : 0 < bs.length := List.length_pos_iff.2 hne
      have hc0 := hc 0 (.int .u8 ((bs[0] : Nat) : Int)) (by simp [cellsOf, List.getElem?_eq_getElem hpos])
      rw [e'] at he
      cases he
      exact cell_lt hc0
  have Z1 : Rz w1 w.heap.size R sv bs 0 := ⟨⟨⟨false, hob⟩, lies_fr h f1, fun hne ad n c e => by have := hsb hne ad n c e; omega, Nat.zero_le _, hlt, hlen⟩, by omega, hsb, f1.size⟩
  have O1 : Ro w1 w.heap.size R (some ⟨R + 1, 0, none⟩) 0 [] := by
    refine ⟨⟨rfl, Or.inr ⟨R + 1, 0, #[], rfl, by omega, hoo, Nat.le_refl _, by unfold maxLen; omega, rfl, rfl⟩⟩, ?_⟩
    intro g hg
    have : R + 1 = g := by simpa [Value.ownBlock] using hg
    omega
  have I1 : Hid (Ri w w1 R sv bs m [] 0 (some ⟨R + 1, 0, none⟩) 0 0) := ⟨rfl, Z1, O1, Nat.zero_le _, Fl0 f1, fun _ h => h⟩
  have Hfail : ∀ (er : Nat) w', er ≠ 0 → Runs (leNum bs) (8 * bs.length) m init (.error er) → Fl w.heap.size w w' → Ra1 w bs m (.returned (.tuple #[.slice none 0 0, .int .i64 0, .int .i64 (er : Int)])) w' :=
    fun er w' _ hr hF => ⟨.error er, none, 0, Or.inr ⟨by omega, hr⟩, rfl, Or.inl ⟨rfl, rfl⟩, fl_none hF⟩
  have Hdone : ∀ w' out' p' a' c', Rz w' w.heap.size R sv bs p' → Ro w' w.heap.size R a' c' out' → out'.length ≤ m → Fl w.heap.size w w' → (∀ r, Runs (leNum bs) (8 * bs.length) m ⟨p', true, out', .ahead⟩ r → Runs (leNum bs) (8 * bs.length) m init r) →
      ∀ k, Ra1 w bs m (.returned (.tuple #[.slice a' out'.length c', .int .i64 (Int.tdiv ((p' : Int) + 7) 8), .int .i64 0])) (w'.drewN k) :=
    fun w' out' p' a' c' _ ho _ hF hr k => ⟨.ok (out', p'), a', c', Or.inr ⟨by omega, hr _ (.done (by simp [adv]))⟩, by rw [at7]; rfl, lies_own (ho.fr (Fr.of_drewN w' k)).own, fl_none (hF.join (Fl0 (Fr.of_drewN w' k)))⟩
  have HH := hide (And.intro Hfail Hdone)
  have hRw : R < w1.heap.size := lt_of hob
  clear Z1 O1 f1 hob hoo hsb h hlt
  subst hs
  go_enter Tryz.func16, Tryz.ntmps16
  clear Hfail Hdone
  go_wp2
  rw [← hR, ← hw1]
  have HR := hide hR
  clear hw1 hR
  go_loopw [8, 9, 10, 11, 12, 13, 14, 15, 16, 17, 18] (fun v _ _ _ _ _ _ _ _ _ _ wr => ∃ (out : List Nat) (p : Nat) (a : Option Addr) (c N : Nat), v = .slice a N c ∧ Hid (Ri w wr R (.slice sa sn sc) bs m out p a c N)) (fun _ _ _ _ _ _ _ _ _ _ _ wr => 8 * bs.length - cellI wr R 1)
  case atStart => exact ⟨[], 0, some ⟨R + 1, 0, none⟩, 0, 0, rfl, I1⟩
  case round =>
    obtain ⟨out, p, a, c, N, rfl, J⟩ := hrel
    obtain ⟨Hfail, Hdone⟩ := HH.out
    have hN : N = out.length := J.out.n
    subst hN
    have Hm0 : Hid (cellI wr R 1 = p) := by
      obtain ⟨sh, ho⟩ := J.out.z.rf.eobj
      show cellI wr R 1 = p
      unfold cellI
      rw [cell_of (o := 1) ho rfl]
      rfl
    have hp0 := J.out.z.rf.epos
    go_wp2_with fail
    refine (ref_left wr R _ bs p false J.out.z.rf).mono ?_
    rintro e w2 ⟨rfl, k, rfl⟩
    have Z2 := hide (J.out.z.keep (Fr.of_drewN wr k) (fun _ h => h.elim))
    have O2 := hide (J.out.o.fr (Fr.of_drewN wr k))
    have F2 := hide (J.out.fl.join (Fl0 (Fr.of_drewN wr k)))
    generalize wr.drewN k = w2 at *
    by_cases h3 : p + 3 ≤ 8 * bs.length
    case neg =>
      have q3 : 8 * (bs.length : Int) - (p : Int) < 3 := by omega
      have X2 := hide (Hfail 2 w2 (by omega) (J.out.run _ (ahead_fail (head_short h3))) F2.out)
      skip
      go_wp2
      go_ret3
      exact X2.out
    have q3 : ¬ 8 * (bs.length : Int) - (p : Int) < 3 := by omega
    go_wp2_with fail
    refine rtakes w2 w.heap.size R _ bs p 1 Z2.out (by omega) _ ⟨?ok1, ?no1⟩
    case no1 => (intro w3 hx; rw [tkn_ok (by omega)] at hx; cases hx)
    intro l p1 w3 hx1 hr hF
    have hl2 : l < 2 := tkn_lt hx1
    have hl01 : l = 1 ∨ l = 0 := by omega
    have hp1 := (tkn_inv hx1).2.2
    have Hx1 := hide hx1
    have Z3 := hide (Z2.out.next hr hF)
    have O3 := hide (O2.out.next hF)
    have F3 := hide (F2.out.join (Z2.out.low hF))
    clear hx1 hr hF
    go_wp2_with fail
    refine rtakes w3 w.heap.size R _ bs p1 2 Z3.out (by omega) _ ⟨?ok2, ?no2⟩
    case no2 => (intro w4 hx; rw [tkn_ok (by omega)] at hx; cases hx)
    intro kd p2 w4 hx2 hr hF
    have hk4 : kd < 4 := tkn_lt hx2
    have hp2 := (tkn_inv hx2).2.2
    have Hd := hide (head_of Hx1.out hx2)
    have Z4 := hide (Z3.out.next hr hF)
    have O4 := hide (O3.out.next hF)
    have F4 := hide (F3.out.join (Z3.out.low hF))
    clear hx2 hr hF
    rcases (by omega : kd = 0 ∨ kd = 1 ∨ kd = 2 ∨ kd = 3) with rfl | rfl | rfl | rfl
    · have HK : Hid (head (leNum bs) (8 * bs.length) p = andThen (andThen storedHead fun n => ret (.stored n)) (fun pl => ret (decide (l = 1), pl)) (leNum bs) (8 * bs.length) p2) := Hd.out
      go_wp2_with fail
      refine calls_args (rstored_c w4 w.heap.size R _ bs p2 Z4.out a c out O4.out m (by omega) J.out.le _ ?no0 ?ok0 ?err0) rfl
      case no0 =>
        intro er w5 hx hF
        have her : er ≠ 0 := rNe_stored.ne hx
        have hei : ((er : Int) == 0) = false := beq_false_of_ne (by omega)
        have hej : ¬ (er : Int) = 0 := by omega
        have X2 := hide (Hfail er w5 her (J.out.run _ (ahead_fail (HK.out.trans (then_err (then_err hx))))) (F4.out.join hF))
        clear hx hF
        go_wp2
        go_ret3
        exact X2.out
      case err0 =>
        intro n q er w5 hx her hall hF
        have hei : ((er : Int) == 0) = false := beq_false_of_ne (by omega)
        have hej : ¬ (er : Int) = 0 := by omega
        have X2 := hide (Hfail er w5 her (J.out.run _ (ahead_go (HK.out.trans (then_ok (then_ok hx))) (hall _))) (F4.out.join hF))
        clear hx hF hall
        go_wp2
        go_ret3
        exact X2.out
      case ok0 =>
        intro n q a' c' out' p' w5 hx hz ho hle hrun hF
        have K1 := hide hz
        have K2 := hide ho
        have K3 := hide hle
        have K4 := hide (F4.out.join hF)
        have K5 : Hid (∀ r, Runs (leNum bs) (8 * bs.length) m ⟨p', decide (l = 1), out', .ahead⟩ r → Runs (leNum bs) (8 * bs.length) m init r) := fun r hr => J.out.run r (ahead_go (HK.out.trans (then_ok (then_ok hx))) (hrun _ r hr))
        have hmono : p2 ≤ p' := Nat.le_trans (Gd.storedHead.mono hx) (Runs.pos_le (s := ⟨q, true, out, .stored n⟩) (hrun true _ (.done (by simp [adv]))))
        clear hx hz ho hle hrun hF
        have hp8 := K1.out.rf.epos
        have hpl := K1.out.rf.elen
        have hq1 : w5.cell? ⟨R, 1, none⟩ = some (.int .i64 (p' : Int)) := by
          obtain ⟨sh, ho⟩ := K1.out.rf.eobj
          exact cell_of ho rfl
        rcases hl01 with rfl | rfl
        · have X2 := hide (Hdone w5 out' p' a' c' K1.out K2.out K3.out K4.out (fun r h => K5.out r h))
          go_wp2
          go_quiet (fail)
          go_wp2
          go_ret3
          exact X2.out _
        · have hm2 : cellI w5 R 1 = p' := by unfold cellI; rw [hq1]; rfl
          go_wp2
          go_roundw
          case rel => exact ⟨out', p', a', c', out'.length, rfl, ⟨rfl, K1.out, K2.out, K3.out, K4.out, K5.out⟩⟩
          case measure => rw [hm2, Hm0.out]; omega
    · have HK : Hid (head (leNum bs) (8 * bs.length) p = .ok ((decide (l = 1), .coded fixL fixD), p2)) := Hd.out
      go_wp2_with fail
      refine (rfixed_c w4).mono ?_
      rintro e w5 ⟨LM, DM, l1, h1, l2, h2, rfl, hC1, hC2, e1, e2, hF⟩
      have HC : Hid (Cw w5 w5 w.heap.size R (.slice sa sn sc) bs m LM DM fixL fixD p2 out a c out.length) := cw_of Z4.out O4.out hC1 hC2 e1 e2 hF J.out.le
      have F5 := hide (F4.out.join (Fl0 hF))
      clear hC1 hC2 e1 e2 hF
      go_wp2_with fail
      refine rcoded_c w5 w.heap.size R _ bs m (by omega) LM DM fixL fixD p2 out a c out.length HC.out _ ?okF ?errF
      case errF =>
        intro er w6 her hall hF
        have hei : ((er : Int) == 0) = false := beq_false_of_ne (by omega)
        have hej : ¬ (er : Int) = 0 := by omega
        have X2 := hide (Hfail er w6 her (J.out.run _ (ahead_go HK.out (hall _))) (F5.out.join hF))
        clear hF hall
        go_wp2
        go_ret3
        exact X2.out
      case okF =>
        intro a' c' N' out' p' w6 hC hrun
        have hn' := hC.n
        subst hn'
        have K1 := hide hC.z
        have K2 := hide hC.o
        have K3 := hide hC.le
        have K4 := hide (F5.out.join hC.fl)
        have K5 : Hid (∀ r, Runs (leNum bs) (8 * bs.length) m ⟨p', decide (l = 1), out', .ahead⟩ r → Runs (leNum bs) (8 * bs.length) m init r) := fun r hr => J.out.run r (ahead_go HK.out (hrun _ r hr))
        have hmono : p2 ≤ p' := Runs.pos_le (s := ⟨p2, true, out, .coded fixL fixD⟩) (hrun true _ (.done (by simp [adv])))
        clear hC hrun
        have hp8 := K1.out.rf.epos
        have hpl := K1.out.rf.elen
        have hq1 : w6.cell? ⟨R, 1, none⟩ = some (.int .i64 (p' : Int)) := by
          obtain ⟨sh, ho⟩ := K1.out.rf.eobj
          exact cell_of ho rfl
        rcases hl01 with rfl | rfl
        · have X2 := hide (Hdone w6 out' p' a' c' K1.out K2.out K3.out K4.out (fun r h => K5.out r h))
          go_wp2
          go_quiet (fail)
          go_wp2
          go_ret3
          exact X2.out _
        · have hm2 : cellI w6 R 1 = p' := by unfold cellI; rw [hq1]; rfl
          go_wp2
          go_roundw
          case rel => exact ⟨out', p', a', c', out'.length, rfl, ⟨rfl, K1.out, K2.out, K3.out, K4.out, K5.out⟩⟩
          case measure => rw [hm2, Hm0.out]; omega
    · have HK : Hid (head (leNum bs) (8 * bs.length) p = andThen (andThen own fun c => ret (.coded c.1 c.2)) (fun pl => ret (decide (l = 1), pl)) (leNum bs) (8 * bs.length) p2) := Hd.out
      go_wp2_with fail
      refine rdynamic_c w4 w.heap.size R _ bs p2 Z4.out _ ?noD ?okD
      case noD =>
        intro er w5 her hx hF
        have hei : ((er : Int) == 0) = false := beq_false_of_ne (by omega)
        have hej : ¬ (er : Int) = 0 := by omega
        have X2 := hide (Hfail er w5 her (J.out.run _ (ahead_fail (HK.out.trans (then_err (then_err hx))))) (F4.out.join (Z4.out.low hF)))
        clear hx hF
        go_wp2
        go_ret3
        exact X2.out
      case okD =>
      intro ll dl q LM DM l1 h1 l2 h2 w5 hx hC1 hC2 e1 e2 hz hF
      have HC : Hid (Cw w5 w5 w.heap.size R (.slice sa sn sc) bs m LM DM ll dl q out a c out.length) := cw_of2 hz O4.out hC1 hC2 e1 e2 Z4.out.lt hF J.out.le
      have F5 := hide (F4.out.join (Z4.out.low hF))
      have Hx := hide hx
      have hq := Gd.own.mono hx
      clear hC1 hC2 e1 e2 hF hz hx
      go_wp2_with fail
      refine rcoded_c w5 w.heap.size R _ bs m (by omega) LM DM ll dl q out a c out.length HC.out _ ?okE ?errE
      case errE =>
        intro er w6 her hall hF
        have hei : ((er : Int) == 0) = false := beq_false_of_ne (by omega)
        have hej : ¬ (er : Int) = 0 := by omega
        have X2 := hide (Hfail er w6 her (J.out.run _ (ahead_go (HK.out.trans (then_ok (then_ok Hx.out))) (hall _))) (F5.out.join hF))
        clear hF hall
        go_wp2
        go_ret3
        exact X2.out
      case okE =>
        intro a' c' N' out' p' w6 hC hrun
        have hn' := hC.n
        subst hn'
        have K1 := hide hC.z
        have K2 := hide hC.o
        have K3 := hide hC.le
        have K4 := hide (F5.out.join hC.fl)
        have K5 : Hid (∀ r, Runs (leNum bs) (8 * bs.length) m ⟨p', decide (l = 1), out', .ahead⟩ r → Runs (leNum bs) (8 * bs.length) m init r) := fun r hr => J.out.run r (ahead_go (HK.out.trans (then_ok (then_ok Hx.out))) (hrun _ r hr))
        have hmono : p2 ≤ p' := Nat.le_trans hq (Runs.pos_le (s := ⟨q, true, out, .coded ll dl⟩) (hrun true _ (.done (by simp [adv]))))
        clear hC hrun
        have hp8 := K1.out.rf.epos
        have hpl := K1.out.rf.elen
        have hq1 : w6.cell? ⟨R, 1, none⟩ = some (.int .i64 (p' : Int)) := by
          obtain ⟨sh, ho⟩ := K1.out.rf.eobj
          exact cell_of ho rfl
        rcases hl01 with rfl | rfl
        · have X2 := hide (Hdone w6 out' p' a' c' K1.out K2.out K3.out K4.out (fun r h => K5.out r h))
          go_wp2
          go_quiet (fail)
          go_wp2
          go_ret3
          exact X2.out _
        · have hm2 : cellI w6 R 1 = p' := by unfold cellI; rw [hq1]; rfl
          go_wp2
          go_roundw
          case rel => exact ⟨out', p', a', c', out'.length, rfl, ⟨rfl, K1.out, K2.out, K3.out, K4.out, K5.out⟩⟩
          case measure => rw [hm2, Hm0.out]; omega
    · have HK : Hid (head (leNum bs) (8 * bs.length) p = .error 4) := Hd.out
      have X2 := hide (Hfail 4 w4 (by omega) (J.out.run _ (ahead_fail HK.out)) F4.out)
      skip
      go_wp2
      go_ret3
      exact X2.out
end Go.Proofs.YtdpmpllbdoefdaaGreatDoor
namespace Go.Proofs.YtdpmpllbdoefdaaGreatDoor
open Go.RowKit
theorem leNum_app (a b : List Nat) : leNum (a ++ b) = leNum a + leNum b * 2 ^ (8 * a.length) := by
  induction a with
  | nil => simp [leNum]
  | cons x a ih =>
    rw [List.cons_append]
    simp only [leNum, ih, List.length_cons]
    rw [show 8 * (a.length + 1) = 8 * a.length + 8 by omega, Nat.pow_add]
    have : (2 : Nat) ^ 8 = 256 := by decide
    rw [this]
    generalize 2 ^ (8 * a.length) = P
    rw [Nat.mul_add, ← Nat.mul_assoc, Nat.mul_comm 256 (leNum b), Nat.mul_assoc, Nat.mul_comm 256 P, ← Nat.add_assoc]
theorem inf_ok {bs os : List Nat} (hb : ∀ b ∈ bs, b < 256) (h : Stream bs os) (more : List Nat) (m : Nat) (hm : bs.length ≤ m) : ∃ r, AllOk (os ++ more) (m : Int) r ∧ outOf r = bs ∧ usedOf r = os.length ∧ errOf r = 0 := by
  obtain ⟨t, tok, tb, tl⟩ := h.reads hb
  have hp : t.p ≤ 8 * os.length := by have := tb.len; omega
  have hof : t.of (leNum (os ++ more)) (8 * (os ++ more).length) := by
    refine ⟨?_, by rw [List.length_append]; omega⟩
    rw [leNum_app, tb.num]
    have e : 2 ^ (8 * os.length) = 2 ^ t.p * 2 ^ (8 * os.length - t.p) := by rw [← Nat.pow_add]; congr 1; omega
    rw [e, Nat.mul_comm (2 ^ t.p), ← Nat.mul_assoc, Nat.add_mul_mod_self_right]
    exact Nat.mod_eq_of_lt tok
  have hd : Runs (leNum (os ++ more)) (8 * (os ++ more).length) m ⟨t.p, true, bs, .ahead⟩ (.ok (bs, t.p)) := Runs.done rfl
  have := tl _ _ m _ hof hm hd
  exact ⟨.ok (bs, t.p), Or.inr ⟨by omega, by rw [Int.toNat_natCast]; exact this⟩, rfl, tb.len.symm, rfl⟩
theorem Stream.bytes {bs os : List Nat} (h : Stream bs os) : ∀ b ∈ os, b < 256 := by
  obtain ⟨s, t', r, e, f, g⟩ := h
  exact g.bytes
section
variable {n b : Nat}
end
end Go.Proofs.YtdpmpllbdoefdaaGreatDoor
namespace Go.Proofs.YtdpmpllbdoefdaaGreatDoor
open Go.RowKit
end Go.Proofs.YtdpmpllbdoefdaaGreatDoor
namespace Go.Proofs.YtdpmpllbdoefdaaGreatDoor
open Go.RowKit
theorem lies_false {w w' : World} {sv : Value} {bs : List Nat} (h : Lies w sv bs) (f : Fr (fun _ => False) w w') : Lies w' sv bs := lies_frS h f fun _ _ _ _ _ hS => hS
theorem Stream.pos {bs os : List Nat} (hb : ∀ b ∈ bs, b < 256) (h : Stream bs os) : 1 ≤ os.length := by
  obtain ⟨t, tok, tb, tl⟩ := h.reads hb
  have hp : t.p ≤ 8 * os.length := by have := tb.len; omega
  have hof : t.of (leNum os) (8 * os.length) := ⟨by rw [tb.num]; exact Nat.mod_eq_of_lt tok, hp⟩
  have hd : Runs (leNum os) (8 * os.length) bs.length ⟨t.p, true, bs, .ahead⟩ (.ok (bs, t.p)) := Runs.done rfl
  have := Runs.pos_three (tl _ _ bs.length _ hof (Nat.le_refl _) hd)
  have := tb.len
  omega
theorem own_monoZ {w : World} {lo lo' : Nat} {e : TypeId} {size : Nat} {v : Value} {n : Nat} {xs : List Value} (h : w.ownsRow lo e size v n xs) (hl : lo' ≤ lo) : w.ownsRow lo' e size v n xs :=
  ⟨h.1, h.2.imp id fun ⟨g, cap, cur, hv, hg, r⟩ => ⟨g, cap, cur, hv, Nat.le_trans hl hg, r⟩⟩
def zl (os bs : List Nat) : List Nat := [120, 1] ++ os ++ sumB (adler 1 bs)
theorem zl_length (os bs : List Nat) : (zl os bs).length = os.length + 6 := by simp [zl, sumB]
theorem makeRoomB (n : Nat) (hn : n ≤ 10000000) : ∃ zs : Array Value, (∀ W : World, (Instr.makeSlice 22 (.int .i64 0) (.int .i64 (n : Int))).run Tryz.prog W = .ok (.slice (some ⟨W.heap.size, 0, none⟩) 0 n) (W.alloc (.cells zs 5))) ∧ zs.size = n * 1 := by
  obtain ⟨i0, hi, hz0, hz1, hz2⟩ := info_parts Tryz.info5
  refine ⟨madeCells (Value.int .u8 0).cells (n * 1), fun W => ?_, by simp [size_madeCells]⟩
  have := run_make (P := Tryz.prog) W 22 5 i0 (.int .u8 0) Tryz.underlying22 hi hz0 .i64 .i64 0 n (by omega) (by omega) (by rw [hz2]; omega) (by omega)
  rw [hz1] at this
  simpa using this
set_option maxHeartbeats 1600000 in
set_option maxRecDepth 100000 in
theorem close_c (a : Option Addr) (c : Nat) (bs : List Nat) (w : World) (hl : Lies w (.slice a bs.length c) bs) (hn2 : bs.length ≤ 4194304) (hb : ∀ b ∈ bs, b < 256) (hG : Gl w) :
    Calls Tryz.prog 11 #[.slice a bs.length c] w fun e w' => ∃ os ra rc, Stream bs os ∧ e = .returned (.slice ra (zl os bs).length rc) ∧ w'.ownsRow w.heap.size 5 1 (.slice ra (zl os bs).length rc) (zl os bs).length (cellsOf (zl os bs)) ∧ Fr (fun _ => False) w w' := by
  have Hall := hide (all_c a bs.length c bs w hl rfl hn2 hb hG)
  have Hz := hide (Lz.of hl hb)
  have Hb := hide hb
  have HL := hide hl
  clear hl hb hG
  go_enter Tryz.func11, Tryz.ntmps11
  go_wp2_with fail
  refine Hall.out.mono ?_
  rintro e w1 ⟨os, ra, rc, hst, rfl, hO1, hF1⟩
  have hlen := hst.len Hb.out
  have hpos := hst.pos Hb.out
  unfold mostF at hlen
  have hlen2 : os.length ≤ 5000000 := by omega
  have Hst := hide hst
  have HO1 := hide hO1
  have HF1 := hide hF1
  clear hlen hst hO1 hF1 Hall
  have hne : ((os.length : Int) == 0) = false := by
    rw [beq_eq_false_iff_ne]; omega
  go_wp2_with fail
  obtain ⟨s0, s1, s2, s3, es⟩ : ∃ s0 s1 s2 s3, sumB (adler 1 bs) = [s0, s1, s2, s3] := ⟨_, _, _, _, rfl⟩
  have hsum := sumOf_c a c bs w1 (Hz.out.fr HF1.out) (by omega)
  rw [es] at hsum
  refine hsum.mono ?_
  clear hsum
  rintro e w2 ⟨rfl, hF2⟩
  have Hes := hide es
  have HF2 := hide (HF1.out.join hF2)
  have HO2 := hide (ownsRow_fr HO1.out fun j hj => hF2.block j (HO1.out.lt j hj).2 (fun h => h))
  clear hF2 es HO1
  simp only [cellsOf, List.map_cons, List.map_nil]
  go_upto_region 5 with fail
  obtain ⟨w3, hw3⟩ : ∃ w3, w3 = w2.alloc (.cells (cellsOf [s0, s1, s2, s3]).toArray 50) := ⟨_, rfl⟩
  have e3 : w2.alloc (.cells #[.int .u8 (s0 : Int), .int .u8 (s1 : Int), .int .u8 (s2 : Int), .int .u8 (s3 : Int)] 50) = w3 := hw3.symm
  rw [e3]
  obtain ⟨D, hD⟩ : ∃ D, D = w2.heap.size := ⟨_, rfl⟩
  rw [← hD]
  have HF3 : Hid (Fr (fun _ => False) w w3) := by rw [hw3]; exact HF2.out.join (Fr.of_alloc _ _)
  have HS3 : Hid (Lies w3 (.slice (some ⟨D, 0, none⟩) 4 4) [s0, s1, s2, s3]) := by
    rw [hw3, hD]
    exact Or.inr ⟨⟨w2.heap.size, 0, none⟩, 4, rfl, fun j u hu => by
      rw [Addr.add_mid]
      exact rangeAt_cells (alloc_here w2 _) j u hu⟩
  have HO3 : Hid (Lies w3 (.slice ra os.length rc) os) := by rw [hw3]; exact lies_false (lies_own HO2.out) (Fr.of_alloc _ _)
  have HD : Hid (D < w3.heap.size) := by show _ < _; rw [hw3, hD]; simp
  clear e3 hw3 hD HO2 HF2 HF1
  obtain ⟨zs, hmk0, hzs⟩ := makeRoomB (os.length + 6) (by omega)
  have hmk1 : ∀ W : World, (Instr.makeSlice 22 (.int .i64 0) (.int .i64 ((os.length : Int) + 6))).run Tryz.prog W = .ok (.slice (some ⟨W.heap.size, 0, none⟩) 0 (os.length + 6)) (W.alloc (.cells zs 5)) := fun W => by
    have := hmk0 W
    rwa [show ((os.length + 6 : Nat) : Int) = (os.length : Int) + 6 by omega] at this
  obtain ⟨w4, hw4⟩ : ∃ w4, w4 = w3.alloc (.cells zs 5) := ⟨_, rfl⟩
  obtain ⟨B, hB⟩ : ∃ B, B = w3.heap.size := ⟨_, rfl⟩
  have hmk := hmk1 w3
  clear hmk0 hmk1
  rw [← hw4, ← hB] at hmk
  have O4 : Hid (w4.ownsRow B 5 1 (.slice (some ⟨B, 0, none⟩) 0 (os.length + 6)) 0 []) := by
    rw [hw4, hB]; exact World.ownsRow_made w3 zs (os.length + 6) (Nat.le_refl _) (by unfold maxLen; omega) hzs
  have HF4 : Hid (Fr (fun _ => False) w3 w4) := by rw [hw4]; exact Fr.of_alloc _ _
  have Hws : Hid (w.heap.size ≤ B) := by show _ ≤ _; rw [hB]; exact HF3.out.size
  have HB := hide hB
  clear hw4 hB hzs
  go_upto_region 6 with fail
  clear hmk
  have FA : Hid (Fr (fun _ => False) w4 (w4.alloc (.cells (cellsOf [120, 1]).toArray 5))) := Fr.of_alloc _ _
  have O5 : Hid ((w4.alloc (.cells (cellsOf [120, 1]).toArray 5)).ownsRow B 5 1 (.slice (some ⟨B, 0, none⟩) 0 (os.length + 6)) 0 []) := ownsRow_fr O4.out fun j hj => FA.out.block j (O4.out.lt j hj).2 (fun h => h)
  have HL5 : Hid (Lies (w4.alloc (.cells (cellsOf [120, 1]).toArray 5)) (.slice (some ⟨w4.heap.size, 0, none⟩) 2 2) [120, 1]) := lies_lit w4 [120, 1] 2
  have hs5 : B ≤ (w4.alloc (.cells (cellsOf [120, 1]).toArray 5)).heap.size := by
    have h1 := HF4.out.size
    have h2 := FA.out.size
    have h3 := HB.out
    omega
  have HS5 := hide hs5
  clear hs5
  go_upto_region 7 with (at_builtin; go_must (refine append_any rfl (.tmp 17) (.tmp 18) rfl B (.slice (some ⟨B, 0, none⟩) 0 (os.length + 6)) 0 [] rfl O5.out (.slice (some ⟨w4.heap.size, 0, none⟩) 2 2) [120, 1] rfl HL5.out (by decide) HS5.out ?_); intro v6 w6 hown6 hbel6
                         obtain ⟨a6, c6, rfl⟩ := ownsRow_shape hown6
                         have HF6 := hide ((HF4.out.join FA.out).join' (HB.out ▸ hbel6))
                         have Hown6 := hide hown6
                         have Hs6 := hide (Nat.le_trans HS5.out hbel6.size)
                         clear hown6 hbel6)
  clear O5 HL5 FA O4 HF4 HS5
  have HO6 := hide (lies_false HO3.out HF6.out)
  have HS6 := hide (lies_false HS3.out HF6.out)
  have HF36 := hide (HF3.out.join HF6.out)
  clear HO3 HS3
  have Hown6b : Hid (w6.ownsRow B 5 1 (.slice a6 2 c6) 2 (cellsOf [120, 1])) := Hown6.out
  clear Hown6
  have q7 : 2 + os.length ≤ 2147483648 := by omega
  go_upto_region 8 with (at_builtin; go_loud (refine append_any rfl (.tmp 20) (.tmp 21) rfl B (.slice a6 2 c6) 2 (cellsOf [120, 1]) rfl Hown6b.out (.slice ra os.length rc) os rfl HO6.out q7 Hs6.out ?_); intro v7 w7 hown7 hbel7
                         obtain ⟨a7, c7, rfl⟩ := ownsRow_shape hown7
                         have HF7 := hide (HF6.out.join' (HB.out ▸ hbel7))
                         have Hown7 := hide hown7
                         have Hs7 := hide (Nat.le_trans Hs6.out hbel7.size)
                         have HS7 := hide (lies_frS HS6.out (Fr.of_below hbel7) fun ad n c e _ h => by cases e; have h1 := HB.out; have h2 := HD.out; have h3 : B ≤ D := h; omega)
                         clear hown7 hbel7)
  clear Hown6b HO6 HS6 Hs6 HF6
  have q8 : 2 + os.length + [s0, s1, s2, s3].length ≤ 2147483648 := by simp; omega
  go_wp2_with (at_builtin; go_must (refine append_any rfl (.tmp 23) (.tmp 24) rfl B (.slice a7 (2 + os.length) c7) (2 + os.length) (cellsOf [120, 1] ++ cellsOf os) rfl Hown7.out (.slice (some ⟨D, 0, none⟩) 4 4) [s0, s1, s2, s3] rfl HS7.out q8 Hs7.out ?_); intro v8 w8 hown8 hbel8
               obtain ⟨a8, c8, rfl⟩ := ownsRow_shape hown8
               have HF8 := hide (HF7.out.join' (HB.out ▸ hbel8))
               have Hown8 := hide hown8
               clear hown8 hbel8)
  have el : 2 + os.length + [s0, s1, s2, s3].length = (zl os bs).length := by rw [zl_length]; simp; omega
  have ec : cellsOf [120, 1] ++ cellsOf os ++ cellsOf [s0, s1, s2, s3] = cellsOf (zl os bs) := by simp [cellsOf, zl, Hes.out]
  have ho := Hown8.out
  rw [el, ec] at ho
  go_ret
  refine ⟨os, a8, c8, Hst.out, by rw [← el]; rfl, ?_, HF3.out.join HF8.out⟩
  exact own_monoZ ho Hws.out
end Go.Proofs.YtdpmpllbdoefdaaGreatDoor
