/-
  Deflate: part 6 of what its laws need: Ld Lm Le Lf Ra Rb Rd Re.
-/
import Derived.Test.YtmefhngmgfmhoaaDoorQz5
import Derived.Deep.AppendLies
import Derived.BigQuiet
import Derived.BigRegion
import Derived.Test.YtmefhngmgfmhoaaDoorQz2
/-
  A Machine tells what comes next.
-/
namespace Go.Proofs.YtmefhngmgfmhoaaDoor
open Go.RowKit

theorem Tryd.info88 : (Tryd.prog.info? 88).map (fun i => (i.zero, i.size, i.bytes)) = some (some (.agg #[.int .u8 0, .int .u16 0, .int .u16 0]), 3, 6) := by kernel_rfl
theorem Tryd.und60s : Tryd.prog.underlying 60 = some (.slice 88) := by kernel_rfl

/-- The finder behind so many bytes more. -/
def adds (bs : List Nat) (k at' : Nat) (nw od : List Nat) : Nat → List Nat × List Nat
  | 0 => (nw, od)
  | i + 1 => (addN bs (adds bs k at' nw od i).1 k (at' + i), addO bs (adds bs k at' nw od i).1 (adds bs k at' nw od i).2 k (at' + i))

/-- What comes next: the piece, and how many bytes it tells. -/
def endOf (bs : List Nat) (begin : Nat) : Nat := min (begin + 65535) bs.length
def rowOf (bs nw od : List Nat) (k begin told : Nat) : Nat × Nat := findP (bs.take (endOf bs begin)) nw od k told
def pcOf (bs nw od : List Nat) (k begin told : Nat) : Pc := ⟨bs.getD told 0, (rowOf bs nw od k begin told).1, (rowOf bs nw od k begin told).2⟩
def advOf (bs nw od : List Nat) (k begin told : Nat) : Nat := max (rowOf bs nw od k begin told).1 1

theorem getD_le {l : List Nat} {m : Nat} (h : ∀ x ∈ l, x ≤ m) (i : Nat) : l.getD i 0 ≤ m := by
  rw [List.getD_eq_getElem?_getD]
  cases e : l[i]? with
  | none => exact Nat.zero_le _
  | some v => exact h v (List.mem_of_getElem? e)

theorem row_ok {bs nw od : List Nat} {k begin told : Nat} (hn : ∀ x ∈ nw, x ≤ told) (ho : ∀ x ∈ od, x ≤ told) (hb : begin ≤ told) (h6 : told < begin + 65535) (hl : told < bs.length) :
    (rowOf bs nw od k begin told = (0, 0) ∨ RowOk (bs.take (endOf bs begin)) told (rowOf bs nw od k begin told).1 (rowOf bs nw od k begin told).2) := by
  unfold rowOf findP
  have hE : (bs.take (endOf bs begin)).length = endOf bs begin := by simp [endOf]
  have hE2 : told < endOf bs begin := by unfold endOf; omega
  split
  · exact Or.inl rfl
  · next hm =>
    rw [hE] at hm ⊢
    exact findA_ok (getD_le ho) (Nat.min_le_left _ _) (by rw [hE]; omega) 64 _ 0 0 (getD_le hn _) (Or.inl ⟨rfl, rfl⟩)

/-- The finder has gone on. -/
theorem Mc.fin {w : World} {lo M : Nat} {cs : Array Value} {bs : List Nat} {N1 N2 k taken told begin tp : Nat} {ps : List Pc} {nw od : List Nat} {g : Option Nat} {t : Bt} (h : Mc w lo M cs bs N1 N2 k taken told begin tp ps nw od g t) {w1 : World} {tp' : Nat} {nw' od' : List Nat} (hf : Fd w1 M 5 N1 N2 k nw' od' tp') (f : Fr (fun i => i = N1 ∨ i = N2) w w1) : Mc w1 lo M cs bs N1 N2 k taken told begin tp' ps nw' od' g t := by
  obtain ⟨da, dc, z1, z2, z3⟩ := h.c0
  obtain ⟨pa, pc, y1, y2⟩ := h.c4
  have ty : ∀ b cur T, w.heap[b]? = some (.cells cur T (0, 0)) → T ≠ 21 → ¬ (b = N1 ∨ b = N2) := fun b cur T hb hT => by
    rintro (e | e)
    · exact blk_ne hb h.fd.b1 hT e
    · exact blk_ne hb h.fd.b2 hT e
  refine ⟨⟨h.pn.wt.keep f (ty M cs 73 h.blk (by decide)) (fun j hj => ?_), h.pn.wr⟩, h.sz, ⟨da, dc, z1, ownsRow_fr z2 fun j hj => f.block j (z2.lt j hj).2 ?_, z3⟩, h.c1, h.c2, h.c3, ⟨pa, pc, y1, ownsRow_fr y2 fun j hj => f.block j (y2.lt j hj).2 ?_⟩, hf, h.c12, h.c13, h.loM, h.log, h.pos, h.gl.keep f ?_, h.byt, h.len⟩
  · obtain ⟨cur, hc⟩ := pen_row h.pn hj
    exact ty j cur 5 hc (by decide)
  · cases da with
    | none => cases hj
    | some ad =>
      obtain ⟨b, cur, rfl, _, hb⟩ := own_blk z2 rfl
      cases hj
      exact ty b cur 5 hb (by decide)
  · cases pa with
    | none => cases hj
    | some ad =>
      obtain ⟨b, cur, rfl, _, hb⟩ := own_blk y2 rfl
      cases hj
      exact ty b cur 88 hb (by decide)
  · have := h.loM; have := h.pos; omega

theorem cellsP_append (a b : List Pc) : cellsP (a ++ b) = cellsP a ++ cellsP b := by
  induction a with
  | nil => rfl
  | cons x r ih => simp [cellsP, ih]

theorem cellsP_one (l : List Pc) : ∀ u ∈ cellsP l, u.oneCell' = true := by
  induction l with
  | nil => intro u hu; cases hu
  | cons x r ih =>
    intro u hu
    simp only [cellsP, List.mem_cons] at hu
    rcases hu with rfl | rfl | rfl | hu
    · rfl
    · rfl
    · rfl
    · exact ih u hu

/-- The bytes of a Machine. -/
theorem Mc.bytes {w : World} {lo M : Nat} {cs : Array Value} {bs : List Nat} {N1 N2 k taken told begin tp : Nat} {ps : List Pc} {nw od : List Nat} {g : Option Nat} {t : Bt} (h : Mc w lo M cs bs N1 N2 k taken told begin tp ps nw od g t) (h0 : 0 < bs.length) : ∃ D dc, cs[0]? = some (.slice (some ⟨D, 0, none⟩) bs.length dc) ∧ bs.length ≤ dc ∧ LiesB w D 0 bs ∧ lo ≤ D ∧ g ≠ some D ∧ (∃ cur, w.heap[D]? = some (.cells cur 5 (0, 0))) := by
  obtain ⟨da, dc, z1, z2, z3⟩ := h.c0
  rcases z2.2 with ⟨hv, e0⟩ | ⟨D, cap, cur, hv, hg, hh, hr, _⟩
  · omega
  · obtain ⟨e1, _, e3⟩ := Value.slice.inj hv
    subst e1 e3
    refine ⟨D, dc, z1, hr, fun i hi => ?_, hg, z3 _ rfl, cur, hh⟩
    have q := z2.cells (g := D) rfl i (.int .u8 ((bs.getD i 0 : Nat) : Int)) (by simp [cellsOf, List.getElem?_eq_getElem hi])
    rw [add_none, Nat.zero_add] at q
    rw [Nat.zero_add]
    exact q

theorem liesB_take {w : World} {D f : Nat} {bs : List Nat} (h : LiesB w D f bs) (e : Nat) : LiesB w D f (bs.take e) := fun i hi => by
  have hi' : i < bs.length := by rw [List.length_take] at hi; omega
  have hie : i < e := by rw [List.length_take] at hi; omega
  rw [h i hi', List.getD_eq_getElem?_getD, List.getD_eq_getElem?_getD, List.getElem?_take_of_lt hie]

/-- Pieces have been added. -/
theorem Mc.app {w : World} {lo M : Nat} {cs : Array Value} {bs : List Nat} {N1 N2 k taken told begin tp : Nat} {ps : List Pc} {nw od : List Nat} {g : Option Nat} {t : Bt} (h : Mc w lo M cs bs N1 N2 k taken told begin tp ps nw od g t) {w1 : World} {pa : Option Addr} {pc : Nat} (hpa : cs[4]? = some (.slice pa ps.length pc)) (f : Fr (fun i => (Value.slice pa ps.length pc).ownBlock = some i) w w1) {ps' : List Pc} {va : Option Addr} {vc : Nat} (ho : w1.ownsRow lo 88 3 (.slice va ps'.length vc) ps'.length (cellsP ps')) :
    Mc (w1.setCell ⟨M, 4, none⟩ (.slice va ps'.length vc)) lo M (cs.setIfInBounds 4 (.slice va ps'.length vc)) bs N1 N2 k taken told begin tp ps' nw od g t ∧ Fr (fun i => lo ≤ i) w (w1.setCell ⟨M, 4, none⟩ (.slice va ps'.length vc)) := by
  obtain ⟨da, dc, z1, z2, z3⟩ := h.c0
  obtain ⟨pa', pc', y1, y2⟩ := h.c4
  rw [y1] at hpa
  obtain ⟨e1, _, e3⟩ := Value.slice.inj (Option.some.inj hpa)
  subst e1 e3
  have hS : ∀ i, (Value.slice pa' ps.length pc').ownBlock = some i → lo ≤ i ∧ ∃ cur, w.heap[i]? = some (.cells cur 88 (0, 0)) := fun i hi => by
    cases pa' with
    | none => cases hi
    | some ad =>
      obtain ⟨b, cur, rfl, hlo, hb⟩ := own_blk y2 rfl
      cases hi
      exact ⟨hlo, cur, hb⟩
  have ty : ∀ b cur T, w.heap[b]? = some (.cells cur T (0, 0)) → T ≠ 88 → ¬ ((Value.slice pa' ps.length pc').ownBlock = some b) := fun b cur T hb hT e => by
    obtain ⟨_, cur2, hb2⟩ := hS b e
    exact blk_ne hb hb2 hT rfl
  have hM : w1.heap[M]? = some (.cells cs 73 (0, 0)) := cells_at h.blk f (ty M cs 73 h.blk (by decide))
  have f2 : Fr (fun j => j = M) w1 (w1.setCell ⟨M, 4, none⟩ (.slice va ps'.length vc)) := Fr.of_setCell w1 ⟨M, 4, none⟩ _
  have ff := f.trans f2
  have tyM : ∀ b cur T, w.heap[b]? = some (.cells cur T (0, 0)) → T ≠ 88 → b ≠ M → ¬ ((Value.slice pa' ps.length pc').ownBlock = some b ∨ b = M) := fun b cur T hb hT hne e => e.elim (ty b cur T hb hT) hne
  have hpn : Pn 73 w1 M 7 cs g t := ⟨h.pn.wt.keep f (ty M cs 73 h.blk (by decide)) (fun j hj => by obtain ⟨cur, hc⟩ := pen_row h.pn hj; exact ty j cur 5 hc (by decide)), h.pn.wr⟩
  refine ⟨⟨pn_set hpn 4 _ (by omega) (by omega) (by omega), by simp [h.sz], ⟨da, dc, by rw [Array.getElem?_setIfInBounds_ne (by omega)]; exact z1, ownsRow_fr z2 fun j hj => ff.block j (z2.lt j hj).2 ?_, z3⟩, by rw [Array.getElem?_setIfInBounds_ne (by omega)]; exact h.c1, by rw [Array.getElem?_setIfInBounds_ne (by omega)]; exact h.c2, by rw [Array.getElem?_setIfInBounds_ne (by omega)]; exact h.c3, ⟨va, vc, get_set _ y1, ownsRow_fr ho fun j hj => f2.block j (ho.lt j hj).2 ?_⟩, h.fd.keep ff ⟨?_, ?_⟩ (tyM N1 _ 21 h.fd.b1 (by decide) h.fd.n1) (tyM N2 _ 21 h.fd.b2 (by decide) h.fd.n2), by rw [Array.getElem?_setIfInBounds_ne (by omega)]; exact h.c12, by rw [Array.getElem?_setIfInBounds_ne (by omega)]; exact h.c13, h.loM, h.log, h.pos, h.gl.keep ff ?_, h.byt, h.len⟩, ff.mono fun i _ e => ?_⟩
  · cases da with
    | none => cases hj
    | some ad =>
      obtain ⟨b, cur, rfl, _, hb⟩ := own_blk z2 rfl
      cases hj
      exact tyM b cur 5 hb (by decide) (blk_ne hb h.blk (by decide))
  · cases va with
    | none => cases hj
    | some ad =>
      obtain ⟨b, cur, rfl, _, hb⟩ := own_blk ho rfl
      cases hj
      exact fun e => blk_ne hb hM (by decide) e
  · rw [cell_of_row _ M 5 _ 73 (0, 0) (heap_setCell_own _ hM), cell_of_row w M 5 cs 73 (0, 0) h.blk, Array.getElem?_setIfInBounds_ne (by omega)]
  · rw [cell_of_row _ M (5 + 1) _ 73 (0, 0) (heap_setCell_own _ hM), cell_of_row w M (5 + 1) cs 73 (0, 0) h.blk, Array.getElem?_setIfInBounds_ne (by omega)]
  · rintro (e | e)
    · have := (hS 0 e).1; have := h.pos; omega
    · have := h.loM; have := h.pos; omega
  · rcases e with e | e
    · exact (hS i e).1
    · have := h.loM; omega

theorem wrap_u16_id (x : Nat) (h : x < 65536) : IntKind.u16.wrap (x : Int) = (x : Int) := by
  simp [IntKind.wrap, IntKind.bits, IntKind.signed]
  omega

theorem four_keep {w w' : World} {S : Nat → Prop} {M D e : Nat} {u0 u2 u4 x : Value} (f : Fr S w w') (h1 : ¬ S M) (h2 : ¬ S D) (c0 : w.cell? ⟨M, 0, none⟩ = some u0) (c2 : w.cell? ⟨M, 2, none⟩ = some u2) (c4 : w.cell? ⟨M, 4, none⟩ = some u4) (c5 : w.cell? ⟨D, e, none⟩ = some x) :
    (w'.cell? ⟨M, 0, none⟩ = some u0 ∧ w'.cell? ⟨M, 2, none⟩ = some u2) ∧ (w'.cell? ⟨M, 4, none⟩ = some u4 ∧ w'.cell? ⟨D, e, none⟩ = some x) :=
  ⟨⟨(cell_blk (a := ⟨M, 0, none⟩) (f.block M (cell_lt c0) h1)).trans c0, (cell_blk (a := ⟨M, 2, none⟩) (f.block M (cell_lt c2) h1)).trans c2⟩, ⟨(cell_blk (a := ⟨M, 4, none⟩) (f.block M (cell_lt c4) h1)).trans c4, (cell_blk (a := ⟨D, e, none⟩) (f.block D (cell_lt c5) h2)).trans c5⟩⟩

theorem own_ne {w : World} {lo n sz c b : Nat} {T T' : TypeId} {a : Option Addr} {xs : List Value} {cur : Array Value} (h : w.ownsRow lo T sz (.slice a n c) n xs) (hb : w.heap[b]? = some (.cells cur T' (0, 0))) (hT : T ≠ T') (e : (Value.slice a n c).ownBlock = some b) : False := by
  cases a with
  | none => cases e
  | some ad =>
    obtain ⟨b', cur', rfl, _, hb'⟩ := own_blk h rfl
    cases e
    exact blk_ne hb' hb hT rfl

theorem fr_lo7 {w wr w7 : World} {lo M N1 N2 : Nat} (h : Fr (fun i => lo ≤ i) w wr) (k : Fr (fun i => i = N1 ∨ i = N2) wr.drew w7) (hl : lo ≤ M ∧ lo ≤ N1 ∧ lo ≤ N2) : Fr (fun i => lo ≤ i) w w7 :=
  (h.trans ((Fr.of_drewN wr 1).trans k)).mono fun i _ e => by
    rcases e with e | e | e
    · exact e
    · exact e.elim
    · rcases e with e | e <;> omega

set_option maxHeartbeats 3200000 in
set_option maxRecDepth 100000 in
theorem tellNext_c (lo M N1 N2 k taken told begin : Nat) (cs : Array Value) (bs : List Nat) (ps : List Pc) (nw od : List Nat) (g : Option Nat) (t : Bt) (w : World) (h : Mc w lo M cs bs N1 N2 k taken told begin told ps nw od g t)
    (hbt : begin ≤ told) (h6 : told < begin + 65535) (hlt : told < bs.length) (hpl : ps.length ≤ 65535) :
    Calls Tryd.prog 34 #[.pointer (some ⟨M, 0, none⟩)] w fun e w' => e = .returned (.tuple #[]) ∧ ∃ cs', Mc w' lo M cs' bs N1 N2 k taken (told + advOf bs nw od k begin told) begin (told + advOf bs nw od k begin told) (ps ++ [pcOf bs nw od k begin told]) (adds bs k told nw od (advOf bs nw od k begin told)).1 (adds bs k told nw od (advOf bs nw od k begin told)).2 g t ∧ Fr (fun i => lo ≤ i) w w' := by
  obtain ⟨i0, hi0, hz0, hz1, hz2⟩ := info_parts Tryd.info88
  obtain ⟨D, dc, hda, hdc, hLB, hloD, hgD, hDb⟩ := h.bytes (by omega)
  have k0 := cell_of (o := 0) h.blk hda
  have k2 := cell_of (o := 2) h.blk h.c2
  have k3 := cell_of (o := 3) h.blk h.c3
  have hlb := h.len
  have hEdef : endOf bs begin = min (begin + 65535) bs.length := rfl
  have hrow := row_ok (k := k) h.fd.t1 h.fd.t2 hbt h6 hlt
  have hPc : pcOf bs nw od k begin told = ⟨bs.getD told 0, (rowOf bs nw od k begin told).1, (rowOf bs nw od k begin told).2⟩ := rfl
  have hAdv : advOf bs nw od k begin told = max (rowOf bs nw od k begin told).1 1 := rfl
  obtain ⟨n, hn⟩ : ∃ n, n = bs.length := ⟨_, rfl⟩
  obtain ⟨E, hE⟩ : ∃ E, E = endOf bs begin := ⟨_, rfl⟩
  rw [← hE, ← hn] at hEdef
  have hRow0 : rowOf bs nw od k begin told = findP (bs.take E) nw od k told := by unfold rowOf; rw [hE]
  rw [← hE] at hrow
  obtain ⟨len, hlen⟩ : ∃ len, len = (rowOf bs nw od k begin told).1 := ⟨_, rfl⟩
  obtain ⟨back, hback⟩ : ∃ back, back = (rowOf bs nw od k begin told).2 := ⟨_, rfl⟩
  obtain ⟨adv, hadv⟩ : ∃ adv, adv = advOf bs nw od k begin told := ⟨_, rfl⟩
  obtain ⟨p, hp⟩ : ∃ p, p = pcOf bs nw od k begin told := ⟨_, rfl⟩
  obtain ⟨lit, hlit⟩ : ∃ lit, lit = bs.getD told 0 := ⟨_, rfl⟩
  rw [← hadv, ← hp]
  rw [← hlen, ← hback, ← hp, ← hlit] at hPc
  rw [← hlen, ← hadv] at hAdv
  have hEl : (bs.take E).length = E := by rw [List.length_take]; omega
  have hfacts : len ≤ 258 ∧ back ≤ 32768 ∧ told + len ≤ E := by
    rcases hrow with e | e
    · rw [hlen, hback, e]; exact ⟨by omega, by omega, by show told + 0 ≤ E; omega⟩
    · rw [← hlen, ← hback] at e
      obtain ⟨_, a2, a3, _, a5, _⟩ := e
      rw [hEl] at a3
      exact ⟨a2, a5, a3⟩
  obtain ⟨f1, f2, f3⟩ := hfacts
  have hlitb : lit < 256 := by
    rw [hlit, List.getD_eq_getElem?_getD, List.getElem?_eq_getElem hlt]
    exact h.byt _ (List.getElem_mem hlt)
  have hmin : (if (n : Int) < (begin : Int) + 65535 then (n : Int) else (begin : Int) + 65535) = (E : Int) := by split <;> omega
  have hEn : E ≤ n := by omega
  have hEdc : E ≤ dc := by omega
  have hEdci : (E : Int) ≤ (dc : Int) := by omega
  have hni : (n : Int) ≤ 4194304 := by omega
  have hbi : (begin : Int) ≤ 4194304 := by omega
  have htoldi : (told : Int) < (n : Int) := by omega
  rw [← hn] at k0
  have H := hide h
  have Hn := hide hn
  have HLB := hide hLB
  have HPc := hide hPc
  have HAdv := hide hAdv
  have Hda := hide hda
  have Hlit := hide hlit
  have hlo := h.loM.1
  have hMl := lt_of h.blk
  have HDb := hide hDb
  have Hfind : Hid (Calls Tryd.prog 37 #[.pointer (some ⟨M, 5, none⟩), .slice (some ⟨D, 0, none⟩) E dc, .int .i64 (told : Int)] w.drew.drew fun e w' => e = .returned (.tuple #[.int .i64 (len : Int), .int .i64 (back : Int)]) ∧ Fr (fun _ => False) w.drew.drew w') := by
    have hF : Fr (fun _ => False) w w.drew.drew := Fr.of_drewN w 2
    have q := find_c M 5 N1 N2 k told D 0 E dc (bs.take E) nw od w.drew.drew (h.keep hF (fun _ _ _ e => e) (fun e => e)).fd (liesB_take (hLB.fr hF (fun e => e)) E) hEl.symm (by omega) (fun b hb => h.byt b (List.mem_of_mem_take hb)) (by omega)
    rw [← hRow0, ← hlen, ← hback] at q
    exact q
  clear h hn hLB hPc hAdv hda hlit hrow hRow0 hlen hback hadv hp hE hEdef hDb
  go_enter Tryd.func34, Tryd.ntmps34
  go_wp2_with fail
  go_region
  go_wp2_with fail
  have k0d : w.drew.drew.cell? ⟨M, 0, none⟩ = some (.slice (some ⟨D, 0, none⟩) n dc) := k0
  have k2d : w.drew.drew.cell? ⟨M, 2, none⟩ = some (.int .i64 (told : Int)) := k2
  refine wp_region_held_drew (S := fun W' => W'.cell? ⟨M, 0, none⟩ = some (.slice (some ⟨D, 0, none⟩) n dc) ∧ W'.cell? ⟨M, 2, none⟩ = some (.int .i64 (told : Int))) (by kernel_rfl) ⟨k0d, k2d⟩ (fun hHeld => ?_)
  refine wpAnyH_take (i := 0) (v := ?v0) rfl (by kernel_rfl) (by kernel_rfl) (by kernel_rfl) (fun _ _ _ h => h) (Or.inl ⟨by rfl, ?hy0⟩) hHeld ?rest0
  case hy0 => (intro W hSw; (try dsimp only at hSw); obtain ⟨hSa, hSb⟩ := hSw; go_simp; all_goals (with_reducible rfl))
  change wpAnyH _ _ _ _ _ _ _ (Act.put _ (some 17) _) _
  simp only [Act.put, List.setIfInBounds_toArray, List.set_cons_zero, List.set_cons_succ]
  refine wpAnyH_take (i := 3) (v := ?v3) rfl (by kernel_rfl) (by kernel_rfl) (by kernel_rfl) (fun _ _ _ h => h) (Or.inl ⟨by rfl, ?hy3⟩) hHeld ?rest3
  case hy3 => (intro W hSw; (try dsimp only at hSw); obtain ⟨hSa, hSb⟩ := hSw; go_simp; all_goals (with_reducible rfl))
  change wpAnyH _ _ _ _ _ _ _ (Act.put _ (some 20) _) _
  simp only [Act.put, List.setIfInBounds_toArray, List.set_cons_zero, List.set_cons_succ]
  refine wpAnyH_take (i := 7) (v := ?v7) rfl (by kernel_rfl) (by kernel_rfl) (by kernel_rfl) (fun _ _ _ h => h) (Or.inl ⟨by rfl, ?hy7⟩) hHeld ?rest7
  case hy7 => (intro W hSw; (try dsimp only at hSw); obtain ⟨hSa, hSb⟩ := hSw; go_simp; all_goals (with_reducible rfl))
  change wpAnyH _ _ _ _ _ _ _ (Act.put _ (some 24) _) _
  simp only [Act.put, List.setIfInBounds_toArray, List.set_cons_zero, List.set_cons_succ]
  refine wpAnyH_take (i := 9) (v := ?v9) rfl (by kernel_rfl) (by kernel_rfl) (by kernel_rfl) (fun _ _ _ h => h) (Or.inl ⟨by rfl, ?hy9⟩) hHeld ?rest9
  case hy9 => (intro W hSw; (try dsimp only at hSw); obtain ⟨hSa, hSb⟩ := hSw; go_simp; all_goals (with_reducible rfl))
  change wpAnyH _ _ _ _ _ _ _ (Act.put _ (some 26) _) _
  simp only [Act.put, List.setIfInBounds_toArray, List.set_cons_zero, List.set_cons_succ]
  refine wpAnyH_take (i := 1) (v := ?v1) rfl (by kernel_rfl) (by kernel_rfl) (by kernel_rfl) (fun _ _ _ h => h) (Or.inl ⟨by rfl, ?hy1⟩) hHeld ?rest1
  case hy1 => (intro W hSw; (try dsimp only at hSw); obtain ⟨hSa, hSb⟩ := hSw; go_simp; all_goals (with_reducible rfl))
  change wpAnyH _ _ _ _ _ _ _ (Act.put _ (some 18) _) _
  simp only [Act.put, List.setIfInBounds_toArray, List.set_cons_zero, List.set_cons_succ]
  refine wpAnyH_take (i := 4) (v := ?v4) rfl (by kernel_rfl) (by kernel_rfl) (by kernel_rfl) (fun _ _ _ h => h) (Or.inl ⟨by rfl, ?hy4⟩) hHeld ?rest4
  case hy4 => (intro W hSw; (try dsimp only at hSw); obtain ⟨hSa, hSb⟩ := hSw; go_simp; all_goals (with_reducible rfl))
  change wpAnyH _ _ _ _ _ _ _ (Act.put _ (some 21) _) _
  simp only [Act.put, List.setIfInBounds_toArray, List.set_cons_zero, List.set_cons_succ]
  refine wpAnyH_take (i := 10) (v := ?v10) rfl (by kernel_rfl) (by kernel_rfl) (by kernel_rfl) (fun _ _ _ h => h) (Or.inl ⟨by rfl, ?hy10⟩) hHeld ?rest10
  case hy10 => (intro W hSw; (try dsimp only at hSw); obtain ⟨hSa, hSb⟩ := hSw; go_simp; all_goals (with_reducible rfl))
  change wpAnyH _ _ _ _ _ _ _ (Act.put _ (some 27) _) _
  simp only [Act.put, List.setIfInBounds_toArray, List.set_cons_zero, List.set_cons_succ]
  refine wpAnyH_take (i := 2) (v := ?v2) rfl (by kernel_rfl) (by kernel_rfl) (by kernel_rfl) (fun _ _ _ h => h) (Or.inl ⟨by rfl, ?hy2⟩) hHeld ?rest2
  case hy2 => (intro W hSw; (try dsimp only at hSw); obtain ⟨hSa, hSb⟩ := hSw; go_simp; all_goals (with_reducible rfl))
  change wpAnyH _ _ _ _ _ _ _ (Act.put _ (some 19) _) _
  simp only [Act.put, List.setIfInBounds_toArray, List.set_cons_zero, List.set_cons_succ]
  refine wpAnyH_take (i := 5) (v := ?v5) rfl (by kernel_rfl) (by kernel_rfl) (by kernel_rfl) (fun _ _ _ h => h) (Or.inl ⟨by rfl, ?hy5⟩) hHeld ?rest5
  case hy5 => (intro W hSw; (try dsimp only at hSw); obtain ⟨hSa, hSb⟩ := hSw; go_simp; all_goals (with_reducible rfl))
  change wpAnyH _ _ _ _ _ _ _ (Act.put _ (some 22) _) _
  simp only [Act.put, List.setIfInBounds_toArray, List.set_cons_zero, List.set_cons_succ]
  refine wpAnyH_take (i := 11) (v := ?v11) rfl (by kernel_rfl) (by kernel_rfl) (by kernel_rfl) (fun _ _ _ h => h) (Or.inl ⟨by rfl, ?hy11⟩) hHeld ?rest11
  case hy11 => (intro W hSw; (try dsimp only at hSw); obtain ⟨hSa, hSb⟩ := hSw; go_simp; all_goals (with_reducible rfl))
  change wpAnyH _ _ _ _ _ _ _ (Act.put _ (some 28) _) _
  simp only [Act.put, List.setIfInBounds_toArray, List.set_cons_zero, List.set_cons_succ]
  refine wpAnyH_take (i := 6) (v := ?v6) rfl (by kernel_rfl) (by kernel_rfl) (by kernel_rfl) (fun _ _ _ h => h) (Or.inl ⟨by rfl, ?hy6⟩) hHeld ?rest6
  case hy6 => (intro W hSw; (try dsimp only at hSw); obtain ⟨hSa, hSb⟩ := hSw; go_simp; all_goals (with_reducible rfl))
  change wpAnyH _ _ _ _ _ _ _ (Act.put _ (some 23) _) _
  simp only [Act.put, List.setIfInBounds_toArray, List.set_cons_zero, List.set_cons_succ]
  refine wpAnyH_take (i := 12) (v := ?v12) rfl (by kernel_rfl) (by kernel_rfl) (by kernel_rfl) (fun _ _ _ h => h) (Or.inl ⟨by rfl, ?hy12⟩) hHeld ?rest12
  case hy12 => (intro W hSw; (try dsimp only at hSw); obtain ⟨hSa, hSb⟩ := hSw; go_simp; all_goals (with_reducible rfl))
  change wpAnyH _ _ _ _ _ _ _ (Act.put _ (some 29) _) _
  simp only [Act.put, List.setIfInBounds_toArray, List.set_cons_zero, List.set_cons_succ]
  refine wpAnyH_take (i := 8) (v := ?v8) rfl (by kernel_rfl) (by kernel_rfl) (by kernel_rfl) (fun _ _ _ h => h) (Or.inl ⟨by rfl, ?hy8⟩) hHeld ?rest8
  case hy8 => (intro W hSw; (try dsimp only at hSw); obtain ⟨hSa, hSb⟩ := hSw; go_simp; all_goals (with_reducible rfl))
  change wpAnyH _ _ _ _ _ _ _ (Act.put _ (some 25) _) _
  simp only [Act.put, List.setIfInBounds_toArray, List.set_cons_zero, List.set_cons_succ]
  refine wpAnyH_ready (rs := [13]) (by kernel_rfl) (by simp) ?_
  refine AllReadyH.cons rfl (fun K hK => ?_) AllReadyH.nil
  try simp only [List.getElem_toArray, List.getElem_cons_succ, List.getElem_cons_zero]
  go_simp
  refine (calls_args Hfind.out (by rfl)).mono ?_
  rintro e w1 ⟨rfl, hF1⟩
  have HF1 := hide ((Fr.of_drewN w 2).join hF1)
  have hS1 := And.intro ((cell_blk (a := ⟨M, 0, none⟩) (hF1.block M (cell_lt k0d) (fun e => e))).trans k0d) ((cell_blk (a := ⟨M, 2, none⟩) (hF1.block M (cell_lt k2d) (fun e => e))).trans k2d)
  clear hF1
  refine hK.out _ _ hS1 (fun hHeld => ?_)
  clear hK K
  refine wpAnyH_take (i := 14) (v := ?v14) rfl (by kernel_rfl) (by kernel_rfl) (by kernel_rfl) (fun _ _ _ h => h) (Or.inl ⟨by rfl, ?hy14⟩) hHeld ?rest14
  case hy14 => (intro W hSw; (try dsimp only at hSw); obtain ⟨hSa, hSb⟩ := hSw; go_simp; all_goals (with_reducible rfl))
  change wpAnyH _ _ _ _ _ _ _ (Act.put _ (some 16) _) _
  simp only [Act.put, List.setIfInBounds_toArray, List.set_cons_zero, List.set_cons_succ]
  refine wpAnyH_take (i := 15) (v := ?v15) rfl (by kernel_rfl) (by kernel_rfl) (by kernel_rfl) (fun _ _ _ h => h) (Or.inl ⟨by rfl, ?hy15⟩) hHeld ?rest15
  case hy15 => (intro W hSw; (try dsimp only at hSw); obtain ⟨hSa, hSb⟩ := hSw; go_simp; all_goals (with_reducible rfl))
  change wpAnyH _ _ _ _ _ _ _ (Act.put _ (some 31) _) _
  simp only [Act.put, List.setIfInBounds_toArray, List.set_cons_zero, List.set_cons_succ]
  refine wpAnyH_take (i := 16) (v := ?v16) rfl (by kernel_rfl) (by kernel_rfl) (by kernel_rfl) (fun _ _ _ h => h) (Or.inl ⟨by rfl, ?hy16⟩) hHeld ?rest16
  case hy16 => (intro W hSw; (try dsimp only at hSw); obtain ⟨hSa, hSb⟩ := hSw; go_simp; all_goals (with_reducible rfl))
  change wpAnyH _ _ _ _ _ _ _ (Act.put _ (some 32) _) _
  simp only [Act.put, List.setIfInBounds_toArray, List.set_cons_zero, List.set_cons_succ]
  refine wpAnyH_take (i := 17) (v := ?v17) rfl (by kernel_rfl) (by kernel_rfl) (by kernel_rfl) (fun _ _ _ h => h) (Or.inl ⟨by rfl, ?hy17⟩) hHeld ?rest17
  case hy17 => (intro W hSw; (try dsimp only at hSw); obtain ⟨hSa, hSb⟩ := hSw; go_simp; all_goals (with_reducible rfl))
  change wpAnyH _ _ _ _ _ _ _ (Act.put _ (some 3) _) _
  simp only [Act.put, List.setIfInBounds_toArray, List.set_cons_zero, List.set_cons_succ]
  refine wpAnyH_take (i := 18) (v := ?v18) rfl (by kernel_rfl) (by kernel_rfl) (by kernel_rfl) (fun _ _ _ h => h) (Or.inl ⟨by rfl, ?hy18⟩) hHeld ?rest18
  case hy18 => (intro W hSw; (try dsimp only at hSw); obtain ⟨hSa, hSb⟩ := hSw; go_simp; all_goals (with_reducible rfl))
  change wpAnyH _ _ _ _ _ _ _ (Act.put _ (some 4) _) _
  simp only [Act.put, List.setIfInBounds_toArray, List.set_cons_zero, List.set_cons_succ]
  refine wpAnyH_done (by kernel_rfl) ?_ _
  clear hHeld hS1 k0 k2 k3 k0d k2d hmin
  obtain ⟨w2, hw2⟩ : ∃ w2, w2 = w1.drew := ⟨_, rfl⟩
  have hF2 : Fr (fun _ => False) w w2 := by rw [hw2]; exact HF1.out.join (Fr.of_drewN w1 1)
  have hM2 : Mc w2 lo M cs bs N1 N2 k taken told begin told ps nw od g t := H.out.keep hF2 (fun _ _ _ e => e) (fun e => e)
  obtain ⟨pa, pc, hpa, hpo⟩ := hM2.c4
  obtain ⟨q, hq⟩ : ∃ q, q = ps.length := ⟨_, rfl⟩
  rw [← hq] at hpa hpo hpl
  have j0 : w2.cell? ⟨M, 0, none⟩ = some (.slice (some ⟨D, 0, none⟩) n dc) := cell_of (o := 0) hM2.blk (by rw [Hda.out, Hn.out])
  have j2 : w2.cell? ⟨M, 2, none⟩ = some (.int .i64 (told : Int)) := cell_of (o := 2) hM2.blk hM2.c2
  have j4 : w2.cell? ⟨M, 4, none⟩ = some (.slice pa q pc) := cell_of (o := 4) hM2.blk hpa
  have jD : w2.cell? ⟨D, told, none⟩ = some (.int .u8 (lit : Int)) := by
    have := (HLB.out.fr hF2 (fun e => e)) told (by rw [← Hn.out]; omega)
    rw [Nat.zero_add, ← Hlit.out] at this
    exact this
  have q1 := wrap_u16_id len (by omega)
  have q2 := wrap_u16_id back (by omega)
  have HM2 := hide hM2
  have HF2 := hide hF2
  have Hpo := hide hpo
  have Hpa := hide hpa
  have Hq := hide hq
  have hMl2 : M < w2.heap.size := lt_of hM2.blk
  have hj4 : M < w1.heap.size := by rw [hw2] at hMl2; exact hMl2
  clear hF2 hM2 hpa hpo hq
  rw [hw2] at j0 j2 j4 jD
  have Hw2 := hide hw2
  clear hw2
  go_wp2_with fail
  refine wp_region_L (S := fun W' => (W'.cell? ⟨M, 0, none⟩ = some (.slice (some ⟨D, 0, none⟩) n dc) ∧ W'.cell? ⟨M, 2, none⟩ = some (.int .i64 (told : Int))) ∧ (W'.cell? ⟨M, 4, none⟩ = some (.slice pa q pc) ∧ W'.cell? ⟨D, told, none⟩ = some (.int .u8 (lit : Int)))) 24 (by kernel_rfl) ⟨⟨j0, j2⟩, ⟨j4, jD⟩⟩ (fun hHeld => ?_)
  refine wpAnyL_take [22, 23, 24] (i := 0) (v := ?v0z) rfl (by kernel_rfl) (by kernel_rfl) (by kernel_rfl) (by kernel_rfl) (fun _ _ _ h => h) (Or.inl ⟨by rfl, ?hy0z⟩) hHeld ?rest0z
  case hy0z => (intro W hSw; (try dsimp only at hSw); obtain ⟨⟨hSa, hSb⟩, ⟨hSc, hSd⟩⟩ := hSw; go_simp; all_goals (with_reducible rfl))
  change wpAnyL _ _ _ _ _ _ _ _ (Act.put _ (some 33) _) _
  simp only [Act.put, List.setIfInBounds_toArray, List.set_cons_zero, List.set_cons_succ]
  refine wpAnyL_take [2, 3, 4, 21, 24] (i := 1) (v := ?v1z) rfl (by kernel_rfl) (by kernel_rfl) (by kernel_rfl) (by kernel_rfl) (fun _ _ _ h => h) (Or.inl ⟨by rfl, ?hy1z⟩) hHeld ?rest1z
  case hy1z => (intro W hSw; (try dsimp only at hSw); obtain ⟨⟨hSa, hSb⟩, ⟨hSc, hSd⟩⟩ := hSw; go_simp; all_goals (with_reducible rfl))
  change wpAnyL _ _ _ _ _ _ _ _ (Act.put _ (some 34) _) _
  simp only [Act.put, List.setIfInBounds_toArray, List.set_cons_zero, List.set_cons_succ]
  refine wpAnyL_take [6, 7, 8, 13, 14, 19, 20, 21, 24] (i := 5) (v := ?v5z) rfl (by kernel_rfl) (by kernel_rfl) (by kernel_rfl) (by kernel_rfl) (fun _ _ _ h => h) (Or.inl ⟨by rfl, ?hy5z⟩) hHeld ?rest5z
  case hy5z => (intro W hSw; (try dsimp only at hSw); obtain ⟨⟨hSa, hSb⟩, ⟨hSc, hSd⟩⟩ := hSw; go_simp; all_goals (with_reducible rfl))
  change wpAnyL _ _ _ _ _ _ _ _ (Act.put _ (some 38) _) _
  simp only [Act.put, List.setIfInBounds_toArray, List.set_cons_zero, List.set_cons_succ]
  refine wpAnyL_take [10, 11, 12, 13, 14, 19, 20, 21, 24] (i := 9) (v := ?v9z) rfl (by kernel_rfl) (by kernel_rfl) (by kernel_rfl) (by kernel_rfl) (fun _ _ _ h => h) (Or.inl ⟨by rfl, ?hy9z⟩) hHeld ?rest9z
  case hy9z => (intro W hSw; (try dsimp only at hSw); obtain ⟨⟨hSa, hSb⟩, ⟨hSc, hSd⟩⟩ := hSw; go_simp; all_goals (with_reducible rfl))
  change wpAnyL _ _ _ _ _ _ _ _ (Act.put _ (some 42) _) _
  simp only [Act.put, List.setIfInBounds_toArray, List.set_cons_zero, List.set_cons_succ]
  refine wpAnyL_take [16, 19, 20, 21, 24] (i := 15) (v := ?v15z) rfl (by kernel_rfl) (by kernel_rfl) (by kernel_rfl) (by kernel_rfl) (fun _ _ _ h => h) (Or.inl ⟨by rfl, ?hy15z⟩) hHeld ?rest15z
  case hy15z => (intro W hSw; (try dsimp only at hSw); obtain ⟨⟨hSa, hSb⟩, ⟨hSc, hSd⟩⟩ := hSw; go_simp; all_goals (with_reducible rfl))
  change wpAnyL _ _ _ _ _ _ _ _ (Act.put _ (some 48) _) _
  simp only [Act.put, List.setIfInBounds_toArray, List.set_cons_zero, List.set_cons_succ]
  refine wpAnyL_take [18, 19, 20, 21, 24] (i := 17) (v := ?v17z) rfl (by kernel_rfl) (by kernel_rfl) (by kernel_rfl) (by kernel_rfl) (fun _ _ _ h => h) (Or.inl ⟨by rfl, ?hy17z⟩) hHeld ?rest17z
  case hy17z => (intro W hSw; (try dsimp only at hSw); obtain ⟨⟨hSa, hSb⟩, ⟨hSc, hSd⟩⟩ := hSw; go_simp; all_goals (with_reducible rfl))
  change wpAnyL _ _ _ _ _ _ _ _ (Act.put _ (some 50) _) _
  simp only [Act.put, List.setIfInBounds_toArray, List.set_cons_zero, List.set_cons_succ]
  refine wpAnyL_take [3, 4, 21, 24] (i := 2) (v := ?v2z) rfl (by kernel_rfl) (by kernel_rfl) (by kernel_rfl) (by kernel_rfl) (fun _ _ _ h => h) (Or.inl ⟨by rfl, ?hy2z⟩) hHeld ?rest2z
  case hy2z => (intro W hSw; (try dsimp only at hSw); obtain ⟨⟨hSa, hSb⟩, ⟨hSc, hSd⟩⟩ := hSw; go_simp; all_goals (with_reducible rfl))
  change wpAnyL _ _ _ _ _ _ _ _ (Act.put _ (some 35) _) _
  simp only [Act.put, List.setIfInBounds_toArray, List.set_cons_zero, List.set_cons_succ]
  refine wpAnyL_take [7, 8, 13, 14, 19, 20, 21, 24] (i := 6) (v := ?v6z) rfl (by kernel_rfl) (by kernel_rfl) (by kernel_rfl) (by kernel_rfl) (fun _ _ _ h => h) (Or.inl ⟨by rfl, ?hy6z⟩) hHeld ?rest6z
  case hy6z => (intro W hSw; (try dsimp only at hSw); obtain ⟨⟨hSa, hSb⟩, ⟨hSc, hSd⟩⟩ := hSw; go_simp; all_goals (with_reducible rfl))
  change wpAnyL _ _ _ _ _ _ _ _ (Act.put _ (some 39) _) _
  simp only [Act.put, List.setIfInBounds_toArray, List.set_cons_zero, List.set_cons_succ]
  refine wpAnyL_take [11, 12, 13, 14, 19, 20, 21, 24] (i := 10) (v := ?v10z) rfl (by kernel_rfl) (by kernel_rfl) (by kernel_rfl) (by kernel_rfl) (fun _ _ _ h => h) (Or.inl ⟨by rfl, ?hy10z⟩) hHeld ?rest10z
  case hy10z => (intro W hSw; (try dsimp only at hSw); obtain ⟨⟨hSa, hSb⟩, ⟨hSc, hSd⟩⟩ := hSw; go_simp; all_goals (with_reducible rfl))
  change wpAnyL _ _ _ _ _ _ _ _ (Act.put _ (some 43) _) _
  simp only [Act.put, List.setIfInBounds_toArray, List.set_cons_zero, List.set_cons_succ]
  refine wpAnyL_take [19, 20, 21, 24] (i := 16) (v := ?v16z) rfl (by kernel_rfl) (by kernel_rfl) (by kernel_rfl) (by kernel_rfl) (fun _ _ _ h => h) (Or.inl ⟨by rfl, ?hy16z⟩) hHeld ?rest16z
  case hy16z => (intro W hSw; (try dsimp only at hSw); obtain ⟨⟨hSa, hSb⟩, ⟨hSc, hSd⟩⟩ := hSw; go_simp; all_goals (with_reducible rfl))
  change wpAnyL _ _ _ _ _ _ _ _ (Act.put _ (some 49) _) _
  simp only [Act.put, List.setIfInBounds_toArray, List.set_cons_zero, List.set_cons_succ]
  refine wpAnyL_take [19, 20, 21, 24] (i := 18) (v := ?v18z) rfl (by kernel_rfl) (by kernel_rfl) (by kernel_rfl) (by kernel_rfl) (fun _ _ _ h => h) (Or.inl ⟨by rfl, ?hy18z⟩) hHeld ?rest18z
  case hy18z => (intro W hSw; (try dsimp only at hSw); obtain ⟨⟨hSa, hSb⟩, ⟨hSc, hSd⟩⟩ := hSw; go_simp; all_goals (with_reducible rfl))
  change wpAnyL _ _ _ _ _ _ _ _ (Act.put _ (some 51) _) _
  simp only [Act.put, List.setIfInBounds_toArray, List.set_cons_zero, List.set_cons_succ]
  refine wpAnyL_take [4, 21, 24] (i := 3) (v := ?v3z) rfl (by kernel_rfl) (by kernel_rfl) (by kernel_rfl) (by kernel_rfl) (fun _ _ _ h => h) (Or.inl ⟨by rfl, ?hy3z⟩) hHeld ?rest3z
  case hy3z => (intro W hSw; (try dsimp only at hSw); obtain ⟨⟨hSa, hSb⟩, ⟨hSc, hSd⟩⟩ := hSw; go_simp; all_goals (with_reducible rfl))
  change wpAnyL _ _ _ _ _ _ _ _ (Act.put _ (some 36) _) _
  simp only [Act.put, List.setIfInBounds_toArray, List.set_cons_zero, List.set_cons_succ]
  refine wpAnyL_take [8, 13, 14, 19, 20, 21, 24] (i := 7) (v := ?v7z) rfl (by kernel_rfl) (by kernel_rfl) (by kernel_rfl) (by kernel_rfl) (fun _ _ _ h => h) (Or.inl ⟨by rfl, ?hy7z⟩) hHeld ?rest7z
  case hy7z => (intro W hSw; (try dsimp only at hSw); obtain ⟨⟨hSa, hSb⟩, ⟨hSc, hSd⟩⟩ := hSw; go_simp; all_goals (with_reducible rfl))
  change wpAnyL _ _ _ _ _ _ _ _ (Act.put _ (some 40) _) _
  simp only [Act.put, List.setIfInBounds_toArray, List.set_cons_zero, List.set_cons_succ]
  refine wpAnyL_take [12, 13, 14, 19, 20, 21, 24] (i := 11) (v := ?v11z) rfl (by kernel_rfl) (by kernel_rfl) (by kernel_rfl) (by kernel_rfl) (fun _ _ _ h => h) (Or.inl ⟨by rfl, ?hy11z⟩) hHeld ?rest11z
  case hy11z => (intro W hSw; (try dsimp only at hSw); obtain ⟨⟨hSa, hSb⟩, ⟨hSc, hSd⟩⟩ := hSw; go_simp; all_goals (with_reducible rfl))
  change wpAnyL _ _ _ _ _ _ _ _ (Act.put _ (some 44) _) _
  simp only [Act.put, List.setIfInBounds_toArray, List.set_cons_zero, List.set_cons_succ]
  refine wpAnyL_take [21, 24] (i := 4) (v := ?v4z) rfl (by kernel_rfl) (by kernel_rfl) (by kernel_rfl) (by kernel_rfl) (fun _ _ _ h => h) (Or.inl ⟨by rfl, ?hy4z⟩) hHeld ?rest4z
  case hy4z => (intro W hSw; (try dsimp only at hSw); obtain ⟨⟨hSa, hSb⟩, ⟨hSc, hSd⟩⟩ := hSw; go_simp; all_goals (with_reducible rfl))
  change wpAnyL _ _ _ _ _ _ _ _ (Act.put _ (some 37) _) _
  simp only [Act.put, List.setIfInBounds_toArray, List.set_cons_zero, List.set_cons_succ]
  refine wpAnyL_take [13, 14, 19, 20, 21, 24] (i := 8) (v := ?v8z) rfl (by kernel_rfl) (by kernel_rfl) (by kernel_rfl) (by kernel_rfl) (fun _ _ _ h => h) (Or.inl ⟨by rfl, ?hy8z⟩) hHeld ?rest8z
  case hy8z => (intro W hSw; (try dsimp only at hSw); obtain ⟨⟨hSa, hSb⟩, ⟨hSc, hSd⟩⟩ := hSw; go_simp; all_goals (with_reducible rfl))
  change wpAnyL _ _ _ _ _ _ _ _ (Act.put _ (some 41) _) _
  simp only [Act.put, List.setIfInBounds_toArray, List.set_cons_zero, List.set_cons_succ]
  refine wpAnyL_take [13, 14, 19, 20, 21, 24] (i := 12) (v := ?v12z) rfl (by kernel_rfl) (by kernel_rfl) (by kernel_rfl) (by kernel_rfl) (fun _ _ _ h => h) (Or.inl ⟨by rfl, ?hy12z⟩) hHeld ?rest12z
  case hy12z => (intro W hSw; (try dsimp only at hSw); obtain ⟨⟨hSa, hSb⟩, ⟨hSc, hSd⟩⟩ := hSw; go_simp; all_goals (with_reducible rfl))
  change wpAnyL _ _ _ _ _ _ _ _ (Act.put _ (some 45) _) _
  simp only [Act.put, List.setIfInBounds_toArray, List.set_cons_zero, List.set_cons_succ]
  refine wpAnyL_take [14, 19, 20, 21, 24] (i := 13) (v := ?v13z) rfl (by kernel_rfl) (by kernel_rfl) (by kernel_rfl) (by kernel_rfl) (fun _ _ _ h => h) (Or.inl ⟨by rfl, ?hy13z⟩) hHeld ?rest13z
  case hy13z => (intro W hSw; (try dsimp only at hSw); obtain ⟨⟨hSa, hSb⟩, ⟨hSc, hSd⟩⟩ := hSw; go_simp; all_goals (with_reducible rfl))
  change wpAnyL _ _ _ _ _ _ _ _ (Act.put _ (some 46) _) _
  simp only [Act.put, List.setIfInBounds_toArray, List.set_cons_zero, List.set_cons_succ]
  refine wpAnyL_take [19, 20, 21, 24] (i := 14) (v := ?v14z) rfl (by kernel_rfl) (by kernel_rfl) (by kernel_rfl) (by kernel_rfl) (fun _ _ _ h => h) (Or.inl ⟨by rfl, ?hy14z⟩) hHeld ?rest14z
  case hy14z => (intro W hSw; (try dsimp only at hSw); obtain ⟨⟨hSa, hSb⟩, ⟨hSc, hSd⟩⟩ := hSw; go_simp; all_goals (with_reducible rfl))
  change wpAnyL _ _ _ _ _ _ _ _ (Act.put _ (some 47) _) _
  simp only [Act.put, List.setIfInBounds_toArray, List.set_cons_zero, List.set_cons_succ]
  refine wpAnyL_take [20, 21, 24] (i := 19) (v := ?v19z) rfl (by kernel_rfl) (by kernel_rfl) (by kernel_rfl) (by kernel_rfl) (fun _ _ _ h => h) (Or.inl ⟨by rfl, ?hy19z⟩) hHeld ?rest19z
  case hy19z => (intro W hSw; (try dsimp only at hSw); obtain ⟨⟨hSa, hSb⟩, ⟨hSc, hSd⟩⟩ := hSw; go_simp; all_goals (with_reducible rfl))
  change wpAnyL _ _ _ _ _ _ _ _ (Act.put _ (some 52) _) _
  simp only [Act.put, List.setIfInBounds_toArray, List.set_cons_zero, List.set_cons_succ]
  refine wpAnyL_one (i := 20) (by kernel_rfl) rfl (fun K hK => ?_)
  try simp only [List.getElem_toArray, List.getElem_cons_succ, List.getElem_cons_zero]
  go_simp
  obtain ⟨X, hX⟩ : ∃ X, X = w1.heap.size := ⟨_, rfl⟩
  obtain ⟨w3, hw3⟩ : ∃ w3, w3 = (w1.alloc (.cells #[.int .u8 (lit : Int), .int .u16 (len : Int), .int .u16 (back : Int)] 88)).drew := ⟨_, rfl⟩
  rw [← hw3, ← hX]
  have hF3 : Fr (fun _ => False) w2 w3 := by rw [hw3, Hw2.out]; exact Fr.of_alloc w1.drew _
  have hbX : w3.heap[X]? = some (.cells #[.int .u8 (lit : Int), .int .u16 (len : Int), .int .u16 (back : Int)] 88 (0, 0)) := by rw [hw3]; exact cells_at (heap_alloc_at hX) (Fr.of_drewN _ 1) (fun e => e)
  have hS3 := four_keep hF3 (fun e => e) (fun e => e) (Hw2.out ▸ j0) (Hw2.out ▸ j2) (Hw2.out ▸ j4) (Hw2.out ▸ jD)
  have hM3 := HM2.out.keep hF3 (fun _ _ _ e => e) (fun e => e)
  have hO3 : w3.ownsRow lo 88 3 (.slice pa q pc) q (cellsP ps) := ownsRow_fr Hpo.out fun j hj => hF3.block j (Hpo.out.lt j hj).2 (fun e => e)
  have hlo3 : lo ≤ w3.heap.size := by have := hF3.size; omega
  have HM3 := hide hM3
  have HO3 := hide hO3
  have HF3 := hide (HF2.out.join hF3)
  have HbX := hide hbX
  have HX := hide hX
  clear hw3 hX hF3 hbX hM3 hO3
  refine hK.out _ _ (fun _ => hS3) (fun hHeld0 => ?_)
  have hHeld := hHeld0 (by decide)
  clear hHeld0
  clear hK K
  refine wpAnyL_one (i := 21) (by kernel_rfl) rfl (fun K hK => ?_)
  try simp only [List.getElem_toArray, List.getElem_cons_succ, List.getElem_cons_zero]
  rw [if_pos (by rfl)]
  refine wp_append_lies w3 (.tmp 37) (.tmp 53) 60 rfl lo 88 i0 _ 3 6 Tryd.und60s hi0 hz0 hz1 hz2 rfl (by decide) (.slice pa q pc) q (cellsP ps) rfl HO3.out ⟨X, 0, none⟩ 1 1 (cellsP [⟨lit, len, back⟩]) rfl rfl (World.news_of_block HbX.out) (cellsP_one _) (by decide) (by unfold maxLen; omega) (by omega) hlo3 w3.heap.size rfl ?_
  intro gq cap w4 hown4 hgrow hat hlt4
  have hFg : Fr (fun i => (Value.slice pa q pc).ownBlock = some i) w3 w4 := Fr.of_grown hgrow
  have hS4 := four_keep hFg (fun e => own_ne HO3.out HM3.out.blk (by decide) e) (fun e => by obtain ⟨cur, hc⟩ := HDb.out; exact own_ne HO3.out (cells_at hc HF3.out (fun e => e)) (by decide) e) hS3.1.1 hS3.1.2 hS3.2.1 hS3.2.2
  have hM4 : w4.heap[M]? = some (.cells cs 73 (0, 0)) := cells_at HM3.out.blk hFg (fun e => own_ne HO3.out HM3.out.blk (by decide) e)
  have f4 := frozen_of (o := 4) hM4
  have c4 := hS4.2.1
  have Hown4 := hide hown4
  have HFg := hide hFg
  clear hown4 hgrow hat hFg hM4
  refine hK.out _ _ (fun _ => hS4) (fun hHeld0 => ?_)
  have hHeld := hHeld0 (by decide)
  clear hHeld0
  clear hK K
  refine wpAnyL_take [23, 24] (i := 22) (v := ?v22z) rfl (by kernel_rfl) (by kernel_rfl) (by kernel_rfl) (by kernel_rfl) (fun _ _ _ h => h) (Or.inl ⟨by rfl, ?hy22z⟩) hHeld ?rest22z
  case hy22z => (intro W hSw; (try dsimp only at hSw); obtain ⟨⟨hSa, hSb⟩, ⟨hSc, hSd⟩⟩ := hSw; go_simp; all_goals (with_reducible rfl))
  change wpAnyL _ _ _ _ _ _ _ _ (Act.put _ (some 55) _) _
  simp only [Act.put, List.setIfInBounds_toArray, List.set_cons_zero, List.set_cons_succ]
  refine wpAnyL_take [24] (i := 23) (v := ?v23z) rfl (by kernel_rfl) (by kernel_rfl) (by kernel_rfl) (by kernel_rfl) (fun _ _ _ h => h) (Or.inl ⟨by rfl, ?hy23z⟩) hHeld ?rest23z
  case hy23z => (intro W hSw; (try dsimp only at hSw); obtain ⟨⟨hSa, hSb⟩, ⟨hSc, hSd⟩⟩ := hSw; go_simp; all_goals (with_reducible rfl))
  change wpAnyL _ _ _ _ _ _ _ _ (Act.put _ (some 56) _) _
  simp only [Act.put, List.setIfInBounds_toArray, List.set_cons_zero, List.set_cons_succ]
  refine wpAnyL_one (i := 24) (by kernel_rfl) rfl (fun K hK => ?_)
  try simp only [List.getElem_toArray, List.getElem_cons_succ, List.getElem_cons_zero]
  go_simp
  have z0 : True := trivial
  refine hK.out _ _ (fun h => absurd rfl h) (fun _ => ?_)
  clear hK K
  refine wpAnyL_done (by kernel_rfl) ?_ _
  have eL : (ps ++ [p]).length = q + 1 := by rw [List.length_append, ← Hq.out]; rfl
  have hown5 : w4.ownsRow lo 88 3 (.slice (some ⟨gq, 0, none⟩) (ps ++ [p]).length cap) (ps ++ [p]).length (cellsP (ps ++ [p])) := by
    rw [eL, cellsP_append, HPc.out]
    exact Hown4.out
  obtain ⟨hM5, hF5⟩ := HM3.out.app (by rw [← Hq.out]; exact Hpa.out) (by rw [← Hq.out]; exact HFg.out) hown5
  rw [eL] at hM5 hF5
  obtain ⟨w5, hw5⟩ : ∃ w5, w5 = w4.setCell ⟨M, 4, none⟩ (.slice (some ⟨gq, 0, none⟩) (q + 1) cap) := ⟨_, rfl⟩
  rw [← hw5] at hM5 hF5 ⊢
  obtain ⟨cs5, hcs5⟩ : ∃ cs5, cs5 = cs.setIfInBounds 4 (.slice (some ⟨gq, 0, none⟩) (q + 1) cap) := ⟨_, rfl⟩
  rw [← hcs5] at hM5
  have hda5 : cs5[0]? = some (.slice (some ⟨D, 0, none⟩) bs.length dc) := by rw [hcs5, Array.getElem?_setIfInBounds_ne (by omega)]; exact Hda.out
  have HM5 := hide hM5
  have HF5 := hide ((HF3.out.trans hF5).mono (S' := fun i => lo ≤ i) fun i _ e => e.elim (fun e => e.elim) id)
  have Hda5 := hide hda5
  have hmax : (if (1 : Int) < (len : Int) then (len : Int) else 1) = (adv : Int) := by rw [HAdv.out]; split <;> omega
  have hmax2 : (if (len : Int) < 1 then 1 else (len : Int)) = (adv : Int) := by rw [HAdv.out]; split <;> omega
  have hadv1 : told + adv ≤ n := by rw [HAdv.out]; omega
  have hadvi : (adv : Int) ≤ 4194304 := by omega
  clear hw5 hcs5 hM5 hF5 hown5 eL hda5 q1 q2 f4 c4 hS3 hS4 z0 j0 j2 j4 jD
  go_wp2_with fail
  go_loopw [59] (fun ti wr => ∃ (i : Nat) (cs' : Array Value), ti = .int .i64 (i : Int) ∧ i ≤ adv ∧ cs'[0]? = some (.slice (some ⟨D, 0, none⟩) bs.length dc) ∧ Mc wr lo M cs' bs N1 N2 k taken (told + i) begin (told + i) (ps ++ [p]) (adds bs k told nw od i).1 (adds bs k told nw od i).2 g t ∧ Fr (fun i => lo ≤ i) w wr) (fun ti _ => adv - (intOf ti).toNat)
  case atStart => exact ⟨0, cs5, rfl, by omega, Hda5.out, HM5.out, HF5.out⟩
  case round =>
    obtain ⟨i, cs6, rfl, hi, hda6, hM6, hF6⟩ := hrel
    by_cases hlt2 : i < adv
    · have hlti : (i : Int) < (adv : Int) := by omega
      obtain ⟨ax, hat⟩ : ∃ ax, ax = told + i := ⟨_, rfl⟩
      rw [← hat] at hM6
      obtain ⟨D', dc', hda', _, hLB', _⟩ := hM6.bytes (by rw [← Hn.out]; omega)
      rw [hda6] at hda'
      obtain ⟨eD, _, eC⟩ := Value.slice.inj (Option.some.inj hda')
      cases eD
      subst eC
      have m0 : wr.cell? ⟨M, 0, none⟩ = some (.slice (some ⟨D, 0, none⟩) n dc) := cell_of (o := 0) hM6.blk (by rw [hda6, Hn.out])
      have m2 : wr.cell? ⟨M, 2, none⟩ = some (.int .i64 (ax : Int)) := cell_of (o := 2) hM6.blk hM6.c2
      have hati : (ax : Int) < (n : Int) := by omega
      have Hadd := hide (add_c M 5 N1 N2 k ax D 0 n dc bs (adds bs k told nw od i).1 (adds bs k told nw od i).2 wr.drew (hM6.keep (Fr.of_drewN wr 1) (fun _ _ _ e => e) (fun e => e)).fd (hLB'.fr (Fr.of_drewN wr 1) (fun e => e)) Hn.out (by omega) hM6.byt (by omega))
      have m0d : wr.drew.cell? ⟨M, 0, none⟩ = some (.slice (some ⟨D, 0, none⟩) n dc) := m0
      have m2d : wr.drew.cell? ⟨M, 2, none⟩ = some (.int .i64 (ax : Int)) := m2
      have HM6 := hide hM6
      have HF6 := hide hF6
      have Hda6 := hide hda6
      have Hat := hide hat
      clear hda' hLB' hM6 hF6 hda6 hat m0 m2
      go_wp2_with fail
      refine wp_region_held_drew (S := fun W' => W'.cell? ⟨M, 0, none⟩ = some (.slice (some ⟨D, 0, none⟩) n dc) ∧ W'.cell? ⟨M, 2, none⟩ = some (.int .i64 (ax : Int))) (by kernel_rfl) ⟨m0d, m2d⟩ (fun hHeld => ?_)
      refine wpAnyH_take (i := 0) (v := ?v0y) rfl (by kernel_rfl) (by kernel_rfl) (by kernel_rfl) (fun _ _ _ h => h) (Or.inl ⟨by rfl, ?hy0y⟩) hHeld ?rest0y
      case hy0y => (intro W hSw; (try dsimp only at hSw); obtain ⟨hSa, hSb⟩ := hSw; go_simp; all_goals (with_reducible rfl))
      change wpAnyH _ _ _ _ _ _ _ (Act.put _ (some 61) _) _
      simp only [Act.put, List.setIfInBounds_toArray, List.set_cons_zero, List.set_cons_succ]
      refine wpAnyH_take (i := 3) (v := ?v3y) rfl (by kernel_rfl) (by kernel_rfl) (by kernel_rfl) (fun _ _ _ h => h) (Or.inl ⟨by rfl, ?hy3y⟩) hHeld ?rest3y
      case hy3y => (intro W hSw; (try dsimp only at hSw); obtain ⟨hSa, hSb⟩ := hSw; go_simp; all_goals (with_reducible rfl))
      change wpAnyH _ _ _ _ _ _ _ (Act.put _ (some 64) _) _
      simp only [Act.put, List.setIfInBounds_toArray, List.set_cons_zero, List.set_cons_succ]
      refine wpAnyH_take (i := 7) (v := ?v7y) rfl (by kernel_rfl) (by kernel_rfl) (by kernel_rfl) (fun _ _ _ h => h) (Or.inl ⟨by rfl, ?hy7y⟩) hHeld ?rest7y
      case hy7y => (intro W hSw; (try dsimp only at hSw); obtain ⟨hSa, hSb⟩ := hSw; go_simp; all_goals (with_reducible rfl))
      change wpAnyH _ _ _ _ _ _ _ (Act.put _ (some 68) _) _
      simp only [Act.put, List.setIfInBounds_toArray, List.set_cons_zero, List.set_cons_succ]
      refine wpAnyH_take (i := 1) (v := ?v1y) rfl (by kernel_rfl) (by kernel_rfl) (by kernel_rfl) (fun _ _ _ h => h) (Or.inl ⟨by rfl, ?hy1y⟩) hHeld ?rest1y
      case hy1y => (intro W hSw; (try dsimp only at hSw); obtain ⟨hSa, hSb⟩ := hSw; go_simp; all_goals (with_reducible rfl))
      change wpAnyH _ _ _ _ _ _ _ (Act.put _ (some 62) _) _
      simp only [Act.put, List.setIfInBounds_toArray, List.set_cons_zero, List.set_cons_succ]
      refine wpAnyH_take (i := 4) (v := ?v4y) rfl (by kernel_rfl) (by kernel_rfl) (by kernel_rfl) (fun _ _ _ h => h) (Or.inl ⟨by rfl, ?hy4y⟩) hHeld ?rest4y
      case hy4y => (intro W hSw; (try dsimp only at hSw); obtain ⟨hSa, hSb⟩ := hSw; go_simp; all_goals (with_reducible rfl))
      change wpAnyH _ _ _ _ _ _ _ (Act.put _ (some 65) _) _
      simp only [Act.put, List.setIfInBounds_toArray, List.set_cons_zero, List.set_cons_succ]
      refine wpAnyH_take (i := 8) (v := ?v8y) rfl (by kernel_rfl) (by kernel_rfl) (by kernel_rfl) (fun _ _ _ h => h) (Or.inl ⟨by rfl, ?hy8y⟩) hHeld ?rest8y
      case hy8y => (intro W hSw; (try dsimp only at hSw); obtain ⟨hSa, hSb⟩ := hSw; go_simp; all_goals (with_reducible rfl))
      change wpAnyH _ _ _ _ _ _ _ (Act.put _ (some 69) _) _
      simp only [Act.put, List.setIfInBounds_toArray, List.set_cons_zero, List.set_cons_succ]
      refine wpAnyH_take (i := 2) (v := ?v2y) rfl (by kernel_rfl) (by kernel_rfl) (by kernel_rfl) (fun _ _ _ h => h) (Or.inl ⟨by rfl, ?hy2y⟩) hHeld ?rest2y
      case hy2y => (intro W hSw; (try dsimp only at hSw); obtain ⟨hSa, hSb⟩ := hSw; go_simp; all_goals (with_reducible rfl))
      change wpAnyH _ _ _ _ _ _ _ (Act.put _ (some 63) _) _
      simp only [Act.put, List.setIfInBounds_toArray, List.set_cons_zero, List.set_cons_succ]
      refine wpAnyH_take (i := 5) (v := ?v5y) rfl (by kernel_rfl) (by kernel_rfl) (by kernel_rfl) (fun _ _ _ h => h) (Or.inl ⟨by rfl, ?hy5y⟩) hHeld ?rest5y
      case hy5y => (intro W hSw; (try dsimp only at hSw); obtain ⟨hSa, hSb⟩ := hSw; go_simp; all_goals (with_reducible rfl))
      change wpAnyH _ _ _ _ _ _ _ (Act.put _ (some 66) _) _
      simp only [Act.put, List.setIfInBounds_toArray, List.set_cons_zero, List.set_cons_succ]
      refine wpAnyH_take (i := 9) (v := ?v9y) rfl (by kernel_rfl) (by kernel_rfl) (by kernel_rfl) (fun _ _ _ h => h) (Or.inl ⟨by rfl, ?hy9y⟩) hHeld ?rest9y
      case hy9y => (intro W hSw; (try dsimp only at hSw); obtain ⟨hSa, hSb⟩ := hSw; go_simp; all_goals (with_reducible rfl))
      change wpAnyH _ _ _ _ _ _ _ (Act.put _ (some 70) _) _
      simp only [Act.put, List.setIfInBounds_toArray, List.set_cons_zero, List.set_cons_succ]
      refine wpAnyH_take (i := 6) (v := ?v6y) rfl (by kernel_rfl) (by kernel_rfl) (by kernel_rfl) (fun _ _ _ h => h) (Or.inl ⟨by rfl, ?hy6y⟩) hHeld ?rest6y
      case hy6y => (intro W hSw; (try dsimp only at hSw); obtain ⟨hSa, hSb⟩ := hSw; go_simp; all_goals (with_reducible rfl))
      change wpAnyH _ _ _ _ _ _ _ (Act.put _ (some 67) _) _
      simp only [Act.put, List.setIfInBounds_toArray, List.set_cons_zero, List.set_cons_succ]
      refine wpAnyH_take (i := 10) (v := ?v10y) rfl (by kernel_rfl) (by kernel_rfl) (by kernel_rfl) (fun _ _ _ h => h) (Or.inl ⟨by rfl, ?hy10y⟩) hHeld ?rest10y
      case hy10y => (intro W hSw; (try dsimp only at hSw); obtain ⟨hSa, hSb⟩ := hSw; go_simp; all_goals (with_reducible rfl))
      change wpAnyH _ _ _ _ _ _ _ (Act.put _ (some 71) _) _
      simp only [Act.put, List.setIfInBounds_toArray, List.set_cons_zero, List.set_cons_succ]
      refine wpAnyH_ready (rs := [11]) (by kernel_rfl) (by simp) ?_
      refine AllReadyH.cons rfl (fun K hK => ?_) AllReadyH.nil
      try simp only [List.getElem_toArray, List.getElem_cons_succ, List.getElem_cons_zero]
      go_simp
      refine (calls_args Hadd.out (by rfl)).mono ?_
      rintro e w7 ⟨rfl, hfd7, hF7⟩
      have hM7 := (HM6.out.keep (Fr.of_drewN wr 1) (fun _ _ _ e => e) (fun e => e)).fin hfd7 hF7
      have hS7 := And.intro ((cell_of (o := 0) hM7.blk (by rw [Hda6.out, Hn.out]) : w7.cell? ⟨M, 0, none⟩ = some (.slice (some ⟨D, 0, none⟩) n dc))) ((cell_of (o := 2) hM7.blk hM7.c2 : w7.cell? ⟨M, 2, none⟩ = some (.int .i64 (ax : Int))))
      have HM7 := hide hM7
      have HF7 := hide (fr_lo7 HF6.out hF7 HM6.out.loM)
      clear hfd7 hF7 hM7
      refine hK.out _ _ hS7 (fun hHeld => ?_)
      clear hK K
      refine wpAnyH_done (by kernel_rfl) ?_ _
      have m2 := hS7.2
      have f2' := frozen_of (o := 2) HM7.out.blk
      clear hHeld hS7 m0d m2d
      go_wp2_with fail
      go_roundw
      case rel =>
        have hM7 := HM7.out
        obtain ⟨hM8, hF8⟩ := hM7.upd 2 (.int .i64 ((ax : Int) + 1)) (by omega) (taken' := taken) (told' := told + (i + 1)) (begin' := begin) (ps' := ps ++ [p]) (by rw [Array.getElem?_setIfInBounds_ne (by omega)]; exact hM7.c1) (by rw [get_set _ hM7.c2, Hat.out]; congr 2) (by rw [Array.getElem?_setIfInBounds_ne (by omega)]; exact hM7.c3) (by
          obtain ⟨x, y, z1, z2⟩ := hM7.c4
          exact ⟨x, y, by rw [Array.getElem?_setIfInBounds_ne (by omega)]; exact z1, z2⟩)
        refine ⟨i + 1, cs6.setIfInBounds 2 (.int .i64 ((ax : Int) + 1)), by go_num, by omega, ?_, ?_⟩
        · rw [Array.getElem?_setIfInBounds_ne (by omega)]; exact Hda6.out
        · have e : told + (i + 1) = ax + 1 := by have := Hat.out; omega
          rw [e] at hM8 ⊢
          have e2 : adds bs k told nw od (i + 1) = (addN bs (adds bs k told nw od i).1 k ax, addO bs (adds bs k told nw od i).1 (adds bs k told nw od i).2 k ax) := by rw [Hat.out]; rfl
          rw [e2]
          exact ⟨hM8, (HF7.out.trans hF8).mono fun j _ e => e.elim id (fun e => by omega)⟩
      case measure => simp [intOf]; omega
    · obtain rfl : i = adv := by omega
      have HM6 := hide hM6
      have HF6 := hide hF6
      clear hM6 hF6
      go_wp2
      go_end0
      exact ⟨rfl, cs6, HM6.out, HF6.out⟩
end Go.Proofs.YtmefhngmgfmhoaaDoor

/-
  What a Machine does, as mathematics: what it writes is read as its bytes, is not too long, and is a function of them.
-/
namespace Go.Proofs.YtmefhngmgfmhoaaDoor
open Go.RowKit

/-- Where a Machine stands. -/
structure Ms where
  told : Nat
  begin : Nat
  ps : List Pc
  nw : List Nat
  od : List Nat
  t : Bt

def kOf (bs : List Nat) : Nat := finK bs.length 15 0

def startS (bs : List Nat) : Ms := ⟨0, 0, [], List.replicate (2 ^ kOf bs) 0, List.replicate (2 ^ kOf bs) 0, t0⟩

def tellF (bs : List Nat) (s : Ms) : Ms :=
  ⟨s.told + advOf bs s.nw s.od (kOf bs) s.begin s.told, s.begin, s.ps ++ [pcOf bs s.nw s.od (kOf bs) s.begin s.told], (adds bs (kOf bs) s.told s.nw s.od (advOf bs s.nw s.od (kOf bs) s.begin s.told)).1, (adds bs (kOf bs) s.told s.nw s.od (advOf bs s.nw s.od (kOf bs) s.begin s.told)).2, s.t⟩

/-- A block ends. -/
def EndR (bs : List Nat) (s : Ms) (last : Bool) (t' : Bt) : Prop := ∃ oL oD oC, Cds s.ps oL oD oC ∧ t' = blockF s.t last ((bs.take s.told).drop s.begin) s.ps oL oD oC

def cutS (s : Ms) (t' : Bt) : Ms := ⟨s.told, s.told, [], s.nw, s.od, t'⟩

def Nx (bs : List Nat) (s s' : Ms) : Prop := (s.told ≠ s.begin + 65535 ∧ s' = tellF bs s) ∨ (s.told = s.begin + 65535 ∧ ∃ t', EndR bs s false t' ∧ s' = tellF bs (cutS s t'))

inductive Rch (bs : List Nat) : Ms → Prop
  | start : Rch bs (startS bs)
  | step {s s' : Ms} : Rch bs s → s.told < bs.length → Nx bs s s' → Rch bs s'

/-- The stream of bytes. -/
def Stream (bs os : List Nat) : Prop := ∃ s t', Rch bs s ∧ s.told = bs.length ∧ EndR bs s true t' ∧ Bts t' os

theorem Cds.det {ps : List Pc} {oL oD oC oL' oD' oC' : List Int} (h : Cds ps oL oD oC) (h' : Cds ps oL' oD' oC') : oL = oL' ∧ oD = oD' ∧ oC = oC' := by
  obtain rfl := h.lL.det h'.lL
  obtain rfl := h.lD.det h'.lD
  exact ⟨rfl, rfl, h.lC.det h'.lC⟩

theorem EndR.det {bs : List Nat} {s : Ms} {last : Bool} {t t' : Bt} (h : EndR bs s last t) (h' : EndR bs s last t') : t = t' := by
  obtain ⟨a, b, c, h1, e1⟩ := h
  obtain ⟨a', b', c', h2, e2⟩ := h'
  obtain ⟨e3, e4, e5⟩ := h1.det h2
  rw [e1, e2, e3, e4, e5]

theorem Nx.det {bs : List Nat} {s u u' : Ms} (h : Nx bs s u) (h' : Nx bs s u') : u = u' := by
  rcases h with ⟨a, rfl⟩ | ⟨a, t, e, rfl⟩
  · rcases h' with ⟨_, rfl⟩ | ⟨b, _⟩
    · rfl
    · exact absurd b a
  · rcases h' with ⟨b, _⟩ | ⟨_, t', e', rfl⟩
    · exact absurd a b
    · rw [e.det e']

theorem Nx.more {bs : List Nat} {s u : Ms} (h : Nx bs s u) : s.told < u.told := by
  rcases h with ⟨_, rfl⟩ | ⟨_, t, _, rfl⟩
  · show s.told < s.told + _; unfold advOf; omega
  · show s.told < s.told + _; unfold advOf; omega

/-- Of two that are reached one is reached from the other, or they are the same: so those with all bytes told are the same. -/
theorem Rch.same {bs : List Nat} : ∀ {s : Ms}, Rch bs s → ∀ {u : Ms}, Rch bs u → (s.told = u.told → s = u) ∧ (s.told < u.told → ∃ v, Nx bs s v ∧ v.told ≤ u.told ∧ (s.told < bs.length)) := by
  intro s hs u hu
  induction hu generalizing s with
  | start =>
    cases hs with
    | start => exact ⟨fun _ => rfl, fun h => absurd h (Nat.lt_irrefl _)⟩
    | step h1 h2 h3 =>
      refine ⟨fun e => ?_, fun h => ?_⟩
      · have := h3.more; have e0 : (startS bs).told = 0 := rfl; omega
      · have e0 : (startS bs).told = 0 := rfl; omega
  | @step v u hv hlt hn ih =>
    have key : ∀ s', Rch bs s' → s'.told ≤ u.told → s'.told ≤ v.told ∨ s' = u := by
      intro s' hs'
      induction hs' with
      | start => intro _; left; show 0 ≤ _; omega
      | @step x s' hx hlx hnx ihx =>
        intro hle
        have := hnx.more
        rcases ihx (by omega) with h | h
        · by_cases hxv : x.told = v.told
          · have := (ih hx).1 hxv
            subst this
            exact Or.inr (hnx.det hn)
          · obtain ⟨y, y1, y2, _⟩ := (ih hx).2 (by omega)
            rw [hnx.det y1]
            exact Or.inl y2
        · rw [h] at hnx; have := hnx.more; omega
    refine ⟨fun e => ?_, fun h => ?_⟩
    · rcases key s hs (by omega) with k | k
      · have := hn.more; omega
      · exact k
    · rcases key s hs (by omega) with k | k
      · by_cases hsv : s.told = v.told
        · have := (ih hs).1 hsv
          subst this
          exact ⟨u, hn, Nat.le_refl _, hlt⟩
        · obtain ⟨y, y1, y2, y3⟩ := (ih hs).2 (by omega)
          exact ⟨y, y1, by have := hn.more; omega, y3⟩
      · rw [k] at h; omega

theorem Stream.det {bs os os' : List Nat} (h : Stream bs os) (h' : Stream bs os') : os = os' := by
  obtain ⟨s, t, r1, e1, f1, g1⟩ := h
  obtain ⟨s', t', r2, e2, f2, g2⟩ := h'
  obtain rfl := (r1.same r2).1 (by omega)
  obtain rfl := f1.det f2
  exact g1.det g2

/-- What holds of each place that is reached. -/
structure Inv (bs : List Nat) (s : Ms) : Prop where
  bt : s.begin ≤ s.told
  tl : s.told ≤ bs.length
  t6 : s.told ≤ s.begin + 65535
  may : mays s.ps (bs.take s.begin)
  play : plays s.ps (bs.take s.begin) = bs.take s.told
  cnt : s.ps.length ≤ s.told - s.begin
  top : (∀ x ∈ s.nw, x ≤ s.told) ∧ ∀ x ∈ s.od, x ≤ s.told
  ok : s.t.ok
  leads : Leads s.t ⟨0, false, [], .ahead⟩ ⟨s.t.p, false, bs.take s.begin, .ahead⟩
  full : ∃ q, s.begin = 65535 * q ∧ s.t.p ≤ 8 * (s.begin + 5 * q)

theorem grow_row {bs : List Nat} {told back : Nat} (hb1 : 1 ≤ back) (hbt : back ≤ told) : ∀ len, told + len ≤ bs.length → (∀ k, k < len → bs.getD (told - back + k) 0 = bs.getD (told + k) 0) → grow back len (bs.take told) = bs.take (told + len) := by
  intro len
  induction len with
  | zero => intro _ _; rfl
  | succ len ih =>
    intro hl hk
    rw [grow_succ, ih (by omega) (fun k h => hk k (by omega))]
    have hlen : (bs.take (told + len)).length = told + len := by rw [List.length_take]; omega
    have e1 : (bs.take (told + len)).getD ((bs.take (told + len)).length - back) 0 = bs.getD (told + len) 0 := by
      rw [hlen, ← hk len (by omega), show told + len - back = told - back + len by omega, List.getD_eq_getElem?_getD, List.getD_eq_getElem?_getD, List.getElem?_take_of_lt (by omega)]
    have hlt : told + len < bs.length := by omega
    rw [e1, show told + (len + 1) = told + len + 1 by omega, List.take_succ_eq_append_getElem hlt, List.getD_eq_getElem?_getD, List.getElem?_eq_getElem hlt]
    rfl

theorem addN_top {bs nw : List Nat} {k at' top : Nat} (h : ∀ x ∈ nw, x ≤ top) (ha : at' + 1 ≤ top) : ∀ x ∈ addN bs nw k at', x ≤ top := by
  intro x hx
  unfold addN at hx
  split at hx
  · exact h x hx
  · rcases List.mem_or_eq_of_mem_set hx with e | e
    · exact h x e
    · omega

theorem addO_top {bs nw od : List Nat} {k at' top : Nat} (h : ∀ x ∈ od, x ≤ top) (hn : ∀ x ∈ nw, x ≤ top) : ∀ x ∈ addO bs nw od k at', x ≤ top := by
  intro x hx
  unfold addO at hx
  split at hx
  · exact h x hx
  · rcases List.mem_or_eq_of_mem_set hx with e | e
    · exact h x e
    · rw [e]; exact getD_le hn _

theorem adds_top {bs nw od : List Nat} {k told : Nat} (h1 : ∀ x ∈ nw, x ≤ told) (h2 : ∀ x ∈ od, x ≤ told) : ∀ i, (∀ x ∈ (adds bs k told nw od i).1, x ≤ told + i) ∧ ∀ x ∈ (adds bs k told nw od i).2, x ≤ told + i := by
  intro i
  induction i with
  | zero => exact ⟨h1, h2⟩
  | succ i ih =>
    have a1 : ∀ x ∈ (adds bs k told nw od i).1, x ≤ told + (i + 1) := fun x hx => by have := ih.1 x hx; omega
    have a2 : ∀ x ∈ (adds bs k told nw od i).2, x ≤ told + (i + 1) := fun x hx => by have := ih.2 x hx; omega
    exact ⟨addN_top a1 (by omega), addO_top a2 a1⟩

theorem take_more (bs : List Nat) (told : Nat) (h : told < bs.length) : bs.take told ++ [bs.getD told 0] = bs.take (told + 1) := by
  rw [List.take_succ_eq_append_getElem h, List.getD_eq_getElem?_getD, List.getElem?_eq_getElem h]
  rfl

theorem Inv.tell {bs : List Nat} (hb : ∀ b ∈ bs, b < 256) {s : Ms} (h : Inv bs s) (hlt : s.told < bs.length) (h6 : s.told < s.begin + 65535) : Inv bs (tellF bs s) := by
  have hr := row_ok (bs := bs) (k := kOf bs) h.top.1 h.top.2 h.bt h6 hlt
  have hEl : (bs.take (endOf bs s.begin)).length = endOf bs s.begin := by simp [endOf]
  have hE : endOf bs s.begin ≤ bs.length ∧ endOf bs s.begin ≤ s.begin + 65535 := by unfold endOf; omega
  have hlitb : bs.getD s.told 0 < 256 := by
    rw [List.getD_eq_getElem?_getD, List.getElem?_eq_getElem hlt]
    exact hb _ (List.getElem_mem hlt)
  have key : (pcOf bs s.nw s.od (kOf bs) s.begin s.told).may (bs.take s.told) ∧ (pcOf bs s.nw s.od (kOf bs) s.begin s.told).play (bs.take s.told) = bs.take (s.told + advOf bs s.nw s.od (kOf bs) s.begin s.told) ∧ s.told + advOf bs s.nw s.od (kOf bs) s.begin s.told ≤ endOf bs s.begin := by
    have hpc : pcOf bs s.nw s.od (kOf bs) s.begin s.told = ⟨bs.getD s.told 0, (rowOf bs s.nw s.od (kOf bs) s.begin s.told).1, (rowOf bs s.nw s.od (kOf bs) s.begin s.told).2⟩ := rfl
    have hadv : advOf bs s.nw s.od (kOf bs) s.begin s.told = max (rowOf bs s.nw s.od (kOf bs) s.begin s.told).1 1 := rfl
    rw [hpc, hadv]
    rcases hr with e | e
    · rw [e]
      refine ⟨Or.inl ⟨rfl, hlitb⟩, ?_, ?_⟩
      · show (if (0 : Nat) = 0 then bs.take s.told ++ [bs.getD s.told 0] else _) = _
        rw [if_pos rfl]
        exact take_more bs s.told hlt
      · show s.told + max 0 1 ≤ _
        unfold endOf; omega
    · generalize rowOf bs s.nw s.od (kOf bs) s.begin s.told = r at e ⊢
      obtain ⟨len, back⟩ := r
      obtain ⟨a1, a2, a3, a4, a5, a6, a7⟩ := e
      simp only at a1 a2 a3 a4 a5 a6 a7 ⊢
      rw [hEl] at a3
      have hm : max len 1 = len := by omega
      rw [hm]
      refine ⟨Or.inr ⟨a1, a2, a4, a5, by rw [List.length_take]; show back ≤ _; omega⟩, ?_, a3⟩
      show (if len = 0 then _ else grow back len (bs.take s.told)) = _
      rw [if_neg (by omega)]
      refine grow_row a4 a6 len (by omega) (fun k hk => ?_)
      have := a7 k hk
      simp only [List.getD_eq_getElem?_getD] at this ⊢
      rwa [List.getElem?_take_of_lt (by omega), List.getElem?_take_of_lt (by omega)] at this
  obtain ⟨k1, k2, k3⟩ := key
  have hadv1 : 1 ≤ advOf bs s.nw s.od (kOf bs) s.begin s.told := by unfold advOf; omega
  obtain ⟨t1, t2⟩ := adds_top (bs := bs) (k := kOf bs) h.top.1 h.top.2 (advOf bs s.nw s.od (kOf bs) s.begin s.told)
  have hbt := h.bt
  have hcnt := h.cnt
  refine ⟨?_, ?_, ?_, ?_, ?_, ?_, ⟨t1, t2⟩, h.ok, h.leads, h.full⟩
  · show s.begin ≤ s.told + _; omega
  · show s.told + _ ≤ _; omega
  · show s.told + _ ≤ s.begin + 65535; omega
  · show mays (s.ps ++ [_]) (bs.take s.begin)
    rw [mays_snoc, h.play]
    exact ⟨h.may, k1⟩
  · show plays (s.ps ++ [_]) (bs.take s.begin) = _
    rw [plays_snoc, h.play]
    exact k2
  · show (s.ps ++ [_]).length ≤ s.told + _ - s.begin
    rw [List.length_append, List.length_singleton]
    omega

theorem padTo_round (p B : Nat) (h : p ≤ 8 * B) : p + 3 + padTo (p + 3) ≤ 8 * (B + 1) := by unfold padTo; omega

theorem raw_app (bs : List Nat) {b e : Nat} (h : b ≤ e) : bs.take b ++ (bs.take e).drop b = bs.take e := by
  have : bs.take b = (bs.take e).take b := by rw [List.take_take, Nat.min_eq_left h]
  rw [this]
  exact List.take_append_drop b (bs.take e)

theorem Inv.ends {bs : List Nat} (hb : ∀ b ∈ bs, b < 256) {s : Ms} (h : Inv bs s) {last : Bool} {t' : Bt} (he : EndR bs s last t') :
    t'.ok ∧ Leads t' ⟨0, false, [], .ahead⟩ ⟨t'.p, last, bs.take s.told, .ahead⟩ ∧ ∃ q, s.begin = 65535 * q ∧ t'.p ≤ 8 * (s.told + 5 * (q + 1)) := by
  obtain ⟨oL, oD, oC, hc, et⟩ := he
  have hrl : ((bs.take s.told).drop s.begin).length = s.told - s.begin := by
    have := h.tl
    rw [List.length_drop, List.length_take]
    omega
  have h6 := h.t6
  have hbt := h.bt
  have htl := h.tl
  obtain ⟨a, b, c, d⟩ := block_leads h.ok last (raw := (bs.take s.told).drop s.begin) (by omega) (fun x hx => hb x (List.mem_of_mem_take (List.mem_of_mem_drop hx))) h.may (by rw [h.play, raw_app bs h.bt]) hc
  rw [raw_app bs h.bt] at c
  rw [← et] at a b c d
  refine ⟨a, (h.leads.more b).trans c (by simp only [List.length_take]; omega), ?_⟩
  obtain ⟨q, q1, q2⟩ := h.full
  refine ⟨q, q1, ?_⟩
  have := padTo_round s.t.p _ q2
  rw [hrl] at d
  omega

theorem Inv.cut {bs : List Nat} (hb : ∀ b ∈ bs, b < 256) {s : Ms} (h : Inv bs s) (h6 : s.told = s.begin + 65535) {t' : Bt} (he : EndR bs s false t') : Inv bs (cutS s t') := by
  obtain ⟨a, b, q, q1, q2⟩ := h.ends hb he
  exact ⟨Nat.le_refl _, h.tl, Nat.le_add_right _ _, trivial, rfl, by simp [cutS], h.top, a, b, q + 1, by show s.told = _; omega, q2⟩

theorem Inv.start (bs : List Nat) : Inv bs (startS bs) := by
  refine ⟨Nat.le_refl _, Nat.zero_le _, Nat.zero_le _, trivial, rfl, Nat.zero_le _, ⟨fun x hx => ?_, fun x hx => ?_⟩, by show (0 : Nat) < 2 ^ 0; decide, Leads.refl _ _, 0, rfl, Nat.zero_le _⟩
  · rw [(List.mem_replicate.1 hx).2]; exact Nat.zero_le _
  · rw [(List.mem_replicate.1 hx).2]; exact Nat.zero_le _

theorem Inv.next {bs : List Nat} (hb : ∀ b ∈ bs, b < 256) {s s' : Ms} (h : Inv bs s) (hlt : s.told < bs.length) (hn : Nx bs s s') : Inv bs s' := by
  rcases hn with ⟨h1, rfl⟩ | ⟨h1, t', he, rfl⟩
  · exact h.tell hb hlt (by have := h.t6; omega)
  · exact (h.cut hb h1 he).tell hb hlt (by show s.told < s.told + 65535; omega)

theorem Rch.inv {bs : List Nat} (hb : ∀ b ∈ bs, b < 256) {s : Ms} (h : Rch bs s) : Inv bs s := by
  induction h with
  | start => exact Inv.start bs
  | step _ hlt hn ih => exact ih.next hb hlt hn

/-- How long a stream is. -/
theorem Stream.len {bs os : List Nat} (hb : ∀ b ∈ bs, b < 256) (h : Stream bs os) : os.length ≤ mostF bs.length := by
  obtain ⟨s, t', r, e, f, g⟩ := h
  obtain ⟨_, _, q, q1, q2⟩ := (r.inv hb).ends hb f
  have hi := r.inv hb
  have h1 := hi.bt
  have h2 := hi.t6
  have hl := g.1
  unfold mostF
  by_cases h0 : bs.length = 0
  · omega
  · omega

/-- What a stream is read as. -/
theorem Stream.reads {bs os : List Nat} (hb : ∀ b ∈ bs, b < 256) (h : Stream bs os) : ∃ t' : Bt, t'.ok ∧ Bts t' os ∧ Leads t' ⟨0, false, [], .ahead⟩ ⟨t'.p, true, bs, .ahead⟩ := by
  obtain ⟨s, t', r, e, f, g⟩ := h
  obtain ⟨a, b, _⟩ := (r.inv hb).ends hb f
  rw [e, List.take_length] at b
  exact ⟨t', a, g, b⟩
end Go.Proofs.YtmefhngmgfmhoaaDoor

/-
  A Machine advances.
-/
namespace Go.Proofs.YtmefhngmgfmhoaaDoor
open Go.RowKit

/-- A Machine at work on bs stands at s. -/
structure MSt (w : World) (lo M : Nat) (bs : List Nat) (taken : Nat) (s : Ms) : Prop where
  rch : Rch bs s
  ex : ∃ cs N1 N2 g, Mc w lo M cs bs N1 N2 (kOf bs) taken s.told s.begin s.told s.ps s.nw s.od g s.t

/-- A Machine that is done. -/
structure Md (w : World) (lo M : Nat) (os : List Nat) : Prop where
  ex : ∃ cs oa oc, w.heap[M]? = some (.cells cs 73 (0, 0)) ∧ cs[12]? = some (.slice oa os.length oc) ∧ w.ownsRow lo 5 1 (.slice oa os.length oc) os.length (cellsOf os) ∧ cs[13]? = some (.bool true)
  loM : lo ≤ M

theorem MSt.keep {w w1 : World} {lo M : Nat} {bs : List Nat} {taken : Nat} {s : Ms} (h : MSt w lo M bs taken s) {S : Nat → Prop} (f : Fr S w w1) (hS : ∀ i, lo ≤ i → i < w.heap.size → ¬ S i) (hG : ¬ S 0) : MSt w1 lo M bs taken s := by
  obtain ⟨cs, N1, N2, g, h1⟩ := h.ex
  exact ⟨h.rch, cs, N1, N2, g, h1.keep f hS hG⟩

theorem inv_p {bs : List Nat} {s : Ms} (h : Inv bs s) (hl : bs.length ≤ 4194304) : s.t.p ≤ 40000000 ∧ s.ps.length ≤ 65535 := by
  obtain ⟨q, q1, q2⟩ := h.full
  have h1 := h.bt
  have h2 := h.tl
  have h3 := h.cnt
  have h4 := h.t6
  exact ⟨by omega, by omega⟩

def toldOf (w : World) (M : Nat) : Nat := match w.cell? ⟨M, 2, none⟩ with
  | some v => (intOf v).toNat
  | none => 0

theorem MSt.told {w : World} {lo M : Nat} {bs : List Nat} {taken : Nat} {s : Ms} (h : MSt w lo M bs taken s) : toldOf w M = s.told := by
  obtain ⟨cs, N1, N2, g, h1⟩ := h.ex
  unfold toldOf
  rw [cell_of (o := 2) h1.blk h1.c2]
  simp [intOf]

theorem arr14 {cs : Array Value} (h : cs.size = 14) : ∃ x0 x1 x2 x3 x4 x5 x6 x7 x8 x9 x10 x11 x12 x13, cs = #[x0, x1, x2, x3, x4, x5, x6, x7, x8, x9, x10, x11, x12, x13] := by
  obtain ⟨l⟩ := cs
  match l, h with
  | [x0, x1, x2, x3, x4, x5, x6, x7, x8, x9, x10, x11, x12, x13], _ => exact ⟨x0, x1, x2, x3, x4, x5, x6, x7, x8, x9, x10, x11, x12, x13, rfl⟩

theorem set14 {w4 : World} {M : Nat} {x0 x1 x2 x3 x4 x5 x6 x7 x8 x9 x10 x11 x12 x13 : Value} {T : TypeId} (h : w4.heap[M]? = some (.cells #[x0, x1, x2, x3, x4, x5, x6, x7, x8, x9, x10, x11, x12, x13] T (0, 0))) (y0 y1 y2 y3 y4 y5 y6 y7 y8 y9 y10 y11 y12 y13 : Value) :
    ((((((((((((((w4.setCell ⟨M, 0, none⟩ y0).setCell ⟨M, 1, none⟩ y1).setCell ⟨M, 2, none⟩ y2).setCell ⟨M, 3, none⟩ y3).setCell ⟨M, 4, none⟩ y4).setCell ⟨M, 5, none⟩ y5).setCell ⟨M, 6, none⟩ y6).setCell ⟨M, 7, none⟩ y7).setCell ⟨M, 8, none⟩ y8).setCell ⟨M, 9, none⟩ y9).setCell ⟨M, 10, none⟩ y10).setCell ⟨M, 11, none⟩ y11).setCell ⟨M, 12, none⟩ y12).setCell ⟨M, 13, none⟩ y13).heap[M]? = some (.cells #[y0, y1, y2, y3, y4, y5, y6, y7, y8, y9, y10, y11, y12, y13] T (0, 0)) ∧ Fr (fun i => i = M) w4 ((((((((((((((w4.setCell ⟨M, 0, none⟩ y0).setCell ⟨M, 1, none⟩ y1).setCell ⟨M, 2, none⟩ y2).setCell ⟨M, 3, none⟩ y3).setCell ⟨M, 4, none⟩ y4).setCell ⟨M, 5, none⟩ y5).setCell ⟨M, 6, none⟩ y6).setCell ⟨M, 7, none⟩ y7).setCell ⟨M, 8, none⟩ y8).setCell ⟨M, 9, none⟩ y9).setCell ⟨M, 10, none⟩ y10).setCell ⟨M, 11, none⟩ y11).setCell ⟨M, 12, none⟩ y12).setCell ⟨M, 13, none⟩ y13) := by
  have e0 : (w4.setCell ⟨M, 0, none⟩ y0).heap[M]? = some (.cells #[y0, x1, x2, x3, x4, x5, x6, x7, x8, x9, x10, x11, x12, x13] T (0, 0)) := heap_setCell_own (o := 0) y0 h
  have e1 : ((w4.setCell ⟨M, 0, none⟩ y0).setCell ⟨M, 1, none⟩ y1).heap[M]? = some (.cells #[y0, y1, x2, x3, x4, x5, x6, x7, x8, x9, x10, x11, x12, x13] T (0, 0)) := heap_setCell_own (o := 1) y1 e0
  have e2 : (((w4.setCell ⟨M, 0, none⟩ y0).setCell ⟨M, 1, none⟩ y1).setCell ⟨M, 2, none⟩ y2).heap[M]? = some (.cells #[y0, y1, y2, x3, x4, x5, x6, x7, x8, x9, x10, x11, x12, x13] T (0, 0)) := heap_setCell_own (o := 2) y2 e1
  have e3 : ((((w4.setCell ⟨M, 0, none⟩ y0).setCell ⟨M, 1, none⟩ y1).setCell ⟨M, 2, none⟩ y2).setCell ⟨M, 3, none⟩ y3).heap[M]? = some (.cells #[y0, y1, y2, y3, x4, x5, x6, x7, x8, x9, x10, x11, x12, x13] T (0, 0)) := heap_setCell_own (o := 3) y3 e2
  have e4 : (((((w4.setCell ⟨M, 0, none⟩ y0).setCell ⟨M, 1, none⟩ y1).setCell ⟨M, 2, none⟩ y2).setCell ⟨M, 3, none⟩ y3).setCell ⟨M, 4, none⟩ y4).heap[M]? = some (.cells #[y0, y1, y2, y3, y4, x5, x6, x7, x8, x9, x10, x11, x12, x13] T (0, 0)) := heap_setCell_own (o := 4) y4 e3
  have e5 : ((((((w4.setCell ⟨M, 0, none⟩ y0).setCell ⟨M, 1, none⟩ y1).setCell ⟨M, 2, none⟩ y2).setCell ⟨M, 3, none⟩ y3).setCell ⟨M, 4, none⟩ y4).setCell ⟨M, 5, none⟩ y5).heap[M]? = some (.cells #[y0, y1, y2, y3, y4, y5, x6, x7, x8, x9, x10, x11, x12, x13] T (0, 0)) := heap_setCell_own (o := 5) y5 e4
  have e6 : (((((((w4.setCell ⟨M, 0, none⟩ y0).setCell ⟨M, 1, none⟩ y1).setCell ⟨M, 2, none⟩ y2).setCell ⟨M, 3, none⟩ y3).setCell ⟨M, 4, none⟩ y4).setCell ⟨M, 5, none⟩ y5).setCell ⟨M, 6, none⟩ y6).heap[M]? = some (.cells #[y0, y1, y2, y3, y4, y5, y6, x7, x8, x9, x10, x11, x12, x13] T (0, 0)) := heap_setCell_own (o := 6) y6 e5
  have e7 : ((((((((w4.setCell ⟨M, 0, none⟩ y0).setCell ⟨M, 1, none⟩ y1).setCell ⟨M, 2, none⟩ y2).setCell ⟨M, 3, none⟩ y3).setCell ⟨M, 4, none⟩ y4).setCell ⟨M, 5, none⟩ y5).setCell ⟨M, 6, none⟩ y6).setCell ⟨M, 7, none⟩ y7).heap[M]? = some (.cells #[y0, y1, y2, y3, y4, y5, y6, y7, x8, x9, x10, x11, x12, x13] T (0, 0)) := heap_setCell_own (o := 7) y7 e6
  have e8 : (((((((((w4.setCell ⟨M, 0, none⟩ y0).setCell ⟨M, 1, none⟩ y1).setCell ⟨M, 2, none⟩ y2).setCell ⟨M, 3, none⟩ y3).setCell ⟨M, 4, none⟩ y4).setCell ⟨M, 5, none⟩ y5).setCell ⟨M, 6, none⟩ y6).setCell ⟨M, 7, none⟩ y7).setCell ⟨M, 8, none⟩ y8).heap[M]? = some (.cells #[y0, y1, y2, y3, y4, y5, y6, y7, y8, x9, x10, x11, x12, x13] T (0, 0)) := heap_setCell_own (o := 8) y8 e7
  have e9 : ((((((((((w4.setCell ⟨M, 0, none⟩ y0).setCell ⟨M, 1, none⟩ y1).setCell ⟨M, 2, none⟩ y2).setCell ⟨M, 3, none⟩ y3).setCell ⟨M, 4, none⟩ y4).setCell ⟨M, 5, none⟩ y5).setCell ⟨M, 6, none⟩ y6).setCell ⟨M, 7, none⟩ y7).setCell ⟨M, 8, none⟩ y8).setCell ⟨M, 9, none⟩ y9).heap[M]? = some (.cells #[y0, y1, y2, y3, y4, y5, y6, y7, y8, y9, x10, x11, x12, x13] T (0, 0)) := heap_setCell_own (o := 9) y9 e8
  have e10 : (((((((((((w4.setCell ⟨M, 0, none⟩ y0).setCell ⟨M, 1, none⟩ y1).setCell ⟨M, 2, none⟩ y2).setCell ⟨M, 3, none⟩ y3).setCell ⟨M, 4, none⟩ y4).setCell ⟨M, 5, none⟩ y5).setCell ⟨M, 6, none⟩ y6).setCell ⟨M, 7, none⟩ y7).setCell ⟨M, 8, none⟩ y8).setCell ⟨M, 9, none⟩ y9).setCell ⟨M, 10, none⟩ y10).heap[M]? = some (.cells #[y0, y1, y2, y3, y4, y5, y6, y7, y8, y9, y10, x11, x12, x13] T (0, 0)) := heap_setCell_own (o := 10) y10 e9
  have e11 : ((((((((((((w4.setCell ⟨M, 0, none⟩ y0).setCell ⟨M, 1, none⟩ y1).setCell ⟨M, 2, none⟩ y2).setCell ⟨M, 3, none⟩ y3).setCell ⟨M, 4, none⟩ y4).setCell ⟨M, 5, none⟩ y5).setCell ⟨M, 6, none⟩ y6).setCell ⟨M, 7, none⟩ y7).setCell ⟨M, 8, none⟩ y8).setCell ⟨M, 9, none⟩ y9).setCell ⟨M, 10, none⟩ y10).setCell ⟨M, 11, none⟩ y11).heap[M]? = some (.cells #[y0, y1, y2, y3, y4, y5, y6, y7, y8, y9, y10, y11, x12, x13] T (0, 0)) := heap_setCell_own (o := 11) y11 e10
  have e12 : (((((((((((((w4.setCell ⟨M, 0, none⟩ y0).setCell ⟨M, 1, none⟩ y1).setCell ⟨M, 2, none⟩ y2).setCell ⟨M, 3, none⟩ y3).setCell ⟨M, 4, none⟩ y4).setCell ⟨M, 5, none⟩ y5).setCell ⟨M, 6, none⟩ y6).setCell ⟨M, 7, none⟩ y7).setCell ⟨M, 8, none⟩ y8).setCell ⟨M, 9, none⟩ y9).setCell ⟨M, 10, none⟩ y10).setCell ⟨M, 11, none⟩ y11).setCell ⟨M, 12, none⟩ y12).heap[M]? = some (.cells #[y0, y1, y2, y3, y4, y5, y6, y7, y8, y9, y10, y11, y12, x13] T (0, 0)) := heap_setCell_own (o := 12) y12 e11
  have e13 : ((((((((((((((w4.setCell ⟨M, 0, none⟩ y0).setCell ⟨M, 1, none⟩ y1).setCell ⟨M, 2, none⟩ y2).setCell ⟨M, 3, none⟩ y3).setCell ⟨M, 4, none⟩ y4).setCell ⟨M, 5, none⟩ y5).setCell ⟨M, 6, none⟩ y6).setCell ⟨M, 7, none⟩ y7).setCell ⟨M, 8, none⟩ y8).setCell ⟨M, 9, none⟩ y9).setCell ⟨M, 10, none⟩ y10).setCell ⟨M, 11, none⟩ y11).setCell ⟨M, 12, none⟩ y12).setCell ⟨M, 13, none⟩ y13).heap[M]? = some (.cells #[y0, y1, y2, y3, y4, y5, y6, y7, y8, y9, y10, y11, y12, y13] T (0, 0)) := heap_setCell_own (o := 13) y13 e12
  refine ⟨e13, ?_⟩
  exact (((((((((((((Fr.of_setCell w4 ⟨M, 0, none⟩ y0).join (Fr.of_setCell _ ⟨M, 1, none⟩ y1)).join (Fr.of_setCell _ ⟨M, 2, none⟩ y2)).join (Fr.of_setCell _ ⟨M, 3, none⟩ y3)).join (Fr.of_setCell _ ⟨M, 4, none⟩ y4)).join (Fr.of_setCell _ ⟨M, 5, none⟩ y5)).join (Fr.of_setCell _ ⟨M, 6, none⟩ y6)).join (Fr.of_setCell _ ⟨M, 7, none⟩ y7)).join (Fr.of_setCell _ ⟨M, 8, none⟩ y8)).join (Fr.of_setCell _ ⟨M, 9, none⟩ y9)).join (Fr.of_setCell _ ⟨M, 10, none⟩ y10)).join (Fr.of_setCell _ ⟨M, 11, none⟩ y11)).join (Fr.of_setCell _ ⟨M, 12, none⟩ y12)).join (Fr.of_setCell _ ⟨M, 13, none⟩ y13)

set_option maxHeartbeats 3200000 in
set_option maxRecDepth 100000 in
theorem advance_c (lo M taken : Nat) (bs : List Nat) (s : Ms) (w : World) (h : MSt w lo M bs taken s) (ht : taken ≤ bs.length) :
    Calls Tryd.prog 26 #[.pointer (some ⟨M, 0, none⟩)] w fun e w' => e = .returned (.tuple #[]) ∧ Fr (fun i => lo ≤ i) w w' ∧ ((taken < bs.length ∧ ∃ s', MSt w' lo M bs taken s' ∧ taken ≤ s'.told) ∨ (taken = bs.length ∧ ∃ os, Stream bs os ∧ Md w' lo M os)) := by
  have H := hide h
  have hlen : bs.length ≤ 4194304 := by obtain ⟨cs, N1, N2, g, h1⟩ := h.ex; exact h1.len
  have Hby : Hid (∀ b ∈ bs, b < 256) := by obtain ⟨cs, N1, N2, g, h1⟩ := h.ex; exact h1.byt
  have hlm : lo ≤ M := by obtain ⟨cs, N1, N2, g, h1⟩ := h.ex; exact h1.loM.1
  obtain ⟨n, hn⟩ : ∃ n, n = bs.length := ⟨_, rfl⟩
  rw [← hn] at ht hlen ⊢
  have Hn := hide hn
  clear h hn
  go_enter Tryd.func26, Tryd.ntmps26
  go_wp2_with fail
  go_loopw [2] (fun _ wr => ∃ s', MSt wr lo M bs taken s' ∧ Fr (fun i => lo ≤ i) w wr) (fun _ wr => n - toldOf wr M)
  case atStart => exact ⟨s, H.out, Fr.refl _ _⟩
  case round =>
    obtain ⟨s1, hS, hF⟩ := hrel
    obtain ⟨cs, N1, N2, g, hM⟩ := hS.ex
    have hI := hS.rch.inv Hby.out
    obtain ⟨hp, hpl⟩ := inv_p hI (by rw [← Hn.out]; exact hlen)
    have k1 := cell_of (o := 1) hM.blk hM.c1
    have k2 := cell_of (o := 2) hM.blk hM.c2
    have k3 := cell_of (o := 3) hM.blk hM.c3
    have htold := hS.told
    have hRch := hide hS.rch
    have hbt := hI.bt
    have htl := hI.tl
    have ht6 := hI.t6
    have HI := hide hI
    have HM := hide hM
    have HF := hide hF
    have Htold := hide htold
    rw [← Hn.out] at htl
    obtain ⟨told, begin, ps, nw, od, t⟩ := s1
    simp only at k1 k2 k3 hp hpl hbt htl ht6 HM Htold
    have i1 : (told : Int) ≤ 4194304 := by omega
    have i2 : (begin : Int) ≤ 4194304 := by omega
    have i3 : (taken : Int) ≤ 4194304 := by omega
    clear hS hM hI hF htold
    by_cases hlt : told < taken
    · have hlti : (told : Int) < (taken : Int) := by omega
      go_wp2_with fail
      go_quiet (fail)
      have hM1 := HM.out.keep (Fr.of_drewN wr nq) (fun _ _ _ e => e) (fun e => e)
      have hF1 := HF.out.trans (Fr.of_drewN wr nq)
      generalize wr.drewN nq = w1 at hM1 hF1 ⊢
      have HM1 := hide hM1
      have HF1 := hide (hF1.mono (S' := fun i => lo ≤ i) fun i _ e => e.elim id (fun e => e.elim))
      clear k1 k2 k3
      have k2 := cell_of (o := 2) hM1.blk hM1.c2
      have k3 := cell_of (o := 3) hM1.blk hM1.c3
      clear hM1 hF1
      by_cases hfull : told = begin + 65535
      · have hfb : ((told : Int) == (begin : Int) + 65535) = true := beq_iff_eq.2 (by omega)
        have Hfull := hide hfull
        clear hfull
        go_wp2_with fail
        go_quiet (fail)
        have hM2 := HM1.out.keep (Fr.of_drewN w1 nq) (fun _ _ _ e => e) (fun e => e)
        have hF2 := HF1.out.trans (Fr.of_drewN w1 nq)
        generalize w1.drewN nq = w2 at hM2 hF2 ⊢
        have HM2 := hide hM2
        have HF2 := hide (hF2.mono (S' := fun i => lo ≤ i) fun i _ e => e.elim id (fun e => e.elim))
        clear hM2 hF2 k2 k3
        go_wp2_with fail
        refine (calls_args (endBlock_c lo M N1 N2 (kOf bs) taken told begin told cs bs ps nw od g t false w2 HM2.out hbt (by rw [← Hn.out]; exact htl) (by omega) HI.out.may hpl (by omega)) (by rfl)).mono ?_
        rintro e w3 ⟨rfl, oL, oD, oC, cs3, g3, hCds, hM3, hF3⟩
        have HM3 := hide hM3
        have HF3 := hide (HF2.out.join hF3)
        have HE : Hid (EndR bs ⟨told, begin, ps, nw, od, t⟩ false (blockF t false ((bs.take told).drop begin) ps oL oD oC)) := ⟨oL, oD, oC, hCds, rfl⟩
        generalize blockF t false ((bs.take told).drop begin) ps oL oD oC = t3 at HM3 HE
        clear hM3 hF3 hCds
        go_wp2_with fail
        refine (calls_args (tellNext_c lo M N1 N2 (kOf bs) taken told told cs3 bs [] nw od g3 t3 w3 HM3.out (Nat.le_refl _) (by omega) (by rw [← Hn.out]; omega) (by simp)) (by rfl)).mono ?_
        rintro e w4 ⟨rfl, cs4, hM4, hF4⟩
        have hst : MSt w4 lo M bs taken (tellF bs (cutS ⟨told, begin, ps, nw, od, t⟩ t3)) := ⟨hRch.out.step (by rw [← Hn.out]; show told < n; omega) (Or.inr ⟨Hfull.out, t3, HE.out, rfl⟩), cs4, N1, N2, g3, hM4⟩
        have Hst := hide hst
        have HF4 := hide (HF3.out.join hF4)
        have hmore : told < toldOf w4 M := by rw [hst.told]; show told < told + _; unfold advOf; omega
        clear hM4 hF4 hst
        go_wp2
        go_roundw
        case rel => exact ⟨_, Hst.out, HF4.out⟩
        case measure => have := Htold.out; omega
      · have hfb : ((told : Int) == (begin : Int) + 65535) = false := beq_false_of_ne (by omega)
        go_wp2_with fail
        go_quiet (fail)
        have hM2 := HM1.out.keep (Fr.of_drewN w1 nq) (fun _ _ _ e => e) (fun e => e)
        have hF2 := HF1.out.trans (Fr.of_drewN w1 nq)
        generalize w1.drewN nq = w2 at hM2 hF2 ⊢
        have HM2 := hide hM2
        have HF2 := hide (hF2.mono (S' := fun i => lo ≤ i) fun i _ e => e.elim id (fun e => e.elim))
        clear hM2 hF2 k2 k3
        go_wp2_with fail
        refine (calls_args (tellNext_c lo M N1 N2 (kOf bs) taken told begin cs bs ps nw od g t w2 HM2.out hbt (by omega) (by rw [← Hn.out]; omega) hpl) (by rfl)).mono ?_
        rintro e w4 ⟨rfl, cs4, hM4, hF4⟩
        have hst : MSt w4 lo M bs taken (tellF bs ⟨told, begin, ps, nw, od, t⟩) := ⟨hRch.out.step (by rw [← Hn.out]; show told < n; omega) (Or.inl ⟨hfull, rfl⟩), cs4, N1, N2, g, hM4⟩
        have Hst := hide hst
        have HF4 := hide (HF2.out.join hF4)
        have hmore : told < toldOf w4 M := by rw [hst.told]; show told < told + _; unfold advOf; omega
        clear hM4 hF4 hst
        go_wp2
        go_roundw
        case rel => exact ⟨_, Hst.out, HF4.out⟩
        case measure => have := Htold.out; omega
    · have hlti : ¬ (told : Int) < (taken : Int) := by omega
      go_wp2_with fail
      go_quiet (fail)
      have hM1 := HM.out.keep (Fr.of_drewN wr nq) (fun _ _ _ e => e) (fun e => e)
      have hF1 := HF.out.trans (Fr.of_drewN wr nq)
      generalize wr.drewN nq = w1 at hM1 hF1 ⊢
      have HM1 := hide hM1
      have HF1 := hide (hF1.mono (S' := fun i => lo ≤ i) fun i _ e => e.elim id (fun e => e.elim))
      clear k1 k2 k3
      have k1 := cell_of (o := 1) hM1.blk hM1.c1
      obtain ⟨da, dc, hda, _⟩ := hM1.c0
      rw [← Hn.out] at hda
      have k0 := cell_of (o := 0) hM1.blk hda
      clear hM1 hF1 hda
      by_cases hall : taken = n
      · have hab : ((taken : Int) == (n : Int)) = true := beq_iff_eq.2 (by omega)
        have Hall := hide hall
        have htn : told = n := by omega
        clear hall
        go_wp2_with fail
        go_quiet (fail)
        have hM2 := HM1.out.keep (Fr.of_drewN w1 nq) (fun _ _ _ e => e) (fun e => e)
        have hF2 := HF1.out.trans (Fr.of_drewN w1 nq)
        generalize w1.drewN nq = w2 at hM2 hF2 ⊢
        have HM2 := hide hM2
        have HF2 := hide (hF2.mono (S' := fun i => lo ≤ i) fun i _ e => e.elim id (fun e => e.elim))
        have Htn := hide htn
        clear hM2 hF2 k0 k1 htn
        go_wp2_with fail
        refine (calls_args (endBlock_c lo M N1 N2 (kOf bs) taken told begin told cs bs ps nw od g t true w2 HM2.out hbt (by rw [← Hn.out]; exact htl) (by omega) HI.out.may hpl (by omega)) (by rfl)).mono ?_
        rintro e w3 ⟨rfl, oL, oD, oC, cs3, g3, hCds, hM3, hF3⟩
        have HM3 := hide hM3
        have HF3 := hide (HF2.out.join hF3)
        have HE : Hid (EndR bs ⟨told, begin, ps, nw, od, t⟩ true (blockF t true ((bs.take told).drop begin) ps oL oD oC)) := ⟨oL, oD, oC, hCds, rfl⟩
        generalize blockF t true ((bs.take told).drop begin) ps oL oD oC = t3 at HM3 HE
        have hp3 : t3.p ≤ 2147480000 := by
          obtain ⟨_, _, q, q1, q2⟩ := HI.out.ends Hby.out HE.out
          simp only at q1 q2
          omega
        clear hM3 hF3 hCds
        go_wp2_with fail
        refine (calls_args (penOut_c 73 M 7 cs3 g3 t3 w3 HM3.out.pn hp3) (by rfl)).mono ?_
        rintro e w4 ⟨oa, oc, os, hBts, rfl, hown, hF4⟩
        have hM4 := HM3.out.keep hF4 (fun _ _ _ e => e) (fun e => e)
        have Hown := hide hown
        have HF4 := hide ((HF3.out.trans hF4).mono (S' := fun i => lo ≤ i) fun i _ e => e.elim id (fun e => e.elim))
        have HM4 := hide hM4
        have HBts := hide hBts
        obtain ⟨N, hN⟩ : ∃ N, N = os.length := ⟨_, rfl⟩
        rw [← hN]
        have HN := hide hN
        have hblk4 := hM4.blk
        obtain ⟨x0, x1, x2, x3, x4, x5, x6, x7, x8, x9, x10, x11, x12, x13, hcs⟩ := arr14 hM4.sz
        rw [hcs] at hblk4
        have hlM := hM4.loM
        have hl34 := HF3.out.size
        have HB4 := hide hblk4
        have c0 := cell_of (o := 0) hblk4 rfl
        have f0 := frozen_of (o := 0) hblk4
        have c1 := cell_of (o := 1) hblk4 rfl
        have f1 := frozen_of (o := 1) hblk4
        have c2 := cell_of (o := 2) hblk4 rfl
        have f2 := frozen_of (o := 2) hblk4
        have c3 := cell_of (o := 3) hblk4 rfl
        have f3 := frozen_of (o := 3) hblk4
        have c4 := cell_of (o := 4) hblk4 rfl
        have f4 := frozen_of (o := 4) hblk4
        have c5 := cell_of (o := 5) hblk4 rfl
        have f5 := frozen_of (o := 5) hblk4
        have c6 := cell_of (o := 6) hblk4 rfl
        have f6 := frozen_of (o := 6) hblk4
        have c7 := cell_of (o := 7) hblk4 rfl
        have f7 := frozen_of (o := 7) hblk4
        have c8 := cell_of (o := 8) hblk4 rfl
        have f8 := frozen_of (o := 8) hblk4
        have c9 := cell_of (o := 9) hblk4 rfl
        have f9 := frozen_of (o := 9) hblk4
        have c10 := cell_of (o := 10) hblk4 rfl
        have f10 := frozen_of (o := 10) hblk4
        have c11 := cell_of (o := 11) hblk4 rfl
        have f11 := frozen_of (o := 11) hblk4
        have c12 := cell_of (o := 12) hblk4 rfl
        have f12 := frozen_of (o := 12) hblk4
        have c13 := cell_of (o := 13) hblk4 rfl
        have f13 := frozen_of (o := 13) hblk4
        have hM3l := lt_of HM3.out.blk
        clear hM4 hown hF4 hBts hN hblk4 hcs
        go_wp2
        go_end0
        obtain ⟨e14, f14⟩ := set14 HB4.out (.slice none 0 0) (.int .i64 0) (.int .i64 0) (.int .i64 0) (.slice none 0 0) (.slice none 0 0) (.slice none 0 0) (.slice none 0 0) (.int .i64 0) (.slice none 0 0) (.int .i64 0) (.int .i64 0) (.slice oa N oc) (.bool true)
        refine ⟨rfl, (HF4.out.trans f14).mono fun i _ e => e.elim id (fun e => by omega), Or.inr ⟨Hall.out, os, ⟨⟨told, begin, ps, nw, od, t⟩, t3, hRch.out, by rw [← Hn.out]; exact Htn.out, HE.out, HBts.out⟩, ⟨_, oa, oc, e14, by rw [← HN.out]; rfl, ?_, rfl⟩, hlM.1⟩⟩
        have ho := Hown.out
        have ho2 : w4.ownsRow lo 5 1 (.slice oa os.length oc) os.length (cellsOf os) := ⟨ho.1, ho.2.imp id fun ⟨g, cap, cur, z1, z2, z3⟩ => ⟨g, cap, cur, z1, by omega, z3⟩⟩
        exact ownsRow_fr ho2 fun j hj => f14.block j (ho2.lt j hj).2 (fun e => by have := (ho.lt j hj).1; omega)
      · have hab : ((taken : Int) == (n : Int)) = false := beq_false_of_ne (by omega)
        go_wp2_with fail
        go_quiet (fail)
        have hM2 := HM1.out.keep (Fr.of_drewN w1 nq) (fun _ _ _ e => e) (fun e => e)
        have hF2 := HF1.out.trans (Fr.of_drewN w1 nq)
        generalize w1.drewN nq = w2 at hM2 hF2 ⊢
        have HM2 := hide hM2
        have HF2 := hide (hF2.mono (S' := fun i => lo ≤ i) fun i _ e => e.elim id (fun e => e.elim))
        clear hM2 hF2 k0 k1
        go_wp2
        go_end0
        exact ⟨rfl, HF2.out, Or.inl ⟨by omega, ⟨told, begin, ps, nw, od, t⟩, ⟨hRch.out, cs, N1, N2, g, HM2.out⟩, by show taken ≤ told; omega⟩⟩
end Go.Proofs.YtmefhngmgfmhoaaDoor

/-
  A Machine: New, Step, and All.
-/
namespace Go.Proofs.YtmefhngmgfmhoaaDoor
open Go.RowKit

theorem Md.keep {w w1 : World} {lo M : Nat} {os : List Nat} (h : Md w lo M os) {S : Nat → Prop} (f : Fr S w w1) (hS : ∀ i, lo ≤ i → i < w.heap.size → ¬ S i) : Md w1 lo M os := by
  obtain ⟨cs, oa, oc, h1, h2, h3, h4⟩ := h.ex
  exact ⟨⟨cs, oa, oc, cells_at h1 f (hS M h.loM (lt_of h1)), h2, ownsRow_fr h3 fun j hj => f.block j (h3.lt j hj).2 (hS j (h3.lt j hj).1 (h3.lt j hj).2), h4⟩, h.loM⟩

/-- How far a step goes. -/
def stepTo (taken len : Nat) (n : Int) : Nat := if 0 < n then taken + min n.toNat (len - taken) else taken

set_option maxHeartbeats 800000 in
set_option maxRecDepth 100000 in
theorem step_done (lo M : Nat) (os : List Nat) (n : Int) (w : World) (h : Md w lo M os) :
    Calls Tryd.prog 16 #[.pointer (some ⟨M, 0, none⟩), .int .i64 n] w fun e w' => e = .returned (.bool true) ∧ w = w' := by
  obtain ⟨cs, oa, oc, h1, h2, h3, h4⟩ := h.ex
  have k := cell_of (o := 13) h1 h4
  clear h h1 h2 h3 h4
  by_cases hn : 0 < n
  · go_enter Tryd.func16, Tryd.ntmps16
    go_wp2
    go_ret
    exact ⟨rfl, rfl⟩
  · go_enter Tryd.func16, Tryd.ntmps16
    go_wp2
    go_ret
    exact ⟨rfl, rfl⟩

set_option maxHeartbeats 800000 in
set_option maxRecDepth 100000 in
theorem step_idle (lo M taken : Nat) (bs : List Nat) (s : Ms) (n : Int) (w : World) (h : MSt w lo M bs taken s) (hn : n ≤ 0) :
    Calls Tryd.prog 16 #[.pointer (some ⟨M, 0, none⟩), .int .i64 n] w fun e w' => e = .returned (.bool false) ∧ w = w' := by
  obtain ⟨cs, N1, N2, g, hM⟩ := h.ex
  have k := cell_of (o := 13) hM.blk hM.c13
  have hn2 : ¬ 0 < n := by omega
  clear h hM
  go_enter Tryd.func16, Tryd.ntmps16
  go_wp2
  go_ret
  exact ⟨rfl, rfl⟩

set_option maxHeartbeats 1600000 in
set_option maxRecDepth 100000 in
theorem step_on (lo M taken : Nat) (bs : List Nat) (s : Ms) (n : Int) (w : World) (h : MSt w lo M bs taken s) (ht : taken ≤ bs.length) (hn : 0 < n) (hn2 : n ≤ 9223372036854775807) :
    Calls Tryd.prog 16 #[.pointer (some ⟨M, 0, none⟩), .int .i64 n] w fun e w' => Fr (fun i => lo ≤ i) w w' ∧ ((stepTo taken bs.length n < bs.length ∧ e = .returned (.bool false) ∧ ∃ s', MSt w' lo M bs (stepTo taken bs.length n) s') ∨ (stepTo taken bs.length n = bs.length ∧ e = .returned (.bool true) ∧ ∃ os, Stream bs os ∧ Md w' lo M os)) := by
  obtain ⟨cs, N1, N2, g, hM⟩ := h.ex
  have hR := h.rch
  have hlen := hM.len
  obtain ⟨da, dc, hda, hdo, _⟩ := hM.c0
  have k0 := cell_of (o := 0) hM.blk hda
  have k1 := cell_of (o := 1) hM.blk hM.c1
  have k13 := cell_of (o := 13) hM.blk hM.c13
  have f1 := frozen_of (o := 1) hM.blk
  obtain ⟨L, hL⟩ : ∃ L, L = bs.length := ⟨_, rfl⟩
  obtain ⟨T, hT⟩ : ∃ T, T = stepTo taken bs.length n := ⟨_, rfl⟩
  rw [← hT, ← hL]
  rw [← hL] at k0 ht hlen
  have hTv : T = taken + min n.toNat (L - taken) := by rw [hT, hL]; unfold stepTo; rw [if_pos hn]
  have hTL : T ≤ L := by omega
  obtain ⟨d, hd⟩ : ∃ d : Nat, d = min n.toNat (L - taken) := ⟨_, rfl⟩
  have hmin : (if (L : Int) - (taken : Int) < n then (L : Int) - (taken : Int) else n) = (d : Int) := by split <;> omega
  have hadd : (taken : Int) + (d : Int) = (T : Int) := by omega
  have i1 : (L : Int) ≤ 4194304 := by omega
  have i2 : (taken : Int) ≤ (L : Int) := by omega
  have i3 : (d : Int) ≤ 4194304 := by omega
  have i4 : (T : Int) ≤ 4194304 := by omega
  have hlm := hM.loM.1
  have HM := hide hM
  have HR := hide hR
  have HL := hide hL
  have hML := lt_of hM.blk
  clear h hM hR hda hdo hL hT hTv hd
  go_enter Tryd.func16, Tryd.ntmps16
  go_wp2_with fail
  go_region
  go_wp2_with fail
  have hM := HM.out
  obtain ⟨hM2, hF2⟩ := hM.upd 1 (.int .i64 (T : Int)) (by omega) (taken' := T) (told' := s.told) (begin' := s.begin) (ps' := s.ps) (get_set _ hM.c1) (by rw [Array.getElem?_setIfInBounds_ne (by omega)]; exact hM.c2) (by rw [Array.getElem?_setIfInBounds_ne (by omega)]; exact hM.c3) (by
    obtain ⟨x, y, z1, z2⟩ := hM.c4
    exact ⟨x, y, by rw [Array.getElem?_setIfInBounds_ne (by omega)]; exact z1, z2⟩)
  have hst : MSt (w.setCell ⟨M, 1, none⟩ (.int .i64 (T : Int))).drew lo M bs T s := ⟨HR.out, _, N1, N2, g, hM2.keep (Fr.of_drewN _ 1) (fun _ _ _ e => e) (fun e => e)⟩
  have hF3 : Fr (fun i => lo ≤ i) w (w.setCell ⟨M, 1, none⟩ (.int .i64 (T : Int))).drew := (hF2.trans (Fr.of_drewN _ 1)).mono fun i _ e => by
    rcases e with e | e
    · omega
    · exact e.elim
  generalize (w.setCell ⟨M, 1, none⟩ (.int .i64 (T : Int))).drew = w3 at hst hF3 ⊢
  have Hst := hide hst
  have HF3 := hide hF3
  clear hM hM2 hF2 hst hF3 k0 k1 k13 f1
  refine (calls_args (advance_c lo M T bs s w3 Hst.out (by rw [← HL.out]; exact hTL)) (by rfl)).mono ?_
  rintro e w4 ⟨rfl, hF4, hres⟩
  have HF4 := hide (HF3.out.join hF4)
  rw [← HL.out] at hres
  rcases hres with ⟨z1, s', z2, _⟩ | ⟨z1, os, z2, z3⟩
  · obtain ⟨cs', _, _, _, hM'⟩ := z2.ex
    have k13 := cell_of (o := 13) hM'.blk hM'.c13
    have Hz := hide z2
    clear z2 hM' hF4
    go_wp2
    go_ret
    exact ⟨HF4.out, Or.inl ⟨z1, rfl, s', Hz.out⟩⟩
  · obtain ⟨cs', _, _, hb, _, _, h13⟩ := z3.ex
    have k13 := cell_of (o := 13) hb h13
    have Hz := hide z2
    have Hz3 := hide z3
    have Hz1 := hide z1
    clear z1 z2 z3 hb hF4 h13
    go_wp2
    go_ret
    exact ⟨HF4.out, Or.inr ⟨Hz1.out, rfl, os, Hz.out, Hz3.out⟩⟩

set_option maxHeartbeats 1600000 in
set_option maxRecDepth 100000 in
theorem new_long (a : Option Addr) (n c : Nat) (w : World) (hn : 4194304 < n) (hn2 : n ≤ 2147483648) :
    Calls Tryd.prog 14 #[.slice a n c] w fun e w' => ∃ M, e = .returned (.pointer (some ⟨M, 0, none⟩)) ∧ Md w' w.heap.size M [] ∧ Fr (fun _ => False) w w' := by
  have hi : (4194304 : Int) < (n : Int) := by omega
  go_enter Tryd.func14, Tryd.ntmps14
  go_wp2
  go_ret
  refine ⟨w.heap.size, rfl, ⟨⟨_, none, 0, heap_alloc_at rfl, rfl, World.ownsRow_nil _ _ _ _, rfl⟩, Nat.le_refl _⟩, Fr.of_alloc _ _⟩

theorem own_lies5 {w : World} {lo c : Nat} {a : Option Addr} {bs : List Nat} (h : w.ownsRow lo 5 1 (.slice a bs.length c) bs.length (cellsOf bs)) : Lies w (.slice a bs.length c) bs := by
  rcases h.2 with ⟨hv, e0⟩ | ⟨g, cap, cur, hv, hg, hh, hr⟩
  · exact Or.inl ⟨hv, List.length_eq_zero_iff.1 e0⟩
  · obtain ⟨e1, _, _⟩ := Value.slice.inj hv
    subst e1
    exact Or.inr ⟨⟨g, 0, none⟩, c, rfl, fun j u hu => h.cells (g := g) rfl j u hu⟩

theorem cells_rep (n : Nat) : (List.replicate n 0).length = n := List.length_replicate

set_option maxHeartbeats 1600000 in
set_option maxRecDepth 100000 in
theorem new_c (a : Option Addr) (n c : Nat) (bs : List Nat) (w : World) (hl : Lies w (.slice a n c) bs) (hn : n = bs.length) (hn2 : n ≤ 4194304) (hb : ∀ b ∈ bs, b < 256) (hG : Gl w) :
    Calls Tryd.prog 14 #[.slice a n c] w fun e w' => ∃ M, e = .returned (.pointer (some ⟨M, 0, none⟩)) ∧ MSt w' w.heap.size M bs 0 (startS bs) ∧ Fr (fun _ => False) w w' := by
  have hi : ¬ (4194304 : Int) < (n : Int) := by omega
  have Hl := hide hl
  have Hn := hide hn
  have Hb := hide hb
  have HG := hide hG
  have hpos : 1 ≤ w.heap.size := cell_lt (hG 0 (by omega))
  have hlen : bs.length ≤ 4194304 := by omega
  clear hl hn hb hG
  go_enter Tryd.func14, Tryd.ntmps14
  go_wp2_with fail
  refine (calls_args (clone_c (.slice a n c) bs w Hl.out (by omega)) (by rfl)).mono ?_
  rintro e w1 ⟨da, dc, rfl, hown, hbel⟩
  have HF1 := hide ((Fr.of_below hbel).mono (S' := fun _ => False) (fun k hk h => by omega))
  have Hown := hide hown
  rw [← Hn.out]
  clear hown hbel
  go_wp2_with fail
  refine (calls_args (newFinder_c n w1) (by rfl)).mono ?_
  rintro e w2 ⟨N1, N2, rfl, hb1, hb2, hN1, hN2, hne, hF2⟩
  have ek : finK n 15 0 = kOf bs := by unfold kOf; rw [Hn.out]
  rw [ek] at hb1 hb2 ⊢
  have hk15 : kOf bs ≤ 15 := finK_le _ _ _ (by omega)
  obtain ⟨Z, hZ⟩ : ∃ Z, Z = 2 ^ kOf bs := ⟨_, rfl⟩
  rw [← hZ] at hb1 hb2 ⊢
  have HZ := hide hZ
  have Hb1 := hide hb1
  have Hb2 := hide hb2
  have HF2 := hide (HF1.out.join hF2)
  have Hf2 := hide hF2
  have hs1 := HF1.out.size
  clear hb1 hb2 hF2 hZ ek
  go_wp2
  go_ret
  obtain ⟨w3, hw3⟩ : ∃ w3, w3 = w2.alloc (.cells #[.slice da n dc, .int .i64 0, .int .i64 0, .int .i64 0, .slice none 0 0, .slice (some ⟨N1, 0, none⟩) Z Z, .slice (some ⟨N2, 0, none⟩) Z Z, .slice none 0 0, .int .i64 0, .slice none 0 0, .int .i64 0, .int .i64 0, .slice none 0 0, .bool false] 73) := ⟨_, rfl⟩
  rw [← hw3]
  have hF3 : Fr (fun _ => False) w2 w3 := by rw [hw3]; exact Fr.of_alloc _ _
  have hblk : w3.heap[w2.heap.size]? = some (.cells #[.slice da n dc, .int .i64 0, .int .i64 0, .int .i64 0, .slice none 0 0, .slice (some ⟨N1, 0, none⟩) Z Z, .slice (some ⟨N2, 0, none⟩) Z Z, .slice none 0 0, .int .i64 0, .slice none 0 0, .int .i64 0, .int .i64 0, .slice none 0 0, .bool false] 73 (0, 0)) := by rw [hw3]; exact heap_alloc_at rfl
  have ho := Hown.out
  have ho3 : w3.ownsRow w.heap.size 5 1 (.slice da bs.length dc) bs.length (cellsOf bs) := ownsRow_fr ho fun j hj => (Hf2.out.join hF3).block j (ho.lt j hj).2 (fun e => e)
  have g1 := cells_at Hb1.out hF3 (fun e => e)
  have g2 := cells_at Hb2.out hF3 (fun e => e)
  have hw2 := HF2.out.size
  refine ⟨w2.heap.size, rfl, ⟨Rch.start, #[.slice da n dc, .int .i64 0, .int .i64 0, .int .i64 0, .slice none 0 0, .slice (some ⟨N1, 0, none⟩) Z Z, .slice (some ⟨N2, 0, none⟩) Z Z, .slice none 0 0, .int .i64 0, .slice none 0 0, .int .i64 0, .int .i64 0, .slice none 0 0, .bool false], N1, N2, none, ?_⟩, HF2.out.join hF3⟩
  refine ⟨⟨⟨[], ⟨⟨.slice none 0 0, hblk, rfl, rfl, World.ownsRow_nil _ _ _ _, rfl⟩, fun k hk => by cases hk⟩, (show LowSt [] 0 from ⟨rfl, fun b hb => absurd hb (by simp), by decide⟩), rfl⟩, rfl⟩, rfl, ⟨da, dc, by rw [← Hn.out]; rfl, ho3, fun ad _ e => by cases e⟩, rfl, rfl, rfl, ⟨none, 0, rfl, World.ownsRow_nil _ _ _ _⟩, ⟨?_, ?_, ?_, ?_, ?_, ?_, ?_, ?_, ?_, ?_, hne, hk15⟩, rfl, rfl, ⟨hw2, by omega, by omega⟩, fun j hj => (by cases hj), hpos, (HG.out.keep (HF2.out.join hF3) (fun e => e)), Hb.out, hlen⟩
  · exact cell_of (o := 5) hblk (by rw [← HZ.out]; rfl)
  · exact cell_of (o := 6) hblk (by rw [← HZ.out]; rfl)
  · show _ = some (Obj.cells (cells32 (List.replicate (2 ^ kOf bs) 0)).toArray 21 (0, 0)); rw [← HZ.out]; exact g1
  · show _ = some (Obj.cells (cells32 (List.replicate (2 ^ kOf bs) 0)).toArray 21 (0, 0)); rw [← HZ.out]; exact g2
  · exact List.length_replicate
  · exact List.length_replicate
  · intro x hx; rw [(List.mem_replicate.1 hx).2]; exact Nat.zero_le _
  · intro x hx; rw [(List.mem_replicate.1 hx).2]; exact Nat.zero_le _
  · exact blk_ne g1 hblk (by decide)
  · exact blk_ne g2 hblk (by decide)

set_option maxHeartbeats 1600000 in
set_option maxRecDepth 100000 in
theorem all_c (a : Option Addr) (n c : Nat) (bs : List Nat) (w : World) (hl : Lies w (.slice a n c) bs) (hn : n = bs.length) (hn2 : n ≤ 4194304) (hb : ∀ b ∈ bs, b < 256) (hG : Gl w) :
    Calls Tryd.prog 11 #[.slice a n c] w fun e w' => ∃ os ra rc, Stream bs os ∧ e = .returned (.slice ra os.length rc) ∧ w'.ownsRow w.heap.size 5 1 (.slice ra os.length rc) os.length (cellsOf os) ∧ Fr (fun _ => False) w w' := by
  have Hnew := hide (new_c a n c bs w hl hn hn2 hb hG)
  have Hb := hide hb
  have hlen : bs.length ≤ 4194304 := by omega
  clear hl hb hG hn
  go_enter Tryd.func11, Tryd.ntmps11
  go_wp2_with fail
  refine (calls_args Hnew.out (by rfl)).mono ?_
  rintro e w1 ⟨M, rfl, hM, hF1⟩
  have HM := hide hM
  have HF1 := hide hF1
  clear hM hF1
  go_wp2_with fail
  go_loopw [6] (fun _ wr => wr = w1) (fun _ _ => 0)
  case atStart => exact rfl
  case round =>
    subst hrel
    go_wp2_with fail
    refine (calls_args (step_on w.heap.size M 0 bs (startS bs) 9223372036854775807 wr HM.out (Nat.zero_le _) (by decide) (by decide)) (by rfl)).mono ?_
    have hst : stepTo 0 bs.length 9223372036854775807 = bs.length := by
      unfold stepTo
      rw [if_pos (by decide)]
      have : (9223372036854775807 : Int).toNat = 9223372036854775807 := rfl
      omega
    rw [hst]
    rintro e w2 ⟨hF2, ⟨z1, _⟩ | ⟨_, rfl, os, z2, z3⟩⟩
    · exact absurd z1 (Nat.lt_irrefl _)
    have HF2 := hide ((HF1.out.trans hF2).mono (S' := fun _ => False) fun i hi e => e.elim id (fun e => by omega))
    have HS := hide z2
    obtain ⟨cs, oa, oc, q1, q2, q3, q4⟩ := z3.ex
    have hos : os.length ≤ 2147483648 := by have := z2.len Hb.out; unfold mostF at this; omega
    have Hout := hide (out_c M (.slice oa os.length oc) os w2 (cell_of (o := 12) q1 q2) (own_lies5 q3) hos)
    clear hF2 z2 z3 q1 q2 q3 q4 hst
    go_wp2_with fail
    refine (calls_args Hout.out (by rfl)).mono ?_
    rintro e w3 ⟨ra, rc, rfl, hown, hF3⟩
    have Hown := hide hown
    have HF3 := hide (HF2.out.join hF3)
    clear hown hF3
    go_wp2
    go_ret
    have ho := Hown.out
    refine ⟨os, ra, rc, HS.out, rfl, ⟨ho.1, ho.2.imp id fun ⟨g, cap, cur, y1, y2, y3⟩ => ⟨g, cap, cur, y1, by have := HF2.out.size; omega, y3⟩⟩, HF3.out⟩
end Go.Proofs.YtmefhngmgfmhoaaDoor

/-
  The document's own reading of a stream: its reader, lengths, distances, stored blocks.
-/
namespace Go.Proofs.YtmefhngmgfmhoaaDoor
open Go.RowKit

/-- The document's reader at block R, from lo on; what it reads lies below lo. -/
structure Rz (w : World) (lo R : Nat) (sv : Value) (bs : List Nat) (p : Nat) : Prop where
  rf : Rf w R sv bs p false
  hR : lo ≤ R
  sb : bs ≠ [] → ∀ ad n c, sv = .slice (some ad) n c → ad.block < lo
  slo : lo ≤ w.heap.size

section
variable {w w' : World} {lo R : Nat} {sv : Value} {bs : List Nat} {p q : Nat}
theorem Rz.lt (h : Rz w lo R sv bs p) : R < w.heap.size := by obtain ⟨sh, ho⟩ := h.rf.eobj; exact lt_of ho
theorem Rz.next (h : Rz w lo R sv bs p) (hr : Rf w' R sv bs q false) (hF : Fr (fun k => k = R) w w') : Rz w' lo R sv bs q := ⟨hr, h.hR, h.sb, Nat.le_trans h.slo hF.size⟩
theorem Rz.keep (h : Rz w lo R sv bs p) {S : Nat → Prop} (hF : Fr S w w') (hS : ∀ k, S k → lo ≤ k ∧ k ≠ R) : Rz w' lo R sv bs p :=
  ⟨h.rf.keep hF (fun e => (hS R e).2 rfl) (fun hne ad n c e => ⟨Nat.lt_of_lt_of_le (h.sb hne ad n c e) h.slo, fun e2 => by have := (hS _ e2).1; have := h.sb hne ad n c e; omega⟩), h.hR, h.sb, Nat.le_trans h.slo hF.size⟩
theorem Rz.low (h : Rz w lo R sv bs p) {a b : World} (hF : Fr (fun k => k = R) a b) : Fl lo a b := hF.mono fun k _ e => by have := h.hR; omega
end

/-- What a contract of the document's taking of bits says. -/
structure RTakes (n : Nat) (R : Nat) (sv : Value) (bs : List Nat) (p : Nat) (w : World) (Q : Ending → World → Prop) : Prop where
  ok : ∀ (a q : Nat) w', tkn n (leNum bs) (8 * bs.length) p = .ok (a, q) → Rf w' R sv bs q false → Fr (fun k => k = R) w w' → Q (.returned (.tuple #[.int .i64 (a : Int), .bool true])) w'
  no : ∀ w', tkn n (leNum bs) (8 * bs.length) p = .error 2 → Fr (fun k => k = R) w w' → Q (.returned (.tuple #[.int .i64 0, .bool false])) w'

theorem rtakes (w : World) (lo R : Nat) (sv : Value) (bs : List Nat) (p n : Nat) (h : Rz w lo R sv bs p) (hn : n ≤ 24) (Q : Ending → World → Prop) (hQ : RTakes n R sv bs p w Q) :
    Calls Tryd.prog 19 #[.pointer (some ⟨R, 0, none⟩), .int .i64 (n : Int)] w Q := by
  by_cases hf : p + n ≤ 8 * bs.length
  · exact (ref_take_low w R sv bs p n h.rf hn hf).mono fun e w' ⟨he, hr, hF⟩ => by rw [he]; exact hQ.ok _ _ w' (tkn_ok hf) hr hF
  · exact (ref_take_no w R sv bs p n false h.rf (Or.inr (by omega))).mono fun e w' ⟨he, _, hF⟩ => by rw [he]; exact hQ.no w' (tkn_err hf) hF

/-- What a contract of the document's taking of a word says. -/
structure RWords (x : Rdr Nat) (R : Nat) (sv : Value) (bs : List Nat) (p : Nat) (w : World) (Q : Ending → World → Prop) : Prop where
  ok : ∀ (a q : Nat) w', x (leNum bs) (8 * bs.length) p = .ok (a, q) → Rf w' R sv bs q false → Fr (fun k => k = R) w w' → Q (.returned (.tuple #[.int .i64 (a : Int), .int .i64 0])) w'
  no : ∀ (er : Nat) w', x (leNum bs) (8 * bs.length) p = .error er → Fr (fun k => k = R) w w' → Q (.returned (.tuple #[.int .i64 0, .int .i64 (er : Int)])) w'

theorem rwords (w : World) (lo R : Nat) (sv : Value) (bs : List Nat) (p : Nat) (h : Rz w lo R sv bs p) (M clo chi : Nat) (ls : List Int) (hC : Rc w clo chi M ls) (hap : chi ≤ R ∨ R < clo) (Q : Ending → World → Prop) (hQ : RWords (tk ls) R sv bs p w Q) :
    Calls Tryd.prog 30 #[.pointer (some ⟨M, 0, none⟩), .pointer (some ⟨R, 0, none⟩)] w Q :=
  rtake_Q clo chi M R ls sv bs p w hC h.rf hap Q (fun _ y w' hh hy hr hF => hQ.ok y _ w' (hh.tk hy) hr hF) (fun er _ w' hh hF => hQ.no er w' hh.tk hF)

set_option maxHeartbeats 400000 in
set_option maxRecDepth 100000 in
theorem ralign_c (w : World) (lo R : Nat) (sv : Value) (bs : List Nat) (p : Nat) (h : Rz w lo R sv bs p) :
    Calls Tryd.prog 28 #[.pointer (some ⟨R, 0, none⟩)] w fun e w' => e = .returned (.tuple #[]) ∧ Rz w' lo R sv bs ((p + 7) / 8 * 8) ∧ Fr (fun k => k = R) w w' := by
  obtain ⟨a, c, h0, h1, _, _, h2, _⟩ := h.rf.facts
  have hl := h.rf.elen
  have hp := h.rf.epos
  have H := hide h
  obtain ⟨q, hq⟩ : ∃ q, q = (p + 7) / 8 := ⟨_, rfl⟩
  have hqi : ((p : Int) + 7) / 8 = (q : Int) := by omega
  have hqb : q ≤ 20000000000 := by omega
  have Hq := hide hq
  clear h hq
  go_enter Tryd.func28, Tryd.ntmps28
  go_wp2
  go_end0
  have hm : Moved R (q * 8) w (w.setCell ⟨R, 1, none⟩ (.int .i64 ((q : Int) * 8))) := moved_of (by omega)
  have hr := H.out.rf.moved hm (by have := Hq.out; omega)
  rw [← Hq.out]
  exact ⟨rfl, H.out.next hr (Fr.of_moved hm), Fr.of_moved hm⟩

/-- The least length of symbol 257 + i, and how many bits more. -/
def lb (i : Nat) : Nat := if i = 28 then 258 else if i < 8 then 3 + i else 3 + (4 + i % 4) * 2 ^ (i / 4 - 1)
def lm (i : Nat) : Nat := if i = 28 then 0 else if i < 8 then 0 else i / 4 - 1

def lbs : List Int := [3, 4, 5, 6, 7, 8, 9, 10, 11, 13, 15, 17, 19, 23, 27, 31, 35, 43, 51, 59, 67, 83, 99, 115, 131, 163, 195, 227, 258]
def lms : List Int := [0, 0, 0, 0, 0, 0, 0, 0, 1, 1, 1, 1, 2, 2, 2, 2, 3, 3, 3, 3, 4, 4, 4, 4, 5, 5, 5, 5, 0]
theorem lbs_at (i : Nat) (hi : i < 29) : at0 lbs i = (lb i : Nat) := by
  have : ∀ j : Fin 29, at0 lbs j.1 = (lb j.1 : Nat) := by decide
  exact this ⟨i, hi⟩
theorem lms_at (i : Nat) (hi : i < 29) : at0 lms i = (lm i : Nat) := by
  have : ∀ j : Fin 29, at0 lms j.1 = (lm j.1 : Nat) := by decide
  exact this ⟨i, hi⟩

theorem rlen_tab (i : Nat) (hi : i < 29) {V L p : Nat} (hp : p ≤ L) : rlen (257 + i) V L p = andThen (tkn (lm i)) (fun x => ret (lb i + x)) V L p := by
  unfold rlen lm lb
  rw [if_neg (by omega)]
  by_cases h28 : i = 28
  · subst h28
    simp only [if_true]
    rw [then_ok (tkn_ok (n := 0) (by omega)), lowBits_zero]
    rfl
  rw [if_neg (by omega), if_neg h28, if_neg h28, show 257 + i - 257 = i by omega]
  unfold rung
  by_cases h8 : i < 8
  · rw [if_pos (by omega), if_pos h8, if_pos h8, then_ok (tkn_ok (n := 0) (by omega)), lowBits_zero]
    rfl
  · rw [if_neg (by omega), if_neg h8, if_neg h8]
    simp only [andThen]
    cases tkn (i / 4 - 1) V L p with
    | error e => rfl
    | ok aq =>
      simp only [ret]
      rw [Nat.add_assoc]

set_option maxHeartbeats 800000 in
set_option maxRecDepth 100000 in
theorem lengthOf_c (i : Nat) (hi : i < 29) (w : World) : Calls Tryd.prog 31 #[.int .i64 ((257 + i : Nat) : Int)] w fun e w' => e = .returned (.tuple #[.int .i64 (lb i : Int), .int .i64 (lm i : Int), .bool true]) ∧ Fr (fun _ => False) w w' := by
  have e1 : ((257 + i : Nat) : Int) - 257 = (i : Int) := by omega
  have e2 : ¬ ((257 + i : Nat) : Int) < 257 := by omega
  have e3 : ¬ (285 : Int) < ((257 + i : Nat) : Int) := by omega
  have i29 : (i : Int) < 29 := by omega
  have f1 := Fr.of_alloc w (.cells (cellsZ lbs).toArray 3)
  have f2 := Fr.of_alloc (w.alloc (.cells (cellsZ lbs).toArray 3)) (.cells (cellsZ lms).toArray 3)
  have h1 : ((w.alloc (.cells (cellsZ lbs).toArray 3)).alloc (.cells (cellsZ lms).toArray 3)).cell? ⟨w.heap.size, i, none⟩ = some (.int .i64 (lb i : Int)) := by
    rw [cell_blk (f2.block w.heap.size (by simp) (fun h => h))]
    rw [← lbs_at i hi]
    exact cell_of (heap_alloc_new _ _) (by simp [cellsZ, at0, List.getElem?_eq_getElem (show i < lbs.length from hi)])
  have h2 : ((w.alloc (.cells (cellsZ lbs).toArray 3)).alloc (.cells (cellsZ lms).toArray 3)).cell? ⟨w.heap.size + 1, i, none⟩ = some (.int .i64 (lm i : Int)) := by
    rw [← lms_at i hi]
    refine cell_of (heap_alloc_at (by simp)) (by simp [cellsZ, at0, List.getElem?_eq_getElem (show i < lms.length from hi)])
  obtain ⟨w2, hw2⟩ : ∃ w2, w2 = (w.alloc (.cells #[.int .i64 3, .int .i64 4, .int .i64 5, .int .i64 6, .int .i64 7, .int .i64 8, .int .i64 9, .int .i64 10, .int .i64 11, .int .i64 13, .int .i64 15, .int .i64 17, .int .i64 19, .int .i64 23, .int .i64 27, .int .i64 31, .int .i64 35, .int .i64 43, .int .i64 51, .int .i64 59, .int .i64 67, .int .i64 83, .int .i64 99, .int .i64 115, .int .i64 131, .int .i64 163, .int .i64 195, .int .i64 227, .int .i64 258] 3)).alloc (.cells #[.int .i64 0, .int .i64 0, .int .i64 0, .int .i64 0, .int .i64 0, .int .i64 0, .int .i64 0, .int .i64 0, .int .i64 1, .int .i64 1, .int .i64 1, .int .i64 1, .int .i64 2, .int .i64 2, .int .i64 2, .int .i64 2, .int .i64 3, .int .i64 3, .int .i64 3, .int .i64 3, .int .i64 4, .int .i64 4, .int .i64 4, .int .i64 4, .int .i64 5, .int .i64 5, .int .i64 5, .int .i64 5, .int .i64 0] 3) := ⟨_, rfl⟩
  have h1' : w2.cell? ⟨w.heap.size, i, none⟩ = some (.int .i64 (lb i : Int)) := by rw [hw2]; exact h1
  have h2' : w2.cell? ⟨w.heap.size + 1, i, none⟩ = some (.int .i64 (lm i : Int)) := by rw [hw2]; exact h2
  have F : Hid (Fr (fun _ => False) w w2) := by rw [hw2]; exact f1.join f2
  obtain ⟨s, hs⟩ : ∃ s, s = 257 + i := ⟨_, rfl⟩
  rw [← hs] at e1 e2 e3 ⊢
  obtain ⟨B, hB⟩ : ∃ B, B = lb i := ⟨_, rfl⟩
  obtain ⟨C, hC⟩ : ∃ C, C = lm i := ⟨_, rfl⟩
  rw [← hB] at h1' ⊢
  rw [← hC] at h2' ⊢
  have Hw2 := hide hw2
  clear hs f1 f2 hB hC hi h1 h2 hw2
  go_enter Tryd.func31, Tryd.ntmps31
  go_wp2_with fail
  rw [← Hw2.out]
  clear Hw2
  go_quiet (fail)
  go_wp2
  go_ret3
  exact ⟨rfl, F.out.join (Fr.of_drewN _ _)⟩

set_option maxHeartbeats 400000 in
set_option maxRecDepth 100000 in
theorem lengthOf_no (s : Nat) (hs : 285 < s) (w : World) : Calls Tryd.prog 31 #[.int .i64 (s : Int)] w fun e w' => e = .returned (.tuple #[.int .i64 0, .int .i64 0, .bool false]) ∧ Fr (fun _ => False) w w' := by
  have e2 : ¬ (s : Int) < 257 := by omega
  have e3 : (285 : Int) < (s : Int) := by omega
  go_enter Tryd.func31, Tryd.ntmps31
  go_wp2
  go_ret3
  exact ⟨rfl, (Fr.of_alloc _ _).join (Fr.of_alloc _ _)⟩

/-- The least distance of a symbol, and how many bits more. -/
def db (s : Nat) : Nat := if s < 4 then 1 + s else 1 + (2 + s % 2) * 2 ^ (s / 2 - 1)
def dm (s : Nat) : Nat := if s < 4 then 0 else s / 2 - 1

theorem rdist_tab (s : Nat) {V L p : Nat} (hp : p ≤ L) : andThen (rung s 2) (fun x => ret (1 + x)) V L p = andThen (tkn (dm s)) (fun x => ret (db s + x)) V L p := by
  unfold rung dm db
  by_cases h4 : s < 4
  · rw [if_pos (by omega), if_pos h4, if_pos h4, then_ok (x := tkn 0) (tkn_ok (n := 0) (by omega)), lowBits_zero]
    rfl
  · rw [if_neg (by omega), if_neg h4, if_neg h4]
    simp only [andThen]
    cases tkn (s / 2 - 1) V L p with
    | error e => rfl
    | ok aq =>
      simp only [ret]
      rw [Nat.add_assoc]

set_option maxHeartbeats 400000 in
set_option maxRecDepth 100000 in
theorem distanceOf_c (s : Nat) (hs : s < 30) (w : World) : Calls Tryd.prog 32 #[.int .i64 (s : Int)] w fun e w' => e = .returned (.tuple #[.int .i64 (db s : Int), .int .i64 (dm s : Int), .bool true]) ∧ w = w' := by
  have e1 : ¬ (s : Int) < 0 := by omega
  have e2 : ¬ (29 : Int) < (s : Int) := by omega
  unfold db dm
  by_cases h4 : s < 4
  · have h4i : (s : Int) < 4 := by omega
    rw [if_pos h4, if_pos h4]
    go_enter Tryd.func32, Tryd.ntmps32
    go_wp2
    go_ret3
    exact ⟨by simp; omega, rfl⟩
  · have h4i : ¬ (s : Int) < 4 := by omega
    rw [if_neg h4, if_neg h4]
    obtain ⟨f, hf⟩ : ∃ f, f = s / 2 - 1 := ⟨_, rfl⟩
    have hfi : ((s : Int) / 2) - 1 = (f : Int) := by omega
    have hf13 : f ≤ 13 := by omega
    obtain ⟨t, ht⟩ : ∃ t, t = s % 2 := ⟨_, rfl⟩
    have hti : (s : Int).tmod 2 = (t : Int) := by rw [Int.tmod_eq_emod_of_nonneg (by omega)]; omega
    have hti2 : (s : Int) % 2 = (t : Int) := by omega
    have htb : t < 2 := by omega
    obtain ⟨P2, hP2⟩ : ∃ P2, P2 = 2 ^ f := ⟨_, rfl⟩
    have hP3 : (2 : Int) ^ f = (P2 : Int) := by rw [hP2]; simp
    have hPb : P2 ≤ 8192 := by rw [hP2]; exact Nat.pow_le_pow_right (by decide) hf13
    obtain ⟨X, hX⟩ : ∃ X, X = (2 + t) * P2 := ⟨_, rfl⟩
    have hXb : X ≤ 65536 := by
      rw [hX]
      exact Nat.le_trans (Nat.mul_le_mul (show 2 + t ≤ 8 by omega) hPb) (by decide)
    have hXi : ((2 : Int) + (t : Int)) * (P2 : Int) = (X : Int) := by rw [hX]; simp
    have hwf : IntKind.u64.wrap (f : Int) = (f : Int) := by show (f : Int) % 18446744073709551616 = f; omega
    rw [← hf, ← ht, ← hP2, ← hX]
    clear hf ht hP2 hX
    go_enter Tryd.func32, Tryd.ntmps32
    go_wp2
    go_ret3
    exact ⟨by rw [Int.add_comm]; rfl, rfl⟩

set_option maxHeartbeats 400000 in
set_option maxRecDepth 100000 in
theorem distanceOf_no (s : Nat) (hs : 30 ≤ s) (w : World) : Calls Tryd.prog 32 #[.int .i64 (s : Int)] w fun e w' => e = .returned (.tuple #[.int .i64 0, .int .i64 0, .bool false]) ∧ w = w' := by
  have e1 : ¬ (s : Int) < 0 := by omega
  have e2 : (29 : Int) < (s : Int) := by omega
  go_enter Tryd.func32, Tryd.ntmps32
  go_wp2
  go_ret3
  exact ⟨rfl, rfl⟩
end Go.Proofs.YtmefhngmgfmhoaaDoor

/-
  The document's own stored blocks.
-/
namespace Go.Proofs.YtmefhngmgfmhoaaDoor
open Go.RowKit

/-- What the document has put out. -/
structure Ro (w : World) (lo R : Nat) (a : Option Addr) (c : Nat) (out : List Nat) : Prop where
  own : w.ownsRow lo 5 1 (.slice a out.length c) out.length (cellsOf out)
  oR : ∀ g, (Value.slice a out.length c).ownBlock = some g → g ≠ R

theorem Ro.next {w w' : World} {lo R : Nat} {a : Option Addr} {c : Nat} {out : List Nat} (h : Ro w lo R a c out) (hF : Fr (fun k => k = R) w w') : Ro w' lo R a c out :=
  ⟨ownsRow_fr h.own fun k hk => hF.block k (h.own.lt k hk).2 (h.oR k hk), h.oR⟩
theorem Ro.fr {w w' : World} {lo R : Nat} {a : Option Addr} {c : Nat} {out : List Nat} (h : Ro w lo R a c out) (hF : Fr (fun _ => False) w w') : Ro w' lo R a c out :=
  ⟨ownsRow_fr h.own fun k hk => hF.block k (h.own.lt k hk).2 (fun h => h), h.oR⟩

/-- Behind an append of a byte. -/
theorem ro_append {w w1 : World} {lo R : Nat} {a : Option Addr} {c : Nat} {out : List Nat} {b N g cap : Nat} {o : Obj} (hR : R < w.heap.size) (h : Ro w lo R a c out) (hN : N = out.length)
    (hown : w1.ownsRow lo 5 1 (.slice (some ⟨g, 0, none⟩) (N + 1) cap) (N + 1) (cellsOf out ++ [.int .u8 (b : Int)])) (hgrow : (w.alloc o).grownBy w1 (Value.slice a N c).ownBlock) (hat : (Value.slice a N c).ownBlock = some g ∨ g = w.heap.size + 1) :
    Ro w1 lo R (some ⟨g, 0, none⟩) cap (out ++ [b]) ∧ Fr (fun k => (Value.slice a N c).ownBlock = some k) w w1 := by
  subst hN
  have f1 : Fr (fun k => (Value.slice a out.length c).ownBlock = some k) (w.alloc o) w1 := ⟨hgrow.os, hgrow.tape, hgrow.output, hgrow.size, fun k hk hn => hgrow.block k hk (fun e => hn e.symm)⟩
  have e : (out ++ [b]).length = out.length + 1 := by simp
  refine ⟨⟨?_, ?_⟩, ((Fr.of_alloc w o).trans f1).mono fun k _ h => h.elim (fun x => x.elim) id⟩
  · rw [e]
    simpa [cellsOf] using hown
  · intro g' hg'
    have : g = g' := by simpa [Value.ownBlock] using hg'
    subst this
    rcases hat with h1 | h1
    · exact h.oR g h1
    · omega

set_option maxHeartbeats 1600000 in
set_option maxRecDepth 100000 in
theorem rstored_c (w : World) (lo R : Nat) (sv : Value) (bs : List Nat) (p : Nat) (h : Rz w lo R sv bs p) (oa : Option Addr) (oc : Nat) (out : List Nat) (ho : Ro w lo R oa oc out) (most : Nat) (hmost : most ≤ 2147483647) (hom : out.length ≤ most) (Q : Ending → World → Prop)
    (hno : ∀ (er : Nat) w', storedHead (leNum bs) (8 * bs.length) p = .error er → Fl lo w w' → Q (.returned (.tuple #[.slice none 0 0, .int .i64 (er : Int)])) w')
    (hok : ∀ n q a' c' out' p' w', storedHead (leNum bs) (8 * bs.length) p = .ok (n, q) → Rz w' lo R sv bs p' → Ro w' lo R a' c' out' → out'.length ≤ most →
      (∀ last r, Runs (leNum bs) (8 * bs.length) most ⟨p', last, out', .ahead⟩ r → Runs (leNum bs) (8 * bs.length) most ⟨q, last, out, .stored n⟩ r) → Fl lo w w' → Q (.returned (.tuple #[.slice a' out'.length c', .int .i64 0])) w')
    (herr : ∀ n q (er : Nat) w', storedHead (leNum bs) (8 * bs.length) p = .ok (n, q) → er ≠ 0 → (∀ last, Runs (leNum bs) (8 * bs.length) most ⟨q, last, out, .stored n⟩ (.error er)) → Fl lo w w' → Q (.returned (.tuple #[.slice none 0 0, .int .i64 (er : Int)])) w') :
    Calls Tryd.prog 20 #[.pointer (some ⟨R, 0, none⟩), .slice oa out.length oc, .int .i64 (most : Int)] w Q := by
  obtain ⟨i0, hi, hz0, hz1, hz2⟩ := info_parts Tryd.info5
  have hl := h.rf.elen
  have H := hide h
  have HO := hide ho
  have Hno := hide hno
  have Hok := hide hok
  have Herr := hide herr
  have E : Hid (storedHead (leNum bs) (8 * bs.length) p = andThen (tkn 16) (fun n => andThen (tkn 16) fun m => if n + m = 65535 then ret n else bad 4) (leNum bs) (8 * bs.length) ((p + 7) / 8 * 8)) := rfl
  clear h ho hno hok herr
  go_enter Tryd.func20, Tryd.ntmps20
  go_wp2_with fail
  refine (ralign_c w lo R sv bs p H.out).mono ?_
  rintro e w1 ⟨rfl, hz, hF⟩
  have H1 := hide hz
  have HO1 := hide (HO.out.next hF)
  have HF1 := hide (H.out.low hF)
  have hp1 := hz.rf.epos
  clear hz hF
  generalize (p + 7) / 8 * 8 = p1 at *
  go_wp2_with fail
  refine (ref_left w1 R sv bs p1 false H1.out.rf).mono ?_
  rintro e w2 ⟨rfl, k, rfl⟩
  have H2 := hide (H1.out.keep (Fr.of_drewN w1 k) (fun _ h => h.elim))
  have HO2 := hide (HO1.out.fr (Fr.of_drewN w1 k))
  have HF2 := hide (HF1.out.join (Fr.none (S := fun j => lo ≤ j) k))
  clear H1 HO1 HF1
  generalize w1.drewN k = w2 at *
  obtain ⟨Lb, hLb⟩ : ∃ Lb, Lb = 8 * bs.length := ⟨_, rfl⟩
  have eL : 8 * (bs.length : Int) - (p1 : Int) = ((Lb - p1 : Nat) : Int) := by omega
  by_cases h32 : p1 + 32 ≤ 8 * bs.length
  · have q32 : ¬ 8 * (bs.length : Int) - (p1 : Int) < 32 := by omega
    go_wp2_with fail
    refine rtakes w2 lo R sv bs p1 16 H2.out (by omega) _ ⟨?ok1, ?no1⟩
    case no1 => (intro w3 hx; rw [tkn_ok (by omega)] at hx; cases hx)
    intro n p2 w3 hx hr hF
    have hn : n < 65536 := tkn_lt hx
    have hp2 := (tkn_inv hx).2.2
    have E1 := hide (E.out.trans (then_ok hx))
    have H3 := hide (H2.out.next hr hF)
    have HO3 := hide (HO2.out.next hF)
    have HF3 := hide (HF2.out.join (H2.out.low hF))
    clear hx hr hF
    go_wp2_with fail
    refine rtakes w3 lo R sv bs p2 16 H3.out (by omega) _ ⟨?ok2, ?no2⟩
    case no2 => (intro w4 hx; rw [tkn_ok (by omega)] at hx; cases hx)
    intro m q w4 hx hr hF
    have hm : m < 65536 := tkn_lt hx
    have E2 := hide (E1.out.trans (then_ok hx))
    have H4 := hide (H3.out.next hr hF)
    have HO4 := hide (HO3.out.next hF)
    have HF4 := hide (HF3.out.join (H3.out.low hF))
    clear hx hr hF hp2
    by_cases hnm : n + m = 65535
    · have e1 : (n : Int) = 65535 - (m : Int) := by omega
      have e2 : ((n : Int) == 65535 - (m : Int)) = true := by simpa using e1
      have E3 := E2.out
      rw [if_pos hnm] at E3
      have HE3 : Hid (storedHead (leNum bs) (8 * bs.length) p = .ok (n, q)) := E3
      obtain ⟨mm, hmm⟩ : ∃ mm : Nat, (65535 : Int) - (m : Int) = (mm : Int) := ⟨65535 - m, by omega⟩
      have e4 : n = mm := by omega
      subst e4
      clear E3 e1 e2
      go_wp2
      go_loopw [1, 12, 13, 14] (fun v iv _ _ wr => ∃ (i : Nat) (out' : List Nat) (p' : Nat) (a' : Option Addr) (c' N : Nat), i ≤ n ∧ iv = .int .i64 (i : Int) ∧ v = .slice a' N c' ∧ Hid (N = out'.length) ∧ Hid (Rz wr lo R sv bs p') ∧ Hid (Ro wr lo R a' c' out') ∧ Hid (out'.length ≤ most) ∧
        Hid (∀ last r, Runs (leNum bs) (8 * bs.length) most ⟨p', last, out', .stored (n - i)⟩ r → Runs (leNum bs) (8 * bs.length) most ⟨q, last, out, .stored n⟩ r) ∧ Hid (Fl lo w wr)) (fun _ iv _ _ _ => n - (intOf iv).toNat)
      case atStart => exact ⟨0, out, q, oa, oc, out.length, Nat.zero_le _, rfl, rfl, rfl, H4.out, HO4.out, hom, fun _ _ h => h, HF4.out⟩
      case round =>
        obtain ⟨i, out', p', a', c', N, hi1, rfl, rfl, G0, G1, G2, G3, G4, G5⟩ := hrel
        by_cases hlt : i < n
        · have hlti : (i : Int) < (n : Int) := by omega
          have hN : N ≤ 2147483647 := by have := G0.out; have := G3.out; omega
          go_wp2_with fail
          refine (ref_left wr R sv bs p' false G1.out.rf).mono ?_
          rintro e w5 ⟨rfl, k5, rfl⟩
          have K1 := hide (G1.out.keep (Fr.of_drewN wr k5) (fun _ h => h.elim))
          have K2 := hide (G2.out.fr (Fr.of_drewN wr k5))
          have K5 := hide (G5.out.join (Fr.none (S := fun j => lo ≤ j) k5))
          have Kp := G1.out.rf.epos
          clear G1 G2 G5
          generalize wr.drewN k5 = w5 at *
          by_cases h8 : p' + 8 ≤ 8 * bs.length
          · have q8 : ¬ 8 * (bs.length : Int) - (p' : Int) < 8 := by omega
            obtain ⟨b, hb⟩ : ∃ b, b = lowBits (leNum bs) p' 8 := ⟨_, rfl⟩
            have hb8 : b < 256 := by rw [hb]; exact lowBits_lt _ _ _
            have A : ∀ last, adv (leNum bs) (8 * bs.length) ⟨p', last, out', .stored (n - i)⟩ = .put ⟨p' + 8, last, out' ++ [b], .stored (n - (i + 1))⟩ := by
              intro last
              simp only [adv]
              rw [if_neg (by omega), tkn_ok h8, ← hb, show n - i - 1 = n - (i + 1) by omega]
            have HA := hide A
            clear A
            by_cases hful : most ≤ N
            · have hfi : (most : Int) ≤ (N : Int) := by omega
              have X := hide (Herr.out n q 6 w5 HE3.out (by omega) (fun last => G4.out last _ (.full (HA.out last) (by rw [← G0.out]; exact hful))) K5.out)
              go_wp2
              exact X.out
            · have hfi : ¬ (most : Int) ≤ (N : Int) := by omega
              go_wp2_with fail
              refine rtakes w5 lo R sv bs p' 8 K1.out (by omega) _ ⟨?ok3, ?no3⟩
              case no3 => (intro w6 hx; rw [tkn_ok h8] at hx; cases hx)
              intro b' p2' w6 hx hr hF
              rw [tkn_ok h8, ← hb] at hx
              have ex : b = b' ∧ p' + 8 = p2' := by simpa using hx
              obtain ⟨rfl, rfl⟩ := ex
              have L1 := hide (K1.out.next hr hF)
              have L2 := hide (K2.out.next hF)
              have L5 := hide (K5.out.join (K1.out.low hF))
              have hRl : R < w6.heap.size := L1.out.lt
              have hlow : lo ≤ w6.heap.size := L1.out.slo
              have hown := L2.out.own
              rw [← G0.out] at hown
              have Hown := hide hown
              have hwb : IntKind.u8.wrap (b : Int) = (b : Int) := wrap_u8 _ (by omega) (by omega)
              clear hx hr hF hown K1 K2 K5 hb
              go_wp2_with (at_builtin; go_must (refine wpList_append_lies _ rfl _ _ 23 rfl lo 5 i0 (.int .u8 0) 1 1 Tryd.underlying23 hi hz0 hz1 hz2 rfl (by decide) (.slice a' N c') N (cellsOf out') rfl (Hown.out.alloc _) ⟨w6.heap.size, 0, none⟩ 1 1 [.int .u8 (b : Int)] rfl rfl (cell_one_new _ _ _) (fun x hx => by simp at hx; subst hx; rfl) (by decide) (by unfold maxLen; omega) (by omega) (by simp; omega) (w6.heap.size + 1) (by simp) ?_); intro g cap w7 hown7 hgrow hat hlt7)
              obtain ⟨r1, r2⟩ := ro_append hRl L2.out G0.out hown7 hgrow hat
              have hS : ∀ k, (Value.slice a' N c').ownBlock = some k → lo ≤ k ∧ k ≠ R := fun k hk => by
                have e := G0.out
                subst e
                exact ⟨(L2.out.own.lt k hk).1, L2.out.oR k hk⟩
              have M1 := hide (L1.out.keep r2 hS)
              have M2 := hide r1
              have M5 := hide (L5.out.join (r2.mono fun k _ hk => (hS k hk).1))
              have M4 : Hid (∀ last r, Runs (leNum bs) (8 * bs.length) most ⟨p' + 8, last, out' ++ [b], .stored (n - (i + 1))⟩ r → Runs (leNum bs) (8 * bs.length) most ⟨q, last, out, .stored n⟩ r) := fun last r hr => G4.out last r (.put (HA.out last) (by show out'.length < most; rw [← G0.out]; omega) hr)
              have M0 : Hid (N + 1 = (out' ++ [b]).length) := by show _ = _; rw [G0.out]; simp
              clear r1 r2 hown7 hgrow hat hlt7
              go_roundw
              case rel => exact ⟨i + 1, out' ++ [b], p' + 8, some ⟨g, 0, none⟩, cap, N + 1, by omega, by go_num, rfl, M0, M1, M2, (by show (out' ++ [b]).length ≤ most; rw [← M0.out]; omega), M4, M5⟩
              case measure => simp [intOf]; omega
          · have q8 : 8 * (bs.length : Int) - (p' : Int) < 8 := by omega
            have X := hide (Herr.out n q 2 w5 HE3.out (by omega) (fun last => G4.out last _ (.fail (by simp only [adv]; rw [if_neg (by omega), tkn_err h8]))) K5.out)
            go_wp2
            exact X.out
        · have hlti : ¬ (i : Int) < (n : Int) := by omega
          have hie : i = n := by omega
          subst hie
          have X := hide (Hok.out i q a' c' out' p' wr HE3.out G1.out G2.out G3.out (fun last r hr => G4.out last r (.go (s' := ⟨p', last, out', .ahead⟩) (by simp only [adv]; rw [Nat.sub_self, if_pos rfl]) hr)) G5.out)
          rw [← G0.out] at X
          go_wp2
          exact X.out
    · have e1 : ¬ (n : Int) = 65535 - (m : Int) := by omega
      have e2 : ((n : Int) == 65535 - (m : Int)) = false := beq_false_of_ne e1
      have E3 := E2.out
      rw [if_neg hnm] at E3
      have X := hide (Hno.out 4 w4 E3 HF4.out)
      clear E3
      go_wp2
      exact X.out
  · have q32 : 8 * (bs.length : Int) - (p1 : Int) < 32 := by omega
    have E1 : storedHead (leNum bs) (8 * bs.length) p = .error 2 := by
      rw [E.out]
      by_cases h16 : p1 + 16 ≤ 8 * bs.length
      · rw [then_ok (tkn_ok h16), then_err (tkn_err (by omega))]
      · rw [then_err (tkn_err h16)]
    have X := hide (Hno.out 2 w2 E1 HF2.out)
    clear E1
    go_wp2
    exact X.out
end Go.Proofs.YtmefhngmgfmhoaaDoor

/-
  The document's own blocks of words.
-/
namespace Go.Proofs.YtmefhngmgfmhoaaDoor
open Go.RowKit

/-- A code of the document's, apart from its reader and what is put out. -/
def CodeR (w : World) (R : Nat) (a : Option Addr) (N c M : Nat) (ls : List Int) : Prop :=
  ∃ clo chi, Rc w clo chi M ls ∧ (chi ≤ R ∨ R < clo) ∧ ∀ g, (Value.slice a N c).ownBlock = some g → chi ≤ g ∨ g < clo

theorem CodeR.next {w w' : World} {R : Nat} {a : Option Addr} {N c M : Nat} {ls : List Int} (h : CodeR w R a N c M ls) (hF : Fr (fun k => k = R) w w') : CodeR w' R a N c M ls := by
  obtain ⟨clo, chi, h1, h2, h3⟩ := h
  exact ⟨clo, chi, h1.keep hF (fun k _ _ e => by omega), h2, h3⟩
theorem CodeR.fr {w w' : World} {R : Nat} {a : Option Addr} {N c M : Nat} {ls : List Int} (h : CodeR w R a N c M ls) (hF : Fr (fun _ => False) w w') : CodeR w' R a N c M ls := by
  obtain ⟨clo, chi, h1, h2, h3⟩ := h
  exact ⟨clo, chi, h1.keep hF (fun _ _ _ e => e), h2, h3⟩
theorem CodeR.put {w w' : World} {R : Nat} {a : Option Addr} {N c M g cap : Nat} {ls : List Int} (h : CodeR w R a N c M ls) (hF : Fr (fun k => (Value.slice a N c).ownBlock = some k) w w') (hg : (Value.slice a N c).ownBlock = some g ∨ g = w.heap.size + 1) : CodeR w' R (some ⟨g, 0, none⟩) (N + 1) cap M ls := by
  obtain ⟨clo, chi, h1, h2, h3⟩ := h
  refine ⟨clo, chi, h1.keep hF (fun k _ _ e => by have := h3 k e; omega), h2, fun g' hg' => ?_⟩
  have : g = g' := by simpa [Value.ownBlock] using hg'
  subst this
  rcases hg with hg | hg
  · exact h3 g hg
  · have := h1.esz; exact Or.inl (by omega)

theorem rdist_tab2 (s o : Nat) {V L p : Nat} (hp : p ≤ L) : andThen (rung s 2) (fun x => if o < 1 + x then bad 4 else ret (1 + x)) V L p = andThen (tkn (dm s)) (fun x => if o < db s + x then bad 4 else ret (db s + x)) V L p := by
  unfold rung dm db
  by_cases h4 : s < 4
  · rw [if_pos (by omega), if_pos h4, if_pos h4, then_ok (x := tkn 0) (tkn_ok (n := 0) (by omega)), lowBits_zero]
    rfl
  · rw [if_neg (by omega), if_neg h4, if_neg h4]
    simp only [andThen]
    cases tkn (s / 2 - 1) V L p with
    | error e => rfl
    | ok aq =>
      simp only [ret]
      rw [Nat.add_assoc]

theorem lm_le (i : Nat) (hi : i < 29) : lm i ≤ 5 ∧ lb i ≤ 258 := by
  have : ∀ j : Fin 29, lm j.1 ≤ 5 ∧ lb j.1 ≤ 258 := by decide
  exact this ⟨i, hi⟩
theorem lb_ge (i : Nat) (hi : i < 29) : 3 ≤ lb i := by
  have : ∀ j : Fin 29, 3 ≤ lb j.1 := by decide
  exact this ⟨i, hi⟩
theorem dm_le (s : Nat) (hs : s < 30) : dm s ≤ 13 ∧ 1 ≤ db s ∧ db s ≤ 65536 := by
  have : ∀ j : Fin 30, dm j.1 ≤ 13 ∧ 1 ≤ db j.1 ∧ db j.1 ≤ 65536 := by decide
  exact this ⟨s, hs⟩

/-- Where one stands in a row of which m bytes are left. -/
def rowSt (m d : Nat) (ll dl : List Int) : Pl := if m = 0 then .coded ll dl else .row m d ll dl

theorem adv_rowSt {V L p : Nat} {last : Bool} {out : List Nat} {m d : Nat} {ll dl : List Int} (hm : 1 ≤ m) : adv V L ⟨p, last, out, rowSt m d ll dl⟩ = .put ⟨p, last, out ++ [out.getD (out.length - d) 0], rowSt (m - 1) d ll dl⟩ := by
  unfold rowSt
  rw [if_neg (by omega)]
  simp only [adv]
  by_cases h1 : m = 1
  · subst h1; rfl
  · rw [if_neg h1, if_neg (by omega)]

/-- What the loop over words holds at a round. -/
structure Cw (w wr : World) (lo R : Nat) (sv : Value) (bs : List Nat) (most : Nat) (LM DM : Nat) (ll dl : List Int) (p : Nat) (out : List Nat) (a : Option Addr) (c N : Nat) : Prop where
  n : N = out.length
  z : Rz wr lo R sv bs p
  o : Ro wr lo R a c out
  cl : CodeR wr R a N c LM ll
  cd : CodeR wr R a N c DM dl
  le : out.length ≤ most
  fl : Fl lo w wr

section
variable {w wr w' : World} {lo R : Nat} {sv : Value} {bs : List Nat} {most LM DM : Nat} {ll dl : List Int} {p : Nat} {out : List Nat} {a : Option Addr} {c N : Nat}
theorem Cw.next (h : Cw w wr lo R sv bs most LM DM ll dl p out a c N) {q : Nat} (hr : Rf w' R sv bs q false) (hF : Fr (fun k => k = R) wr w') : Cw w w' lo R sv bs most LM DM ll dl q out a c N :=
  ⟨h.n, h.z.next hr hF, h.o.next hF, h.cl.next hF, h.cd.next hF, h.le, h.fl.join (h.z.low hF)⟩
theorem Cw.fr (h : Cw w wr lo R sv bs most LM DM ll dl p out a c N) (hF : Fr (fun _ => False) wr w') : Cw w w' lo R sv bs most LM DM ll dl p out a c N :=
  ⟨h.n, h.z.keep hF (fun _ h => h.elim), h.o.fr hF, h.cl.fr hF, h.cd.fr hF, h.le, h.fl.join (Fl0 hF)⟩
theorem Cw.put (h : Cw w wr lo R sv bs most LM DM ll dl p out a c N) {b g cap : Nat} {o : Obj} (hlt : N < most) (hown : w'.ownsRow lo 5 1 (.slice (some ⟨g, 0, none⟩) (N + 1) cap) (N + 1) (cellsOf out ++ [.int .u8 (b : Int)]))
    (hgrow : (wr.alloc o).grownBy w' (Value.slice a N c).ownBlock) (hat : (Value.slice a N c).ownBlock = some g ∨ g = wr.heap.size + 1) : Cw w w' lo R sv bs most LM DM ll dl p (out ++ [b]) (some ⟨g, 0, none⟩) cap (N + 1) := by
  obtain ⟨r1, r2⟩ := ro_append h.z.lt h.o h.n hown hgrow hat
  have hS : ∀ k, (Value.slice a N c).ownBlock = some k → lo ≤ k ∧ k ≠ R := fun k hk => by
    have e := h.n
    subst e
    exact ⟨(h.o.own.lt k hk).1, h.o.oR k hk⟩
  have hn := h.n
  exact ⟨by rw [h.n]; simp, h.z.keep r2 hS, r1, h.cl.put r2 hat, h.cd.put r2 hat, by rw [List.length_append, List.length_singleton]; omega, h.fl.join (r2.mono fun k _ hk => (hS k hk).1)⟩
theorem Cw.low (h : Cw w wr lo R sv bs most LM DM ll dl p out a c N) : wr.ownsRow lo 5 1 (.slice a N c) N (cellsOf out) ∧ R < wr.heap.size ∧ lo ≤ wr.heap.size := by
  refine ⟨?_, h.z.lt, h.z.slo⟩
  have := h.o.own
  rw [← h.n] at this
  exact this
theorem Cw.pos (h : Cw w wr lo R sv bs most LM DM ll dl p out a c N) : cellI wr R 1 = p := by
  obtain ⟨_, _, _, f1, _⟩ := h.z.rf.facts
  unfold cellI
  rw [f1]
  simp
end

/-- A byte that is put out already. -/
theorem Ro.at {w : World} {lo R : Nat} {a : Option Addr} {c N : Nat} {out : List Nat} (h : Ro w lo R a c out) (hN : N = out.length) {j : Nat} (hj : j < N) : ∃ ad, a = some ad ∧ w.cell? (ad.add j) = some (.int .u8 (out.getD j 0 : Nat)) := by
  subst hN
  rcases h.own.2 with ⟨_, e0⟩ | ⟨g, cap, cur, hv, hg, hh, hr⟩
  · omega
  · cases hv
    refine ⟨⟨g, 0, none⟩, rfl, h.own.cells (g := g) rfl j _ ?_⟩
    simp [cellsOf, List.getElem?_eq_getElem hj]

set_option maxHeartbeats 3200000 in
set_option maxRecDepth 100000 in
theorem rcoded_c (w : World) (lo R : Nat) (sv : Value) (bs : List Nat) (most : Nat) (hmost : most ≤ 2147480000) (LM DM : Nat) (ll dl : List Int) (p0 : Nat) (out0 : List Nat) (oa : Option Addr) (oc n0 : Nat) (h : Cw w w lo R sv bs most LM DM ll dl p0 out0 oa oc n0) (Q : Ending → World → Prop)
    (hok : ∀ a' c' N out' p' w', Cw w w' lo R sv bs most LM DM ll dl p' out' a' c' N → (∀ last r, Runs (leNum bs) (8 * bs.length) most ⟨p', last, out', .ahead⟩ r → Runs (leNum bs) (8 * bs.length) most ⟨p0, last, out0, .coded ll dl⟩ r) → Q (.returned (.tuple #[.slice a' N c', .int .i64 0])) w')
    (herr : ∀ (er : Nat) w', er ≠ 0 → (∀ last, Runs (leNum bs) (8 * bs.length) most ⟨p0, last, out0, .coded ll dl⟩ (.error er)) → Fl lo w w' → Q (.returned (.tuple #[.slice none 0 0, .int .i64 (er : Int)])) w') :
    Calls Tryd.prog 22 #[.pointer (some ⟨R, 0, none⟩), .pointer (some ⟨LM, 0, none⟩), .pointer (some ⟨DM, 0, none⟩), .slice oa n0 oc, .int .i64 (most : Int)] w Q := by
  obtain ⟨i0, hi, hz0, hz1, hz2⟩ := info_parts Tryd.info5
  have H := hide h
  have Hok := hide hok
  have Herr := hide herr
  clear h hok herr
  go_enter Tryd.func22, Tryd.ntmps22
  go_wp2
  go_loopw [3, 12, 13, 14, 15, 16, 17, 18, 19, 20] (fun v _ _ _ _ _ _ _ _ _ wr => ∃ (out : List Nat) (p : Nat) (a : Option Addr) (c N : Nat), v = .slice a N c ∧ Hid (Cw w wr lo R sv bs most LM DM ll dl p out a c N) ∧
    Hid (∀ last r, Runs (leNum bs) (8 * bs.length) most ⟨p, last, out, .coded ll dl⟩ r → Runs (leNum bs) (8 * bs.length) most ⟨p0, last, out0, .coded ll dl⟩ r)) (fun _ _ _ _ _ _ _ _ _ _ wr => 8 * bs.length - cellI wr R 1)
  case atStart => exact ⟨out0, p0, oa, oc, n0, rfl, H.out, fun _ _ h => h⟩
  case round =>
    obtain ⟨out, p, a, c, N, rfl, C0, G⟩ := hrel
    have hN : N ≤ 2147480000 := by have := C0.out.n; have := C0.out.le; omega
    obtain ⟨clo, chi, k1, k2, k3⟩ := C0.out.cl
    have A1 : Hid (∀ er, word ll dl out.length (leNum bs) (8 * bs.length) p = .error er → ∀ last, Runs (leNum bs) (8 * bs.length) most ⟨p0, last, out0, .coded ll dl⟩ (.error er)) := by
      intro er hw last
      exact G.out last _ (.fail (by simp only [adv, hw]))
    have E0 : Hid (word ll dl out.length (leNum bs) (8 * bs.length) p = andThen (tk ll) (fun s => if s < 256 then ret (.lit s) else if s = 256 then ret .fin else andThen (rlen s) fun n => andThen (rdist dl out.length) fun d => ret (.row n d)) (leNum bs) (8 * bs.length) p) := rfl
    go_wp2_with fail
    refine rwords wr lo R sv bs p C0.out.z LM clo chi ll k1 k2 _ ⟨?ok1, ?no1⟩
    case no1 =>
      intro er w1 hx hF
      have her : er ≠ 0 := (Ne0.tk ll).ne hx
      have hei : ((er : Int) == 0) = false := beq_false_of_ne (by omega)
      have hej : ¬ (er : Int) = 0 := by omega
      have X := hide (Herr.out er w1 her (A1.out er (E0.out.trans (then_err hx))) (C0.out.fl.join (C0.out.z.low hF)))
      clear hx hF k1 k2 k3
      go_wp2
      exact X.out
    intro s q w1 hx hr hF
    have hpq : p < q := (tkFrom_good ll _ _ hx).1
    have hqL : q ≤ 8 * bs.length := hr.epos
    have E1 := hide (E0.out.trans (then_ok hx))
    have C1 := hide (C0.out.next hr hF)
    have Hm0 : Hid (cellI wr R 1 = p) := C0.out.pos
    clear hx hr hF k1 k2 k3
    by_cases h256 : s = 256
    · subst h256
      have E2 : word ll dl out.length (leNum bs) (8 * bs.length) p = .ok (.fin, q) := E1.out
      have X := hide (Hok.out a c N out q w1 C1.out (fun last r hr => G.out last r (.go (s' := ⟨q, last, out, .ahead⟩) (by simp only [adv, E2]) hr)))
      clear E2
      go_wp2
      exact X.out
    · have h6 : ((s : Int) == 256) = false := beq_false_of_ne (by omega)
      have h6j : ¬ (s : Int) = 256 := by omega
      by_cases hlit : s < 256
      · have hli : (s : Int) < 256 := by omega
        have E2 := E1.out
        rw [if_pos hlit] at E2
        have E2' : word ll dl out.length (leNum bs) (8 * bs.length) p = .ok (.lit s, q) := E2
        have A2 : Hid (∀ last, adv (leNum bs) (8 * bs.length) ⟨p, last, out, .coded ll dl⟩ = .put ⟨q, last, out ++ [s], .coded ll dl⟩) := by
          intro last
          simp only [adv, E2']
        clear E2 E2'
        by_cases hful : most ≤ N
        · have hfi : (most : Int) ≤ (N : Int) := by omega
          have X := hide (Herr.out 6 w1 (by omega) (fun last => G.out last _ (.full (A2.out last) (by show most ≤ out.length; rw [← C1.out.n]; exact hful))) C1.out.fl)
          go_wp2
          exact X.out
        · have hfi : ¬ (most : Int) ≤ (N : Int) := by omega
          obtain ⟨hown, hRl, hlow⟩ := C1.out.low
          have Hown := hide hown
          have hwb : IntKind.u8.wrap (s : Int) = (s : Int) := wrap_u8 _ (by omega) (by omega)
          clear hown
          go_wp2_with (at_builtin; go_must (refine wpList_append_lies _ rfl _ _ 23 rfl lo 5 i0 (.int .u8 0) 1 1 Tryd.underlying23 hi hz0 hz1 hz2 rfl (by decide) (.slice a N c) N (cellsOf out) rfl (Hown.out.alloc _) ⟨w1.heap.size, 0, none⟩ 1 1 [.int .u8 (s : Int)] rfl rfl (cell_one_new _ _ _) (fun x hx => by simp at hx; subst hx; rfl) (by decide) (by unfold maxLen; omega) (by omega) (by simp; omega) (w1.heap.size + 1) (by simp) ?_); intro g cap w7 hown7 hgrow hat hlt7)
          have C2 := hide (C1.out.put (by omega) hown7 hgrow hat)
          have G2 : Hid (∀ last r, Runs (leNum bs) (8 * bs.length) most ⟨q, last, out ++ [s], .coded ll dl⟩ r → Runs (leNum bs) (8 * bs.length) most ⟨p0, last, out0, .coded ll dl⟩ r) := fun last r hr => G.out last r (.put (A2.out last) (by show out.length < most; rw [← C1.out.n]; omega) hr)
          clear hown7 hgrow hat hlt7
          go_roundw
          case rel => exact ⟨out ++ [s], q, some ⟨g, 0, none⟩, cap, N + 1, rfl, C2.out, G2.out⟩
          case measure => rw [C2.out.pos, Hm0.out]; omega
      · have hli : ¬ (s : Int) < 256 := by omega
        have E2 := E1.out
        rw [if_neg hlit, if_neg h256] at E2
        have HE2 := hide E2
        clear E2
        by_cases h285 : 285 < s
        · go_wp2_with fail
          refine (lengthOf_no s h285 w1).mono ?_
          rintro e w2 ⟨rfl, hF⟩
          have X := hide (Herr.out 4 w2 (by omega) (A1.out 4 (HE2.out.trans (then_err (by unfold rlen; rw [if_pos h285]; rfl)))) (C1.out.fl.join (Fl0 hF)))
          clear hF
          go_wp2
          exact X.out
        · obtain ⟨i, rfl⟩ : ∃ i, s = 257 + i := ⟨s - 257, by omega⟩
          have hi29 : i < 29 := by omega
          obtain ⟨hlm, hlb⟩ := lm_le i hi29
          have hlb3 := lb_ge i hi29
          have E3 := HE2.out
          have E4 : Hid (rlen (257 + i) (leNum bs) (8 * bs.length) q = andThen (tkn (lm i)) (fun x => ret (lb i + x)) (leNum bs) (8 * bs.length) q) := rlen_tab i hi29 hqL
          obtain ⟨LB, hLB⟩ : ∃ LB, LB = lb i := ⟨_, rfl⟩
          obtain ⟨LMo, hLM⟩ : ∃ LMo, LMo = lm i := ⟨_, rfl⟩
          have HL := hide (lengthOf_c i hi29 w1)
          rw [← hLB, ← hLM] at HL E4
          rw [← hLB] at hlb hlb3
          rw [← hLM] at hlm
          obtain ⟨sy, hsy⟩ : ∃ sy, sy = 257 + i := ⟨_, rfl⟩
          rw [← hsy] at HL HE2 E4 hlit h256 h6 h6j hli ⊢
          clear E3 hLB hLM hsy h285
          go_wp2_with fail
          refine HL.out.mono ?_
          rintro e w2 ⟨rfl, hF⟩
          have C2 := hide (C1.out.fr hF)
          clear hF
          go_wp2_with fail
          refine rtakes w2 lo R sv bs q LMo C2.out.z (by omega) _ ⟨?ok2, ?no2⟩
          case no2 =>
            intro w3 hx hF
            have X := hide (Herr.out 2 w3 (by omega) (A1.out 2 (HE2.out.trans (then_err (E4.out.trans (then_err hx))))) (C2.out.fl.join (C2.out.z.low hF)))
            clear hx hF
            go_wp2
            exact X.out
          intro x q2 w3 hx hr hF
          have hxb : x < 32 := Nat.lt_of_lt_of_le (tkn_lt hx) (Nat.pow_le_pow_right (by decide) hlm)
          have hq2 : q ≤ q2 := by have := (tkn_inv hx).2.2; omega
          have E5 := hide (HE2.out.trans (then_ok (E4.out.trans (then_ok hx))))
          have C3 := hide (C2.out.next hr hF)
          obtain ⟨n, hn⟩ : ∃ n, n = LB + x := ⟨_, rfl⟩
          have hni : (LB : Int) + (x : Int) = (n : Int) := by omega
          have hnb : 3 ≤ n ∧ n ≤ 300 := by omega
          rw [← hn] at E5
          obtain ⟨dlo, dhi, j1, j2, j3⟩ := C3.out.cd
          have E6 : Hid (word ll dl out.length (leNum bs) (8 * bs.length) p = andThen (andThen (tk dl) fun s => if 30 ≤ s then bad 4 else andThen (rung s 2) fun x => if out.length < 1 + x then bad 4 else ret (1 + x)) (fun d => ret (.row n d)) (leNum bs) (8 * bs.length) q2) := E5.out
          clear hx hr hF hn E5
          go_wp2_with fail
          refine rwords w3 lo R sv bs q2 C3.out.z DM dlo dhi dl j1 j2 _ ⟨?ok3, ?no3⟩
          case no3 =>
            intro er w4 hx hF
            have her : er ≠ 0 := (Ne0.tk dl).ne hx
            have hei : ((er : Int) == 0) = false := beq_false_of_ne (by omega)
            have hej : ¬ (er : Int) = 0 := by omega
            have X := hide (Herr.out er w4 her (A1.out er (E6.out.trans (then_err (then_err hx)))) (C3.out.fl.join (C3.out.z.low hF)))
            clear hx hF j1 j2 j3
            go_wp2
            exact X.out
          intro d q3 w4 hx hr hF
          have hq3 : q2 < q3 := (tkFrom_good dl _ _ hx).1
          have hq3L : q3 ≤ 8 * bs.length := hr.epos
          have E7 : Hid (word ll dl out.length (leNum bs) (8 * bs.length) p = andThen (if 30 ≤ d then bad 4 else andThen (rung d 2) fun x => if out.length < 1 + x then bad 4 else ret (1 + x)) (fun d => ret (.row n d)) (leNum bs) (8 * bs.length) q3) := by
            show _ = _
            rw [E6.out]
            simp only [andThen, hx]
          have C4 := hide (C3.out.next hr hF)
          clear hx hr hF j1 j2 j3
          by_cases h30 : 30 ≤ d
          · have E8 := E7.out
            rw [if_pos h30] at E8
            go_wp2_with fail
            refine (distanceOf_no d h30 w4).mono ?_
            rintro e w5 ⟨rfl, rfl⟩
            have X := hide (Herr.out 4 w4 (by omega) (A1.out 4 (E8.trans (then_err rfl))) C4.out.fl)
            clear E8
            go_wp2
            exact X.out
          · have E8 := E7.out
            rw [if_neg h30] at E8
            obtain ⟨hdm, hdb1, hdb2⟩ := dm_le d (by omega)
            have E9 : Hid (word ll dl out.length (leNum bs) (8 * bs.length) p = andThen (andThen (tkn (dm d)) fun x => if out.length < db d + x then bad 4 else ret (db d + x)) (fun d => ret (.row n d)) (leNum bs) (8 * bs.length) q3) := by
              show _ = _
              rw [E8]
              have := rdist_tab2 d out.length (V := leNum bs) hq3L
              simp only [andThen] at this ⊢
              rw [this]
            obtain ⟨DB, hDB⟩ : ∃ DB, DB = db d := ⟨_, rfl⟩
            obtain ⟨DMo, hDM⟩ : ∃ DMo, DMo = dm d := ⟨_, rfl⟩
            have HD := hide (distanceOf_c d (by omega) w4)
            rw [← hDB, ← hDM] at HD E9
            rw [← hDB] at hdb1 hdb2
            rw [← hDM] at hdm
            clear E8 hDB hDM
            go_wp2_with fail
            refine HD.out.mono ?_
            rintro e w5 ⟨rfl, rfl⟩
            go_wp2_with fail
            refine rtakes w4 lo R sv bs q3 DMo C4.out.z (by omega) _ ⟨?ok4, ?no4⟩
            case no4 =>
              intro w6 hx hF
              have X := hide (Herr.out 2 w6 (by omega) (A1.out 2 (E9.out.trans (then_err (then_err hx)))) (C4.out.fl.join (C4.out.z.low hF)))
              clear hx hF
              go_wp2
              exact X.out
            intro x2 q4 w6 hx hr hF
            have hx2b : x2 < 8192 := Nat.lt_of_lt_of_le (tkn_lt hx) (Nat.pow_le_pow_right (by decide) hdm)
            have hq4 : q3 ≤ q4 := by have := (tkn_inv hx).2.2; omega
            have hq4L : q4 ≤ 8 * bs.length := hr.epos
            obtain ⟨bk, hbk⟩ : ∃ bk, bk = DB + x2 := ⟨_, rfl⟩
            have hbki : (DB : Int) + (x2 : Int) = (bk : Int) := by omega
            have hbkb : 1 ≤ bk ∧ bk ≤ 100000 := by omega
            have EA : Hid (word ll dl out.length (leNum bs) (8 * bs.length) p = andThen (if out.length < bk then bad 4 else ret bk) (fun d => ret (.row n d)) (leNum bs) (8 * bs.length) q4) := by
              show _ = _
              rw [E9.out, hbk]
              simp only [andThen, hx]
            have C6 := hide (C4.out.next hr hF)
            clear hx hr hF hbk
            by_cases hback : N < bk
            · have hbi : (N : Int) < (bk : Int) := by omega
              have EB := EA.out
              rw [if_pos (by rw [← C6.out.n]; exact hback)] at EB
              have X := hide (Herr.out 4 w6 (by omega) (A1.out 4 (EB.trans (then_err rfl))) C6.out.fl)
              clear EB
              go_wp2
              exact X.out
            · have hbi : ¬ (N : Int) < (bk : Int) := by omega
              have EB := EA.out
              rw [if_neg (by rw [← C6.out.n]; exact hback)] at EB
              have EC : word ll dl out.length (leNum bs) (8 * bs.length) p = .ok (.row n bk, q4) := EB
              have G6 : Hid (∀ last r, Runs (leNum bs) (8 * bs.length) most ⟨q4, last, out, rowSt n bk ll dl⟩ r → Runs (leNum bs) (8 * bs.length) most ⟨p0, last, out0, .coded ll dl⟩ r) := by
                intro last r hr
                refine G.out last r (.go (s' := ⟨q4, last, out, .row n bk ll dl⟩) (by simp only [adv, EC]) ?_)
                unfold rowSt at hr
                rw [if_neg (by omega)] at hr
                exact hr
              clear EB EC
              go_wp2
              go_loopw [3, 20] (fun v iv wq => ∃ (i : Nat) (out' : List Nat) (a' : Option Addr) (c' N' : Nat), i ≤ n ∧ iv = .int .i64 (i : Int) ∧ v = .slice a' N' c' ∧ bk ≤ N' ∧ Hid (Cw w wq lo R sv bs most LM DM ll dl q4 out' a' c' N') ∧
                Hid (∀ last r, Runs (leNum bs) (8 * bs.length) most ⟨q4, last, out', rowSt (n - i) bk ll dl⟩ r → Runs (leNum bs) (8 * bs.length) most ⟨p0, last, out0, .coded ll dl⟩ r)) (fun _ iv _ => n - (intOf iv).toNat)
              case atStart => exact ⟨0, out, a, c, N, Nat.zero_le _, rfl, rfl, by omega, C6.out, G6.out⟩
              case round =>
                obtain ⟨i, out', a', c', N', hi1, rfl, rfl, hbN, D0, D1⟩ := hrel
                have hN' : N' ≤ 2147480000 := by have := D0.out.n; have := D0.out.le; omega
                by_cases hlt : i < n
                · have hlti : (i : Int) < (n : Int) := by omega
                  by_cases hful : most ≤ N'
                  · have hfi : (most : Int) ≤ (N' : Int) := by omega
                    have X := hide (Herr.out 6 wr (by omega) (fun last => D1.out last _ (.full (adv_rowSt (by omega)) (by show most ≤ out'.length; rw [← D0.out.n]; exact hful))) D0.out.fl)
                    go_wp2
                    exact X.out
                  · have hfi : ¬ (most : Int) ≤ (N' : Int) := by omega
                    obtain ⟨j, hj⟩ : ∃ j, j = N' - bk := ⟨_, rfl⟩
                    have hji : (N' : Int) - (bk : Int) = (j : Int) := by omega
                    have hjN : (j : Int) < (N' : Int) := by omega
                    obtain ⟨ad, rfl, had⟩ := D0.out.o.at D0.out.n (show j < N' by omega)
                    obtain ⟨b, hb⟩ : ∃ b, b = out'.getD j 0 := ⟨_, rfl⟩
                    rw [← hb] at had
                    have A3 : Hid (∀ last, adv (leNum bs) (8 * bs.length) ⟨q4, last, out', rowSt (n - i) bk ll dl⟩ = .put ⟨q4, last, out' ++ [b], rowSt (n - (i + 1)) bk ll dl⟩) := by
                      intro last
                      rw [adv_rowSt (by omega), ← D0.out.n, ← hj, ← hb, show n - i - 1 = n - (i + 1) by omega]
                    obtain ⟨hown, hRl, hlow⟩ := D0.out.low
                    have Hown := hide hown
                    clear hown hj hb
                    go_wp2_with (at_builtin; go_must (refine wpList_append_lies _ rfl _ _ 23 rfl lo 5 i0 (.int .u8 0) 1 1 Tryd.underlying23 hi hz0 hz1 hz2 rfl (by decide) (.slice (some ad) N' c') N' (cellsOf out') rfl (Hown.out.alloc _) ⟨wr.heap.size, 0, none⟩ 1 1 [.int .u8 (b : Int)] rfl rfl (cell_one_new _ _ _) (fun x hx => by simp at hx; subst hx; rfl) (by decide) (by unfold maxLen; omega) (by omega) (by simp; omega) (wr.heap.size + 1) (by simp) ?_); intro g cap w7 hown7 hgrow hat hlt7)
                    have D2 := hide (D0.out.put (by omega) hown7 hgrow hat)
                    have D3 : Hid (∀ last r, Runs (leNum bs) (8 * bs.length) most ⟨q4, last, out' ++ [b], rowSt (n - (i + 1)) bk ll dl⟩ r → Runs (leNum bs) (8 * bs.length) most ⟨p0, last, out0, .coded ll dl⟩ r) := fun last r hr => D1.out last r (.put (A3.out last) (by show out'.length < most; rw [← D0.out.n]; omega) hr)
                    clear hown7 hgrow hat hlt7
                    go_roundw
                    case rel => exact ⟨i + 1, out' ++ [b], some ⟨g, 0, none⟩, cap, N' + 1, by omega, by go_num, rfl, by omega, D2.out, D3.out⟩
                    case measure => simp [intOf]; omega
                · have hlti : ¬ (i : Int) < (n : Int) := by omega
                  have hie : i = n := by omega
                  subst hie
                  have D2 : Hid (∀ last r, Runs (leNum bs) (8 * bs.length) most ⟨q4, last, out', .coded ll dl⟩ r → Runs (leNum bs) (8 * bs.length) most ⟨p0, last, out0, .coded ll dl⟩ r) := by
                    intro last r hr
                    refine D1.out last r ?_
                    rw [Nat.sub_self]
                    exact hr
                  go_wp2
                  go_roundw
                  case rel => exact ⟨out', q4, a', c', N', rfl, D0.out, D2.out⟩
                  case measure => rw [D0.out.pos, Hm0.out]; omega
end Go.Proofs.YtmefhngmgfmhoaaDoor

/-
  The document's own fixed codes.
-/
namespace Go.Proofs.YtmefhngmgfmhoaaDoor
open Go.RowKit

theorem take_succZ {L : List Int} {i : Nat} (hi : i < L.length) : L.take (i + 1) = L.take i ++ [at0 L i] := by
  rw [List.take_add_one, List.getElem?_eq_getElem hi]
  simp [at0, List.getElem?_eq_getElem hi]

theorem row_append {w wr w3 : World} {L : List Int} {a : Option Addr} {i c g cap : Nat} {v : Int} {o : Obj} (hF : Fr (fun _ => False) w wr) (hown : wr.ownsRow w.heap.size 3 1 (.slice a i c) i (cellsZ (L.take i))) (hi : i < L.length) (hv : at0 L i = v)
    (hown3 : w3.ownsRow w.heap.size 3 1 (.slice (some ⟨g, 0, none⟩) (i + 1) cap) (i + 1) (cellsZ (L.take i) ++ [.int .i64 v])) (hgrow : (wr.alloc o).grownBy w3 (Value.slice a i c).ownBlock) :
    w3.ownsRow w.heap.size 3 1 (.slice (some ⟨g, 0, none⟩) (i + 1) cap) (i + 1) (cellsZ (L.take (i + 1))) ∧ Fr (fun _ => False) w w3 := by
  refine ⟨by rw [take_succZ hi, hv, ← cellsZ_snoc]; exact hown3, ?_⟩
  have f1 : Fr (fun k => (Value.slice a i c).ownBlock = some k) (wr.alloc o) w3 := ⟨hgrow.os, hgrow.tape, hgrow.output, hgrow.size, fun k hk hn => hgrow.block k hk (fun e => hn e.symm)⟩
  exact ((hF.trans (Fr.of_alloc wr o)).trans f1).mono fun k hk h => by
    rcases h with (h | h) | h
    · exact h
    · exact h
    · have := (hown.lt k h).1; omega

set_option maxHeartbeats 1600000 in
set_option maxRecDepth 100000 in
theorem rfixed_c (w : World) : Calls Tryd.prog 21 #[] w fun e w' => ∃ A B l1 h1 l2 h2, e = .returned (.tuple #[.pointer (some ⟨A, 0, none⟩), .pointer (some ⟨B, 0, none⟩)]) ∧ Rc w' l1 h1 A fixL ∧ Rc w' l2 h2 B fixD ∧ w.heap.size ≤ l1 ∧ w.heap.size ≤ l2 ∧ Fr (fun _ => False) w w' := by
  obtain ⟨i0, hi, hz0, hz1, hz2⟩ := info_parts Tryd.info3
  go_enter Tryd.func21, Tryd.ntmps21
  go_wp2
  go_loopw [2, 4] (fun v iv wr => ∃ i : Nat, i ≤ 288 ∧ iv = .int .i64 (i : Int) ∧ ∃ a c, v = .slice a i c ∧ wr.ownsRow w.heap.size 3 1 (.slice a i c) i (cellsZ (fixL.take i)) ∧ Fr (fun _ => False) w wr) (fun _ iv _ => 288 - (intOf iv).toNat)
  case atStart => exact ⟨0, Nat.zero_le _, rfl, none, 0, rfl, World.ownsRow_nil _ _ _ _, Fr.refl _ _⟩
  case round =>
    obtain ⟨i, hi1, rfl, a, c, rfl, hown, hF⟩ := hrel
    have Hown := hide hown
    have HF := hide hF
    have hsz := hF.size
    clear hown hF
    by_cases hlt : i < 288
    · have hlti : (i : Int) < 288 := by omega
      by_cases a1 : i < 144
      · have a1i : (i : Int) < 144 := by omega
        go_wp2_with (at_builtin; go_must (refine wpList_append_lies _ rfl _ _ 34 rfl w.heap.size 3 i0 (.int .i64 0) 1 8 Tryd.underlying34 hi hz0 hz1 hz2 rfl (by decide) (.slice a i c) i (cellsZ (fixL.take i)) rfl (Hown.out.alloc _) ⟨wr.heap.size, 0, none⟩ 1 1 [.int .i64 8] rfl rfl (cell_one_new _ _ _) (fun x hx => by simp at hx; subst hx; rfl) (by decide) (by unfold maxLen; omega) (by omega) (by simp; omega) (wr.heap.size + 1) (by simp) ?_); intro g cap w3 hown3 hgrow hat hlt3)
        obtain ⟨G1, G2⟩ := row_append (v := 8) HF.out Hown.out (by rw [fixL_len]; omega) (by rw [fixL_at, if_pos a1]) hown3 hgrow
        have G1' := hide G1
        have G2' := hide G2
        clear G1 G2 hown3 hgrow hat hlt3
        go_roundw
        case rel => exact ⟨i + 1, by omega, by go_num, some ⟨g, 0, none⟩, cap, rfl, G1'.out, G2'.out⟩
        case measure => simp [intOf]; omega
      · have a1i : ¬ (i : Int) < 144 := by omega
        by_cases a2 : i < 256
        · have a2i : (i : Int) < 256 := by omega
          go_wp2_with (at_builtin; go_must (refine wpList_append_lies _ rfl _ _ 34 rfl w.heap.size 3 i0 (.int .i64 0) 1 8 Tryd.underlying34 hi hz0 hz1 hz2 rfl (by decide) (.slice a i c) i (cellsZ (fixL.take i)) rfl (Hown.out.alloc _) ⟨wr.heap.size, 0, none⟩ 1 1 [.int .i64 9] rfl rfl (cell_one_new _ _ _) (fun x hx => by simp at hx; subst hx; rfl) (by decide) (by unfold maxLen; omega) (by omega) (by simp; omega) (wr.heap.size + 1) (by simp) ?_); intro g cap w3 hown3 hgrow hat hlt3)
          obtain ⟨G1, G2⟩ := row_append (v := 9) HF.out Hown.out (by rw [fixL_len]; omega) (by rw [fixL_at, if_neg a1, if_pos a2]) hown3 hgrow
          have G1' := hide G1
          have G2' := hide G2
          clear G1 G2 hown3 hgrow hat hlt3
          go_roundw
          case rel => exact ⟨i + 1, by omega, by go_num, some ⟨g, 0, none⟩, cap, rfl, G1'.out, G2'.out⟩
          case measure => simp [intOf]; omega
        · have a2i : ¬ (i : Int) < 256 := by omega
          by_cases a3 : i < 280
          · have a3i : (i : Int) < 280 := by omega
            go_wp2_with (at_builtin; go_must (refine wpList_append_lies _ rfl _ _ 34 rfl w.heap.size 3 i0 (.int .i64 0) 1 8 Tryd.underlying34 hi hz0 hz1 hz2 rfl (by decide) (.slice a i c) i (cellsZ (fixL.take i)) rfl (Hown.out.alloc _) ⟨wr.heap.size, 0, none⟩ 1 1 [.int .i64 7] rfl rfl (cell_one_new _ _ _) (fun x hx => by simp at hx; subst hx; rfl) (by decide) (by unfold maxLen; omega) (by omega) (by simp; omega) (wr.heap.size + 1) (by simp) ?_); intro g cap w3 hown3 hgrow hat hlt3)
            obtain ⟨G1, G2⟩ := row_append (v := 7) HF.out Hown.out (by rw [fixL_len]; omega) (by rw [fixL_at, if_neg a1, if_neg a2, if_pos a3]) hown3 hgrow
            have G1' := hide G1
            have G2' := hide G2
            clear G1 G2 hown3 hgrow hat hlt3
            go_roundw
            case rel => exact ⟨i + 1, by omega, by go_num, some ⟨g, 0, none⟩, cap, rfl, G1'.out, G2'.out⟩
            case measure => simp [intOf]; omega
          · have a3i : ¬ (i : Int) < 280 := by omega
            go_wp2_with (at_builtin; go_must (refine wpList_append_lies _ rfl _ _ 34 rfl w.heap.size 3 i0 (.int .i64 0) 1 8 Tryd.underlying34 hi hz0 hz1 hz2 rfl (by decide) (.slice a i c) i (cellsZ (fixL.take i)) rfl (Hown.out.alloc _) ⟨wr.heap.size, 0, none⟩ 1 1 [.int .i64 8] rfl rfl (cell_one_new _ _ _) (fun x hx => by simp at hx; subst hx; rfl) (by decide) (by unfold maxLen; omega) (by omega) (by simp; omega) (wr.heap.size + 1) (by simp) ?_); intro g cap w3 hown3 hgrow hat hlt3)
            obtain ⟨G1, G2⟩ := row_append (v := 8) HF.out Hown.out (by rw [fixL_len]; omega) (by rw [fixL_at, if_neg a1, if_neg a2, if_neg a3, if_pos hlt]) hown3 hgrow
            have G1' := hide G1
            have G2' := hide G2
            clear G1 G2 hown3 hgrow hat hlt3
            go_roundw
            case rel => exact ⟨i + 1, by omega, by go_num, some ⟨g, 0, none⟩, cap, rfl, G1'.out, G2'.out⟩
            case measure => simp [intOf]; omega
    · have hlti : ¬ (i : Int) < 288 := by omega
      have hie : i = 288 := by omega
      subst hie
      rw [List.take_of_length_le (by rw [fixL_len]; exact Nat.le_refl _)] at Hown
      have HL := hide (own_lies Hown.out)
      obtain ⟨al, hal⟩ : ∃ al, al = a := ⟨_, rfl⟩
      obtain ⟨cl, hcl⟩ : ∃ cl, cl = c := ⟨_, rfl⟩
      obtain ⟨wl, hwl⟩ : ∃ wl, wl = wr := ⟨_, rfl⟩
      rw [← hal, ← hwl] at HL
      rw [← hwl] at HF
      rw [← hal, ← hcl]
      clear hlt Hown
      subst hwl
      go_wp2
      go_loopw [3, 5] (fun v iv wr => ∃ i : Nat, i ≤ 32 ∧ iv = .int .i64 (i : Int) ∧ ∃ a c, v = .slice a i c ∧ wr.ownsRow wl.heap.size 3 1 (.slice a i c) i (cellsZ (fixD.take i)) ∧ Fr (fun _ => False) wl wr) (fun _ iv _ => 32 - (intOf iv).toNat)
      case atStart => exact ⟨0, Nat.zero_le _, rfl, none, 0, rfl, World.ownsRow_nil _ _ _ _, Fr.refl _ _⟩
      case round =>
        obtain ⟨i, hi1, rfl, a, c, rfl, hown, hFl⟩ := hrel
        have Hown := hide hown
        have HFl := hide hFl
        have hsz := hFl.size
        clear hown hFl
        by_cases hlt : i < 32
        · have hlti : (i : Int) < 32 := by omega
          go_wp2_with (at_builtin; go_must (refine wpList_append_lies _ rfl _ _ 34 rfl wl.heap.size 3 i0 (.int .i64 0) 1 8 Tryd.underlying34 hi hz0 hz1 hz2 rfl (by decide) (.slice a i c) i (cellsZ (fixD.take i)) rfl (Hown.out.alloc _) ⟨wr.heap.size, 0, none⟩ 1 1 [.int .i64 5] rfl rfl (cell_one_new _ _ _) (fun x hx => by simp at hx; subst hx; rfl) (by decide) (by unfold maxLen; omega) (by omega) (by simp; omega) (wr.heap.size + 1) (by simp) ?_); intro g cap w3 hown3 hgrow hat hlt3)
          obtain ⟨G1, G2⟩ := row_append (v := 5) HFl.out Hown.out (by rw [fixD_len]; omega) (by rw [fixD_at, if_pos hlt]) hown3 hgrow
          have G1' := hide G1
          have G2' := hide G2
          clear G1 G2 hown3 hgrow hat hlt3
          go_roundw
          case rel => exact ⟨i + 1, by omega, by go_num, some ⟨g, 0, none⟩, cap, rfl, G1'.out, G2'.out⟩
          case measure => simp [intOf]; omega
        · have hlti : ¬ (i : Int) < 32 := by omega
          have hie : i = 32 := by omega
          subst hie
          rw [List.take_of_length_le (by rw [fixD_len]; exact Nat.le_refl _)] at Hown
          have HD := hide (own_lies Hown.out)
          have HL2 := hide (HL.out.fr HFl.out)
          clear hlt Hown
          go_wp2_with fail
          refine calls_args (refNew_c al cl fixL wr HL2.out (by rw [fixL_len]; omega) _ ?b1 ?n1 ?y1) (by rw [fixL_len, hal, hcl])
          case b1 => (intro h; exact absurd fixL_good h)
          case n1 => (intro _ h; exact absurd fixL_ok h)
          intro _ _ w4 A hA hF4
          have HA := hide hA
          have HF4 := hide hF4
          have HD4 := hide (HD.out.fr hF4)
          clear hA hF4
          go_wp2_with fail
          refine calls_args (refNew_c a c fixD w4 HD4.out (by rw [fixD_len]; omega) _ ?b2 ?n2 ?y2) (by rw [fixD_len])
          case b2 => (intro h; exact absurd fixD_good h)
          case n2 => (intro _ h; exact absurd fixD_ok h)
          intro _ _ w5 B hB hF5
          have HB := hide hB
          have HF5 := hide hF5
          have HA5 := hide (HA.out.keep hF5 (fun _ _ _ h => h))
          clear hB hF5
          go_wp2
          go_ret2
          have s1 := HF.out.size
          have s4 := HF4.out.size
          exact ⟨A, B, _, _, _, _, rfl, HA5.out, HB.out, by omega, by omega, HF.out.join (HFl.out.join (HF4.out.join HF5.out))⟩
end Go.Proofs.YtmefhngmgfmhoaaDoor
