/-
  lzw: a value is taken.
-/
import Derived.Test.YtdbgolklgiadeaaXp
namespace Go.Proofs.Ytdbgolklgiadeaa
open Go.RowKit

/-- What a step of the Reader that may put out a byte comes to. -/
structure Putx (lo M B : Nat) (bs : List Nat) (k most : Nat) (q : Rq) (b : Nat) (rv ov : Value) (w : World) (e : Ending) (w' : World) : Prop where
  full : most ≤ q.out.length → e = .returned (.bool false) ∧ w'.heap[M]? = some (.cells (dcells (.slice none 0 0) 6).toArray 71 (0, 0)) ∧ Fr (Rmine M rv ov) w w'
  fits : q.out.length < most → e = .returned (.bool true) ∧ ∃ ra rc oa oc, Rx w' lo M B bs k most { q with out := q.out ++ [b] } ra rc oa oc ∧ Fr (Rmine M rv ov) w w' ∧ Grown w rv (.slice ra q.rs.length rc) ∧ Grown w ov (.slice oa (q.out.length + 1) oc)

theorem mkq_out (k : Nat) (q : Rq) : (mkq k q).out = q.out := by unfold mkq; split <;> rfl

/-- The byte is put out. -/
theorem Rx.put {w w' : World} {lo M B : Nat} {bs : List Nat} {k most : Nat} {q : Rq} {ra : Option Addr} {rc : Nat} {oa : Option Addr} {oc : Nat} {b : Nat} {e : Ending} (h : Rx w lo M B bs k most q ra rc oa oc) (hb : b < 256)
    (hp : Putd M (M + 1) (rcells B k most q (.slice ra q.rs.length rc) (.slice oa q.out.length oc)) (.slice oa q.out.length oc) q.out b most w e w') :
    Putx lo M B bs k most q b (.slice ra q.rs.length rc) (.slice oa q.out.length oc) w e w' := by
  refine ⟨fun hf => ?_, fun hf => ?_⟩
  · obtain ⟨h1, h2, h3⟩ := hp.full hf
    exact ⟨h1, h2, h3.mono fun _ _ e => Or.inl e⟩
  · obtain ⟨h1, oa', oc', h2, h3, h4, h5⟩ := hp.fits hf
    have el : (q.out ++ [b]).length = q.out.length + 1 := by simp
    have hF : Fr (Rmine M (.slice ra q.rs.length rc) (.slice oa q.out.length oc)) w w' := h4.mono fun _ _ e => e.elim Or.inl fun e => Or.inr (Or.inr e)
    refine ⟨h1, ra, rc, oa', oc', ⟨?_, ?_, ?_, ?_, h.next, ?_, ?_, h.big, h.ll⟩, hF, Or.inl rfl, h5⟩
    · rw [h2]
      simp only [rcells, el]
      rfl
    · exact h.rd.keep h4 (fun j _ hj e => by
        rcases e with e | e
        · omega
        · have := (World.ownsRow.lt h.own j e).1; omega)
    · exact own_keepR h.rws h4 fun j hj e => by
        rcases e with e | e
        · have := (World.ownsRow.lt h.rws j hj).1; omega
        · exact own_apart h.rws h.own j hj e
    · show OwnB w' (M + 1) (.slice oa' (q.out ++ [b]).length oc') (q.out ++ [b])
      rw [el]; exact h3
    · intro x hx
      rcases List.mem_append.1 hx with h0 | h0
      · exact h.byt x h0
      · rw [List.mem_singleton.1 h0]; exact hb
    · show (q.out ++ [b]).length ≤ most
      rw [el]; omega

theorem Grown.trans {w w1 : World} {v v1 v2 : Value} (h : Grown w v v1) (g : Grown w1 v1 v2) (hs : w.heap.size ≤ w1.heap.size) : Grown w v v2 := by
  rcases g with g | g
  · rcases h with h | h
    · exact Or.inl (g.trans h)
    · exact Or.inr fun j hj => h j (g ▸ hj)
  · exact Or.inr fun j hj => Nat.le_trans hs (g j hj)

theorem Rmine.pre {w w1 w' : World} {M : Nat} {rv rv1 ov : Value} (F : Fr (fun j => j = M ∨ rv.ownBlock = some j) w w1) (hG : Grown w rv rv1) (F2 : Fr (Rmine M rv1 ov) w1 w') : Fr (Rmine M rv ov) w w' :=
  (F.trans F2).mono fun j hj e => by
    rcases e with (e | e) | e | e | e
    · exact Or.inl e
    · exact Or.inr (Or.inl e)
    · exact Or.inl e
    · rcases hG with hG | hG
      · exact Or.inr (Or.inl (hG ▸ e))
      · have := hG j e; omega
    · exact Or.inr (Or.inr e)

theorem Putx.pre {lo M B : Nat} {bs : List Nat} {k most : Nat} {q : Rq} {b : Nat} {rv rv1 ov : Value} {w w1 : World} {e : Ending} {w' : World} (h : Putx lo M B bs k most q b rv1 ov w1 e w') (F : Fr (fun j => j = M ∨ rv.ownBlock = some j) w w1) (hG : Grown w rv rv1) : Putx lo M B bs k most q b rv ov w e w' := by
  refine ⟨fun hf => ?_, fun hf => ?_⟩
  · obtain ⟨h1, h2, h3⟩ := h.full hf
    exact ⟨h1, h2, Rmine.pre F hG h3⟩
  · obtain ⟨h1, ra, rc, oa, oc, h2, h3, h4, h5⟩ := h.fits hf
    exact ⟨h1, ra, rc, oa, oc, h2, Rmine.pre F hG h3, hG.trans h4 F.size, Grown.trans (v := ov) (Or.inl rfl) h5 F.size⟩

/-- The last row is told anew. -/
theorem Rx.last {w : World} {lo M B : Nat} {bs : List Nat} {k most : Nat} {q : Rq} {ra : Option Addr} {rc : Nat} {oa : Option Addr} {oc : Nat} (h : Rx w lo M B bs k most q ra rc oa oc) (n l : Nat) (hl : l ≤ 1000000) :
    Rx ((w.setCell ⟨M, 7, none⟩ (.int .i64 (n : Int))).setCell ⟨M, 8, none⟩ (.int .i64 (l : Int))) lo M B bs k most { q with lf := n, ll := l } ra rc oa oc := by
  have hF : Fr (fun j => j = M) w ((w.setCell ⟨M, 7, none⟩ (.int .i64 (n : Int))).setCell ⟨M, 8, none⟩ (.int .i64 (l : Int))) := (Fr.of_setCell w ⟨M, 7, none⟩ _).join (Fr.of_setCell _ ⟨M, 8, none⟩ _)
  refine ⟨heap_setCell_own _ (heap_setCell_own _ h.obj), h.rd.keep hF (fun j _ hj e => by have e2 : j = M := e; omega), ?_, ?_, h.next, h.byt, h.len, h.big, hl⟩
  · exact own_keepR h.rws hF fun j hj e => by have := (World.ownsRow.lt h.rws j hj).1; have e2 : j = M := e; omega
  · exact own_keepB h.own hF fun j hj e => by have := (World.ownsRow.lt h.own j hj).1; have e2 : j = M := e; omega

set_option maxHeartbeats 3200000 in
set_option maxRecDepth 100000 in
/-- A value. -/
theorem take_value (lo M B : Nat) (bs : List Nat) (k most : Nat) (q : Rq) (ra : Option Addr) (rc : Nat) (oa : Option Addr) (oc : Nat) (c : Nat) (w : World) (hk : 2 ≤ k ∧ k ≤ 8) (hc : c < 2 ^ k) (h : Rx w lo M B bs k most q ra rc oa oc) :
    Calls Try.prog 43 #[.pointer (some ⟨M, 0, none⟩), .int .i64 (c : Int)] w (Putx lo M B bs k most { mkq k q with lf := q.out.length, ll := 1 } c (.slice ra q.rs.length rc) (.slice oa q.out.length oc) w) := by
  have m3 : w.cell? ⟨M, 3, none⟩ = some (.int .i64 ((2 ^ k : Nat) : Int)) := cell_of (o := 3) h.obj rfl
  have He := hide (end_c M 3 k q.rs.length w hk.2 h.num)
  have Hm := hide (h.make_c hk)
  have hP2 := pow_le k hk.2
  have H := hide h
  clear h
  obtain ⟨P, hP⟩ : ∃ P, P = 2 ^ k := ⟨_, rfl⟩
  have HP := hide hP
  rw [← hP] at m3 He hc hP2
  have t1 : ((c : Int) == (P : Int)) = false := by rw [beq_eq_false_iff_ne]; omega
  obtain ⟨E, hE⟩ : ∃ E, E = P + 1 := ⟨_, rfl⟩
  rw [← hE] at He
  have t2 : ((c : Int) == (E : Int)) = false := by rw [beq_eq_false_iff_ne]; omega
  have hci : (c : Int) < (P : Int) := by omega
  have hwr : IntKind.u8.wrap (c : Int) = (c : Int) := by rw [IntKind.wrap_u8']; omega
  clear hP hE
  go_enter Try.func43, Try.ntmps43
  go_wp2_with fail
  refine He.out.mono ?_
  rintro e w1 ⟨rfl, rfl⟩
  clear m3
  go_wp2_with fail
  refine Hm.out.mono ?_
  rintro e w1 ⟨rfl, ra1, rc1, hX, hF1, hG1⟩
  have n3 : w1.cell? ⟨M, 3, none⟩ = some (.int .i64 (P : Int)) := by rw [HP.out]; exact cell_of (o := 3) hX.obj rfl
  have n7 : w1.cell? ⟨M, 7, none⟩ = some (.int .i64 ((mkq k q).lf : Int)) := cell_of (o := 7) hX.obj rfl
  have n8 : w1.cell? ⟨M, 8, none⟩ = some (.int .i64 ((mkq k q).ll : Int)) := cell_of (o := 8) hX.obj rfl
  have n11 : w1.cell? ⟨M, 11, none⟩ = some (.slice oa q.out.length oc) := by
    have := cell_of (o := 11) hX.obj rfl
    rw [← mkq_out k q]
    exact this
  have g7 := frozen_of (o := 7) hX.obj
  have g8 := frozen_of (o := 8) hX.obj
  have HX := hide hX
  have HF1 := hide hF1
  have HG1 := hide hG1
  clear hX hF1 hG1
  go_wp2_with fail
  have hX2 := HX.out.last q.out.length 1 (by omega)
  obtain ⟨w2, hw2⟩ : ∃ w2, w2 = (w1.setCell ⟨M, 7, none⟩ (.int .i64 (q.out.length : Int))).setCell ⟨M, 8, none⟩ (.int .i64 ((1 : Nat) : Int)) := ⟨_, rfl⟩
  have hw2b : (w1.setCell ⟨M, 7, none⟩ (.int .i64 (q.out.length : Int))).setCell ⟨M, 8, none⟩ (.int .i64 1) = w2 := hw2.symm
  rw [← hw2] at hX2
  rw [hw2b]
  have hF2 : Fr (fun j => j = M ∨ (Value.slice ra q.rs.length rc).ownBlock = some j) w w2 := by
    rw [hw2]
    refine ((HF1.out.trans (Fr.of_setCell w1 ⟨M, 7, none⟩ _)).trans (Fr.of_setCell _ ⟨M, 8, none⟩ _)).mono fun j _ e => ?_
    rcases e with (e | e) | e
    · exact e
    · exact Or.inl e
    · exact Or.inl e
  have hoq : ({ mkq k q with lf := q.out.length, ll := 1 } : Rq).out = q.out := mkq_out k q
  have hpc := put_c M (M + 1) _ oa oc _ c most w2 hX2.obj rfl rfl rfl hX2.own (Nat.lt_succ_self M) (lt_of hX2.obj) (Nat.le_trans hX2.len hX2.big)
  refine hpc.mono ?_
  intro e w3 h3
  have hx := (hX2.put (by omega) h3).pre hF2 HG1.out
  have ev : (Value.slice oa (mkq k q).out.length oc) = .slice oa q.out.length oc := by rw [mkq_out]
  by_cases hf : most ≤ (mkq k q).out.length
  · obtain ⟨rfl, _, _⟩ := hx.full hf
    have Hx : Hid (Putx lo M B bs k most { mkq k q with lf := q.out.length, ll := 1 } c (.slice ra q.rs.length rc) (.slice oa q.out.length oc) w (.returned (.bool false)) w3) := by rw [← ev]; exact hx
    clear hx h3 hpc hX2 hF2
    go_wp2_with fail
    go_ret
    exact Hx.out
  · obtain ⟨rfl, _⟩ := hx.fits (by show (mkq k q).out.length < most; omega)
    have Hx : Hid (Putx lo M B bs k most { mkq k q with lf := q.out.length, ll := 1 } c (.slice ra q.rs.length rc) (.slice oa q.out.length oc) w (.returned (.bool true)) w3) := by rw [← ev]; exact hx
    clear hx h3 hpc hX2 hF2
    go_wp2_with fail
    go_ret
    exact Hx.out
end Go.Proofs.Ytdbgolklgiadeaa
