/-
  lzw: the Reader goes on.
-/
import Derived.Test.YtdbgolklgiadeaaXr
namespace Go.Proofs.Ytdbgolklgiadeaa
open Go.RowKit

/-- The byte of a row is put out. -/
theorem Rx.put2 {w w' : World} {lo M B : Nat} {bs : List Nat} {k most : Nat} {q : Rq} {ra : Option Addr} {rc : Nat} {oa : Option Addr} {oc : Nat} {b f l : Nat} {e : Ending} (h : Rx w lo M B bs k most q ra rc oa oc) (hb : b < 256)
    (hp : Putd M (M + 1) (rcells B k most { q with fr := f, lt := l } (.slice ra q.rs.length rc) (.slice oa q.out.length oc)) (.slice oa q.out.length oc) q.out b most w e w') :
    Putx lo M B bs k most { q with fr := f, lt := l } b (.slice ra q.rs.length rc) (.slice oa q.out.length oc) w e w' := by
  refine ⟨fun hf => ?_, fun hf => ?_⟩
  · obtain ⟨h1, h2, h3⟩ := hp.full hf
    exact ⟨h1, h2, h3.mono fun _ _ e => Or.inl e⟩
  · obtain ⟨h1, oa', oc', h2, h3, h4, h5⟩ := hp.fits hf
    have el : (q.out ++ [b]).length = q.out.length + 1 := by simp
    have hF : Fr (Rmine M (.slice ra q.rs.length rc) (.slice oa q.out.length oc)) w w' := h4.mono fun _ _ e => e.elim Or.inl fun e => Or.inr (Or.inr e)
    refine ⟨h1, ra, rc, oa', oc', ⟨?_, ?_, ?_, ?_, h.next, ?_, ?_, h.big, h.ll⟩, hF, Or.inl rfl, h5⟩
    · rw [h2]
      simp only [rcells, el]
      rfl
    · exact h.rd.keep h4 (fun j _ hj e => by
        rcases e with e | e
        · omega
        · have := (World.ownsRow.lt h.own j e).1; omega)
    · exact own_keepR h.rws h4 fun j hj e => by
        rcases e with e | e
        · have := (World.ownsRow.lt h.rws j hj).1; omega
        · exact own_apart h.rws h.own j hj e
    · show OwnB w' (M + 1) (.slice oa' (q.out ++ [b]).length oc') (q.out ++ [b])
      rw [el]; exact h3
    · intro x hx
      rcases List.mem_append.1 hx with h0 | h0
      · exact h.byt x h0
      · rw [List.mem_singleton.1 h0]; exact hb
    · show (q.out ++ [b]).length ≤ most
      have hf2 : q.out.length < most := hf
      rw [el]; omega

set_option maxHeartbeats 1600000 in
set_option maxRecDepth 100000 in
/-- In the midst of a row. -/
theorem advance_byte (lo M B : Nat) (bs : List Nat) (k most : Nat) (q : Rq) (ra : Option Addr) (rc : Nat) (oa : Option Addr) (oc : Nat) (w : World) (h : Rx w lo M B bs k most q ra rc oa oc) (hlt : 0 < q.lt) (hlb : q.lt ≤ 1000000) (hfr : q.fr < q.out.length) :
    Calls Try.prog 32 #[.pointer (some ⟨M, 0, none⟩)] w (Putx lo M B bs k most { q with fr := q.fr + 1, lt := q.lt - 1 } (q.out.getD q.fr 0) (.slice ra q.rs.length rc) (.slice oa q.out.length oc) w) := by
  have m10 : w.cell? ⟨M, 10, none⟩ = some (.int .i64 (q.lt : Int)) := cell_of (o := 10) h.obj rfl
  have Hb := hide (rowByte_c M (M + 1) _ oa oc q.out most q.fr q.lt w h.obj rfl rfl rfl rfl rfl h.own (Nat.lt_succ_self M) (lt_of h.obj) (Nat.le_trans h.len h.big) hfr hlt hlb h.byt)
  have hb8 : q.out.getD q.fr 0 < 256 := h.byt _ (getD_mem q.out q.fr hfr)
  have H := hide h
  have hli : (0 : Int) < (q.lt : Int) := by omega
  obtain ⟨T, hT⟩ : ∃ T, T = q.lt := ⟨_, rfl⟩
  rw [← hT] at m10 hli
  clear h hlt hlb hfr hT
  go_enter Try.func32, Try.ntmps32
  go_wp2_with fail
  refine Hb.out.mono ?_
  intro e w1 h1
  have hx := H.out.put2 (f := q.fr + 1) (l := q.lt - 1) hb8 h1
  by_cases hf : most ≤ q.out.length
  · obtain ⟨rfl, _, _⟩ := hx.full hf
    have Hx := hide hx
    clear hx h1
    go_wp2_with fail
    go_ret
    exact Hx.out
  · obtain ⟨rfl, _⟩ := hx.fits (by show q.out.length < most; omega)
    have Hx := hide hx
    clear hx h1
    go_wp2_with fail
    go_ret
    exact Hx.out
end Go.Proofs.Ytdbgolklgiadeaa
