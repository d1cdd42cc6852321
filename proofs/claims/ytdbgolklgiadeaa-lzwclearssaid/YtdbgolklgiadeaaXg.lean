/-
  lzw: a Reader's object.
-/
import Derived.Test.YtdbgolklgiadeaaXf
import Derived.Test.YtdbgolklgiadeaaHl
namespace Go.Proofs.Ytdbgolklgiadeaa
open Go.RowKit

/-- A Reader that is done: its cells. -/
abbrev dcells (ov : Value) (er : Nat) : List Value := [.pointer none, .int .i64 0, .int .i64 0, .int .i64 0, .int .i64 0, .int .i64 0, .slice none 0 0, .int .i64 0, .int .i64 0, .int .i64 0, .int .i64 0, ov, .int .i64 (er : Int), .bool true]

set_option maxHeartbeats 800000 in
set_option maxRecDepth 100000 in
theorem fail_c (M : Nat) (cs : Array Value) (er : Nat) (w : World) (h : w.heap[M]? = some (.cells cs 71 (0, 0))) (hs : cs.size = 14) :
    Calls Try.prog 42 #[.pointer (some ⟨M, 0, none⟩), .int .i64 (er : Int)] w fun e w' => e = .returned (.bool false) ∧ w'.heap[M]? = some (.cells (dcells (.slice none 0 0) er).toArray 71 (0, 0)) ∧ Fr (fun k => k = M) w w' := by
  have H := hide h
  have Hs := hide hs
  clear h hs
  go_enter Try.func42, Try.ntmps42
  go_upto_region 1 with fail
  apply wp_region_lit
  refine wpList_plain rfl fun K1 hK1 => ?_
  go_simp
  refine hK1 _ _ ?_
  clear hK1 K1
  refine wpList_plain rfl fun K1 hK1 => ?_
  go_simp
  refine hK1 _ _ ?_
  clear hK1 K1
  refine wpList_plain rfl fun K1 hK1 => ?_
  go_simp
  refine hK1 _ _ ?_
  clear hK1 K1
  refine wpList_plain rfl fun K1 hK1 => ?_
  go_simp
  refine hK1 _ _ ?_
  clear hK1 K1
  refine wpList_plain rfl fun K1 hK1 => wp_store_row 71 (.tmp 8) (.tmp 7) rfl M 71 cs (dcells (.slice none 0 0) er).toArray rfl rfl H.out (by kernel_rfl) (by rw [Hs.out]; rfl) (by simp [Value.oneCell']) ?_
  refine hK1 _ _ (wpList_nil ?_)
  have hfin := setRow_heap w M cs (dcells (.slice none 0 0) er).toArray 71 (0, 0) H.out
  have hfr : Fr (fun k => k = M) w (w.setRow M (dcells (.slice none 0 0) er).toArray) := ⟨rfl, rfl, rfl, by simp, fun j _ hj => setRow_other _ _ _ _ hj⟩
  generalize w.setRow M (dcells (.slice none 0 0) er).toArray = w2 at hfin hfr ⊢
  clear hK1 K1
  have Hfin := hide hfin
  have Hfr := hide hfr
  clear hfin hfr
  go_wp2
  go_ret
  exact ⟨rfl, Hfin.out, Hfr.out⟩
/-- What put comes to. -/
structure Putd (M base : Nat) (cs : Array Value) (ov : Value) (out : List Nat) (b most : Nat) (w : World) (e : Ending) (w' : World) : Prop where
  full : most ≤ out.length → e = .returned (.bool false) ∧ w'.heap[M]? = some (.cells (dcells (.slice none 0 0) 6).toArray 71 (0, 0)) ∧ Fr (fun k => k = M) w w'
  fits : out.length < most → e = .returned (.bool true) ∧ ∃ oa oc, w'.heap[M]? = some (.cells (cs.setIfInBounds 11 (.slice oa (out.length + 1) oc)) 71 (0, 0)) ∧ OwnB w' base (.slice oa (out.length + 1) oc) (out ++ [b]) ∧ Fr (fun k => k = M ∨ ov.ownBlock = some k) w w' ∧ ((Value.slice oa (out.length + 1) oc).ownBlock = ov.ownBlock ∨ ∀ k, (Value.slice oa (out.length + 1) oc).ownBlock = some k → w.heap.size ≤ k)

set_option maxHeartbeats 1600000 in
set_option maxRecDepth 100000 in
theorem put_c (M base : Nat) (cs : Array Value) (oa : Option Addr) (oc : Nat) (out : List Nat) (b most : Nat) (w : World) (h : w.heap[M]? = some (.cells cs 71 (0, 0))) (hs : cs.size = 14) (h2 : cs[2]? = some (.int .i64 (most : Int))) (h11 : cs[11]? = some (.slice oa out.length oc)) (hO : OwnB w base (.slice oa out.length oc) out) (hM : M < base) (hbs : base ≤ w.heap.size) (hl : out.length ≤ 1000000) :
    Calls Try.prog 51 #[.pointer (some ⟨M, 0, none⟩), .int .u8 (b : Int)] w (Putd M base cs (.slice oa out.length oc) out b most w) := by
  have m2 := cell_of h h2
  have m11 := cell_of h h11
  have f11 := frozen_of (o := 11) h
  have H := hide h
  have Hs := hide hs
  have H11 := hide h11
  have HO := hide hO
  clear h hs h2 h11 hO
  by_cases hf : most ≤ out.length
  · have hfi : (most : Int) ≤ (out.length : Int) := by omega
    go_enter Try.func51, Try.ntmps51
    go_upto_region 1 with fail
    go_quiet (fail)
    have hF1 := Fr.of_drewN w nq
    have hH1 : (w.drewN nq).heap[M]? = some (.cells cs 71 (0, 0)) := H.out
    go_wp2_with fail
    refine (fail_c M cs 6 _ hH1 Hs.out).mono ?_
    rintro e w1 ⟨rfl, h1, h2⟩
    have HF2 := hide (hF1.trans h2)
    have HM1 := hide h1
    clear h1 h2 hF1 hH1
    go_wp2_with fail
    go_ret
    exact ⟨fun _ => ⟨rfl, HM1.out, HF2.out.mono fun k _ e => e.elim (fun x => x.elim) id⟩, fun hx => by omega⟩
  · have hfi : ¬ (most : Int) ≤ (out.length : Int) := by omega
    go_enter Try.func51, Try.ntmps51
    go_upto_region 1 with fail
    go_quiet (fail)
    have hF1 := Fr.of_drewN w nq
    have hH1 : (w.drewN nq).heap[M]? = some (.cells cs 71 (0, 0)) := H.out
    have hO1 : OwnB (w.drewN nq) base (.slice oa out.length oc) out := HO.out
    have hsz : (w.drewN nq).heap.size = w.heap.size := rfl
    generalize w.drewN nq = w1 at hF1 hH1 hO1 hsz ⊢
    have m11 := cell_of hH1 H11.out
    have FA : Hid (Fr (fun _ => False) w1 (w1.alloc (.cells (cellsOf [b]).toArray 5))) := Fr.of_alloc _ _
    have HO2 : Hid (OwnB (w1.alloc (.cells (cellsOf [b]).toArray 5)) base (.slice oa out.length oc) out) := ownsRow_fr hO1 fun j hj => FA.out.block j (World.ownsRow.lt hO1 j hj).2 (fun h => h)
    have HL2 : Hid (Lies (w1.alloc (.cells (cellsOf [b]).toArray 5)) (.slice (some ⟨w1.heap.size, 0, none⟩) 1 1) [b]) := lies_lit w1 [b] 1
    have HS2 : Hid (base ≤ (w1.alloc (.cells (cellsOf [b]).toArray 5)).heap.size) := Nat.le_trans (by rw [hsz]; exact hbs) FA.out.size
    have HQ2 : Hid (out.length + [b].length ≤ 2147483648) := by show _ ≤ _; simp; omega
    have HF1 := hide hF1
    have HH1 := hide hH1
    have HO1 := hide hO1
    have Hsz := hide hsz
    clear hF1 hH1 hO1 hsz
    go_wp2_with (at_builtin; go_must (refine wpList_app rfl (.tmp 21) (.tmp 23) rfl base (.slice oa out.length oc) out rfl HO2.out (.slice (some ⟨w1.heap.size, 0, none⟩) 1 1) [b] rfl HL2.out HQ2.out HS2.out ?_); intro a3 c3 w3 hO3 hF3 hA3
                 have HM3 := hide (cells_at (cells_at HH1.out FA.out (fun e => e)) hF3 (fun e => by have := (World.ownsRow.lt HO2.out M e).1; omega))
                 have n11 := cell_of HM3.out H11.out
                 have f11 := frozen_of (o := 11) HM3.out
                 have HO3 := hide hO3
                 have HF3 := hide hF3
                 have HA3 := hide hA3
                 clear hO3 hF3 hA3)
    go_ret
    refine ⟨fun hx => by omega, fun _ => ⟨rfl, a3, c3, heap_setCell_own _ HM3.out, ?_, ?_, ?_⟩⟩
    · have ho : OwnB w3 base (.slice a3 (out.length + 1) c3) (out ++ [b]) := by
        have h := HO3.out
        unfold OwnB at h ⊢
        rw [List.length_append] at h ⊢
        exact h
      refine ownsRow_fr ho fun j hj => (Fr.of_setCell w3 ⟨M, 11, none⟩ _).block j (World.ownsRow.lt ho j hj).2 ?_
      intro e
      have := (World.ownsRow.lt ho j hj).1
      have e2 : j = M := e
      omega
    · refine ((((HF1.out.trans FA.out).trans HF3.out).trans (Fr.of_setCell w3 ⟨M, 11, none⟩ _))).mono fun k _ e => ?_
      rcases e with ((e | e) | e) | e
      · exact e.elim
      · exact e.elim
      · exact Or.inr e
      · exact Or.inl e
    · rcases HA3.out with e | e
      · exact Or.inl e
      · refine Or.inr fun k hk => ?_
        have e2 : some k = some (w1.alloc (.cells (cellsOf [b]).toArray 5)).heap.size := hk.symm.trans e
        have e3 := Option.some.inj e2
        have := FA.out.size
        have := HF1.out.size
        omega
end Go.Proofs.Ytdbgolklgiadeaa
