/-
  PaletteDraws: any colours, any places: the picture, or why there is none.
  Conditions: none.
-/
import Derived.Test.YthdilabmajaehaaRp
import Derived.Test.YthdilabmajaehaaZe
namespace Go.Proofs.Ythdilabmajaehaa
open Go.ChangeShapes Go.WideShapes Go.ChangeAt Go.RowKit
open Go.ChangeMaps (open_string shut_string)
set_option linter.unusedVariables false

set_option maxRecDepth 100000 in
/-- The four samples of a pixel that came in, in its cells. -/
theorem trod_four {H : Type} {enc : TypeId × Value → H} {W : World} {base : Nat} {sp : Nat → Bool} {held : Bool} {n : Nat} {cs : List Value} {x : DataW H × List MemPlace} (hlen : cs.length = 4)
    (hf : DataW.trod enc Try.prog W base sp held n 36 cs = some x) : ∃ q0 q1 q2 q3 : Nat, cs = [.int .u16 (q0 : Int), .int .u16 (q1 : Int), .int .u16 (q2 : Int), .int .u16 (q3 : Int)] ∧ ∀ x ∈ [q0, q1, q2, q3], x < 65536 := by
  cases n with
  | zero => simp [DataW.trod] at hf
  | succ m =>
    match cs, hlen with
    | [c0, c1, c2, c3], _ =>
      rw [DataW.trod_step] at hf
      unfold DataW.trodStep at hf
      simp only [Try.underlying36] at hf
      rw [if_pos (by rw [cells27]; rfl)] at hf
      rw [cells26] at hf
      simp only [Option.map_eq_some_iff] at hf
      obtain ⟨ys, hy, _⟩ := hf
      simp only [List.range_succ, List.range_zero, List.nil_append, List.cons_append, List.mapM_cons, List.mapM_nil, bind, Option.bind_eq_some_iff, pure] at hy
      obtain ⟨y0, hy0, ys1, ⟨y1, hy1, ys2, ⟨y2, hy2, ys3, ⟨y3, hy3, _⟩, _⟩, _⟩, _⟩ := hy
      obtain ⟨x0, ex0, _, wx0⟩ := DataW.trod_int Try.underlying29 hy0
      obtain ⟨x1, ex1, _, wx1⟩ := DataW.trod_int Try.underlying29 hy1
      obtain ⟨x2, ex2, _, wx2⟩ := DataW.trod_int Try.underlying29 hy2
      obtain ⟨x3, ex3, _, wx3⟩ := DataW.trod_int Try.underlying29 hy3
      simp at ex0 ex1 ex2 ex3
      subst ex0
      subst ex1
      subst ex2
      subst ex3
      have b0 := wf_u16 wx0
      have b1 := wf_u16 wx1
      have b2 := wf_u16 wx2
      have b3 := wf_u16 wx3
      obtain ⟨z0, rfl⟩ := Int.eq_ofNat_of_zero_le b0.1
      obtain ⟨z1, rfl⟩ := Int.eq_ofNat_of_zero_le b1.1
      obtain ⟨z2, rfl⟩ := Int.eq_ofNat_of_zero_le b2.1
      obtain ⟨z3, rfl⟩ := Int.eq_ofNat_of_zero_le b3.1
      refine ⟨z0, z1, z2, z3, rfl, fun x hx => ?_⟩
      simp only [List.mem_cons, List.not_mem_nil, or_false] at hx
      omega

/-- One row for each place makes a list of rows. -/
theorem rows_of {n : Nat} {P : Nat → List Nat → Prop} (h : ∀ i, i < n → ∃ q, P i q) : ∃ u : List (List Nat), u.length = n ∧ ∀ i, i < n → P i (u.getD i []) := by
  induction n with
  | zero => exact ⟨[], rfl, fun i hi => absurd hi (Nat.not_lt_zero i)⟩
  | succ n ih =>
    obtain ⟨u, hu, hp⟩ := ih fun i hi => h i (by omega)
    obtain ⟨q, hq⟩ := h n (by omega)
    refine ⟨u ++ [q], by simp [hu], fun i hi => ?_⟩
    by_cases hin : i < n
    · have := hp i hin
      simpa only [List.getD_eq_getElem?_getD, List.getElem?_append_left (show i < u.length by omega)] using this
    · obtain rfl : i = n := by omega
      rw [List.getD_eq_getElem?_getD, List.getElem?_append_right (by omega), hu]
      simpa using hq

theorem open_cols {H : Type} {enc : TypeId × Value → H} {W : World} {base : Nat} {sp : Nat → Bool} {held : Bool} {a : Option Addr} {len cap : Nat} {d : DataW H} {ps : List MemPlace}
    (h : DataW.Trod enc Try.prog W base sp held 42 (.slice a len cap) d ps) : ∃ u, Cols W a len u := by
  obtain ⟨fuel, hf⟩ := h
  rcases DataW.trod_slice Try.underlying42 hf with ⟨hcs, _⟩ | ⟨ad, l, c, elems, rest, n, _, hcs, _, hb, hl, hm, hlen, hel, _, _⟩
  · simp [Value.cells] at hcs
    obtain ⟨rfl, rfl, rfl⟩ := hcs
    exact ⟨[], rfl, (by intro x hx; cases hx), fun h => absurd h (Nat.lt_irrefl _)⟩
  · simp [Value.cells] at hcs
    obtain ⟨rfl, rfl, rfl⟩ := hcs
    have c36 : Try.prog.cellsOf 36 = 4 := by kernel_rfl
    rw [c36] at hel
    have each : ∀ i, i < len → ∃ q : List Nat, Good q ∧ ∀ r, r < 4 → W.cell? (ad.add (i * 4 + r)) = some (.int .u16 ((q.getD r 0 : Nat) : Int)) := fun i hi => by
      have h1 := hel i hi
      rw [List.getElem?_eq_getElem (by omega)] at h1
      obtain ⟨cs, hc1, hc2⟩ := Option.bind_eq_some_iff.1 h1
      obtain ⟨hb2, hn2, hcell⟩ := World.cells?_some hc1
      obtain ⟨q0, q1, q2, q3, rfl, hq⟩ := trod_four hn2 hc2
      refine ⟨[q0, q1, q2, q3], ⟨rfl, hq⟩, fun r hr => ?_⟩
      have hc := hcell r hr
      have e4 : (4 : Nat) * i = i * 4 := Nat.mul_comm ..
      rw [Addr.add_add] at hc
      rw [hc]
      match r, hr with
      | 0, _ => rfl
      | 1, _ => rfl
      | 2, _ => rfl
      | 3, _ => rfl
    obtain ⟨u, hul, hug⟩ := rows_of each
    refine ⟨u, hul, fun x hx => ?_, fun h0 => ?_⟩
    · obtain ⟨k, hk, rfl⟩ := List.mem_iff_getElem.1 hx
      have := (hug k (by omega)).1
      rwa [List.getD_eq_getElem?_getD, List.getElem?_eq_getElem hk] at this
    · have hz := (hug 0 h0).2 0 (by omega)
      have e0 : ad.add (0 * 4 + 0) = ad := by unfold Addr.add; rw [if_pos (by rfl)]
      rw [e0] at hz
      obtain ⟨b, o, s⟩ := ad
      cases s with
      | some s =>
        simp only [World.cell?] at hz
        split at hz <;> simp at hz
      | none =>
        refine ⟨b, o, rfl, fun k r hk hr => ?_⟩
        have := (hug k hk).2 r hr
        rw [add_none] at this
        rw [Nat.add_assoc]
        exact this

/-- Bytes that came in. -/
theorem IsRow.bys {w : World} {a : Option Addr} {len cap : Nat} {zs : List Int} (h : IsRow .u8 w a len cap zs) : ∃ ix, Bys w a len ix := by
  rcases h with ⟨rfl, rfl, _, rfl⟩ | ⟨x, rfl, hl, hm, hzl, hc, hw⟩
  · exact ⟨[], rfl, (by intro b hb; cases hb), fun h => absurd h (Nat.lt_irrefl _)⟩
  · have wf8 : ∀ {n : Int}, (Lit.int .u8 n).wf = true → 0 ≤ n ∧ n < 256 := fun {n} h => by
      simp [Lit.wf, IntKind.min, IntKind.max, IntKind.signed, IntKind.bits] at h
      omega
    refine ⟨(zs.take len).map Int.toNat, by simp; omega, fun b hb => ?_, fun h0 => ?_⟩
    · simp only [List.mem_map] at hb
      obtain ⟨z, hz, rfl⟩ := hb
      have := wf8 (hw z (List.mem_of_mem_take hz))
      omega
    · have hz := hc 0 (by omega)
      have e0 : x.add 0 = x := by unfold Addr.add; rw [if_pos rfl]
      rw [e0] at hz
      obtain ⟨g, o, s⟩ := x
      cases s with
      | some s =>
        simp only [World.cell?] at hz
        split at hz <;> simp at hz
      | none =>
        refine ⟨g, o, rfl, fun j hj => ?_⟩
        have hjz : j < zs.length := by omega
        have h2 := hc j hjz
        rw [add_none] at h2
        rw [h2]
        have h1 := wf8 (hw _ (List.getElem_mem hjz))
        simp only [List.getD_eq_getElem?_getD, List.getElem?_map, List.getElem?_take, if_pos hj, List.getElem?_eq_getElem hjz, Option.map_some, Option.getD_some]
        rw [Int.toNat_of_nonneg h1.1]

theorem paletteDraws_walk (a : Option Addr) (L c : Nat) (u : List (List Nat)) (x y : Int) (b : Option Addr) (n2 c2 : Nat) (zs : List Int) (w : World) (hu : Cols w a L u) (hz : IsRow .u8 w b n2 c2 zs) :
    Calls Try.prog 8 #[.slice a L c, .agg #[.int .i64 x, .int .i64 y], .slice b n2 c2] w fun e w' => e = .returned (.bool true) ∧ Below w.heap.size w w' := by
  obtain ⟨ix, hx⟩ := hz.bys
  exact (draws_law a L c u x y b n2 c2 ix w hu hx).mono fun e w' ⟨he, f⟩ => ⟨he, f.below (Nat.le_refl _) (fun k h => h.elim)⟩

set_option maxRecDepth 100000 in
theorem paletteDraws_lifted (os : Os) (started : os.Started) (H : Type) (enc : TypeId × Value → H) :
    ReturnsInHanded {} Try.checked os 8 .any (Rows.paletteDrawsSpec.pre6 enc Try.prog Try.f8 Rows.paletteDrawsRow.domain false) (Rows.paletteDrawsSpec.post enc Try.prog Try.f8 false true false false) := by
  refine returnsInHanded_of_change (C := Try.checked) own started (by kernel_rfl) Try.func8
    (ChangeSpec.witness6 (enc := enc) (C := Try.checked) false ⟨#[], #[.slice none 0 0, .agg #[.int .i64 0, .int .i64 0], .slice none 0 0], []⟩ 8 (by kernel_rfl) (by kernel_rfl) (by kernel_rfl) (by kernel_rfl)) ?_
  intro W base args ds gs before hval0 hW hcnd _
  have hval : ∀ (j : Nat) t v, Try.f8.params[j]? = some t → args[j]? = some v → Value.okWide Try.prog W .any base t v := hval0
  have hW' := hW
  obtain ⟨p, q, hA0, hV, rfl, hfz, hnd⟩ := hW
  have hA : DataW.TrodAll enc Try.prog W 0 (fun _ => true) true Try.f8.params.toList args.toList ds p := hA0
  rw [Try.params8] at hA hval
  obtain ⟨v0, vs0, d0, ds0, p0, q0, hargs, rfl, rfl, h0, r0⟩ := trodAll_cons hA
  obtain ⟨v1, vs1, d1, ds1, p1, q1, rfl, rfl, rfl, h1, r1⟩ := trodAll_cons r0
  obtain ⟨v2, vs2, d2, ds2, p2, q2, rfl, rfl, rfl, h2, r2⟩ := trodAll_cons r1
  obtain ⟨rfl, rfl, rfl⟩ := trodAll_nil r2
  obtain rfl : args = #[v0, v1, v2] := by cases args; simp_all
  obtain ⟨rfl, rfl⟩ := trodVars_none hV
  have k0 := h0
  have lt0 : ∀ x ∈ p0, x.block < W.heap.size := by obtain ⟨m, hm⟩ := k0; exact DataW.trod_lt m _ _ _ hm
  obtain ⟨a0, len0, cap0, rfl⟩ := okWide_slice Try.underlying42 (hval 0 42 v0 rfl rfl)
  obtain ⟨u0, w0⟩ := open_cols h0
  have k1 := h1
  have lt1 : ∀ x ∈ p1, x.block < W.heap.size := by obtain ⟨m, hm⟩ := k1; exact DataW.trod_lt m _ _ _ hm
  obtain ⟨x1, y1, rfl, wx1, wy1⟩ := open_two (hval 1 53 v1 rfl rfl) h1
  have k2 := h2
  have lt2 : ∀ x ∈ p2, x.block < W.heap.size := by obtain ⟨m, hm⟩ := k2; exact DataW.trod_lt m _ _ _ hm
  obtain ⟨a2, len2, cap2, rfl⟩ := okWide_slice Try.underlying45 (hval 2 45 v2 rfl rfl)
  obtain ⟨z2, w2⟩ : ∃ zs, IsRow .u8 W a2 len2 cap2 zs := by
    obtain ⟨fuel, hf⟩ := h2
    rcases open_ints Try.underlying45 Try.underlying5 (by kernel_rfl) hf with ⟨hcs, _⟩ | ⟨x, l, c, zs, hcs, _, hl, hm, hz, _, hcell, hwz⟩
    · simp [Value.cells] at hcs
      obtain ⟨rfl, rfl, rfl⟩ := hcs
      exact ⟨[], .inl ⟨rfl, rfl, rfl, rfl⟩⟩
    · simp [Value.cells] at hcs
      obtain ⟨rfl, rfl, rfl⟩ := hcs
      exact ⟨zs, .inr ⟨_, rfl, hl, hm, by simpa using hz, hcell, hwz⟩⟩
  clear hA0 hval0
  refine (paletteDraws_walk a0 len0 cap0 u0 x1 y1 a2 len2 cap2 z2 W w0 w2).mono fun e W' ⟨he, bel⟩ => ?_
  subst he
  exact ⟨_, rfl, _, _, _, [], _, [], hW', trodAll_mk1 (shut_bool Try.underlying4 _), (trodAll_cons_mk (Below.trod laidOut (by kernel_rfl) (of_decide_eq_true (by kernel_rfl)) k0 bel lt0) (trodAll_cons_mk (Below.trod laidOut (by kernel_rfl) (of_decide_eq_true (by kernel_rfl)) k1 bel lt1) (trodAll_cons_mk (Below.trod laidOut (by kernel_rfl) (of_decide_eq_true (by kernel_rfl)) k2 bel lt2) trodAll_mk0))), rfl, bel.frame _, fun h => by cases h⟩

theorem paletteDraws_over : Rows.paletteDrawsRow.holds Try.pinned (OpenSpec.ofChange Rows.paletteDrawsSpec) :=
  OpenClaim.holds_of_wide 8 Try.f8 rfl rfl rfl rfl rfl rfl rfl ⟨rfl, rfl, rfl, rfl, rfl⟩ rfl rfl rfl rfl rfl (by kernel_rfl) Try.func8 (by kernel_rfl)
    (of_decide_eq_true (by kernel_rfl)) (by unfold Func.isWrapper; first | (rw [if_pos (by decide +kernel)]; kernel_rfl) | (rw [if_neg (by decide +kernel)]; exact ⟨rfl, rfl⟩))
    (fun os started H enc _ => paletteDraws_lifted os started H enc)

/-- The statement. -/
theorem paletteDraws_holds : Rows.PaletteDrawsSaid := paletteDraws_over
#print axioms paletteDraws_holds
end Go.Proofs.Ythdilabmajaehaa
