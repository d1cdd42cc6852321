/-
  What comes in: rasters, arrays of numbers.
-/
import Derived.Test.YthdilabmajaehaaRo
import Derived.Test.YthdilabmajaehaaSa
import Derived.Lib.SmallJoins
namespace Go.Proofs.Ythdilabmajaehaa
open Go.ChangeShapes Go.WideShapes Go.ChangeAt Go.RowKit

/-- A slice of integers that came in: nil, or a row of 'cap' cells of which the first 'len' are its elements. -/
def IsRow (k : IntKind) (w : World) (a : Option Addr) (len cap : Nat) (zs : List Int) : Prop :=
  (a = none ∧ len = 0 ∧ cap = 0 ∧ zs = []) ∨
  ∃ x, a = some x ∧ len ≤ cap ∧ cap ≤ maxLen ∧ zs.length = cap ∧ (∀ i, i < zs.length → w.cell? (x.add i) = some (.int k (zs.getD i 0))) ∧ ∀ n ∈ zs, (Lit.int k n).wf = true

theorem wf_u16 {n : Int} (h : (Lit.int .u16 n).wf = true) : 0 ≤ n ∧ n < 65536 := by
  simp [Lit.wf, IntKind.min, IntKind.max, IntKind.signed, IntKind.bits] at h
  omega

/-- Its samples. -/
def samplesOf (len : Nat) (zs : List Int) : List Nat := (zs.take len).map Int.toNat

theorem IsRow.samples {w : World} {a : Option Addr} {len cap : Nat} {zs : List Int} (h : IsRow .u16 w a len cap zs) :
    (samplesOf len zs).length = len ∧ Lies w a (samplesOf len zs) ∧ len ≤ cap ∧ (a = none → len = 0 ∧ cap = 0) ∧ len ≤ 9223372036854775807 := by
  have hlen : (samplesOf len zs).length = len := by
    simp only [samplesOf, List.length_map]
    rcases h with ⟨_, rfl, _, rfl⟩ | ⟨x, rfl, hl, _, hz, _⟩
    · rfl
    · simp; omega
  refine ⟨hlen, ⟨?_, ?_⟩, ?_, ?_, ?_⟩
  · intro b hb
    simp only [samplesOf, List.mem_map] at hb
    obtain ⟨z, hz, rfl⟩ := hb
    rcases h with ⟨_, rfl, _, rfl⟩ | ⟨x, rfl, hl, _, hzl, hc, hw⟩
    · simp at hz
    · have := wf_u16 (hw z (List.mem_of_mem_take hz))
      omega
  · intro j hj
    rw [hlen] at hj
    rcases h with ⟨rfl, rfl, rfl, rfl⟩ | ⟨x, rfl, hl, hm, hzl, hc, hw⟩
    · omega
    · refine ⟨x, rfl, ?_⟩
      have hjz : j < zs.length := by omega
      rw [hc j hjz]
      have h1 := wf_u16 (hw _ (List.getElem_mem hjz))
      simp only [samplesOf, List.getD_eq_getElem?_getD, List.getElem?_map, List.getElem?_take, if_pos hj, List.getElem?_eq_getElem hjz, Option.map_some, Option.getD_some]
      rw [Int.toNat_of_nonneg h1.1]
  · rcases h with ⟨rfl, rfl, rfl, rfl⟩ | ⟨x, rfl, hl, hm, hzl, hc, hw⟩
    · omega
    · exact hl
  · intro e
    rcases h with ⟨rfl, rfl, rfl, rfl⟩ | ⟨x, rfl, hl, hm, hzl, hc, hw⟩
    · exact ⟨rfl, rfl⟩
    · cases e
  · rcases h with ⟨rfl, rfl, rfl, rfl⟩ | ⟨x, rfl, hl, hm, hzl, hc, hw⟩
    · omega
    · have : maxLen ≤ 9223372036854775807 := by decide
      omega

set_option maxRecDepth 100000 in
/-- A raster that comes in, opened. -/
theorem open_ras {H : Type} {enc : TypeId × Value → H} {W : World} {b0 : Nat} {held : Bool} {v : Value} {d : DataW H} {p : List MemPlace} (hv : Value.okWide Try.prog W .any b0 24 v)
    (h : DataW.Trod enc Try.prog W 0 (fun _ => true) held 24 v d p) :
    ∃ (wd ht : Int) (a : Option Addr) (n c : Nat) (px : List Nat), v = rasV wd ht a n c ∧ px.length = n ∧ Lies W a px ∧ n ≤ c ∧ (a = none → n = 0 ∧ c = 0) ∧ n ≤ 9223372036854775807 ∧ (Lit.int .i64 wd).wf = true ∧ (Lit.int .i64 ht).wf = true := by
  have u24 : Try.prog.underlying 24 = some (.struct #[_, _, _]) := Try.underlying24
  obtain ⟨v0, v1, v2, y0, y1, y2, n, rfl, rfl, rfl, h0, h1, h2⟩ := Go.Joins.open_agg3 u24 (by kernel_rfl) (by kernel_rfl) hv h
  obtain ⟨x, ex, _, wx⟩ := DataW.trod_int Try.underlying3 h0
  obtain ⟨y, ey, _, wy⟩ := DataW.trod_int Try.underlying3 h1
  have hb : ∃ ma ml mc zs, v2 = .slice ma ml mc ∧ IsRow .u16 W ma ml mc zs := by
    rcases open_ints Try.underlying22 Try.underlying29 (by kernel_rfl) h2 with ⟨hcs, _⟩ | ⟨x, l, c, zs, hcs, _, hl, hm, hz, _, hcell, hwz⟩
    · exact ⟨none, 0, 0, [], (List.cons.inj hcs).1, .inl ⟨rfl, rfl, rfl, rfl⟩⟩
    · exact ⟨some x, l, c, zs, (List.cons.inj hcs).1, .inr ⟨_, rfl, hl, hm, by simpa using hz, hcell, hwz⟩⟩
  obtain ⟨ma, ml, mc, zs, rfl, hz⟩ := hb
  obtain ⟨b1, b2, b3, b4, b5⟩ := hz.samples
  simp at ex ey
  subst ex
  subst ey
  exact ⟨x, y, ma, ml, mc, samplesOf ml zs, rfl, b1, b2, b3, b4, b5, wx, wy⟩

theorem cells27 : Try.prog.cellsOf 36 = 4 := by kernel_rfl
theorem cells26 : Try.prog.cellsOf 29 = 1 := by kernel_rfl
theorem cells25 : Try.prog.cellsOf 53 = 2 := by kernel_rfl
theorem cells3 : Try.prog.cellsOf 3 = 1 := by kernel_rfl

set_option maxRecDepth 100000 in
/-- Two numbers that came in as an array. -/
theorem open_two {H : Type} {enc : TypeId × Value → H} {W : World} {b0 base : Nat} {r : Reach} {sp : Nat → Bool} {held : Bool} {v : Value} {d : DataW H} {ps : List MemPlace}
    (hv : Value.okWide Try.prog W r b0 53 v) (hd : DataW.Trod enc Try.prog W base sp held 53 v d ps) :
    ∃ x y : Int, v = .agg #[.int .i64 x, .int .i64 y] ∧ (Lit.int .i64 x).wf = true ∧ (Lit.int .i64 y).wf = true := by
  simp only [Value.okWide, Try.underlying53] at hv
  obtain ⟨cs, rfl, h2, _⟩ := hv
  rw [cells25] at h2
  obtain ⟨fuel, hf⟩ := hd
  cases fuel with
  | zero => simp [DataW.trod] at hf
  | succ m =>
    obtain ⟨l⟩ := cs
    match l, h2 with
    | [c0, c1], _ =>
      rw [DataW.trod_step] at hf
      unfold DataW.trodStep at hf
      simp only [Try.underlying53, Value.cells] at hf
      rw [if_pos (by rw [cells25]; rfl)] at hf
      rw [cells3] at hf
      simp only [Option.map_eq_some_iff] at hf
      obtain ⟨ys, hy, _⟩ := hf
      simp only [List.range_succ, List.range_zero, List.nil_append, List.cons_append, List.mapM_cons, List.mapM_nil, bind, Option.bind_eq_some_iff, pure] at hy
      obtain ⟨y0, hy0, ys1, ⟨y1, hy1, _⟩, _⟩ := hy
      obtain ⟨x, ex, _, wx⟩ := DataW.trod_int Try.underlying3 hy0
      obtain ⟨y, ey, _, wy⟩ := DataW.trod_int Try.underlying3 hy1
      simp at ex ey
      subst ex
      subst ey
      exact ⟨x, y, rfl, wx, wy⟩

set_option maxRecDepth 100000 in
/-- A pixel that came in. -/
theorem open_pix {H : Type} {enc : TypeId × Value → H} {W : World} {b0 base : Nat} {r : Reach} {sp : Nat → Bool} {held : Bool} {v : Value} {d : DataW H} {ps : List MemPlace}
    (hv : Value.okWide Try.prog W r b0 36 v) (hd : DataW.Trod enc Try.prog W base sp held 36 v d ps) :
    ∃ q0 q1 q2 q3 : Nat, v = .agg #[.int .u16 (q0 : Int), .int .u16 (q1 : Int), .int .u16 (q2 : Int), .int .u16 (q3 : Int)] ∧ ∀ x ∈ [q0, q1, q2, q3], x < 65536 := by
  simp only [Value.okWide, Try.underlying36] at hv
  obtain ⟨cs, rfl, h2, _⟩ := hv
  rw [cells27] at h2
  obtain ⟨fuel, hf⟩ := hd
  cases fuel with
  | zero => simp [DataW.trod] at hf
  | succ m =>
    obtain ⟨l⟩ := cs
    match l, h2 with
    | [c0, c1, c2, c3], _ =>
      rw [DataW.trod_step] at hf
      unfold DataW.trodStep at hf
      simp only [Try.underlying36, Value.cells] at hf
      rw [if_pos (by rw [cells27]; rfl)] at hf
      rw [cells26] at hf
      simp only [Option.map_eq_some_iff] at hf
      obtain ⟨ys, hy, _⟩ := hf
      simp only [List.range_succ, List.range_zero, List.nil_append, List.cons_append, List.mapM_cons, List.mapM_nil, bind, Option.bind_eq_some_iff, pure] at hy
      obtain ⟨y0, hy0, ys1, ⟨y1, hy1, ys2, ⟨y2, hy2, ys3, ⟨y3, hy3, _⟩, _⟩, _⟩, _⟩ := hy
      obtain ⟨x0, ex0, _, wx0⟩ := DataW.trod_int Try.underlying29 hy0
      obtain ⟨x1, ex1, _, wx1⟩ := DataW.trod_int Try.underlying29 hy1
      obtain ⟨x2, ex2, _, wx2⟩ := DataW.trod_int Try.underlying29 hy2
      obtain ⟨x3, ex3, _, wx3⟩ := DataW.trod_int Try.underlying29 hy3
      simp at ex0 ex1 ex2 ex3
      subst ex0
      subst ex1
      subst ex2
      subst ex3
      have b0 := wf_u16 wx0
      have b1 := wf_u16 wx1
      have b2 := wf_u16 wx2
      have b3 := wf_u16 wx3
      refine ⟨x0.toNat, x1.toNat, x2.toNat, x3.toNat, ?_, ?_⟩
      · rw [Int.toNat_of_nonneg b0.1, Int.toNat_of_nonneg b1.1, Int.toNat_of_nonneg b2.1, Int.toNat_of_nonneg b3.1]
      · intro x hx
        simp only [List.mem_cons, List.not_mem_nil, or_false] at hx
        rcases hx with rfl | rfl | rfl | rfl <;> omega
end Go.Proofs.Ythdilabmajaehaa
