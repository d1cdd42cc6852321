/-
  raster: comparing pixels; what At and Set of both do, in one form.
-/
import Derived.Test.YtaeppfbphbkigaaSf
import Derived.DeepKeys
namespace Go.Proofs.Ytaeppfbphbkigaa
open Go.RowKit

theorem wf16 (n : Nat) (h : n < 65536) : (Lit.int .u16 (n : Int)).wf = true := by
  simp [Lit.wf, IntKind.min, IntKind.max, IntKind.signed, IntKind.bits]
  omega

set_option maxRecDepth 100000 in
theorem lits_four (r0 r1 r2 r3 : Nat) (h0 : r0 < 65536) (h1 : r1 < 65536) (h2 : r2 < 65536) (h3 : r3 < 65536) : Try.prog.keyLits 2 27 [.int .u16 (r0 : Int), .int .u16 (r1 : Int), .int .u16 (r2 : Int), .int .u16 (r3 : Int)] = some [.int .u16 (r0 : Int), .int .u16 (r1 : Int), .int .u16 (r2 : Int), .int .u16 (r3 : Int)] := by
  have u27 := Try.underlying27
  have u26 := Try.underlying26
  have c27 : Try.prog.cellsOf 27 = 4 := by kernel_rfl
  have c26 : Try.prog.cellsOf 26 = 1 := by kernel_rfl
  have one : ∀ n : Nat, n < 65536 → Try.prog.keyLits 1 26 [.int .u16 (n : Int)] = some [.int .u16 (n : Int)] := fun n hn => by
    unfold Program.keyLits
    rw [u26]
    simp [wf16 n hn]
  unfold Program.keyLits
  rw [u27]
  simp [c27, c26, List.range, List.range.loop, one r0 h0, one r1 h1, one r2 h2, one r3 h3]

set_option maxRecDepth 100000 in
theorem eq_four (r0 r1 r2 r3 s0 s1 s2 s3 : Nat) (hr : ∀ x ∈ [r0, r1, r2, r3], x < 65536) (hs : ∀ x ∈ [s0, s1, s2, s3], x < 65536) (w : World) : (Op.equalIn 10000 27 (.agg (pxV r0 r1 r2 r3)) (.agg (pxV s0 s1 s2 s3))).run Try.prog w = .ok (decide ([r0, r1, r2, r3] = [s0, s1, s2, s3])) w := by
  obtain ⟨r, h1, h2⟩ := run_equalIn_deep (P := Try.prog) 9998 2 27 (by kernel_rfl) w 2 2 (.agg (pxV r0 r1 r2 r3)) (.agg (pxV s0 s1 s2 s3)) [.int .u16 (r0 : Int), .int .u16 (r1 : Int), .int .u16 (r2 : Int), .int .u16 (r3 : Int)] [.int .u16 (s0 : Int), .int .u16 (s1 : Int), .int .u16 (s2 : Int), .int .u16 (s3 : Int)] (by kernel_rfl) (by kernel_rfl) (lits_four _ _ _ _ (hr _ (by simp)) (hr _ (by simp)) (hr _ (by simp)) (hr _ (by simp))) (lits_four _ _ _ _ (hs _ (by simp)) (hs _ (by simp)) (hs _ (by simp)) (hs _ (by simp)))
  refine h1.trans ?_
  congr 1
  rw [Bool.eq_iff_iff, h2]
  simp only [List.cons.injEq, Lit.int.injEq, decide_eq_true_eq, true_and, and_true]
  omega

/-- The blocks of a row. -/
abbrev Blk (a : Option Addr) (k : Nat) : Prop := ∃ ad, a = some ad ∧ ad.block = k

/-- What At and Set of both do with a raster. -/
structure Deed (W H x y : Int) (n : Nat) (px : List Nat) (q0 q1 q2 q3 : Nat) (ok : Bool) (r0 r1 r2 r3 : Nat) (P : List Nat) : Prop where
  small : ∀ v ∈ [r0, r1, r2, r3], v < 65536
  may : ok = true → mayB W H n = true
  len : P.length = n
  at_ : ∀ a c w, Lies w a px → n ≤ c → Calls Try.prog 14 #[rasV W H a n c, .int .i64 x, .int .i64 y] w fun e w' => e = .returned (.tuple #[.agg (pxV r0 r1 r2 r3), .bool ok]) ∧ Fr (fun _ => False) w w'
  rat : ∀ a c w, Lies w a px → n ≤ c → Calls Try.prog 15 #[rasV W H a n c, .int .i64 x, .int .i64 y] w fun e w' => e = .returned (.tuple #[.agg (pxV r0 r1 r2 r3), .bool ok]) ∧ Fr (fun _ => False) w w'
  set_ : ∀ lo a c w, Own w lo a n c px → Calls Try.prog 17 #[rasV W H a n c, .int .i64 x, .int .i64 y, .agg (pxV q0 q1 q2 q3)] w fun e w' => e = .returned (.bool ok) ∧ Fr (Blk a) w w' ∧ Own w' lo a n c P
  rset : ∀ lo a c w, Own w lo a n c px → Calls Try.prog 18 #[rasV W H a n c, .int .i64 x, .int .i64 y, .agg (pxV q0 q1 q2 q3)] w fun e w' => e = .returned (.bool ok) ∧ Fr (Blk a) w w' ∧ Own w' lo a n c P

theorem pixL_px (px : List Nat) (k : Nat) : (pixL px k).toArray = pxV (px.getD k 0) (px.getD (k + 1) 0) (px.getD (k + 2) 0) (px.getD (k + 3) 0) := rfl

theorem getD_small {px : List Nat} (h : ∀ b ∈ px, b < 65536) (k : Nat) : px.getD k 0 < 65536 := by
  rw [List.getD_eq_getElem?_getD]
  cases e : px[k]? with
  | none => decide
  | some v => exact h v (List.mem_of_getElem? e)

theorem deed (W H x y : Int) (n : Nat) (px : List Nat) (q0 q1 q2 q3 : Nat) (hp : px.length = n) (hs : ∀ b ∈ px, b < 65536) (hq : ∀ v ∈ [q0, q1, q2, q3], v < 65536) : ∃ ok r0 r1 r2 r3 P, Deed W H x y n px q0 q1 q2 q3 ok r0 r1 r2 r3 P := by
  cases h : inB W H n x y with
  | false =>
    refine ⟨false, 0, 0, 0, 0, px, by decide, by simp, hp, fun a c w _ _ => ?_, fun a c w _ _ => ?_, fun lo a c w ho => ?_, fun lo a c w ho => ?_⟩
    · exact at_no W H x y a n c w h
    · exact rat_no W H x y a n c w h
    · exact (set_no W H x y a n c q0 q1 q2 q3 w h).mono fun e w' ⟨e1, f⟩ => ⟨e1, f.mono (fun _ _ h => h.elim), ho.keep f fun _ _ h => h⟩
    · exact (rset_no W H x y a n c q0 q1 q2 q3 w h).mono fun e w' ⟨e1, f⟩ => ⟨e1, f.mono (fun _ _ h => h.elim), ho.keep f fun _ _ h => h⟩
  | true =>
    obtain ⟨k, hk, hk4⟩ := pixel_at h
    refine ⟨true, px.getD k 0, px.getD (k + 1) 0, px.getD (k + 2) 0, px.getD (k + 3) 0, setP px k [q0, q1, q2, q3], ?_, fun _ => (inB_true h).1, by rw [setP_length (by simp; omega)]; exact hp, fun a c w hl hc => ?_, fun a c w hl hc => ?_, fun lo a c w ho => ?_, fun lo a c w ho => ?_⟩
    · intro v hv
      simp only [List.mem_cons, List.not_mem_nil, or_false] at hv
      rcases hv with rfl | rfl | rfl | rfl <;> exact getD_small hs _
    · obtain ⟨b, o, rfl, _⟩ := hl.form (by omega)
      rw [← pixL_px]
      exact at_yes W H x y b o px n c k w h hk hk4 hl hp (by omega)
    · obtain ⟨b, o, rfl, _⟩ := hl.form (by omega)
      rw [← pixL_px]
      exact rat_yes W H x y b o px n c k w h hk hk4 hl hp (by omega)
    · obtain ⟨g, cur, rfl, _⟩ := ho.form (by omega)
      exact (set_yes W H x y lo g px n c k q0 q1 q2 q3 w h hk hk4 ho hq).mono fun e w' ⟨e1, f, o⟩ => ⟨e1, f.mono (fun i _ e => ⟨_, rfl, e.symm⟩), o⟩
    · obtain ⟨g, cur, rfl, _⟩ := ho.form (by omega)
      exact (rset_yes W H x y lo g px n c k q0 q1 q2 q3 w h hk hk4 ho hq).mono fun e w' ⟨e1, f, o⟩ => ⟨e1, f.mono (fun i _ e => ⟨_, rfl, e.symm⟩), o⟩
end Go.Proofs.Ytaeppfbphbkigaa
