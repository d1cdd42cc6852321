/-
  NARROWER THAN 'FOR EVERY INPUT', by the rows' own cells (each row's printed sentence says how): InflateReads: laid · InflateSlices: laid · InflateStored: laid · InflateRuns: laid · InflateCuts: laid · InflateRoom: laid · InflateKnown: laid.
  DERIVED. THE GIVEN ROWS OF THIS SEAT. 7 by the template 'for every input the law returns true; each argument reads behind the call as it read before'; 0 by the template 'total and deterministic' (their statements: YtleeaofofofgmaaDoorTotals.lean).
  GIVEN WITH THE SEED: the statements are not yours to turn. If you find one false, say at which input.
  Laid BY PROGRAM, IN A SANDBOX (cutbox-rows.mjs): the forced cells as the released guide's own fill.sh prints them over the translation 29032639d0f2a8df… (all of the seat's roots in one cut). By AI agents, Wed Nov 11 2026. No macro, syntax, notation, axiom, sorry.
-/
import Derived.Test.YtleeaofofofgmaaDoorChecked
import GoSem.Claim
import GoSem.ClaimJoined
import GoSem.ClaimMapViews
import Derived.JoinedTies
import Derived.KernelRfl
namespace Go.Proofs.YtleeaofofofgmaaDoor
/- THE CELL 'sum', in the pinned program and in every row, IS THE sha256 OF THE DUMP (.gsa) THAT YtleeaofofofgmaaDoorProg.lean LOADS. Nothing in Lean hashes anything: it is a label: what it is worth is what the hold of that sum in a sandbox is worth. -/
noncomputable def Tryd.pinned : Pinned := { name := "ytleeaofofofgmaadoor", sum := "29032639d0f2a8df78ea9f629f91393b3123884f6d514e5ba6b3a674cd156f32", checked := Tryd.checked }
namespace Rows
def none {H : Type} : Left H := { results := [], args := [] }

/- WHAT THE LISTED PACKAGE-LEVEL VARIABLES READ AS WHEN THE CALL BEGINS. Each datum BY PROGRAM (the guide's laid-datum.mjs) off the statement by which the dump's own 'gosem.cut.vars' lays the variable. In a bare row this is a premise. The card (YtleeaofofofgmaaDoorCards.lean) ties it to the program's text. -/
def laid_engraver_inflate_lengthOrder {H : Type} : DataW H := .agg [.lit (.int .i64 16), .lit (.int .i64 17), .lit (.int .i64 18), .lit (.int .i64 0), .lit (.int .i64 8), .lit (.int .i64 7), .lit (.int .i64 9), .lit (.int .i64 6), .lit (.int .i64 10), .lit (.int .i64 5), .lit (.int .i64 11), .lit (.int .i64 4), .lit (.int .i64 12), .lit (.int .i64 3), .lit (.int .i64 13), .lit (.int .i64 2), .lit (.int .i64 14), .lit (.int .i64 1), .lit (.int .i64 15)]

/-- 'engraverlaw4.InflateReads': WHATEVER THE INPUT: true; the input reads as it did. -/
def inflateReadsSpec : ChangeSpec := { name := "inflateReads", fn := fun _ => fun
  | [d1, d2] => { results := [.lit (.bool true)], args := [d1, d2] }
  | _ => none }
def inflateReadsRow : OpenClaim := { program := "ytleeaofofofgmaadoor", sum := "29032639d0f2a8df78ea9f629f91393b3123884f6d514e5ba6b3a674cd156f32", func := "engraver/engraverlaw4.InflateReads", spec := "inflateReads", unfollowed := true, recurses := true, named := ["engraver/inflate.lengthOrder"], apart := false, laid := [("engraver/inflate.lengthOrder", laid_engraver_inflate_lengthOrder)] }
def InflateReadsSaid : Prop := inflateReadsRow.holds Tryd.pinned (OpenSpec.ofChange inflateReadsSpec)

/-- ITS FALSE NEIGHBOUR: 'it returns false'. Refute it at one input. -/
def inflateReadsWrong : ChangeSpec := { name := "inflateReads", fn := fun _ => fun
  | [d1, d2] => { results := [.lit (.bool false)], args := [d1, d2] }
  | _ => none }
def InflateReadsWrongFalsely : Prop := inflateReadsRow.holds Tryd.pinned (OpenSpec.ofChange inflateReadsWrong)

/-- 'engraverlaw4.InflateSlices': WHATEVER THE INPUT: true; the input reads as it did. -/
def inflateSlicesSpec : ChangeSpec := { name := "inflateSlices", fn := fun _ => fun
  | [d1, d2, d3] => { results := [.lit (.bool true)], args := [d1, d2, d3] }
  | _ => none }
def inflateSlicesRow : OpenClaim := { program := "ytleeaofofofgmaadoor", sum := "29032639d0f2a8df78ea9f629f91393b3123884f6d514e5ba6b3a674cd156f32", func := "engraver/engraverlaw4.InflateSlices", spec := "inflateSlices", unfollowed := true, recurses := true, named := ["engraver/inflate.lengthOrder"], apart := false, laid := [("engraver/inflate.lengthOrder", laid_engraver_inflate_lengthOrder)] }
def InflateSlicesSaid : Prop := inflateSlicesRow.holds Tryd.pinned (OpenSpec.ofChange inflateSlicesSpec)

/-- ITS FALSE NEIGHBOUR: 'it returns false'. Refute it at one input. -/
def inflateSlicesWrong : ChangeSpec := { name := "inflateSlices", fn := fun _ => fun
  | [d1, d2, d3] => { results := [.lit (.bool false)], args := [d1, d2, d3] }
  | _ => none }
def InflateSlicesWrongFalsely : Prop := inflateSlicesRow.holds Tryd.pinned (OpenSpec.ofChange inflateSlicesWrong)

/-- 'engraverlaw4.InflateStored': WHATEVER THE INPUT: true; the input reads as it did. -/
def inflateStoredSpec : ChangeSpec := { name := "inflateStored", fn := fun _ => fun
  | [d1, d2] => { results := [.lit (.bool true)], args := [d1, d2] }
  | _ => none }
def inflateStoredRow : OpenClaim := { program := "ytleeaofofofgmaadoor", sum := "29032639d0f2a8df78ea9f629f91393b3123884f6d514e5ba6b3a674cd156f32", func := "engraver/engraverlaw4.InflateStored", spec := "inflateStored", unfollowed := true, recurses := true, named := ["engraver/inflate.lengthOrder"], apart := false, laid := [("engraver/inflate.lengthOrder", laid_engraver_inflate_lengthOrder)] }
def InflateStoredSaid : Prop := inflateStoredRow.holds Tryd.pinned (OpenSpec.ofChange inflateStoredSpec)

/-- ITS FALSE NEIGHBOUR: 'it returns false'. Refute it at one input. -/
def inflateStoredWrong : ChangeSpec := { name := "inflateStored", fn := fun _ => fun
  | [d1, d2] => { results := [.lit (.bool false)], args := [d1, d2] }
  | _ => none }
def InflateStoredWrongFalsely : Prop := inflateStoredRow.holds Tryd.pinned (OpenSpec.ofChange inflateStoredWrong)

/-- 'engraverlaw4.InflateRuns': WHATEVER THE INPUT: true; the input reads as it did. -/
def inflateRunsSpec : ChangeSpec := { name := "inflateRuns", fn := fun _ => fun
  | [d1, d2, d3] => { results := [.lit (.bool true)], args := [d1, d2, d3] }
  | _ => none }
def inflateRunsRow : OpenClaim := { program := "ytleeaofofofgmaadoor", sum := "29032639d0f2a8df78ea9f629f91393b3123884f6d514e5ba6b3a674cd156f32", func := "engraver/engraverlaw4.InflateRuns", spec := "inflateRuns", unfollowed := true, recurses := true, named := ["engraver/inflate.lengthOrder"], apart := false, laid := [("engraver/inflate.lengthOrder", laid_engraver_inflate_lengthOrder)] }
def InflateRunsSaid : Prop := inflateRunsRow.holds Tryd.pinned (OpenSpec.ofChange inflateRunsSpec)

/-- ITS FALSE NEIGHBOUR: 'it returns false'. Refute it at one input. -/
def inflateRunsWrong : ChangeSpec := { name := "inflateRuns", fn := fun _ => fun
  | [d1, d2, d3] => { results := [.lit (.bool false)], args := [d1, d2, d3] }
  | _ => none }
def InflateRunsWrongFalsely : Prop := inflateRunsRow.holds Tryd.pinned (OpenSpec.ofChange inflateRunsWrong)

/-- 'engraverlaw4.InflateCuts': WHATEVER THE INPUT: true; the input reads as it did. -/
def inflateCutsSpec : ChangeSpec := { name := "inflateCuts", fn := fun _ => fun
  | [d1, d2, d3] => { results := [.lit (.bool true)], args := [d1, d2, d3] }
  | _ => none }
def inflateCutsRow : OpenClaim := { program := "ytleeaofofofgmaadoor", sum := "29032639d0f2a8df78ea9f629f91393b3123884f6d514e5ba6b3a674cd156f32", func := "engraver/engraverlaw4.InflateCuts", spec := "inflateCuts", unfollowed := true, recurses := true, named := ["engraver/inflate.lengthOrder"], apart := false, laid := [("engraver/inflate.lengthOrder", laid_engraver_inflate_lengthOrder)] }
def InflateCutsSaid : Prop := inflateCutsRow.holds Tryd.pinned (OpenSpec.ofChange inflateCutsSpec)

/-- ITS FALSE NEIGHBOUR: 'it returns false'. Refute it at one input. -/
def inflateCutsWrong : ChangeSpec := { name := "inflateCuts", fn := fun _ => fun
  | [d1, d2, d3] => { results := [.lit (.bool false)], args := [d1, d2, d3] }
  | _ => none }
def InflateCutsWrongFalsely : Prop := inflateCutsRow.holds Tryd.pinned (OpenSpec.ofChange inflateCutsWrong)

/-- 'engraverlaw4.InflateRoom': WHATEVER THE INPUT: true; the input reads as it did. -/
def inflateRoomSpec : ChangeSpec := { name := "inflateRoom", fn := fun _ => fun
  | [d] => { results := [.lit (.bool true)], args := [d] }
  | _ => none }
def inflateRoomRow : OpenClaim := { program := "ytleeaofofofgmaadoor", sum := "29032639d0f2a8df78ea9f629f91393b3123884f6d514e5ba6b3a674cd156f32", func := "engraver/engraverlaw4.InflateRoom", spec := "inflateRoom", unfollowed := true, recurses := true, named := ["engraver/inflate.lengthOrder"], apart := false, laid := [("engraver/inflate.lengthOrder", laid_engraver_inflate_lengthOrder)] }
def InflateRoomSaid : Prop := inflateRoomRow.holds Tryd.pinned (OpenSpec.ofChange inflateRoomSpec)

/-- ITS FALSE NEIGHBOUR: 'it returns false'. Refute it at one input. -/
def inflateRoomWrong : ChangeSpec := { name := "inflateRoom", fn := fun _ => fun
  | [d] => { results := [.lit (.bool false)], args := [d] }
  | _ => none }
def InflateRoomWrongFalsely : Prop := inflateRoomRow.holds Tryd.pinned (OpenSpec.ofChange inflateRoomWrong)

/-- 'engraverlaw4.InflateKnown': WHATEVER THE INPUT: true; the input reads as it did. -/
def inflateKnownSpec : ChangeSpec := { name := "inflateKnown", fn := fun _ => fun
  | [] => { results := [.lit (.bool true)], args := [] }
  | _ => none }
def inflateKnownRow : OpenClaim := { program := "ytleeaofofofgmaadoor", sum := "29032639d0f2a8df78ea9f629f91393b3123884f6d514e5ba6b3a674cd156f32", func := "engraver/engraverlaw4.InflateKnown", spec := "inflateKnown", unfollowed := true, recurses := true, named := ["engraver/inflate.lengthOrder"], apart := false, laid := [("engraver/inflate.lengthOrder", laid_engraver_inflate_lengthOrder)] }
def InflateKnownSaid : Prop := inflateKnownRow.holds Tryd.pinned (OpenSpec.ofChange inflateKnownSpec)

/-- ITS FALSE NEIGHBOUR: 'it returns false'. Refute it at one input. -/
def inflateKnownWrong : ChangeSpec := { name := "inflateKnown", fn := fun _ => fun
  | [] => { results := [.lit (.bool false)], args := [] }
  | _ => none }
def InflateKnownWrongFalsely : Prop := inflateKnownRow.holds Tryd.pinned (OpenSpec.ofChange inflateKnownWrong)

/- THE SECOND FORM. 'bulk': how many values and letters a reading holds, each counted each time it is reached (what is shared counts as often as it is met; a slice's spare places count too). A statement '..UptoSaid' is the law's where the arguments, and the package variables that the reading takes, are together of bulk at most 1048576: NARROWER than '..Said'. Prove '..Said' where nothing that the law and all that it calls make is longer than what came in: it says more and counts as full. Else prove '..UptoSaid'. A law counts once. -/
mutual
def uptoBulk {H : Type} : DataW H → Nat
  | .lit (.string bytes) => bytes.length + 1
  | .lit _ => 1
  | .nil => 1
  | .ptr d => uptoBulk d + 1
  | .slice elems spare => uptoBulkAll elems + uptoBulkAll spare + 1
  | .agg parts => uptoBulkAll parts + 1
  | .iface _ d => uptoBulk d + 1
  | .map entries => uptoBulkEntries entries + 1
  | .held _ => 1
def uptoBulkAll {H : Type} : List (DataW H) → Nat
  | [] => 0
  | d :: r => uptoBulk d + uptoBulkAll r
def uptoBulkEntries {H : Type} : List (Lit × DataW H) → Nat
  | [] => 0
  | x :: r => uptoBulkEntry x + uptoBulkEntries r
def uptoBulkEntry {H : Type} : Lit × DataW H → Nat
  | (.string bytes, d) => bytes.length + uptoBulk d + 1
  | (_, d) => uptoBulk d + 1
 end
def uptoSmall : (H : Type) → List (DataW H) → Bool := fun _ ds => decide (uptoBulkAll ds ≤ 1048576)
def OpenSpec.upto (s : _root_.Go.ChangeSpec) : _root_.Go.OpenSpec := { _root_.Go.OpenSpec.ofChange s with cond := some uptoSmall }

/-- 'engraverlaw4.InflateReads', WHERE WHAT IT READS IS OF BULK AT MOST 1048576: true; the input reads as it did. -/
def inflateReadsUptoRow : OpenClaim := { program := "ytleeaofofofgmaadoor", sum := "29032639d0f2a8df78ea9f629f91393b3123884f6d514e5ba6b3a674cd156f32", func := "engraver/engraverlaw4.InflateReads", spec := "inflateReads", unfollowed := true, recurses := true, named := ["engraver/inflate.lengthOrder"], apart := false, laid := [("engraver/inflate.lengthOrder", laid_engraver_inflate_lengthOrder)], narrowed := true }
def InflateReadsUptoSaid : Prop := inflateReadsUptoRow.holds Tryd.pinned (OpenSpec.upto inflateReadsSpec)

/-- 'engraverlaw4.InflateSlices', WHERE WHAT IT READS IS OF BULK AT MOST 1048576: true; the input reads as it did. -/
def inflateSlicesUptoRow : OpenClaim := { program := "ytleeaofofofgmaadoor", sum := "29032639d0f2a8df78ea9f629f91393b3123884f6d514e5ba6b3a674cd156f32", func := "engraver/engraverlaw4.InflateSlices", spec := "inflateSlices", unfollowed := true, recurses := true, named := ["engraver/inflate.lengthOrder"], apart := false, laid := [("engraver/inflate.lengthOrder", laid_engraver_inflate_lengthOrder)], narrowed := true }
def InflateSlicesUptoSaid : Prop := inflateSlicesUptoRow.holds Tryd.pinned (OpenSpec.upto inflateSlicesSpec)

/-- 'engraverlaw4.InflateStored', WHERE WHAT IT READS IS OF BULK AT MOST 1048576: true; the input reads as it did. -/
def inflateStoredUptoRow : OpenClaim := { program := "ytleeaofofofgmaadoor", sum := "29032639d0f2a8df78ea9f629f91393b3123884f6d514e5ba6b3a674cd156f32", func := "engraver/engraverlaw4.InflateStored", spec := "inflateStored", unfollowed := true, recurses := true, named := ["engraver/inflate.lengthOrder"], apart := false, laid := [("engraver/inflate.lengthOrder", laid_engraver_inflate_lengthOrder)], narrowed := true }
def InflateStoredUptoSaid : Prop := inflateStoredUptoRow.holds Tryd.pinned (OpenSpec.upto inflateStoredSpec)

/-- 'engraverlaw4.InflateRuns', WHERE WHAT IT READS IS OF BULK AT MOST 1048576: true; the input reads as it did. -/
def inflateRunsUptoRow : OpenClaim := { program := "ytleeaofofofgmaadoor", sum := "29032639d0f2a8df78ea9f629f91393b3123884f6d514e5ba6b3a674cd156f32", func := "engraver/engraverlaw4.InflateRuns", spec := "inflateRuns", unfollowed := true, recurses := true, named := ["engraver/inflate.lengthOrder"], apart := false, laid := [("engraver/inflate.lengthOrder", laid_engraver_inflate_lengthOrder)], narrowed := true }
def InflateRunsUptoSaid : Prop := inflateRunsUptoRow.holds Tryd.pinned (OpenSpec.upto inflateRunsSpec)

/-- 'engraverlaw4.InflateCuts', WHERE WHAT IT READS IS OF BULK AT MOST 1048576: true; the input reads as it did. -/
def inflateCutsUptoRow : OpenClaim := { program := "ytleeaofofofgmaadoor", sum := "29032639d0f2a8df78ea9f629f91393b3123884f6d514e5ba6b3a674cd156f32", func := "engraver/engraverlaw4.InflateCuts", spec := "inflateCuts", unfollowed := true, recurses := true, named := ["engraver/inflate.lengthOrder"], apart := false, laid := [("engraver/inflate.lengthOrder", laid_engraver_inflate_lengthOrder)], narrowed := true }
def InflateCutsUptoSaid : Prop := inflateCutsUptoRow.holds Tryd.pinned (OpenSpec.upto inflateCutsSpec)

/-- 'engraverlaw4.InflateRoom', WHERE WHAT IT READS IS OF BULK AT MOST 1048576: true; the input reads as it did. -/
def inflateRoomUptoRow : OpenClaim := { program := "ytleeaofofofgmaadoor", sum := "29032639d0f2a8df78ea9f629f91393b3123884f6d514e5ba6b3a674cd156f32", func := "engraver/engraverlaw4.InflateRoom", spec := "inflateRoom", unfollowed := true, recurses := true, named := ["engraver/inflate.lengthOrder"], apart := false, laid := [("engraver/inflate.lengthOrder", laid_engraver_inflate_lengthOrder)], narrowed := true }
def InflateRoomUptoSaid : Prop := inflateRoomUptoRow.holds Tryd.pinned (OpenSpec.upto inflateRoomSpec)

/-- 'engraverlaw4.InflateKnown', WHERE WHAT IT READS IS OF BULK AT MOST 1048576: true; the input reads as it did. -/
def inflateKnownUptoRow : OpenClaim := { program := "ytleeaofofofgmaadoor", sum := "29032639d0f2a8df78ea9f629f91393b3123884f6d514e5ba6b3a674cd156f32", func := "engraver/engraverlaw4.InflateKnown", spec := "inflateKnown", unfollowed := true, recurses := true, named := ["engraver/inflate.lengthOrder"], apart := false, laid := [("engraver/inflate.lengthOrder", laid_engraver_inflate_lengthOrder)], narrowed := true }
def InflateKnownUptoSaid : Prop := inflateKnownUptoRow.holds Tryd.pinned (OpenSpec.upto inflateKnownSpec)

end Rows
end Go.Proofs.YtleeaofofofgmaaDoor
