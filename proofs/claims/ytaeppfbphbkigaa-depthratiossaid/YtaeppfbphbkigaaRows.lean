/-
  No cell of these rows narrows 'for every input' (looked for: loops, veiled, ifaces, maps, wideKeys, modest, calm, conditions, laid).
  DERIVED. THE GIVEN ROWS OF THIS SEAT. 9 by the template 'for every input the law returns true; each argument reads behind the call as it read before'; 0 by the template 'total and deterministic' (their statements: YtaeppfbphbkigaaTotals.lean).
  GIVEN WITH THE SEED: the statements are not yours to turn. If you find one false, say at which input.
  Laid BY PROGRAM, IN A SANDBOX (cutbox-rows.mjs): the forced cells as the released guide's own fill.sh prints them over the translation 5431d148c0bb6c1c… (all of the seat's roots in one cut). By AI agents, Wed Nov 11 2026. No macro, syntax, notation, axiom, sorry.
-/
import Derived.Test.YtaeppfbphbkigaaChecked
import GoSem.Claim
import GoSem.ClaimJoined
import GoSem.ClaimMapViews
import Derived.JoinedTies
import Derived.KernelRfl
namespace Go.Proofs.Ytaeppfbphbkigaa
/- THE CELL 'sum', in the pinned program and in every row, IS THE sha256 OF THE DUMP (.gsa) THAT YtaeppfbphbkigaaProg.lean LOADS. Nothing in Lean hashes anything: it is a label: what it is worth is what the hold of that sum in a sandbox is worth. -/
noncomputable def Try.pinned : Pinned := { name := "ytaeppfbphbkigaa", sum := "5431d148c0bb6c1c539cec49a35dfc23351dd3caabefecdae9ae1f1ae32d8b5e", checked := Try.checked }
namespace Rows
def none {H : Type} : Left H := { results := [], args := [] }

/-- 'engraverlaw8.RasterPixels': WHATEVER THE INPUT: true; the input reads as it did. -/
def rasterPixelsSpec : ChangeSpec := { name := "rasterPixels", fn := fun _ => fun
  | [d1, d2, d3] => { results := [.lit (.bool true)], args := [d1, d2, d3] }
  | _ => none }
def rasterPixelsRow : OpenClaim := { program := "ytaeppfbphbkigaa", sum := "5431d148c0bb6c1c539cec49a35dfc23351dd3caabefecdae9ae1f1ae32d8b5e", func := "engraver/engraverlaw8.RasterPixels", spec := "rasterPixels", recurses := true, apart := false }
def RasterPixelsSaid : Prop := rasterPixelsRow.holds Try.pinned (OpenSpec.ofChange rasterPixelsSpec)

/-- ITS FALSE NEIGHBOUR: 'it returns false'. Refute it at one input. -/
def rasterPixelsWrong : ChangeSpec := { name := "rasterPixels", fn := fun _ => fun
  | [d1, d2, d3] => { results := [.lit (.bool false)], args := [d1, d2, d3] }
  | _ => none }
def RasterPixelsWrongFalsely : Prop := rasterPixelsRow.holds Try.pinned (OpenSpec.ofChange rasterPixelsWrong)

/-- 'engraverlaw8.RasterCounts': WHATEVER THE INPUT: true; the input reads as it did. -/
def rasterCountsSpec : ChangeSpec := { name := "rasterCounts", fn := fun _ => fun
  | [d1, d2] => { results := [.lit (.bool true)], args := [d1, d2] }
  | _ => none }
def rasterCountsRow : OpenClaim := { program := "ytaeppfbphbkigaa", sum := "5431d148c0bb6c1c539cec49a35dfc23351dd3caabefecdae9ae1f1ae32d8b5e", func := "engraver/engraverlaw8.RasterCounts", spec := "rasterCounts", recurses := true, apart := false }
def RasterCountsSaid : Prop := rasterCountsRow.holds Try.pinned (OpenSpec.ofChange rasterCountsSpec)

/-- ITS FALSE NEIGHBOUR: 'it returns false'. Refute it at one input. -/
def rasterCountsWrong : ChangeSpec := { name := "rasterCounts", fn := fun _ => fun
  | [d1, d2] => { results := [.lit (.bool false)], args := [d1, d2] }
  | _ => none }
def RasterCountsWrongFalsely : Prop := rasterCountsRow.holds Try.pinned (OpenSpec.ofChange rasterCountsWrong)

/-- 'engraverlaw8.RasterApart': WHATEVER THE INPUT: true; the input reads as it did. -/
def rasterApartSpec : ChangeSpec := { name := "rasterApart", fn := fun _ => fun
  | [d1, d2, d3] => { results := [.lit (.bool true)], args := [d1, d2, d3] }
  | _ => none }
def rasterApartRow : OpenClaim := { program := "ytaeppfbphbkigaa", sum := "5431d148c0bb6c1c539cec49a35dfc23351dd3caabefecdae9ae1f1ae32d8b5e", func := "engraver/engraverlaw8.RasterApart", spec := "rasterApart", recurses := true, apart := false }
def RasterApartSaid : Prop := rasterApartRow.holds Try.pinned (OpenSpec.ofChange rasterApartSpec)

/-- ITS FALSE NEIGHBOUR: 'it returns false'. Refute it at one input. -/
def rasterApartWrong : ChangeSpec := { name := "rasterApart", fn := fun _ => fun
  | [d1, d2, d3] => { results := [.lit (.bool false)], args := [d1, d2, d3] }
  | _ => none }
def RasterApartWrongFalsely : Prop := rasterApartRow.holds Try.pinned (OpenSpec.ofChange rasterApartWrong)

/-- 'engraverlaw8.RasterRows': WHATEVER THE INPUT: true; the input reads as it did. -/
def rasterRowsSpec : ChangeSpec := { name := "rasterRows", fn := fun _ => fun
  | [d1, d2, d3] => { results := [.lit (.bool true)], args := [d1, d2, d3] }
  | _ => none }
def rasterRowsRow : OpenClaim := { program := "ytaeppfbphbkigaa", sum := "5431d148c0bb6c1c539cec49a35dfc23351dd3caabefecdae9ae1f1ae32d8b5e", func := "engraver/engraverlaw8.RasterRows", spec := "rasterRows", recurses := true, apart := false }
def RasterRowsSaid : Prop := rasterRowsRow.holds Try.pinned (OpenSpec.ofChange rasterRowsSpec)

/-- ITS FALSE NEIGHBOUR: 'it returns false'. Refute it at one input. -/
def rasterRowsWrong : ChangeSpec := { name := "rasterRows", fn := fun _ => fun
  | [d1, d2, d3] => { results := [.lit (.bool false)], args := [d1, d2, d3] }
  | _ => none }
def RasterRowsWrongFalsely : Prop := rasterRowsRow.holds Try.pinned (OpenSpec.ofChange rasterRowsWrong)

/-- 'engraverlaw9.DepthScales': WHATEVER THE INPUT: true; the input reads as it did. -/
def depthScalesSpec : ChangeSpec := { name := "depthScales", fn := fun _ => fun
  | [d1, d2, d3] => { results := [.lit (.bool true)], args := [d1, d2, d3] }
  | _ => none }
def depthScalesRow : OpenClaim := { program := "ytaeppfbphbkigaa", sum := "5431d148c0bb6c1c539cec49a35dfc23351dd3caabefecdae9ae1f1ae32d8b5e", func := "engraver/engraverlaw9.DepthScales", spec := "depthScales", inPlace := ["math.Float64frombits", "math.Float64bits"], apart := false }
def DepthScalesSaid : Prop := depthScalesRow.holds Try.pinned (OpenSpec.ofChange depthScalesSpec)

/-- ITS FALSE NEIGHBOUR: 'it returns false'. Refute it at one input. -/
def depthScalesWrong : ChangeSpec := { name := "depthScales", fn := fun _ => fun
  | [d1, d2, d3] => { results := [.lit (.bool false)], args := [d1, d2, d3] }
  | _ => none }
def DepthScalesWrongFalsely : Prop := depthScalesRow.holds Try.pinned (OpenSpec.ofChange depthScalesWrong)

/-- 'engraverlaw9.DepthFits': WHATEVER THE INPUT: true; the input reads as it did. -/
def depthFitsSpec : ChangeSpec := { name := "depthFits", fn := fun _ => fun
  | [d1, d2] => { results := [.lit (.bool true)], args := [d1, d2] }
  | _ => none }
def depthFitsRow : OpenClaim := { program := "ytaeppfbphbkigaa", sum := "5431d148c0bb6c1c539cec49a35dfc23351dd3caabefecdae9ae1f1ae32d8b5e", func := "engraver/engraverlaw9.DepthFits", spec := "depthFits", inPlace := ["math.Float64frombits", "math.Float64bits"], recurses := true, apart := false }
def DepthFitsSaid : Prop := depthFitsRow.holds Try.pinned (OpenSpec.ofChange depthFitsSpec)

/-- ITS FALSE NEIGHBOUR: 'it returns false'. Refute it at one input. -/
def depthFitsWrong : ChangeSpec := { name := "depthFits", fn := fun _ => fun
  | [d1, d2] => { results := [.lit (.bool false)], args := [d1, d2] }
  | _ => none }
def DepthFitsWrongFalsely : Prop := depthFitsRow.holds Try.pinned (OpenSpec.ofChange depthFitsWrong)

/-- 'engraverlaw9.DepthRatios': WHATEVER THE INPUT: true; the input reads as it did. -/
def depthRatiosSpec : ChangeSpec := { name := "depthRatios", fn := fun _ => fun
  | [d1, d2, d3] => { results := [.lit (.bool true)], args := [d1, d2, d3] }
  | _ => none }
def depthRatiosRow : OpenClaim := { program := "ytaeppfbphbkigaa", sum := "5431d148c0bb6c1c539cec49a35dfc23351dd3caabefecdae9ae1f1ae32d8b5e", func := "engraver/engraverlaw9.DepthRatios", spec := "depthRatios", inPlace := ["math.Float64frombits", "math.Float64bits"], apart := false }
def DepthRatiosSaid : Prop := depthRatiosRow.holds Try.pinned (OpenSpec.ofChange depthRatiosSpec)

/-- ITS FALSE NEIGHBOUR: 'it returns false'. Refute it at one input. -/
def depthRatiosWrong : ChangeSpec := { name := "depthRatios", fn := fun _ => fun
  | [d1, d2, d3] => { results := [.lit (.bool false)], args := [d1, d2, d3] }
  | _ => none }
def DepthRatiosWrongFalsely : Prop := depthRatiosRow.holds Try.pinned (OpenSpec.ofChange depthRatiosWrong)

/-- 'engraverlaw9.DepthExact': WHATEVER THE INPUT: true; the input reads as it did. -/
def depthExactSpec : ChangeSpec := { name := "depthExact", fn := fun _ => fun
  | [d1, d2] => { results := [.lit (.bool true)], args := [d1, d2] }
  | _ => none }
def depthExactRow : OpenClaim := { program := "ytaeppfbphbkigaa", sum := "5431d148c0bb6c1c539cec49a35dfc23351dd3caabefecdae9ae1f1ae32d8b5e", func := "engraver/engraverlaw9.DepthExact", spec := "depthExact", inPlace := ["math.Float64frombits", "math.Float64bits"], apart := false }
def DepthExactSaid : Prop := depthExactRow.holds Try.pinned (OpenSpec.ofChange depthExactSpec)

/-- ITS FALSE NEIGHBOUR: 'it returns false'. Refute it at one input. -/
def depthExactWrong : ChangeSpec := { name := "depthExact", fn := fun _ => fun
  | [d1, d2] => { results := [.lit (.bool false)], args := [d1, d2] }
  | _ => none }
def DepthExactWrongFalsely : Prop := depthExactRow.holds Try.pinned (OpenSpec.ofChange depthExactWrong)

/-- 'engraverlaw9.DepthPixel': WHATEVER THE INPUT: true; the input reads as it did. -/
def depthPixelSpec : ChangeSpec := { name := "depthPixel", fn := fun _ => fun
  | [d1, d2, d3] => { results := [.lit (.bool true)], args := [d1, d2, d3] }
  | _ => none }
def depthPixelRow : OpenClaim := { program := "ytaeppfbphbkigaa", sum := "5431d148c0bb6c1c539cec49a35dfc23351dd3caabefecdae9ae1f1ae32d8b5e", func := "engraver/engraverlaw9.DepthPixel", spec := "depthPixel", inPlace := ["math.Float64frombits", "math.Float64bits"], recurses := true, apart := false }
def DepthPixelSaid : Prop := depthPixelRow.holds Try.pinned (OpenSpec.ofChange depthPixelSpec)

/-- ITS FALSE NEIGHBOUR: 'it returns false'. Refute it at one input. -/
def depthPixelWrong : ChangeSpec := { name := "depthPixel", fn := fun _ => fun
  | [d1, d2, d3] => { results := [.lit (.bool false)], args := [d1, d2, d3] }
  | _ => none }
def DepthPixelWrongFalsely : Prop := depthPixelRow.holds Try.pinned (OpenSpec.ofChange depthPixelWrong)

/- THE SECOND FORM. 'bulk': how many values and letters a reading holds, each counted each time it is reached (what is shared counts as often as it is met; a slice's spare places count too). A statement '..UptoSaid' is the law's where the arguments, and the package variables that the reading takes, are together of bulk at most 1048576: NARROWER than '..Said'. Prove '..Said' where nothing that the law and all that it calls make is longer than what came in: it says more and counts as full. Else prove '..UptoSaid'. A law counts once. -/
mutual
def uptoBulk {H : Type} : DataW H → Nat
  | .lit (.string bytes) => bytes.length + 1
  | .lit _ => 1
  | .nil => 1
  | .ptr d => uptoBulk d + 1
  | .slice elems spare => uptoBulkAll elems + uptoBulkAll spare + 1
  | .agg parts => uptoBulkAll parts + 1
  | .iface _ d => uptoBulk d + 1
  | .map entries => uptoBulkEntries entries + 1
  | .held _ => 1
def uptoBulkAll {H : Type} : List (DataW H) → Nat
  | [] => 0
  | d :: r => uptoBulk d + uptoBulkAll r
def uptoBulkEntries {H : Type} : List (Lit × DataW H) → Nat
  | [] => 0
  | x :: r => uptoBulkEntry x + uptoBulkEntries r
def uptoBulkEntry {H : Type} : Lit × DataW H → Nat
  | (.string bytes, d) => bytes.length + uptoBulk d + 1
  | (_, d) => uptoBulk d + 1
 end
def uptoSmall : (H : Type) → List (DataW H) → Bool := fun _ ds => decide (uptoBulkAll ds ≤ 1048576)
def OpenSpec.upto (s : _root_.Go.ChangeSpec) : _root_.Go.OpenSpec := { _root_.Go.OpenSpec.ofChange s with cond := some uptoSmall }

/-- 'engraverlaw8.RasterPixels', WHERE WHAT IT READS IS OF BULK AT MOST 1048576: true; the input reads as it did. -/
def rasterPixelsUptoRow : OpenClaim := { program := "ytaeppfbphbkigaa", sum := "5431d148c0bb6c1c539cec49a35dfc23351dd3caabefecdae9ae1f1ae32d8b5e", func := "engraver/engraverlaw8.RasterPixels", spec := "rasterPixels", recurses := true, apart := false, narrowed := true }
def RasterPixelsUptoSaid : Prop := rasterPixelsUptoRow.holds Try.pinned (OpenSpec.upto rasterPixelsSpec)

/-- 'engraverlaw8.RasterCounts', WHERE WHAT IT READS IS OF BULK AT MOST 1048576: true; the input reads as it did. -/
def rasterCountsUptoRow : OpenClaim := { program := "ytaeppfbphbkigaa", sum := "5431d148c0bb6c1c539cec49a35dfc23351dd3caabefecdae9ae1f1ae32d8b5e", func := "engraver/engraverlaw8.RasterCounts", spec := "rasterCounts", recurses := true, apart := false, narrowed := true }
def RasterCountsUptoSaid : Prop := rasterCountsUptoRow.holds Try.pinned (OpenSpec.upto rasterCountsSpec)

/-- 'engraverlaw8.RasterApart', WHERE WHAT IT READS IS OF BULK AT MOST 1048576: true; the input reads as it did. -/
def rasterApartUptoRow : OpenClaim := { program := "ytaeppfbphbkigaa", sum := "5431d148c0bb6c1c539cec49a35dfc23351dd3caabefecdae9ae1f1ae32d8b5e", func := "engraver/engraverlaw8.RasterApart", spec := "rasterApart", recurses := true, apart := false, narrowed := true }
def RasterApartUptoSaid : Prop := rasterApartUptoRow.holds Try.pinned (OpenSpec.upto rasterApartSpec)

/-- 'engraverlaw8.RasterRows', WHERE WHAT IT READS IS OF BULK AT MOST 1048576: true; the input reads as it did. -/
def rasterRowsUptoRow : OpenClaim := { program := "ytaeppfbphbkigaa", sum := "5431d148c0bb6c1c539cec49a35dfc23351dd3caabefecdae9ae1f1ae32d8b5e", func := "engraver/engraverlaw8.RasterRows", spec := "rasterRows", recurses := true, apart := false, narrowed := true }
def RasterRowsUptoSaid : Prop := rasterRowsUptoRow.holds Try.pinned (OpenSpec.upto rasterRowsSpec)

/-- 'engraverlaw9.DepthScales', WHERE WHAT IT READS IS OF BULK AT MOST 1048576: true; the input reads as it did. -/
def depthScalesUptoRow : OpenClaim := { program := "ytaeppfbphbkigaa", sum := "5431d148c0bb6c1c539cec49a35dfc23351dd3caabefecdae9ae1f1ae32d8b5e", func := "engraver/engraverlaw9.DepthScales", spec := "depthScales", inPlace := ["math.Float64frombits", "math.Float64bits"], apart := false, narrowed := true }
def DepthScalesUptoSaid : Prop := depthScalesUptoRow.holds Try.pinned (OpenSpec.upto depthScalesSpec)

/-- 'engraverlaw9.DepthFits', WHERE WHAT IT READS IS OF BULK AT MOST 1048576: true; the input reads as it did. -/
def depthFitsUptoRow : OpenClaim := { program := "ytaeppfbphbkigaa", sum := "5431d148c0bb6c1c539cec49a35dfc23351dd3caabefecdae9ae1f1ae32d8b5e", func := "engraver/engraverlaw9.DepthFits", spec := "depthFits", inPlace := ["math.Float64frombits", "math.Float64bits"], recurses := true, apart := false, narrowed := true }
def DepthFitsUptoSaid : Prop := depthFitsUptoRow.holds Try.pinned (OpenSpec.upto depthFitsSpec)

/-- 'engraverlaw9.DepthRatios', WHERE WHAT IT READS IS OF BULK AT MOST 1048576: true; the input reads as it did. -/
def depthRatiosUptoRow : OpenClaim := { program := "ytaeppfbphbkigaa", sum := "5431d148c0bb6c1c539cec49a35dfc23351dd3caabefecdae9ae1f1ae32d8b5e", func := "engraver/engraverlaw9.DepthRatios", spec := "depthRatios", inPlace := ["math.Float64frombits", "math.Float64bits"], apart := false, narrowed := true }
def DepthRatiosUptoSaid : Prop := depthRatiosUptoRow.holds Try.pinned (OpenSpec.upto depthRatiosSpec)

/-- 'engraverlaw9.DepthExact', WHERE WHAT IT READS IS OF BULK AT MOST 1048576: true; the input reads as it did. -/
def depthExactUptoRow : OpenClaim := { program := "ytaeppfbphbkigaa", sum := "5431d148c0bb6c1c539cec49a35dfc23351dd3caabefecdae9ae1f1ae32d8b5e", func := "engraver/engraverlaw9.DepthExact", spec := "depthExact", inPlace := ["math.Float64frombits", "math.Float64bits"], apart := false, narrowed := true }
def DepthExactUptoSaid : Prop := depthExactUptoRow.holds Try.pinned (OpenSpec.upto depthExactSpec)

/-- 'engraverlaw9.DepthPixel', WHERE WHAT IT READS IS OF BULK AT MOST 1048576: true; the input reads as it did. -/
def depthPixelUptoRow : OpenClaim := { program := "ytaeppfbphbkigaa", sum := "5431d148c0bb6c1c539cec49a35dfc23351dd3caabefecdae9ae1f1ae32d8b5e", func := "engraver/engraverlaw9.DepthPixel", spec := "depthPixel", inPlace := ["math.Float64frombits", "math.Float64bits"], recurses := true, apart := false, narrowed := true }
def DepthPixelUptoSaid : Prop := depthPixelUptoRow.holds Try.pinned (OpenSpec.upto depthPixelSpec)

end Rows
end Go.Proofs.Ytaeppfbphbkigaa
