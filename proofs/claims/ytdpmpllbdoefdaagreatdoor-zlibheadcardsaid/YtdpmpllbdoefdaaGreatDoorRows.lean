/-
  NARROWER THAN 'FOR EVERY INPUT', by the rows' own cells (each row's printed sentence says how): ZlibOpens: laid · ZlibBack: laid · ZlibSum: laid · ZlibHead: laid.
  DERIVED. THE GIVEN ROWS OF THIS SEAT. 4 by the template 'for every input the law returns true; each argument reads behind the call as it read before'; 0 by the template 'total and deterministic' (their statements: YtdpmpllbdoefdaaGreatDoorTotals.lean).
  GIVEN WITH THE SEED: the statements are not yours to turn. If you find one false, say at which input.
  Laid BY PROGRAM, IN A SANDBOX (cutbox-rows.mjs): the forced cells as the released guide's own fill.sh prints them over the translation 608e3421f10503b8… (all of the seat's roots in one cut). By AI agents, Wed Nov 11 2026. No macro, syntax, notation, axiom, sorry.
-/
import Derived.Test.YtdpmpllbdoefdaaGreatDoorChecked
import GoSem.Claim
import GoSem.ClaimJoined
import GoSem.ClaimMapViews
import Derived.JoinedTies
import Derived.KernelRfl
namespace Go.Proofs.YtdpmpllbdoefdaaGreatDoor
/- THE CELL 'sum', in the pinned program and in every row, IS THE sha256 OF THE DUMP (.gsa) THAT YtdpmpllbdoefdaaGreatDoorProg.lean LOADS. Nothing in Lean hashes anything: it is a label: what it is worth is what the hold of that sum in a sandbox is worth. -/
noncomputable def Tryz.pinned : Pinned := { name := "ytdpmpllbdoefdaagreatdoor", sum := "608e3421f10503b89a320f5c2fdccf5689930f3dd081113ecba0fd4a6284c306", checked := Tryz.checked }
namespace Rows
def none {H : Type} : Left H := { results := [], args := [] }

/- WHAT THE LISTED PACKAGE-LEVEL VARIABLES READ AS WHEN THE CALL BEGINS. Each datum BY PROGRAM (the guide's laid-datum.mjs) off the statement by which the dump's own 'gosem.cut.vars' lays the variable. In a bare row this is a premise. The card (YtdpmpllbdoefdaaGreatDoorCards.lean) ties it to the program's text. -/
def laid_engraver_deflate_lengthOrder {H : Type} : DataW H := .agg [.lit (.int .i64 16), .lit (.int .i64 17), .lit (.int .i64 18), .lit (.int .i64 0), .lit (.int .i64 8), .lit (.int .i64 7), .lit (.int .i64 9), .lit (.int .i64 6), .lit (.int .i64 10), .lit (.int .i64 5), .lit (.int .i64 11), .lit (.int .i64 4), .lit (.int .i64 12), .lit (.int .i64 3), .lit (.int .i64 13), .lit (.int .i64 2), .lit (.int .i64 14), .lit (.int .i64 1), .lit (.int .i64 15)]
def laid_engraver_inflate_lengthOrder {H : Type} : DataW H := .agg [.lit (.int .i64 16), .lit (.int .i64 17), .lit (.int .i64 18), .lit (.int .i64 0), .lit (.int .i64 8), .lit (.int .i64 7), .lit (.int .i64 9), .lit (.int .i64 6), .lit (.int .i64 10), .lit (.int .i64 5), .lit (.int .i64 11), .lit (.int .i64 4), .lit (.int .i64 12), .lit (.int .i64 3), .lit (.int .i64 13), .lit (.int .i64 2), .lit (.int .i64 14), .lit (.int .i64 1), .lit (.int .i64 15)]

/-- 'engraverlaw6.ZlibOpens': WHATEVER THE INPUT: true; the input reads as it did. -/
def zlibOpensSpec : ChangeSpec := { name := "zlibOpens", fn := fun _ => fun
  | [d1, d2] => { results := [.lit (.bool true)], args := [d1, d2] }
  | _ => none }
def zlibOpensRow : OpenClaim := { program := "ytdpmpllbdoefdaagreatdoor", sum := "608e3421f10503b89a320f5c2fdccf5689930f3dd081113ecba0fd4a6284c306", func := "engraver/engraverlaw6.ZlibOpens", spec := "zlibOpens", unfollowed := true, recurses := true, named := ["engraver/inflate.lengthOrder", "engraver/deflate.lengthOrder"], apart := false, laid := [("engraver/deflate.lengthOrder", laid_engraver_deflate_lengthOrder), ("engraver/inflate.lengthOrder", laid_engraver_inflate_lengthOrder)] }
def ZlibOpensSaid : Prop := zlibOpensRow.holds Tryz.pinned (OpenSpec.ofChange zlibOpensSpec)

/-- ITS FALSE NEIGHBOUR: 'it returns false'. Refute it at one input. -/
def zlibOpensWrong : ChangeSpec := { name := "zlibOpens", fn := fun _ => fun
  | [d1, d2] => { results := [.lit (.bool false)], args := [d1, d2] }
  | _ => none }
def ZlibOpensWrongFalsely : Prop := zlibOpensRow.holds Tryz.pinned (OpenSpec.ofChange zlibOpensWrong)

/-- 'engraverlaw6.ZlibBack': WHATEVER THE INPUT: true; the input reads as it did. -/
def zlibBackSpec : ChangeSpec := { name := "zlibBack", fn := fun _ => fun
  | [d] => { results := [.lit (.bool true)], args := [d] }
  | _ => none }
def zlibBackRow : OpenClaim := { program := "ytdpmpllbdoefdaagreatdoor", sum := "608e3421f10503b89a320f5c2fdccf5689930f3dd081113ecba0fd4a6284c306", func := "engraver/engraverlaw6.ZlibBack", spec := "zlibBack", unfollowed := true, recurses := true, named := ["engraver/inflate.lengthOrder", "engraver/deflate.lengthOrder"], apart := false, laid := [("engraver/deflate.lengthOrder", laid_engraver_deflate_lengthOrder), ("engraver/inflate.lengthOrder", laid_engraver_inflate_lengthOrder)] }
def ZlibBackSaid : Prop := zlibBackRow.holds Tryz.pinned (OpenSpec.ofChange zlibBackSpec)

/-- ITS FALSE NEIGHBOUR: 'it returns false'. Refute it at one input. -/
def zlibBackWrong : ChangeSpec := { name := "zlibBack", fn := fun _ => fun
  | [d] => { results := [.lit (.bool false)], args := [d] }
  | _ => none }
def ZlibBackWrongFalsely : Prop := zlibBackRow.holds Tryz.pinned (OpenSpec.ofChange zlibBackWrong)

/-- 'engraverlaw6.ZlibSum': WHATEVER THE INPUT: true; the input reads as it did. -/
def zlibSumSpec : ChangeSpec := { name := "zlibSum", fn := fun _ => fun
  | [d1, d2] => { results := [.lit (.bool true)], args := [d1, d2] }
  | _ => none }
def zlibSumRow : OpenClaim := { program := "ytdpmpllbdoefdaagreatdoor", sum := "608e3421f10503b89a320f5c2fdccf5689930f3dd081113ecba0fd4a6284c306", func := "engraver/engraverlaw6.ZlibSum", spec := "zlibSum", unfollowed := true, recurses := true, named := ["engraver/inflate.lengthOrder", "engraver/deflate.lengthOrder"], apart := false, laid := [("engraver/deflate.lengthOrder", laid_engraver_deflate_lengthOrder), ("engraver/inflate.lengthOrder", laid_engraver_inflate_lengthOrder)] }
def ZlibSumSaid : Prop := zlibSumRow.holds Tryz.pinned (OpenSpec.ofChange zlibSumSpec)

/-- ITS FALSE NEIGHBOUR: 'it returns false'. Refute it at one input. -/
def zlibSumWrong : ChangeSpec := { name := "zlibSum", fn := fun _ => fun
  | [d1, d2] => { results := [.lit (.bool false)], args := [d1, d2] }
  | _ => none }
def ZlibSumWrongFalsely : Prop := zlibSumRow.holds Tryz.pinned (OpenSpec.ofChange zlibSumWrong)

/-- 'engraverlaw6.ZlibHead': WHATEVER THE INPUT: true; the input reads as it did. -/
def zlibHeadSpec : ChangeSpec := { name := "zlibHead", fn := fun _ => fun
  | [d1, d2, d3] => { results := [.lit (.bool true)], args := [d1, d2, d3] }
  | _ => none }
def zlibHeadRow : OpenClaim := { program := "ytdpmpllbdoefdaagreatdoor", sum := "608e3421f10503b89a320f5c2fdccf5689930f3dd081113ecba0fd4a6284c306", func := "engraver/engraverlaw6.ZlibHead", spec := "zlibHead", unfollowed := true, recurses := true, named := ["engraver/inflate.lengthOrder", "engraver/deflate.lengthOrder"], apart := false, laid := [("engraver/deflate.lengthOrder", laid_engraver_deflate_lengthOrder), ("engraver/inflate.lengthOrder", laid_engraver_inflate_lengthOrder)] }
def ZlibHeadSaid : Prop := zlibHeadRow.holds Tryz.pinned (OpenSpec.ofChange zlibHeadSpec)

/-- ITS FALSE NEIGHBOUR: 'it returns false'. Refute it at one input. -/
def zlibHeadWrong : ChangeSpec := { name := "zlibHead", fn := fun _ => fun
  | [d1, d2, d3] => { results := [.lit (.bool false)], args := [d1, d2, d3] }
  | _ => none }
def ZlibHeadWrongFalsely : Prop := zlibHeadRow.holds Tryz.pinned (OpenSpec.ofChange zlibHeadWrong)

/- THE SECOND FORM. 'bulk': how many values and letters a reading holds, each counted each time it is reached (what is shared counts as often as it is met; a slice's spare places count too). A statement '..UptoSaid' is the law's where the arguments, and the package variables that the reading takes, are together of bulk at most 1048576: NARROWER than '..Said'. Prove '..Said' where nothing that the law and all that it calls make is longer than what came in: it says more and counts as full. Else prove '..UptoSaid'. A law counts once. -/
mutual
def uptoBulk {H : Type} : DataW H → Nat
  | .lit (.string bytes) => bytes.length + 1
  | .lit _ => 1
  | .nil => 1
  | .ptr d => uptoBulk d + 1
  | .slice elems spare => uptoBulkAll elems + uptoBulkAll spare + 1
  | .agg parts => uptoBulkAll parts + 1
  | .iface _ d => uptoBulk d + 1
  | .map entries => uptoBulkEntries entries + 1
  | .held _ => 1
def uptoBulkAll {H : Type} : List (DataW H) → Nat
  | [] => 0
  | d :: r => uptoBulk d + uptoBulkAll r
def uptoBulkEntries {H : Type} : List (Lit × DataW H) → Nat
  | [] => 0
  | x :: r => uptoBulkEntry x + uptoBulkEntries r
def uptoBulkEntry {H : Type} : Lit × DataW H → Nat
  | (.string bytes, d) => bytes.length + uptoBulk d + 1
  | (_, d) => uptoBulk d + 1
 end
def uptoSmall : (H : Type) → List (DataW H) → Bool := fun _ ds => decide (uptoBulkAll ds ≤ 1048576)
def OpenSpec.upto (s : _root_.Go.ChangeSpec) : _root_.Go.OpenSpec := { _root_.Go.OpenSpec.ofChange s with cond := some uptoSmall }

/-- 'engraverlaw6.ZlibOpens', WHERE WHAT IT READS IS OF BULK AT MOST 1048576: true; the input reads as it did. -/
def zlibOpensUptoRow : OpenClaim := { program := "ytdpmpllbdoefdaagreatdoor", sum := "608e3421f10503b89a320f5c2fdccf5689930f3dd081113ecba0fd4a6284c306", func := "engraver/engraverlaw6.ZlibOpens", spec := "zlibOpens", unfollowed := true, recurses := true, named := ["engraver/inflate.lengthOrder", "engraver/deflate.lengthOrder"], apart := false, laid := [("engraver/deflate.lengthOrder", laid_engraver_deflate_lengthOrder), ("engraver/inflate.lengthOrder", laid_engraver_inflate_lengthOrder)], narrowed := true }
def ZlibOpensUptoSaid : Prop := zlibOpensUptoRow.holds Tryz.pinned (OpenSpec.upto zlibOpensSpec)

/-- 'engraverlaw6.ZlibBack', WHERE WHAT IT READS IS OF BULK AT MOST 1048576: true; the input reads as it did. -/
def zlibBackUptoRow : OpenClaim := { program := "ytdpmpllbdoefdaagreatdoor", sum := "608e3421f10503b89a320f5c2fdccf5689930f3dd081113ecba0fd4a6284c306", func := "engraver/engraverlaw6.ZlibBack", spec := "zlibBack", unfollowed := true, recurses := true, named := ["engraver/inflate.lengthOrder", "engraver/deflate.lengthOrder"], apart := false, laid := [("engraver/deflate.lengthOrder", laid_engraver_deflate_lengthOrder), ("engraver/inflate.lengthOrder", laid_engraver_inflate_lengthOrder)], narrowed := true }
def ZlibBackUptoSaid : Prop := zlibBackUptoRow.holds Tryz.pinned (OpenSpec.upto zlibBackSpec)

/-- 'engraverlaw6.ZlibSum', WHERE WHAT IT READS IS OF BULK AT MOST 1048576: true; the input reads as it did. -/
def zlibSumUptoRow : OpenClaim := { program := "ytdpmpllbdoefdaagreatdoor", sum := "608e3421f10503b89a320f5c2fdccf5689930f3dd081113ecba0fd4a6284c306", func := "engraver/engraverlaw6.ZlibSum", spec := "zlibSum", unfollowed := true, recurses := true, named := ["engraver/inflate.lengthOrder", "engraver/deflate.lengthOrder"], apart := false, laid := [("engraver/deflate.lengthOrder", laid_engraver_deflate_lengthOrder), ("engraver/inflate.lengthOrder", laid_engraver_inflate_lengthOrder)], narrowed := true }
def ZlibSumUptoSaid : Prop := zlibSumUptoRow.holds Tryz.pinned (OpenSpec.upto zlibSumSpec)

/-- 'engraverlaw6.ZlibHead', WHERE WHAT IT READS IS OF BULK AT MOST 1048576: true; the input reads as it did. -/
def zlibHeadUptoRow : OpenClaim := { program := "ytdpmpllbdoefdaagreatdoor", sum := "608e3421f10503b89a320f5c2fdccf5689930f3dd081113ecba0fd4a6284c306", func := "engraver/engraverlaw6.ZlibHead", spec := "zlibHead", unfollowed := true, recurses := true, named := ["engraver/inflate.lengthOrder", "engraver/deflate.lengthOrder"], apart := false, laid := [("engraver/deflate.lengthOrder", laid_engraver_deflate_lengthOrder), ("engraver/inflate.lengthOrder", laid_engraver_inflate_lengthOrder)], narrowed := true }
def ZlibHeadUptoSaid : Prop := zlibHeadUptoRow.holds Tryz.pinned (OpenSpec.upto zlibHeadSpec)

end Rows
end Go.Proofs.YtdpmpllbdoefdaaGreatDoor
