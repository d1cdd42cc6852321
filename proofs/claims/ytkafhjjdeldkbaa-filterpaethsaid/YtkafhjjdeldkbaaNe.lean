/-
  filter: FilterPaeth, walked: all.
-/
import Derived.Test.YtkafhjjdeldkbaaNb
import Derived.Test.YtkafhjjdeldkbaaNc
import Derived.Test.YtkafhjjdeldkbaaNd
namespace Go.Proofs.Ytkafhjjdeldkbaa
open Go.RowKit Go.Lib
set_option linter.unusedVariables false

theorem paeth_law (a b c : Nat) (w : World) (ha : a < 256) (hb : b < 256) (hc : c < 256) :
    Calls Try.prog 5 #[.int .u8 (a : Int), .int .u8 (b : Int), .int .u8 (c : Int)] w fun e w' => e = .returned (.bool true) ∧ Fr (fun _ => False) w w' := by
  rcases paeth_near a b c with h | h | h
  · exact paeth_a a b c w ha hb hc h
  · exact paeth_b a b c w ha hb hc h
  · exact paeth_d a b c w ha hb hc h
end Go.Proofs.Ytkafhjjdeldkbaa
