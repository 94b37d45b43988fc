/- Layer 6 (schema): the law's fixed text. -/
import Derived.Test.YtojedpkbhkbaoaaDoorSPrint
import Derived.Test.YtojedpkbhkbaoaaDoorSCatch
namespace Go.Proofs.YtojedpkbhkbaoaaDoor
open Go.RowKit
set_option linter.unusedVariables false

def fixedT : ByteArray := ⟨#[116, 97, 98, 108, 101, 32, 97, 10, 102, 105, 101, 108, 100, 32, 120, 32, 116, 101, 120, 116, 10, 105, 110, 100, 101, 120, 32, 105, 100, 32, 120, 32, 117, 110, 105, 113, 117, 101, 10]⟩
def fixedS : List Tb := [⟨⟨#[97]⟩, [⟨⟨#[120]⟩, 1⟩], [⟨idW, [0], true, false, false⟩]⟩]
set_option maxRecDepth 100000 in
theorem fixed_parse : parseP fixedT = .ok fixedS := by kernel_rfl
set_option maxRecDepth 100000 in
theorem fixed_print : (⟨(printL fixedS).toArray⟩ : ByteArray) = fixedT := by kernel_rfl
end Go.Proofs.YtojedpkbhkbaoaaDoor
