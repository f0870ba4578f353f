/- The laws ZigNil and ZigFolds: their walks. -/
import Derived.Test.YtnnagjlpkieobaaDoorI
namespace Go.Proofs.YtnnagjlpkieobaaDoor
open Go.RowKit
set_option linter.unusedSimpArgs false
end Go.Proofs.YtnnagjlpkieobaaDoor
