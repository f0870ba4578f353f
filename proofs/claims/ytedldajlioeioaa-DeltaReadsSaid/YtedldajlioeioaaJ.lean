/- The laws ZigNil and ZigFolds: their walks. -/
import Derived.Test.YtedldajlioeioaaI
namespace Go.Proofs.Ytedldajlioeioaa
open Go.RowKit
set_option linter.unusedSimpArgs false
end Go.Proofs.Ytedldajlioeioaa
