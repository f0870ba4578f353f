import Derived.Test.YtedldajlioeioaaG
import Derived.Laws.BytesArg
namespace Go.Proofs.Ytedldajlioeioaa
open Go.RowKit
set_option linter.unusedSimpArgs false
end Go.Proofs.Ytedldajlioeioaa
