/-
  The document's bus: Write of its ports (gen13.py, off ports' texts).
-/
import Derived.Test.YtcnejgilmciljaaDoorWriter11
import Derived.Test.YtcnejgilmciljaaDoorDbr13
set_option linter.unusedSimpArgs false
set_option linter.unusedVariables false
namespace Go.Proofs.YtcnejgilmciljaaDoor
open Go.RowKit Go.PlainAid

end Go.Proofs.YtcnejgilmciljaaDoor
