/-
  What JudgeLong's own walk stands on, joined. (By the verifier; no statement.)
-/
import Derived.Test.YtbielnehggcaoaaDoorL33
import Derived.Test.YtbielnehggcaoaaDoorL22
import Derived.Test.YtbielnehggcaoaaDoorL34
namespace Go.Proofs.YtbielnehggcaoaaDoor
theorem jzAll : True := trivial
end Go.Proofs.YtbielnehggcaoaaDoor
