/-
  What the walks of the six laws share: both Pulls, what came in.
-/
import Derived.Test.YtmajbkhbkepebaaCodG
import Derived.Test.YtmajbkhbkepebaaCodH
import Derived.Test.YtmajbkhbkepebaaOpenCd
namespace Go.Proofs.Ytmajbkhbkepebaa
end Go.Proofs.Ytmajbkhbkepebaa
