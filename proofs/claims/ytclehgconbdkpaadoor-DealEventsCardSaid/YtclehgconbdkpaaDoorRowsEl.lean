/-
  A stub: what it stands for lies in the texts that it imports.
  A stub: what it stands for lies in the texts that it imports.
-/
import Derived.Test.YtclehgconbdkpaaDoorElems
import Derived.Test.YtclehgconbdkpaaDoorPolRefer
import Derived.Test.YtclehgconbdkpaaDoorPolCore
import Derived.Test.YtclehgconbdkpaaDoorEvOwn
import Derived.Test.YtclehgconbdkpaaDoorPolVals
import Derived.Test.YtclehgconbdkpaaDoorVecOpen
namespace Go.Proofs.YtclehgconbdkpaaDoor
section

end
section

end
end Go.Proofs.YtclehgconbdkpaaDoor
