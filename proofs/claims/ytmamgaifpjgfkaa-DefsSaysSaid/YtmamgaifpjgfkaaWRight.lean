/- The walks of the document's own Name and RightType. -/
import Derived.Test.YtmamgaifpjgfkaaWTypes
namespace Go.Proofs.Ytmamgaifpjgfkaa
open Go.RowKit

end Go.Proofs.Ytmamgaifpjgfkaa
