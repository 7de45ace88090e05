/- Nothing that this seat needs. -/
import Derived.Test.YtcdcfhplkimecaaDoorShelf
namespace Go.Proofs.YtcdcfhplkimecaaDoor
end Go.Proofs.YtcdcfhplkimecaaDoor
