/- Nothing that this seat needs. -/
import Derived.Test.YtcdcfhplkimecaaDoorEach
import Derived.Test.YtcdcfhplkimecaaDoorUnits
namespace Go.Proofs.YtcdcfhplkimecaaDoor
end Go.Proofs.YtcdcfhplkimecaaDoor
