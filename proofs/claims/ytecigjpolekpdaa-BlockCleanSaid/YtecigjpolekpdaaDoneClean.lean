/- The law BlockClean is proved for the landed package block: for every input, of whatever size, the law answers true, and its arguments read behind it as they did. No condition. -/
import Derived.Test.YtecigjpolekpdaaPBlockOf
import Derived.Test.YtecigjpolekpdaaBClean
namespace Go.Proofs.Ytecigjpolekpdaa
theorem blockClean_holds : Rows.BlockCleanSaid := LBClean.said blockOf
end Go.Proofs.Ytecigjpolekpdaa
