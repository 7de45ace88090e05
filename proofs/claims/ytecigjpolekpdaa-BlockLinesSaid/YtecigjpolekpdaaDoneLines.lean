/- The law BlockLines is proved for the landed package block: for every input, of whatever size, the law answers true, and its arguments read behind it as they did. No condition. -/
import Derived.Test.YtecigjpolekpdaaPBlockOf
import Derived.Test.YtecigjpolekpdaaBLines
namespace Go.Proofs.Ytecigjpolekpdaa
theorem blockLines_holds : Rows.BlockLinesSaid := LBLines.said blockOf
end Go.Proofs.Ytecigjpolekpdaa
