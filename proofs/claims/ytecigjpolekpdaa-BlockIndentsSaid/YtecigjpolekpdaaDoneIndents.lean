/- The law BlockIndents is proved for the landed package block: for every input, of whatever size, the law answers true, and its arguments read behind it as they did. No condition. -/
import Derived.Test.YtecigjpolekpdaaPBlockOf
import Derived.Test.YtecigjpolekpdaaBIndents
namespace Go.Proofs.Ytecigjpolekpdaa
theorem blockIndents_holds : Rows.BlockIndentsSaid := LBIndents.said blockOf
end Go.Proofs.Ytecigjpolekpdaa
