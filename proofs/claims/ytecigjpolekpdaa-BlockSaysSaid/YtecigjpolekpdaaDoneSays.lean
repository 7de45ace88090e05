/- The law BlockSays is proved for the landed package block: for every input, of whatever size, the law answers true, and its arguments read behind it as they did. No condition. -/
import Derived.Test.YtecigjpolekpdaaPBlockOf
import Derived.Test.YtecigjpolekpdaaBSays
namespace Go.Proofs.Ytecigjpolekpdaa
theorem blockSays_holds : Rows.BlockSaysSaid := LBSays.said blockOf
end Go.Proofs.Ytecigjpolekpdaa
