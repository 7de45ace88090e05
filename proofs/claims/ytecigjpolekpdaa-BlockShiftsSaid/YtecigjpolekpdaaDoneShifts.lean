/- The law BlockShifts is proved for the landed package block: for every input, of whatever size, the law answers true, and its arguments read behind it as they did. No condition. -/
import Derived.Test.YtecigjpolekpdaaPBlockOf
import Derived.Test.YtecigjpolekpdaaBShifts
namespace Go.Proofs.Ytecigjpolekpdaa
theorem blockShifts_holds : Rows.BlockShiftsSaid := LBShifts.said blockOf
end Go.Proofs.Ytecigjpolekpdaa
