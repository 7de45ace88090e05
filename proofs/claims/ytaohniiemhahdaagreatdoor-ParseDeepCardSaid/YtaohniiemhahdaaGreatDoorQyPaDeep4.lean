/- What is read of brackets within one another: reckoned, from 36 on, below 41. -/
import Derived.Test.YtaohniiemhahdaaGreatDoorQyPaDeepM
namespace Go.Proofs.YtaohniiemhahdaaGreatDoor
theorem ok_n4 : okN 36 41 = true := by decide +kernel
end Go.Proofs.YtaohniiemhahdaaGreatDoor
