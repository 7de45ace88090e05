/- What is read of brackets within one another: reckoned, from 31 on, below 36. -/
import Derived.Test.YtaohniiemhahdaaGreatDoorQyPaDeepM
namespace Go.Proofs.YtaohniiemhahdaaGreatDoor
theorem ok_n3 : okN 31 36 = true := by decide +kernel
end Go.Proofs.YtaohniiemhahdaaGreatDoor
