/- What is read of brackets within one another: reckoned, from 1 on, below 24. -/
import Derived.Test.YtaohniiemhahdaaGreatDoorQyPaDeepM
namespace Go.Proofs.YtaohniiemhahdaaGreatDoor
theorem ok_n1 : okN 1 24 = true := by decide +kernel
end Go.Proofs.YtaohniiemhahdaaGreatDoor
