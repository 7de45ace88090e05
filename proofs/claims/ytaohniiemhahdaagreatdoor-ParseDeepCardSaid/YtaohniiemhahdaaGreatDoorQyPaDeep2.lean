/- What is read of brackets within one another: reckoned, from 24 on, below 31. -/
import Derived.Test.YtaohniiemhahdaaGreatDoorQyPaDeepM
namespace Go.Proofs.YtaohniiemhahdaaGreatDoor
theorem ok_n2 : okN 24 31 = true := by decide +kernel
end Go.Proofs.YtaohniiemhahdaaGreatDoor
