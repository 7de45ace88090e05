/- The landed package block keeps the contracts that its laws need. -/
import Derived.Test.YtecigjpolekpdaaPValue
import Derived.Test.YtecigjpolekpdaaBlockOf
namespace Go.Proofs.Ytecigjpolekpdaa
open Go.RowKit
theorem blockOf : BlockOf fun _ => True := {
  keep := fun _ _ => trivial
  lines := fun s w hs _ => plines s w (by omega)
  indent := fun A n c xs w hn hz hx _ => (pindent_any A n c xs w (by omega) hz (fun x h => by have := hx x h; omega)).mono fun _ _ ⟨he, hw⟩ => ⟨he, hw ▸ Below.refl _ _⟩
  value := fun s w hs _ => pvalue s w hs }
end Go.Proofs.Ytecigjpolekpdaa
