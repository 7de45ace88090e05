/- A field that comes in, opened. -/
import Derived.Test.YtaekdfcpbepepaaGreatDoorRbScOpenL
namespace Go.Proofs.YtaekdfcpbepepaaGreatDoor
open Go.ChangeShapes Go.WideShapes Go.ChangeAt Go.RowKit

set_option maxRecDepth 100000 in
theorem openU_field {H : Type} {enc : TypeId × Value → H} {W : World} {base : Nat} {v : Value} {d : DataW H} {ps : List MemPlace} (hval : Value.okWide Tryz.prog W .any base 46 v) (hd : DataW.Trod enc Tryz.prog W 0 (fun _ => true) true 46 v d ps) :
    ∃ f d0 d1 d2 d3 d4 d5, v = .agg #[d0, d1, d2, d3, d4, d5] ∧ TS W (fun b => b < W.heap.size) (encField f) [d0, d1, d2, d3, d4, d5] ∧ szF f ≤ Rows.uptoBulk d := by
  obtain ⟨cs, rfl, hsz⟩ := okWide_struct Tryz.underlying46 hval
  obtain ⟨fuel, hf⟩ := hd
  obtain ⟨f, h1, h2, h3⟩ := openU_fld fuel _ _ hf
  obtain ⟨L⟩ := cs
  rw [ocFld] at hsz
  match L, hsz with
  | [a, b, c, d, e, g], _ => exact ⟨f, a, b, c, d, e, g, rfl, h1, h3⟩
end Go.Proofs.YtaekdfcpbepepaaGreatDoor
