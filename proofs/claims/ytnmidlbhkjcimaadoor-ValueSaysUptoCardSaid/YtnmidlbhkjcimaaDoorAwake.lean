/- A slice of integers in memory. -/
import Derived.Test.YtnmidlbhkjcimaaDoorZLet
namespace Go.Proofs.YtnmidlbhkjcimaaDoor
open Go.RowKit
def IntsAt (w : World) (B : Nat) (A : Option Addr) (n : Nat) (zs : List Int) : Prop :=
  zs.length = n ∧ ∀ (j : Nat) z, zs[j]? = some z → ∃ b o, A = some ⟨b, o, none⟩ ∧ b < B ∧ w.cell? ⟨b, o + j, none⟩ = some (.int .i64 z)
theorem IntsAt.below {w w' : World} {B : Nat} {A : Option Addr} {n : Nat} {zs : List Int} (h : IntsAt w B A n zs) (hb : Below B w w') : IntsAt w' B A n zs :=
  ⟨h.1, fun j z hz => by
    obtain ⟨b, o, e, hlt, hc⟩ := h.2 j z hz
    exact ⟨b, o, e, hlt, (hb.cell (p := ⟨b, o + j, none⟩) hlt).trans hc⟩⟩
theorem IntsAt.more {w : World} {B B' : Nat} {A : Option Addr} {n : Nat} {zs : List Int} (h : IntsAt w B A n zs) (hB : B ≤ B') : IntsAt w B' A n zs :=
  ⟨h.1, fun j z hz => by
    obtain ⟨b, o, e, hlt, hc⟩ := h.2 j z hz
    exact ⟨b, o, e, by omega, hc⟩⟩

end Go.Proofs.YtnmidlbhkjcimaaDoor
