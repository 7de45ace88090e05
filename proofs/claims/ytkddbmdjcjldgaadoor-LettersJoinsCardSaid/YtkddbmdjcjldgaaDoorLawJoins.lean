/- The walk of the law LettersJoins, at every input. -/
import Derived.Test.YtkddbmdjcjldgaaDoorInts
namespace Go.Proofs.YtkddbmdjcjldgaaDoor
open Go.RowKit

theorem ints_any (A : Option Addr) (n c : Nat) (zs : List Int) (w : World) (hn : n ≤ 3000) (hz : IntsAt w w.heap.size A n zs) (h0 : A = none → n = 0 ∧ c = 0) :
    Calls Tryd.prog 21 #[.slice A n c] w fun e w' => Copied w w' n zs e := by
  cases A with
  | none =>
    obtain ⟨rfl, rfl⟩ := h0 rfl
    have : zs = [] := List.eq_nil_of_length_eq_zero hz.1
    subst this
    exact ints_none w
  | some ad => exact ints_some ad n c zs w hn hz

theorem joins_big (A : Option Addr) (n c : Nat) (w : World) (hbig : 3000 < n) (ht : TabAt w) :
    Calls Tryd.prog 4 #[.slice A n c] w fun e w' => e = .returned (.bool true) ∧ Below w.heap.size w w' := by
  have HA := Lib.hid (awake_any w ht)
  clear ht
  go_enter Tryd.func4, Tryd.ntmps4
  go_wp2_with fail
  refine HA.out.mono ?_
  rintro e w1 ⟨rfl, hb⟩
  go_wp2_with fail
  go_ret
  exact ⟨rfl, hb⟩

set_option maxRecDepth 100000 in
set_option maxHeartbeats 1000000 in
theorem joins_small (A : Option Addr) (n c : Nat) (zs : List Int) (w : World) (h1 : n ≤ 3000) (hz : IntsAt w w.heap.size A n zs) (h0 : A = none → n = 0 ∧ c = 0) (ht : TabAt w) :
    Calls Tryd.prog 4 #[.slice A n c] w fun e w' => e = .returned (.bool true) ∧ Below w.heap.size w w' := by
  have K0 := Lib.hid (Kept.start ht)
  have Z0 := Lib.hid hz
  have HI := Lib.hid (ints_any A n c zs w h1 hz h0)
  clear ht hz h0
  go_enter Tryd.func4, Tryd.ntmps4
  go_wp2_with fail
  refine HI.out.mono ?_
  rintro e w1 ⟨g, cap, rfl, hcap, I1, hb1⟩
  have K1 := Lib.hid (K0.out.next hb1)
  have Z1 := Lib.hid (Z0.out.thence hb1)
  have J1 := Lib.hid I1
  have hcap' := Lib.hid hcap
  clear hb1 I1 hcap
  go_wp2_with fail
  refine (join_any (some ⟨g, 0, none⟩) n cap zs w1 (by omega) J1.out.init).mono ?_
  rintro e w2 ⟨rfl, hb2⟩
  have K2 := Lib.hid (K1.out.next hb2)
  have Z2 := Lib.hid (Z1.out.thence hb2)
  have J2 := Lib.hid (J1.out.thence hb2)
  clear hb2
  go_wp2_with fail
  refine (rjoin_any A n c zs w2 (by omega) Z2.out).mono ?_
  rintro e w3 ⟨rfl, hb3⟩
  have K3 := Lib.hid (K2.out.next hb3)
  have Z3 := Lib.hid (Z2.out.thence hb3)
  have J3 := Lib.hid (J2.out.thence hb3)
  clear hb3
  generalize joinS zs = S at *
  generalize joinOk zs = ok at *
  have es : (S.toList == S.toList) = true := by simp
  have eo : (ok == ok) = true := by simp
  go_wp2_with fail
  refine (stay_any g n cap c A zs w3 h1 hcap'.out J3.out Z3.out).mono ?_
  rintro e w4 ⟨rfl, hb4⟩
  have K4 := Lib.hid (K3.out.next hb4)
  clear hb4
  go_wp2_with fail
  refine (awake_k K4.out).mono ?_
  rintro e w5 ⟨rfl, K5⟩
  go_wp2_with fail
  go_ret
  exact ⟨rfl, K5.2⟩
namespace LJoins
theorem walk (w : World) (ht : TabAt w) (A : Option Addr) (n c : Nat) (zs : List Int) (hz : IntsAt w w.heap.size A n zs ∧ (∀ z ∈ zs, (Lit.int .i64 z).wf = true) ∧ (A = none → n = 0 ∧ c = 0)) :
    Calls Tryd.prog 4 #[.slice A n c] w fun e w' => e = .returned (.bool true) ∧ Below w.heap.size w w' := by
  by_cases h : 3000 < n
  · exact joins_big A n c w h ht
  · exact joins_small A n c zs w (by omega) hz.1 hz.2.2 ht
end LJoins
end Go.Proofs.YtkddbmdjcjldgaaDoor
