/- The walk of the law LettersSays, at every input. -/
import Derived.Test.YtkddbmdjcjldgaaDoorRUnits
import Derived.Test.YtkddbmdjcjldgaaDoorSame
namespace Go.Proofs.YtkddbmdjcjldgaaDoor
open Go.RowKit

theorem IntsAt.on {w w' : World} {A : Option Addr} {n : Nat} {zs : List Int} (h : IntsAt w w.heap.size A n zs) (hb : Below w.heap.size w w') : IntsAt w' w'.heap.size A n zs := (h.below hb).more hb.size
theorem units_len2 {l : List UInt8} : (unitsS l).length ≤ 2 * l.length := by
  unfold unitsS
  cases h : codes l with
  | none => simp
  | some cs => have := unitsOf_len cs; have := codes_le h; simp only; omega
theorem says_big (s : ByteArray) (i : Int) (w : World) (hbig : 3000 < s.size) (ht : TabAt w) :
    Calls Tryd.prog 3 #[.string s, .int .i64 i] w fun e w' => e = .returned (.bool true) ∧ Below w.heap.size w w' := by
  have HA := Lib.hid (awake_any w ht)
  clear ht
  go_enter Tryd.func3, Tryd.ntmps3
  go_wp2_with fail
  refine HA.out.mono ?_
  rintro e w1 ⟨rfl, hb⟩
  go_wp2_with fail
  go_ret
  exact ⟨rfl, hb⟩

set_option maxRecDepth 100000 in
set_option maxHeartbeats 2000000 in
theorem says_small (s : ByteArray) (i : Int) (w : World) (h1 : s.size ≤ 3000) (ht : TabAt w) :
    Calls Tryd.prog 3 #[.string s, .int .i64 i] w fun e w' => e = .returned (.bool true) ∧ Below w.heap.size w w' := by
  have K0 := Lib.hid (Kept.start ht)
  have hul : (unitsS s.data.toList).length ≤ 100000 := by have := units_len2 (l := s.data.toList); rw [← Lib.size_eq] at this; omega
  clear ht
  go_enter Tryd.func3, Tryd.ntmps3
  go_wp2_with fail
  refine (code_any s i w (by omega) K0.out.1).mono ?_
  rintro e w1 ⟨rfl, hb1⟩
  have K1 := Lib.hid (K0.out.next hb1)
  clear hb1
  generalize hp : codeAt s i = p
  have HP := Lib.hid hp
  clear hp
  have ep1 : (p.1 == p.1) = true := by simp
  have ep2 : (p.2 == p.2) = true := by simp
  go_wp2_with fail
  refine (rcode_any s i w1 (by omega)).mono ?_
  rintro e w2 ⟨rfl, rfl⟩
  rw [HP.out]
  go_wp2_with fail
  refine (units_any s w1 (by omega) K1.out.1).mono ?_
  rintro e w2 ⟨A2, c2, rfl, I2, hb2⟩
  have K2 := Lib.hid (K1.out.next hb2)
  have J2 := Lib.hid I2
  clear I2 hb2
  go_wp2_with fail
  refine (runits_any s w2 (by omega)).mono ?_
  rintro e w3 ⟨A3, c3, rfl, I3, hb3⟩
  have K3 := Lib.hid (K2.out.next hb3)
  have J3 := Lib.hid I3
  have L3 := Lib.hid (J2.out.on hb3)
  clear I3 hb3
  generalize unitsS s.data.toList = us at *
  go_wp2_with fail
  refine (good_any s w3 (by omega) K3.out.1).mono ?_
  rintro e w4 ⟨rfl, hb4⟩
  have K4 := Lib.hid (K3.out.next hb4)
  have J4 := Lib.hid (J3.out.on hb4)
  have L4 := Lib.hid (L3.out.on hb4)
  clear hb4
  go_wp2_with fail
  refine (rgood_any s w4 (by omega)).mono ?_
  rintro e w5 ⟨rfl, hb5⟩
  have K5 := Lib.hid (K4.out.next hb5)
  have J5 := Lib.hid (J4.out.on hb5)
  have L5 := Lib.hid (L4.out.on hb5)
  clear hb5
  generalize goodB s.data.toList = g at *
  have eg : (g == g) = true := by simp
  go_wp2_with fail
  refine (source_any s w5 (by omega) K5.out.1).mono ?_
  rintro e w6 ⟨rfl, hb6⟩
  have K6 := Lib.hid (K5.out.next hb6)
  have J6 := Lib.hid (J5.out.on hb6)
  have L6 := Lib.hid (L5.out.on hb6)
  clear hb6
  go_wp2_with fail
  refine (rsource_any s w6 (by omega)).mono ?_
  rintro e w7 ⟨rfl, hb7⟩
  have K7 := Lib.hid (K6.out.next hb7)
  have J7 := Lib.hid (J6.out.on hb7)
  have L7 := Lib.hid (L6.out.on hb7)
  clear hb7
  generalize sourceB s.data.toList = q at *
  have eq' : (q == q) = true := by simp
  go_wp2_with fail
  refine (name_any s w7 (by omega)).mono ?_
  rintro e w8 ⟨rfl, rfl⟩
  go_wp2_with fail
  refine (rname_any s w7 (by omega)).mono ?_
  rintro e w8 ⟨rfl, rfl⟩
  generalize nameB s.data.toList = r at *
  have er : (r == r) = true := by simp
  go_wp2_with fail
  refine (sameInts_any A2 A3 us.length us.length c2 c3 us us w7 hul L7.out J7.out).mono ?_
  rintro e w8 ⟨rfl, hb8⟩
  rw [decide_eq_true (rfl : us = us)]
  have K8 := Lib.hid (K7.out.next hb8)
  clear hb8
  go_wp2_with fail
  refine (awake_k K8.out).mono ?_
  rintro e w9 ⟨rfl, K9⟩
  go_wp2_with fail
  go_ret
  exact ⟨rfl, K9.2⟩
namespace LSays
theorem walk (s : ByteArray) (i : Int) (_hi : (Lit.int .i64 i).wf = true) (w : World) (ht : TabAt w) :
    Calls Tryd.prog 3 #[.string s, .int .i64 i] w fun e w' => e = .returned (.bool true) ∧ Below w.heap.size w w' := by
  by_cases h : 3000 < s.size
  · exact says_big s i w h ht
  · exact says_small s i w (by omega) ht
end LSays
end Go.Proofs.YtkddbmdjcjldgaaDoor
