/- The walk of the law BlockSays, from the package's contracts. -/
import Derived.Test.YtecigjpolekpdaaBlockOf
namespace Go.Proofs.Ytecigjpolekpdaa
open Go.RowKit

set_option maxRecDepth 100000 in
theorem bsays_walk {I : World → Prop} (B : BlockOf I) (s : ByteArray) (w : World) (hI : I w) :
    Calls Try.prog 3 #[.string s] w fun e w' => e = .returned (.bool true) ∧ Below w.heap.size w w' := by
  have K0 := Lib.hid (KeptI.start hI)
  clear hI
  by_cases hbig : 3000 < s.size
  · go_enter Try.func3, Try.ntmps3
    go_wp2_with fail
    refine (awake_b B K0.out).mono ?_
    rintro e w1 ⟨rfl, K⟩
    go_wp2_with fail
    go_ret
    exact ⟨rfl, K.2⟩
  have hroom := Lib.hid (lines_room (s.data.toList.length + 1) s.data.toList (by omega))
  have hls : Hid (s.data.toList.length = s.size) := Lib.hid Array.length_toList
  have hN : Hid ((linesB s.data.toList).length ≤ 3001) := Lib.hid (by
    have := hroom.out.1
    have h2 := hls.out
    unfold linesB; rw [List.length_map]; omega)
  have hX : Hid (∀ x ∈ linesB s.data.toList, x.size ≤ 3000) := Lib.hid (by
    intro x hx
    obtain ⟨l, hl, rfl⟩ := List.mem_map.1 hx
    have := hroom.out.2.1 l hl
    have h2 := hls.out
    show l.length ≤ _
    omega)
  clear hroom hls
  go_enter Try.func3, Try.ntmps3
  go_wp2_with fail
  refine (lines_k B K0.out s (by omega)).mono ?_
  rintro e w1 ⟨A, cap, rfl, hS1, K1, -⟩
  have HS1 := Lib.hid hS1
  have HK1 := Lib.hid K1
  clear hS1 K1 K0
  go_wp2_with fail
  refine (rlines_any s w1 (by omega)).mono ?_
  rintro e w2 ⟨A2, cap2, rfl, hown, hb⟩
  have HS2 := Lib.hid (HS1.out.on hb)
  have HT2 := Lib.hid (strs_of_own hown).2
  have HK2 := Lib.hid (HK1.out.next B hb)
  clear hown hb HS1 HK1
  generalize hxs : linesB s.data.toList = xs at *
  have HXS := Lib.hid hxs
  clear hxs
  go_wp2_with fail
  refine (same_same A A2 xs.length cap cap2 xs w2 (by have := hN.out; omega) HS2.out HT2.out).mono ?_
  rintro e w3 ⟨rfl, hb⟩
  have HS3 := Lib.hid (HS2.out.on hb)
  have HT3 := Lib.hid (HT2.out.on hb)
  have HK3 := Lib.hid (HK2.out.next B hb)
  clear hb HS2 HT2 HK2
  go_wp2_with fail
  refine (indent_k B HK3.out A xs.length cap xs (by have := hN.out; omega) HS3.out (fun x hx => by have := hX.out x hx; omega)).mono ?_
  rintro e w4 ⟨rfl, K4, hb⟩
  have HT4 := Lib.hid (HT3.out.on hb)
  have HK4 := Lib.hid K4
  clear hb K4 HS3 HT3 HK3
  go_wp2_with fail
  refine (rindent_any A2 xs.length cap2 xs w4 (by have := hN.out; omega) HT4.out (fun x hx => by have := hX.out x hx; omega)).mono ?_
  rintro e w5 ⟨rfl, rfl⟩
  generalize indentL (bytesL xs) = v at *
  clear HT4
  go_wp2_with fail
  refine (value_k B HK4.out s (by omega)).mono ?_
  rintro e w5 ⟨rfl, K5, -⟩
  have HK5 := Lib.hid K5
  clear K5 HK4
  go_wp2_with fail
  refine (rblock_any s w5 (by omega)).mono ?_
  rintro e w6 ⟨rfl, hb⟩
  have HK6 := Lib.hid (HK5.out.next B hb)
  clear hb HK5
  generalize (⟨(valueL s.data.toList).toArray⟩ : ByteArray) = V at *
  go_wp2_with fail
  refine (awake_b B HK6.out).mono ?_
  rintro e w7 ⟨rfl, K⟩
  go_wp2_with fail
  go_ret
  exact ⟨rfl, K.2⟩
namespace LBSays
theorem walk (B : BlockOf fun _ => True) (w : World) (s : ByteArray) : Calls Try.prog 3 #[.string s] w fun e w' => e = .returned (.bool true) ∧ Below w.heap.size w w' := bsays_walk B s w trivial
end LBSays
end Go.Proofs.Ytecigjpolekpdaa
