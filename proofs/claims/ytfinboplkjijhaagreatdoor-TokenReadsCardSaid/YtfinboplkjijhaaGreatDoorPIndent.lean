/- The walk of the landed Indent. It only reads. -/
import Derived.Test.YtfinboplkjijhaaGreatDoorPBare
import Derived.Outline
namespace Go.Proofs.YtfinboplkjijhaaGreatDoor.Blk
open Go.RowKit
set_option maxRecDepth 100000 in
set_option maxHeartbeats 1000000 in
theorem pindent_any (A : Option Addr) (n c : Nat) (xs : List ByteArray) (w : World) (hn : n ≤ 100000) (hz : StrsAt w w.heap.size A n xs) (hx : ∀ x ∈ xs, x.size ≤ 100000) :
    Calls Tryz.prog 86 #[.slice A n c] w fun e w' => e = .returned (.int .i64 (indentL (bytesL xs))) ∧ w = w' := by
  have HZ := Lib.hid hz
  have HX := Lib.hid hx
  clear hz hx
  go_enter Tryz.func86, Tryz.ntmps86
  go_wp2
  go_step3
  go_wp2
  go_step3
  go_wp2
  go_loopg [3, 9] n (fun g out i wx => ∃ k : Nat, k + g = n ∧ i = .int .i64 k ∧ out = .int .i64 (indTo xs k) ∧ w = wx)
  case atStart => exact ⟨0, by omega, rfl, by simp [indTo], rfl⟩
  case round =>
    obtain ⟨k, hkg, rfl, rfl, rfl⟩ := hrel
    have hbd := indTo_bd xs HX.out k
    have hbd1 := hbd.1
    have hbd2 := hbd.2
    clear hbd
    cases gk with
    | zero =>
      obtain rfl : k = n := by omega
      have hfin := Lib.hid (indTo_all (xs := xs) (k := k) (by rw [HZ.out.1]; omega))
      go_wp2_with fail
      try rw [Exit.noGoto_ret]
      go_ret
      exact ⟨ret_int hfin.out, rfl⟩
    | succ g =>
      have hlt' : (k : Int) < (n : Int) := by omega
      obtain ⟨x, hxk⟩ : ∃ x, xs[k]? = some x := ⟨_, List.getElem?_eq_getElem (by rw [HZ.out.1]; omega)⟩
      obtain ⟨b, o, rfl, hblt, hcell⟩ := HZ.out.2 k x hxk
      have hxs : x.size ≤ 100000 := HX.out x (List.mem_of_getElem? hxk)
      have hk0 : (0 : Int) ≤ (k : Int) := by omega
      by_cases hk : k = 0
      · have hs : Hid (indTo xs (k + 1) = indTo xs k) := Lib.hid (by simp [indTo, hk])
        have hkeq : ((k : Int) == 0) = true := by simp; omega
        clear hxk hk
        generalize indTo xs k = v at *
        go_wp2_with fail
        go_roundg g
        case measure => omega
        case rel => exact ⟨k + 1, by omega, by go_num, by rw [hs.out], rfl⟩
      · have hk1 : 1 ≤ k := by omega
        have hkne : ((k : Int) == 0) = false := by simp; omega
        have hs := Lib.hid (indTo_succ hk1 hxk)
        have HXL : Hid (x.data.toList.length = x.size) := Lib.hid Array.length_toList
        clear hxk hk
        generalize indTo xs k = v at *
        go_wp2_with fail
        go_loopg [3, 18] x.size (fun g2 out i wx => ∃ j : Nat, j + g2 = x.size ∧ i = .int .i64 j ∧ out = .int .i64 v ∧ Aside ((x.data.toList.take j).all blankB = true) ∧ w = wx)
        case atStart => exact ⟨0, by omega, rfl, rfl, Aside.intro (by simp), rfl⟩
        case round =>
          obtain ⟨j, hj, rfl, rfl, H, rfl⟩ := hrel
          cases gk with
          | zero =>
            obtain rfl : j = x.size := by omega
            have he := H.out
            rw [List.take_of_length_le (by rw [HXL.out]; omega)] at he
            have h2 := (lead_end he).2
            have hst : Hid (indTo xs (k + 1) = v) := Lib.hid (by rw [hs.out]; unfold stepI; rw [if_neg (by rw [h2]; simp)])
            clear he H h2
            go_wp2_with fail
            go_roundg g
            case measure => omega
            case rel => exact ⟨k + 1, by omega, by go_num, by rw [hst.out], rfl⟩
          | succ g2 =>
            have hlt : j < x.size := by omega
            have hltj : (j : Int) < (x.size : Int) := by omega
            have hj0 : (0 : Int) ≤ (j : Int) := by omega
            have HB := Lib.hid (fun w => pblank_any x[j] w)
            cases hb : blankB x[j]
            · have hx2 := lead_at H.out (by rw [List.getElem?_eq_getElem (by rw [HXL.out]; exact hlt)]; rfl) hb
              have hB := Lib.hid hb
              have hx21 := Lib.hid hx2.1
              have hx22 := Lib.hid hx2.2
              clear H hb hx2
              by_cases hv : v < 0
              · have hst : Hid (indTo xs (k + 1) = (j : Int)) := Lib.hid (by rw [hs.out]; unfold stepI; rw [hx21.out, if_pos ⟨hx22.out, .inl hv⟩])
                go_wp2_with fail
                refine (HB.out _).mono ?_
                rintro e w1 ⟨rfl, rfl⟩
                rw [hB.out]
                go_wp2_with fail
                go_roundg g
                case measure => omega
                case rel => exact ⟨k + 1, by omega, by go_num, by rw [hst.out], rfl⟩
              · have e1 : decide (v < 0) = false := by simp; omega
                by_cases hmv : (j : Int) < v
                · have hst : Hid (indTo xs (k + 1) = (j : Int)) := Lib.hid (by rw [hs.out]; unfold stepI; rw [hx21.out, if_pos ⟨hx22.out, .inr hmv⟩])
                  go_wp2_with fail
                  refine (HB.out _).mono ?_
                  rintro e w1 ⟨rfl, rfl⟩
                  rw [hB.out]
                  go_wp2_with fail
                  go_roundg g
                  case measure => omega
                  case rel => exact ⟨k + 1, by omega, by go_num, by rw [hst.out], rfl⟩
                · have e2 : decide ((j : Int) < v) = false := by simp; omega
                  have hst : Hid (indTo xs (k + 1) = v) := Lib.hid (by rw [hs.out]; unfold stepI; rw [hx21.out, if_neg (by rintro ⟨_, h | h⟩ <;> omega)])
                  go_wp2_with fail
                  refine (HB.out _).mono ?_
                  rintro e w1 ⟨rfl, rfl⟩
                  rw [hB.out]
                  go_wp2_with fail
                  go_roundg g
                  case measure => omega
                  case rel => exact ⟨k + 1, by omega, by go_num, by rw [hst.out], rfl⟩
            · have hT := Lib.hid (blank_more hlt H.out hb)
              have hB := Lib.hid hb
              clear H hb
              go_wp2_with fail
              refine (HB.out _).mono ?_
              rintro e w1 ⟨rfl, rfl⟩
              rw [hB.out]
              go_wp2_with fail
              go_roundg g2
              case measure => omega
              case rel => exact ⟨j + 1, by omega, by go_num, rfl, Aside.intro hT.out, rfl⟩
end Go.Proofs.YtfinboplkjijhaaGreatDoor.Blk
