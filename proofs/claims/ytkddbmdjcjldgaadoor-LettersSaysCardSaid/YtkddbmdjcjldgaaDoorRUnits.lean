/- The walk of the document's own Units. -/
import Derived.Test.YtkddbmdjcjldgaaDoorRCodes
import Derived.Deep.RegionHeld3
import Derived.Deep.AppendLies
namespace Go.Proofs.YtkddbmdjcjldgaaDoor
open Go.RowKit

theorem unitsOf_take {cs : List Int} {k : Nat} {z : Int} (hz : cs[k]? = some z) : unitsOf (cs.take (k + 1)) = unitsOf (cs.take k) ++ unitOf z := by
  rw [List.take_add_one, hz]; simp [unitsOf]

set_option maxRecDepth 100000 in
set_option maxHeartbeats 1000000 in
theorem runits_any (s : ByteArray) (w : World) (hs : s.size ≤ 9000) :
    Calls Tryd.prog 13 #[.string s] w fun e w' => ∃ A c, e = .returned (.tuple #[.slice A (unitsS s.data.toList).length c, .bool (goodB s.data.toList)]) ∧ IntsAt w' w'.heap.size A (unitsS s.data.toList).length (unitsS s.data.toList) ∧ Below w.heap.size w w' := by
  have hi9 : (Tryd.prog.info? 3).map (fun i => (i.zero, i.size, i.bytes)) = some (some (.int .i64 0), 1, 8) := by kernel_rfl
  obtain ⟨i0, hi, hx⟩ := Option.map_eq_some_iff.1 hi9
  simp only [Prod.mk.injEq] at hx
  obtain ⟨hz0, hz1, hz2⟩ := hx
  clear hi9
  have H := Lib.hid (rcodes_any s w hs)
  cases hg : codes s.data.toList with
  | none =>
    have h1 : Hid (goodB s.data.toList = false) := Lib.hid (by rw [goodB_iff, hg]; rfl)
    have h2 : Hid (unitsS s.data.toList = []) := Lib.hid (by unfold unitsS; rw [hg])
    have h3 : Hid (codesS s.data.toList = []) := Lib.hid (by unfold codesS; rw [hg])
    clear hg
    go_enter Tryd.func13, Tryd.ntmps13
    go_wp2_with fail
    refine H.out.mono ?_
    rintro e w1 ⟨A, c, rfl, _, hb⟩
    rw [h1.out, h3.out]
    go_wp2_with fail
    go_ret2
    exact ⟨none, 0, by rw [h1.out, h2.out]; rfl, by rw [h2.out]; exact ⟨rfl, fun j z hz => by simp at hz⟩, hb⟩
  | some cs =>
    have h1 : Hid (goodB s.data.toList = true) := Lib.hid (by rw [goodB_iff, hg]; rfl)
    have h2 : Hid (unitsS s.data.toList = unitsOf cs) := Lib.hid (by unfold unitsS; rw [hg])
    have h3 : Hid (codesS s.data.toList = cs) := Lib.hid (by unfold codesS; rw [hg])
    have hlen := bytes_codes _ _ cs (Nat.le_refl _) hg
    have hcl : Hid (cs.length ≤ 9000) := Lib.hid (by have := codes_le hg; rw [← Lib.size_eq] at this; omega)
    have hok : Hid (cs.all okB = true) := Lib.hid hlen.2
    clear hg hlen
    go_enter Tryd.func13, Tryd.ntmps13
    go_wp2_with fail
    refine H.out.mono ?_
    rintro e w1 ⟨A, c, rfl, I1, hb⟩
    rw [h1.out, h3.out]
    rw [h3.out] at I1
    have HI := Lib.hid I1
    have HB := Lib.hid hb
    have hcl' := hcl.out
    clear I1 hb
    go_wp2_with fail
    go_loopg [6, 7] cs.length (fun g out i wx => ∃ k : Nat, k + g = cs.length ∧ i = .int .i64 k ∧ wx.ownsRow w1.heap.size 3 1 out (unitsOf (cs.take k)).length ((unitsOf (cs.take k)).map (Value.int .i64)) ∧ Below w1.heap.size w1 wx)
    case atStart => exact ⟨0, by omega, rfl, World.ownsRow_nil _ _ _ _, Below.refl _ _⟩
    case round =>
      obtain ⟨k, hk, rfl, hown, hb⟩ := hrel
      obtain ⟨A', cap, rfl⟩ := own_form hown
      cases gk with
      | zero =>
        obtain rfl : k = cs.length := by omega
        have hI := (ints_of_own hown).2
        rw [List.take_length] at hI
        have HI2 := Lib.hid hI
        have hbb := Lib.hid (HB.out.trans (hb.mono HB.out.size))
        clear hown hI hb
        go_wp2
        go_ret2
        exact ⟨A', cap, by rw [h1.out, h2.out, List.take_length]; rfl, by rw [h2.out]; exact HI2.out, hbb.out⟩
      | succ g =>
        have hlt : k < cs.length := by omega
        have hlt' : (k : Int) < (cs.length : Int) := by omega
        have hk0 : (0 : Int) ≤ (k : Int) := by omega
        obtain ⟨z, hz⟩ : ∃ z, cs[k]? = some z := ⟨_, List.getElem?_eq_getElem (by omega)⟩
        obtain ⟨b1, o1, rfl, hl1, c1⟩ := (HI.out.below hb).2 k z hz
        have hzz : 0 ≤ z ∧ z ≤ 1114111 := by
          have := List.all_eq_true.1 hok.out z (List.mem_of_getElem? hz)
          simp [okB] at this
          omega
        obtain ⟨hz1', hz2'⟩ := hzz
        have hul : (unitsOf (cs.take k)).length ≤ 18000 := by have := unitsOf_len (cs.take k); rw [List.length_take] at this; omega
        have hut := Lib.hid (unitsOf_take hz)
        clear hz
        have HBB := Lib.hid hb
        have hbs := hb.size
        clear hb
        by_cases h6 : z < 65536
        · have hu : Hid (unitOf z = [z]) := Lib.hid (by unfold unitOf; rw [if_pos h6])
          go_wp2_with (at_builtin; refine wpList_append_own _ rfl _ _ 25 rfl w1.heap.size 3 i0 (.int .i64 0) 1 8 Tryd.underlying25 hi hz0 hz1 hz2 rfl (by decide) _ _ _ rfl (hown.alloc _) ⟨wr.heap.size, 0, none⟩ 1 1 [.int .i64 z] rfl rfl (cell_one_new _ _ _) (by intro x hx; simp at hx; rcases hx with rfl; rfl) (by unfold maxLen; omega) (by omega) (by simp; omega) ?_; intro v' w3 hown' hgrow _; obtain ⟨A2, cap', rfl⟩ := own_form hown'; have HG := Lib.hid hgrow; have HO := Lib.hid hown'; have HW := Lib.hid hown; clear hgrow hown' hown)
          go_roundg g
          case measure => omega
          case rel => exact ⟨k + 1, by omega, by go_num, by rw [hut.out, hu.out, List.map_append, List.length_append]; exact HO.out, (HBB.out.alloc HBB.out.size _).grown HG.out (by simp; omega) (fun q hq => (HW.out.lt q hq).1)⟩
        · have hu : Hid (unitOf z = [55296 + (z - 65536) / 1024, 56320 + (z - 65536) % 1024]) := Lib.hid (by unfold unitOf; rw [if_neg h6])
          have g1 : 0 ≤ z - 65536 := by omega
          have g2 : z - 65536 ≤ 1048575 := by omega
          have ak : Value.ownBlock (.slice A' (unitsOf (cs.take k)).length cap) ≠ some b1 := fun e => by have := (hown.lt b1 e).1; omega
          have hb1r : b1 < wr.heap.size := by omega
          have hn18 : (unitsOf (cs.take k)).length + 2 ≤ maxLen := by unfold maxLen; omega
          have hb18 : ((unitsOf (cs.take k)).length + 2) * 8 ≤ 140737488355328 := by omega
          have hdz : 0 ≤ (z - 65536) / 1024 ∧ (z - 65536) / 1024 ≤ 1023 := by omega
          have hmz : 0 ≤ (z - 65536) % 1024 ∧ (z - 65536) % 1024 ≤ 1023 := by omega
          have q1 : IntKind.i64.wrap (z - 65536) = z - 65536 := IntWalk.i64_in _ (by omega)
          have q2 : (z - 65536).tdiv 1024 = (z - 65536) / 1024 := Int.tdiv_eq_ediv_of_nonneg g1
          have q3 : (z - 65536).tmod 1024 = (z - 65536) % 1024 := Int.tmod_eq_emod_of_nonneg g1
          have q4 : IntKind.i64.wrap ((z - 65536) / 1024) = (z - 65536) / 1024 := IntWalk.i64_in _ (by omega)
          have q5 : IntKind.i64.wrap (55296 + (z - 65536) / 1024) = 55296 + (z - 65536) / 1024 := IntWalk.i64_in _ (by omega)
          have q6 : IntKind.i64.wrap (56320 + (z - 65536) % 1024) = 56320 + (z - 65536) % 1024 := IntWalk.i64_in _ (by omega)
          go_wp2_with fail
          go_region_held3 (fun w' => w'.cell? ⟨b1, o1 + k, none⟩ = some (.int .i64 z))
            (first
              | go_keep
              | (rw [hgrow.cell_far _ (by simp; omega) (Ne.symm ak)]; simp [*]))
            ((refine step_append_lies _ (by rfl) _ _ _ (by rfl) w1.heap.size 3 i0 _ 1 8 Tryd.underlying25 hi hz0 hz1 hz2 rfl (by omega) (.slice A' (unitsOf (cs.take k)).length cap) (unitsOf (cs.take k)).length ((unitsOf (cs.take k)).map (Value.int .i64)) (by rfl) ((hown.alloc _).drew)
                  ⟨wr.heap.size, 0, none⟩ 2 2 [.int .i64 (55296 + (z - 65536) / 1024), .int .i64 (56320 + (z - 65536) % 1024)] (by rfl) (by rfl) (two_new _ _ _ _) (by simp [Value.oneCell'])
                  (by omega) hn18 hb18 (by simp; omega) (wr.heap.size + 1) (by simp) ?_; intro gg cap2 w3 hown1 hgrow hat hlt3))
          have HG := Lib.hid hgrow
          have HO := Lib.hid hown1
          have HW := Lib.hid hown
          clear hgrow hown1 hown hat q1 q2 q3 q4 q5 q6
          go_wp2
          go_roundg g
          case measure => omega
          case rel => exact ⟨k + 1, by omega, by go_num, by rw [hut.out, hu.out, List.map_append, List.length_append]; exact HO.out, ((HBB.out.alloc HBB.out.size _).drew).grown HG.out (by simp; omega) (fun q hq => (HW.out.lt q hq).1)⟩
end Go.Proofs.YtkddbmdjcjldgaaDoor
