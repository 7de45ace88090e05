/- The walk of the law TokenReads. -/
import Derived.Test.YtfinboplkjijhaaGreatDoorTRq
import Derived.Test.YtfinboplkjijhaaGreatDoorTShort
namespace Go.Proofs.YtfinboplkjijhaaGreatDoor.LTReads
open Go.RowKit

set_option maxRecDepth 100000 in
set_option maxHeartbeats 2000000 in
theorem walk (s : ByteArray) (W : World) (h3 : Laid3 W) : Calls Tryz.prog 3 #[.string s] W fun e w' => e = .returned (.bool true) ∧ Below W.heap.size W w' := by
  by_cases hbig : 8292 < s.size
  · have hb' : (8292 : Int) < (s.size : Int) := by omega
    have HW := Lib.hid (awake_t (K3.start h3))
    clear h3
    go_enter Tryz.func3, Tryz.ntmps3
    go_wp2_with fail
    refine HW.out.mono ?_
    rintro e w1 ⟨rfl, hk⟩
    go_wp2_with fail
    go_ret
    exact ⟨rfl, hk.2⟩
  · have hb' : ¬ (8292 : Int) < (s.size : Int) := by omega
    obtain ⟨⟨ts, er⟩, hr⟩ : ∃ p, readS s.data.toList = p := ⟨_, rfl⟩
    have hc := readS_count s.data.toList
    rw [hr, len_data] at hc
    simp only at hc
    have HA := Lib.hid (read_k (K3.start h3) s (by omega) ts er hr)
    have HR := fun w => Lib.hid (rtokens_any s w (by omega))
    rw [hr] at HR
    obtain ⟨kd, hkd⟩ : ∃ kd, kindL s.data.toList = kd := ⟨_, rfl⟩
    have HN := fun w => Lib.hid (rnumber_any s w (by omega))
    rw [hkd] at HN
    have hs9 : s.size ≤ 9000 := by omega
    have HK := Lib.hid hkd
    obtain ⟨m, hm⟩ : ∃ m, ts.length = m := ⟨_, rfl⟩
    rw [hm] at hc
    have HM := Lib.hid hm
    clear h3 hr hbig hkd
    rw [hm] at HA
    clear hm
    go_enter Tryz.func3, Tryz.ntmps3
    go_wp2_with fail
    refine HA.out.mono ?_
    rintro e w1 ⟨A, cap, rfl, hT1, hk1, _⟩
    have HT1 := Lib.hid hT1
    have K1 := Lib.hid hk1
    clear hT1 hk1 HA
    go_wp2_with fail
    refine (HR _).out.mono ?_
    rintro e w2 ⟨⟨A', cap', rfl, hT2⟩, hb2⟩
    have K2 := Lib.hid (K1.out.next hb2)
    have hS := same_yes A A' m cap cap' (packT ts) w2 (by have h := (HT1.out.on hb2).ts; rw [HM.out] at h; exact h) (by have h := hT2.ts; rw [HM.out] at h; exact h) (by omega)
    have HS := Lib.hid hS
    have HM2 : ts.length = m := HM.out
    clear hT2 hb2 HR hS
    simp only [HM2]
    go_wp2_with fail
    refine HS.out.mono ?_
    rintro e w3 ⟨rfl, hb3⟩
    have K3a := Lib.hid (K2.out.next hb3)
    have HNm := Lib.hid (number_k K3a.out s hs9 kd HK.out)
    clear hb3 HS
    go_wp2_with fail
    refine HNm.out.mono ?_
    rintro e w4 ⟨rfl, hk4, _⟩
    have K4 := Lib.hid hk4
    clear hk4 HNm
    go_wp2_with fail
    refine (HN _).out.mono ?_
    rintro e w5 ⟨rfl, rfl⟩
    have HW := Lib.hid (awake_t K4.out)
    clear HN
    go_wp2_with fail
    refine HW.out.mono ?_
    rintro e w6 ⟨rfl, hk6⟩
    go_wp2_with fail
    go_ret
    exact ⟨rfl, hk6.2⟩
end Go.Proofs.YtfinboplkjijhaaGreatDoor.LTReads
