/- The walk of the law TokenBack. -/
import Derived.Test.YtfoocpidahiglaaGreatDoorTPrint
namespace Go.Proofs.YtfoocpidahiglaaGreatDoor
open Go.RowKit

namespace LTBack

set_option maxRecDepth 100000 in
set_option maxHeartbeats 4000000 in
theorem walk_yes (W : World) (h3 : Laid3 W) (A : Option Addr) (n c : Nat) (ts : List (Int × ByteArray)) (h : TsAt W W.heap.size A n ts) (hsum : sumT ts ≤ 3000) (hall : (bareT ts).all rightB = true) :
    Calls Tryz.prog 5 #[.slice A n c] W fun e w' => e = .returned (.bool true) ∧ Below W.heap.size W w' := by
  have HL := Lib.hid h.1
  have H := Lib.hid h
  have H3 := Lib.hid h3
  have hn : n ≤ 3000 := by have := sumT_len ts; have := h.1; omega
  have HA := Lib.hid hall
  have HS := Lib.hid (short_any A n c ts W h (fun t ht => by
    obtain ⟨k, hk⟩ := List.getElem?_of_mem ht
    have := sumT_mem hk
    omega))
  have HP := Lib.hid (print_any A n c ts W h hsum h3)
  rw [decide_eq_true hsum] at HS
  rw [hall, printS_yes hall] at HP
  have hSs : (⟨(printL (bareT ts)).toArray⟩ : ByteArray).size ≤ 40000 := by
    rw [size_mk]
    have := printL_len ts
    omega
  have HR : Hid (readS (⟨(printL (bareT ts)).toArray⟩ : ByteArray).data.toList = if 8192 < (⟨(printL (bareT ts)).toArray⟩ : ByteArray).size then ([], 3) else (bareT ts, 0)) := Lib.hid (by
    rw [size_mk]
    exact print_readS hall)
  generalize (⟨(printL (bareT ts)).toArray⟩ : ByteArray) = S at *
  clear h h3 hall
  go_enter Tryz.func5, Tryz.ntmps5
  go_wp2_with fail
  refine HS.out.mono ?_
  rintro e w1 ⟨rfl, rfl⟩
  go_wp2_with fail
  refine HP.out.mono ?_
  rintro e w1 ⟨rfl, hb1⟩
  have K1 := Lib.hid ((K3.start H3.out).next hb1)
  clear hb1 HS HP
  go_wp2_with fail
  go_loopg [5] n (fun g i wx => ∃ k : Nat, k + g = n ∧ i = .int .i64 k ∧ Aside (K3 W wx))
  case atStart => exact ⟨0, by omega, rfl, Aside.intro K1.out⟩
  case round =>
    obtain ⟨k, hk, rfl, HK⟩ := hrel
    by_cases hlt : k < n
    · have hlt' : (k : Int) < (n : Int) := by omega
      have hk0 : (0 : Int) ≤ (k : Int) := by omega
      obtain ⟨⟨z, x⟩, ht⟩ : ∃ t, ts[k]? = some t := ⟨_, List.getElem?_eq_getElem (by rw [HL.out]; omega)⟩
      obtain ⟨bb, o, rfl, hbb, c0, c1⟩ := (H.out.below HK.out.2).2 k _ ht
      simp only at c0 c1
      have HRt := Lib.hid (right_any z x wr (by have h := sumT_mem ht; simp only at h; omega) HK.out.1)
      rw [all_take HA.out ht] at HRt
      clear ht
      go_wp2_with fail
      refine HRt.out.mono ?_
      rintro e w2 ⟨rfl, hb2⟩
      have K2 := Lib.hid (HK.out.next hb2)
      clear hb2 HRt
      go_wp2_with fail
      go_roundg (gk - 1)
      case measure => omega
      case rel => exact ⟨k + 1, by omega, by go_num, Aside.intro K2.out⟩
    · obtain rfl : k = n := by omega
      by_cases hbig : 8192 < S.size
      · have hbig' : (8192 : Int) < (S.size : Int) := by omega
        have HB := Lib.hid (read_big S wr hbig)
        have HW := Lib.hid (awake_t HK.out)
        clear HR
        go_wp2_with fail
        refine HB.out.mono ?_
        rintro e w2 ⟨rfl, rfl⟩
        go_wp2_with fail
        refine HW.out.mono ?_
        rintro e w3 ⟨rfl, K⟩
        have HK' := Lib.hid K
        clear K
        go_wp2_with fail
        go_ret
        exact ⟨rfl, HK'.out.2⟩
      · have hbig' : ¬ (8192 : Int) < (S.size : Int) := by omega
        have hr := HR.out
        rw [if_neg hbig] at hr
        have HB := Lib.hid (read_k HK.out S (by omega) _ _ hr)
        rw [bareT_len, HL.out] at HB
        clear hr HR
        go_wp2_with fail
        refine HB.out.mono ?_
        rintro e w2 ⟨A2, cap2, rfl, hT, K2, _⟩
        have HSame := Lib.hid (same_yes A2 A k cap2 c ts w2 (packed hT HL.out) ((H.out.below K2.2).more K2.2.size) (by omega))
        have HK2 := Lib.hid K2
        clear hT K2 HB
        go_wp2_with fail
        refine HSame.out.mono ?_
        rintro e w3 ⟨rfl, hb3⟩
        have HW := Lib.hid (awake_t (HK2.out.next hb3))
        clear hb3 HSame
        go_wp2_with fail
        refine HW.out.mono ?_
        rintro e w4 ⟨rfl, K⟩
        have HK' := Lib.hid K
        clear K
        go_wp2_with fail
        go_ret
        exact ⟨rfl, HK'.out.2⟩

set_option maxRecDepth 100000 in
set_option maxHeartbeats 4000000 in
theorem walk_no (W : World) (h3 : Laid3 W) (A : Option Addr) (n c : Nat) (ts : List (Int × ByteArray)) (h : TsAt W W.heap.size A n ts) (hsum : sumT ts ≤ 3000) (hall : (bareT ts).all rightB = false) :
    Calls Tryz.prog 5 #[.slice A n c] W fun e w' => e = .returned (.bool true) ∧ Below W.heap.size W w' := by
  have HL := Lib.hid h.1
  have H := Lib.hid h
  have H3 := Lib.hid h3
  have hn : n ≤ 3000 := by have := sumT_len ts; have := h.1; omega
  have HA := Lib.hid hall
  have HS := Lib.hid (short_any A n c ts W h (fun t ht => by
    obtain ⟨k, hk⟩ := List.getElem?_of_mem ht
    have := sumT_mem hk
    omega))
  have HP := Lib.hid (print_any A n c ts W h hsum h3)
  rw [decide_eq_true hsum] at HS
  rw [hall, printS_no hall] at HP
  clear h h3 hall
  go_enter Tryz.func5, Tryz.ntmps5
  go_wp2_with fail
  refine HS.out.mono ?_
  rintro e w1 ⟨rfl, rfl⟩
  go_wp2_with fail
  refine HP.out.mono ?_
  rintro e w1 ⟨rfl, hb1⟩
  have K1 := Lib.hid ((K3.start H3.out).next hb1)
  clear hb1 HS HP
  go_wp2_with fail
  go_loopg [5] n (fun g i wx => ∃ k : Nat, k + g = n ∧ i = .int .i64 k ∧ Aside (K3 W wx) ∧ Aside ((bareT (ts.take k)).all rightB = true))
  case atStart => exact ⟨0, by omega, rfl, Aside.intro K1.out, Aside.intro rfl⟩
  case round =>
    obtain ⟨k, hk, rfl, HK, HT⟩ := hrel
    by_cases hlt : k < n
    · have hlt' : (k : Int) < (n : Int) := by omega
      have hk0 : (0 : Int) ≤ (k : Int) := by omega
      obtain ⟨⟨z, x⟩, ht⟩ : ∃ t, ts[k]? = some t := ⟨_, List.getElem?_eq_getElem (by rw [HL.out]; omega)⟩
      obtain ⟨bb, o, rfl, hbb, c0, c1⟩ := (H.out.below HK.out.2).2 k _ ht
      simp only at c0 c1
      have HRt := Lib.hid (right_any z x wr (by have h := sumT_mem ht; simp only at h; omega) HK.out.1)
      obtain ⟨rb, hrb⟩ : ∃ rb, rightB (z, x.data.toList) = rb := ⟨_, rfl⟩
      have hT2 := Lib.hid (all_step ht HT.out)
      rw [hrb] at HRt hT2
      clear ht hrb HT
      cases rb
      · go_wp2_with fail
        refine HRt.out.mono ?_
        rintro e w2 ⟨rfl, hb2⟩
        have HW := Lib.hid (awake_t (HK.out.next hb2))
        clear hb2 HRt
        go_wp2_with fail
        refine HW.out.mono ?_
        rintro e w3 ⟨rfl, K⟩
        have HK' := Lib.hid K
        clear K
        go_wp2_with fail
        go_ret
        exact ⟨rfl, HK'.out.2⟩
      · go_wp2_with fail
        refine HRt.out.mono ?_
        rintro e w2 ⟨rfl, hb2⟩
        have K2 := Lib.hid (HK.out.next hb2)
        clear hb2 HRt
        go_wp2_with fail
        go_roundg (gk - 1)
        case measure => omega
        case rel => exact ⟨k + 1, by omega, by go_num, Aside.intro K2.out, Aside.intro hT2.out⟩
    · obtain rfl : k = n := by omega
      have h := all_of_take HT.out (by rw [HL.out]; omega)
      rw [HA.out] at h
      cases h

set_option maxRecDepth 100000 in
set_option maxHeartbeats 1000000 in
theorem walk_long (W : World) (h3 : Laid3 W) (A : Option Addr) (n c : Nat) (ts : List (Int × ByteArray)) (h : TsAt W W.heap.size A n ts) (hb : ∀ t ∈ ts, t.2.size ≤ 140737488355328) (hsum : ¬ sumT ts ≤ 3000) :
    Calls Tryz.prog 5 #[.slice A n c] W fun e w' => e = .returned (.bool true) ∧ Below W.heap.size W w' := by
  have HS := Lib.hid (short_any A n c ts W h hb)
  rw [decide_eq_false hsum] at HS
  have HW := Lib.hid (awake_t (K3.start h3))
  clear h hb h3
  go_enter Tryz.func5, Tryz.ntmps5
  go_wp2_with fail
  refine HS.out.mono ?_
  rintro e w1 ⟨rfl, rfl⟩
  go_wp2_with fail
  refine HW.out.mono ?_
  rintro e w3 ⟨rfl, K⟩
  have HK' := Lib.hid K
  clear K
  go_wp2_with fail
  go_ret
  exact ⟨rfl, HK'.out.2⟩
theorem walk (W : World) (h3 : Laid3 W) (A : Option Addr) (n c : Nat) (ts : List (Int × ByteArray)) (h : TsAt W W.heap.size A n ts) (hb : ∀ t ∈ ts, t.2.size ≤ 140737488355328) :
    Calls Tryz.prog 5 #[.slice A n c] W fun e w' => e = .returned (.bool true) ∧ Below W.heap.size W w' := by
  by_cases hsum : sumT ts ≤ 3000
  · cases hall : (bareT ts).all rightB
    · exact walk_no W h3 A n c ts h hsum hall
    · exact walk_yes W h3 A n c ts h hsum hall
  · exact walk_long W h3 A n c ts h hb hsum
end LTBack
end Go.Proofs.YtfoocpidahiglaaGreatDoor
