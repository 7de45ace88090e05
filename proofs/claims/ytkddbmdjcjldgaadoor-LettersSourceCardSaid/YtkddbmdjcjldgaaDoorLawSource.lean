/- The walk of the law LettersSource, at every input. -/
import Derived.Test.YtkddbmdjcjldgaaDoorKept
namespace Go.Proofs.YtkddbmdjcjldgaaDoor
open Go.RowKit

theorem source_big (s t : ByteArray) (w : World) (hbig : 3000 < s.size ∨ 3000 < t.size) (ht : TabAt w) :
    Calls Tryd.prog 8 #[.string s, .string t] w fun e w' => e = .returned (.bool true) ∧ Below w.heap.size w w' := by
  have HA := Lib.hid (awake_any w ht)
  clear ht
  by_cases h1 : 3000 < s.size
  · go_enter Tryd.func8, Tryd.ntmps8
    go_wp2_with fail
    refine HA.out.mono ?_
    rintro e w1 ⟨rfl, hb⟩
    go_wp2_with fail
    go_ret
    exact ⟨rfl, hb⟩
  · have h2 : 3000 < t.size := by omega
    clear hbig
    go_enter Tryd.func8, Tryd.ntmps8
    go_wp2_with fail
    refine HA.out.mono ?_
    rintro e w1 ⟨rfl, hb⟩
    go_wp2_with fail
    go_ret
    exact ⟨rfl, hb⟩

set_option maxRecDepth 100000 in
set_option maxHeartbeats 1000000 in
theorem source_small (s t : ByteArray) (w : World) (h1 : s.size ≤ 3000) (h2 : t.size ≤ 3000) (ht : TabAt w) :
    Calls Tryd.prog 8 #[.string s, .string t] w fun e w' => e = .returned (.bool true) ∧ Below w.heap.size w w' := by
  have HT := Lib.hid ht
  clear ht
  have hst : (s ++ t).size ≤ 9000 := by rw [ByteArray.size_append]; omega
  cases hg : goodB s.data.toList
  · have HA : Hid (sourceB s.data.toList = false) := Lib.hid (by
      cases ha : sourceB s.data.toList
      · rfl
      · rw [eachP_good ha] at hg; cases hg)
    have HG := Lib.hid hg
    clear hg
    go_enter Tryd.func8, Tryd.ntmps8
    go_wp2_with fail
    refine (source_k (Kept.start HT.out) s (by omega)).mono ?_
    rintro e w1 ⟨rfl, K1⟩
    rw [HA.out]
    go_wp2_with fail
    refine (good_k K1 s (by omega)).mono ?_
    rintro e w2 ⟨rfl, K2⟩
    rw [HG.out]
    go_wp2_with fail
    refine (awake_k K2).mono ?_
    rintro e w3 ⟨rfl, K3⟩
    go_wp2_with fail
    go_ret
    exact ⟨rfl, K3.2⟩
  · have HC0 : ∀ p, eachP p (s ++ t).data.toList = (eachP p s.data.toList && eachP p t.data.toList) := fun p => by rw [cat_bytes, eachP_append hg]
    have HG := Lib.hid hg
    clear hg
    cases hh : goodB t.data.toList
    · have HH := Lib.hid hh
      clear hh HC0
      cases ha : sourceB s.data.toList
      · have HA := Lib.hid ha
        clear ha
        go_enter Tryd.func8, Tryd.ntmps8
        go_wp2_with fail
        refine (source_k (Kept.start HT.out) s (by omega)).mono ?_
        rintro e w1 ⟨rfl, K1⟩
        rw [HA.out]
        go_wp2_with fail
        refine (good_k K1 s (by omega)).mono ?_
        rintro e w2 ⟨rfl, K2⟩
        rw [HG.out]
        go_wp2_with fail
        refine (good_k K2 t (by omega)).mono ?_
        rintro e w3 ⟨rfl, K3⟩
        rw [HH.out]
        go_wp2_with fail
        refine (awake_k K3).mono ?_
        rintro e w4 ⟨rfl, K4⟩
        go_wp2_with fail
        go_ret
        exact ⟨rfl, K4.2⟩
      · have HA := Lib.hid ha
        clear ha
        go_enter Tryd.func8, Tryd.ntmps8
        go_wp2_with fail
        refine (source_k (Kept.start HT.out) s (by omega)).mono ?_
        rintro e w1 ⟨rfl, K1⟩
        rw [HA.out]
        go_wp2_with fail
        refine (good_k K1 s (by omega)).mono ?_
        rintro e w2 ⟨rfl, K2⟩
        rw [HG.out]
        go_wp2_with fail
        refine (good_k K2 s (by omega)).mono ?_
        rintro e w3 ⟨rfl, K3⟩
        rw [HG.out]
        go_wp2_with fail
        refine (good_k K3 t (by omega)).mono ?_
        rintro e w4 ⟨rfl, K4⟩
        rw [HH.out]
        go_wp2_with fail
        refine (awake_k K4).mono ?_
        rintro e w5 ⟨rfl, K5⟩
        go_wp2_with fail
        go_ret
        exact ⟨rfl, K5.2⟩
    · have HC : Hid (goodB (s ++ t).data.toList = true) := Lib.hid (by have := HC0 (fun _ => true); unfold goodB at *; rw [this, HG.out, hh]; rfl)
      have HD0 : Hid (sourceB (s ++ t).data.toList = (sourceB s.data.toList && sourceB t.data.toList)) := Lib.hid (HC0 srcB)
      have HH := Lib.hid hh
      clear hh HC0
      cases ha : sourceB s.data.toList
      · have HD : Hid (sourceB (s ++ t).data.toList = false) := Lib.hid (by rw [HD0.out, ha]; rfl)
        have HA := Lib.hid ha
        clear ha HD0
        go_enter Tryd.func8, Tryd.ntmps8
        go_wp2_with fail
        refine (source_k (Kept.start HT.out) s (by omega)).mono ?_
        rintro e w1 ⟨rfl, K1⟩
        rw [HA.out]
        go_wp2_with fail
        refine (good_k K1 s (by omega)).mono ?_
        rintro e w2 ⟨rfl, K2⟩
        rw [HG.out]
        go_wp2_with fail
        refine (good_k K2 t (by omega)).mono ?_
        rintro e w3 ⟨rfl, K3⟩
        rw [HH.out]
        go_wp2_with fail
        refine (good_k K3 (s ++ t) hst).mono ?_
        rintro e w4 ⟨rfl, K4⟩
        rw [HC.out]
        go_wp2_with fail
        refine (source_k K4 (s ++ t) hst).mono ?_
        rintro e w5 ⟨rfl, K5⟩
        rw [HD.out]
        go_wp2_with fail
        refine (source_k K5 s (by omega)).mono ?_
        rintro e w6 ⟨rfl, K6⟩
        rw [HA.out]
        go_wp2_with fail
        refine (awake_k K6).mono ?_
        rintro e w7 ⟨rfl, K7⟩
        go_wp2_with fail
        go_ret
        exact ⟨rfl, K7.2⟩
      · have HA := Lib.hid ha
        cases hb : sourceB t.data.toList
        · have HD : Hid (sourceB (s ++ t).data.toList = false) := Lib.hid (by rw [HD0.out, ha, hb]; rfl)
          have HB := Lib.hid hb
          clear ha hb HD0
          go_enter Tryd.func8, Tryd.ntmps8
          go_wp2_with fail
          refine (source_k (Kept.start HT.out) s (by omega)).mono ?_
          rintro e w1 ⟨rfl, K1⟩
          rw [HA.out]
          go_wp2_with fail
          refine (good_k K1 s (by omega)).mono ?_
          rintro e w2 ⟨rfl, K2⟩
          rw [HG.out]
          go_wp2_with fail
          refine (good_k K2 s (by omega)).mono ?_
          rintro e w3 ⟨rfl, K3⟩
          rw [HG.out]
          go_wp2_with fail
          refine (good_k K3 t (by omega)).mono ?_
          rintro e w4 ⟨rfl, K4⟩
          rw [HH.out]
          go_wp2_with fail
          refine (good_k K4 (s ++ t) hst).mono ?_
          rintro e w5 ⟨rfl, K5⟩
          rw [HC.out]
          go_wp2_with fail
          refine (source_k K5 (s ++ t) hst).mono ?_
          rintro e w6 ⟨rfl, K6⟩
          rw [HD.out]
          go_wp2_with fail
          refine (source_k K6 s (by omega)).mono ?_
          rintro e w7 ⟨rfl, K7⟩
          rw [HA.out]
          go_wp2_with fail
          refine (source_k K7 t (by omega)).mono ?_
          rintro e w8 ⟨rfl, K8⟩
          rw [HB.out]
          go_wp2_with fail
          refine (awake_k K8).mono ?_
          rintro e w9 ⟨rfl, K9⟩
          go_wp2_with fail
          go_ret
          exact ⟨rfl, K9.2⟩
        · have HD : Hid (sourceB (s ++ t).data.toList = true) := Lib.hid (by rw [HD0.out, ha, hb]; rfl)
          have HB := Lib.hid hb
          clear ha hb HD0
          go_enter Tryd.func8, Tryd.ntmps8
          go_wp2_with fail
          refine (source_k (Kept.start HT.out) s (by omega)).mono ?_
          rintro e w1 ⟨rfl, K1⟩
          rw [HA.out]
          go_wp2_with fail
          refine (good_k K1 s (by omega)).mono ?_
          rintro e w2 ⟨rfl, K2⟩
          rw [HG.out]
          go_wp2_with fail
          refine (good_k K2 s (by omega)).mono ?_
          rintro e w3 ⟨rfl, K3⟩
          rw [HG.out]
          go_wp2_with fail
          refine (good_k K3 t (by omega)).mono ?_
          rintro e w4 ⟨rfl, K4⟩
          rw [HH.out]
          go_wp2_with fail
          refine (good_k K4 (s ++ t) hst).mono ?_
          rintro e w5 ⟨rfl, K5⟩
          rw [HC.out]
          go_wp2_with fail
          refine (source_k K5 (s ++ t) hst).mono ?_
          rintro e w6 ⟨rfl, K6⟩
          rw [HD.out]
          go_wp2_with fail
          refine (source_k K6 s (by omega)).mono ?_
          rintro e w7 ⟨rfl, K7⟩
          rw [HA.out]
          go_wp2_with fail
          refine (source_k K7 t (by omega)).mono ?_
          rintro e w8 ⟨rfl, K8⟩
          rw [HB.out]
          go_wp2_with fail
          refine (awake_k K8).mono ?_
          rintro e w9 ⟨rfl, K9⟩
          go_wp2_with fail
          go_ret
          exact ⟨rfl, K9.2⟩
end Go.Proofs.YtkddbmdjcjldgaaDoor
namespace Go.Proofs.YtkddbmdjcjldgaaDoor.LSource
theorem walk (s t : ByteArray) (w : World) (ht : TabAt w) :
    Calls Tryd.prog 8 #[.string s, .string t] w fun e w' => e = .returned (.bool true) ∧ RowKit.Below w.heap.size w w' := by
  by_cases h : 3000 < s.size ∨ 3000 < t.size
  · exact source_big s t w h ht
  · exact source_small s t w (by omega) (by omega) ht
end Go.Proofs.YtkddbmdjcjldgaaDoor.LSource
