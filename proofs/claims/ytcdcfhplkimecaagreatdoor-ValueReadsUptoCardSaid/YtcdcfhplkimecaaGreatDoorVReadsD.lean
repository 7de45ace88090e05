/- The tokens of a plain value may stand, each of them; how much they are. -/
import Derived.Test.YtcdcfhplkimecaaGreatDoorVWrites
import Derived.Test.YtcdcfhplkimecaaGreatDoorTPrint
import Derived.Lib.ItoaLen
import Derived.Test.YtcdcfhplkimecaaGreatDoorVToksA
import Derived.Test.YtcdcfhplkimecaaGreatDoorTShort
import Derived.Test.YtcdcfhplkimecaaGreatDoorVFrameZ
namespace Go.Proofs.YtcdcfhplkimecaaGreatDoor

mutual
theorem vtok_right : ∀ v : VT, fitV nameB v = true → ∀ t ∈ vtok v, rightB (t.1, t.2.data.toList) = true
  | .mk k n s l m, hf, t, ht => by
    rw [fitV, Bool.and_eq_true, Bool.and_eq_true] at hf
    obtain ⟨⟨hs, hl⟩, hm⟩ := hf
    rcases sound_kind hs with rfl | rfl | rfl | rfl | rfl | rfl | rfl | rfl | rfl
    · rw [vtok0, List.mem_singleton] at ht
      subst ht
      decide +kernel
    · rw [vtok1, List.mem_singleton] at ht
      subst ht
      show rightB (2, (if n = 1 then trueT else falseT).data.toList) = true
      split <;> decide +kernel
    · rw [vtok2, List.mem_singleton] at ht
      subst ht
      show decide (kindL (itoaT n).data.toList = 3) = true
      have : (itoaT n).data.toList = Lib.itoa n := by simp [itoaT]
      rw [this, kind_itoa]
      rfl
    · rw [vtok3, List.mem_singleton] at ht
      subst ht
      rcases num_cases (sound3 hs).2.1 with h | ⟨h, _⟩
      · show rightB (kindL s.data.toList, s.data.toList) = true
        rw [h]
        show decide (kindL s.data.toList = 4) = true
        rw [h]; rfl
      · show rightB (kindL s.data.toList, s.data.toList) = true
        rw [h]
        show decide (kindL s.data.toList = 3) = true
        rw [h]; rfl
    · rw [vtok4, List.mem_singleton] at ht
      subst ht
      exact (sound4 hs).2.1
    · rw [vtok5, List.mem_singleton] at ht
      subst ht
      exact (enum_cases (sound5 hs).2.1).1
    · rw [vtok6] at ht
      simp only [List.mem_cons, List.mem_append, List.not_mem_nil, or_false] at ht
      rcases ht with rfl | ht | rfl
      · decide +kernel
      · exact vtokL_right l hl t ht
      · decide +kernel
    · rw [vtok7] at ht
      simp only [List.mem_cons, List.mem_append, List.not_mem_nil, or_false] at ht
      rcases ht with rfl | ht | rfl
      · decide +kernel
      · exact vtokM_right m hm t ht
      · decide +kernel
    · rw [vtok8] at ht
      simp only [List.mem_cons, List.not_mem_nil, or_false] at ht
      rcases ht with rfl | rfl
      · decide +kernel
      · exact (sound8 hs).2.1
theorem vtokL_right : ∀ l : VL, fitL nameB l = true → ∀ t ∈ vtokL l, rightB (t.1, t.2.data.toList) = true
  | .nil, _, t, ht => by rw [vtokL] at ht; simp at ht
  | .cons v r, hf, t, ht => by
    rw [fitL, Bool.and_eq_true] at hf
    rw [vtokL, List.mem_append] at ht
    rcases ht with ht | ht
    · exact vtok_right v hf.1 t ht
    · exact vtokL_right r hf.2 t ht
theorem vtokM_right : ∀ l : VM, fitM nameB l = true → ∀ t ∈ vtokM l, rightB (t.1, t.2.data.toList) = true
  | .nil, _, t, ht => by rw [vtokM] at ht; simp at ht
  | .cons nm v r, hf, t, ht => by
    rw [fitM, Bool.and_eq_true, Bool.and_eq_true] at hf
    rw [vtokM] at ht
    simp only [List.mem_cons, List.mem_append] at ht
    rcases ht with rfl | rfl | ht | ht
    · exact hf.1.1
    · decide +kernel
    · exact vtok_right v hf.1.2 t ht
    · exact vtokM_right r hf.2 t ht
end
theorem itoa_size {n : Int} (h : -9223372036854775808 ≤ n ∧ n ≤ 9223372036854775807) : (itoaT n).size ≤ 21 := by
  have := Lib.itoa_length_le n h.1 h.2
  show (itoaT n).data.size ≤ 21
  simpa [itoaT] using this
theorem sumT_one (k : Int) (s : ByteArray) : sumT [(k, s)] = 1 + s.size := by simp [sumT]
mutual
/-- How much the tokens are together; none is long. -/
theorem vtok_sum : ∀ v : VT, RngV v → sumT (vtok v) + 3 ≤ 26 * sizeV v ∧ ∀ t ∈ vtok v, t.2.size ≤ 21 + sizeV v
  | .mk k n s l m, hr => by
    unfold RngV at hr
    have hL := vtokL_sum l hr.2.1
    have hM := vtokM_sum m hr.2.2
    have hi := itoa_size hr.1
    have hc : nullT.size = 4 ∧ trueT.size = 4 ∧ falseT.size = 5 ∧ openT.size = 1 ∧ shutT.size = 1 ∧ openM.size = 1 ∧ shutM.size = 1 ∧ dollarT.size = 1 := ⟨rfl, rfl, rfl, rfl, rfl, rfl, rfl, rfl⟩
    obtain ⟨q0, q1, q2, q3, q4, q5, q6, q7⟩ := hc
    have hz : sizeV (.mk k n s l m) = 1 + s.size + sizeL l + sizeM m := by rw [sizeV]
    rw [hz, vtok]
    by_cases h0 : k = 0
    · rw [if_pos h0]; exact ⟨by rw [sumT_one]; omega, fun t ht => by rw [List.mem_singleton] at ht; subst ht; show nullT.size ≤ _; omega⟩
    rw [if_neg h0]
    by_cases h1 : k = 1
    · rw [if_pos h1]
      by_cases hn : n = 1
      · rw [if_pos hn]; exact ⟨by rw [sumT_one]; omega, fun t ht => by rw [List.mem_singleton] at ht; subst ht; show trueT.size ≤ _; omega⟩
      · rw [if_neg hn]; exact ⟨by rw [sumT_one]; omega, fun t ht => by rw [List.mem_singleton] at ht; subst ht; show falseT.size ≤ _; omega⟩
    rw [if_neg h1]
    by_cases h2 : k = 2
    · rw [if_pos h2]; exact ⟨by rw [sumT_one]; omega, fun t ht => by rw [List.mem_singleton] at ht; subst ht; show (itoaT n).size ≤ _; omega⟩
    rw [if_neg h2]
    by_cases h3 : k = 3
    · rw [if_pos h3]; exact ⟨by rw [sumT_one]; omega, fun t ht => by rw [List.mem_singleton] at ht; subst ht; show s.size ≤ _; omega⟩
    rw [if_neg h3]
    by_cases h4 : k = 4
    · rw [if_pos h4]; exact ⟨by rw [sumT_one]; omega, fun t ht => by rw [List.mem_singleton] at ht; subst ht; show s.size ≤ _; omega⟩
    rw [if_neg h4]
    by_cases h5 : k = 5
    · rw [if_pos h5]; exact ⟨by rw [sumT_one]; omega, fun t ht => by rw [List.mem_singleton] at ht; subst ht; show s.size ≤ _; omega⟩
    rw [if_neg h5]
    by_cases h6 : k = 6
    · rw [if_pos h6]
      refine ⟨?_, fun t ht => ?_⟩
      · rw [show (((1 : Int), openT) :: (vtokL l ++ [((1 : Int), shutT)])) = [((1 : Int), openT)] ++ (vtokL l ++ [((1 : Int), shutT)]) from rfl, sumT_append, sumT_append, sumT_one, sumT_one]; omega
      · simp only [List.mem_cons, List.mem_append, List.not_mem_nil, or_false] at ht
        rcases ht with rfl | ht | rfl
        · show openT.size ≤ _; omega
        · have := hL.2 t ht; omega
        · show shutT.size ≤ _; omega
    rw [if_neg h6]
    by_cases h7 : k = 7
    · rw [if_pos h7]
      refine ⟨?_, fun t ht => ?_⟩
      · rw [show (((1 : Int), openM) :: (vtokM m ++ [((1 : Int), shutM)])) = [((1 : Int), openM)] ++ (vtokM m ++ [((1 : Int), shutM)]) from rfl, sumT_append, sumT_append, sumT_one, sumT_one]; omega
      · simp only [List.mem_cons, List.mem_append, List.not_mem_nil, or_false] at ht
        rcases ht with rfl | ht | rfl
        · show openM.size ≤ _; omega
        · have := hM.2 t ht; omega
        · show shutM.size ≤ _; omega
    rw [if_neg h7]
    by_cases h8 : k = 8
    · rw [if_pos h8]
      refine ⟨by simp only [sumT]; omega, fun t ht => ?_⟩
      simp only [List.mem_cons, List.not_mem_nil, or_false] at ht
      rcases ht with rfl | rfl
      · show dollarT.size ≤ _; omega
      · show s.size ≤ _; omega
    rw [if_neg h8]
    exact ⟨by simp only [sumT]; omega, fun t ht => by simp at ht⟩
theorem vtokL_sum : ∀ l : VL, RngL l → sumT (vtokL l) ≤ 26 * sizeL l ∧ ∀ t ∈ vtokL l, t.2.size ≤ 21 + sizeL l
  | .nil, _ => by rw [vtokL, sizeL]; exact ⟨by simp [sumT], fun t ht => by simp at ht⟩
  | .cons v r, hr => by
    unfold RngL at hr
    have h1 := vtok_sum v hr.1
    have h2 := vtokL_sum r hr.2
    rw [vtokL, sizeL, sumT_append]
    refine ⟨by omega, fun t ht => ?_⟩
    rcases List.mem_append.1 ht with ht | ht
    · have := h1.2 t ht; omega
    · have := h2.2 t ht; omega
theorem vtokM_sum : ∀ l : VM, RngM l → sumT (vtokM l) ≤ 26 * sizeM l ∧ ∀ t ∈ vtokM l, t.2.size ≤ 21 + sizeM l
  | .nil, _ => by rw [vtokM, sizeM]; exact ⟨by simp [sumT], fun t ht => by simp at ht⟩
  | .cons nm v r, hr => by
    unfold RngM at hr
    have h1 := vtok_sum v hr.1
    have h2 := vtokM_sum r hr.2
    have hc : colonT.size = 1 := rfl
    rw [vtokM, sizeM]
    refine ⟨?_, fun t ht => ?_⟩
    · rw [show ((2, nm) :: (1, colonT) :: (vtok v ++ vtokM r)) = [((2 : Int), nm), ((1 : Int), colonT)] ++ (vtok v ++ vtokM r) from rfl, sumT_append, sumT_append]
      simp only [sumT]
      omega
    · simp only [List.mem_cons, List.mem_append] at ht
      rcases ht with rfl | rfl | ht | ht
      · show nm.size ≤ _; omega
      · show colonT.size ≤ _; omega
      · have := h1.2 t ht; omega
      · have := h2.2 t ht; omega
end
end Go.Proofs.YtcdcfhplkimecaaGreatDoor
/- The walk of the law ValueReads. -/
namespace Go.Proofs.YtcdcfhplkimecaaGreatDoor.LVReads
open Go.RowKit

theorem W64_small {n : Nat} (h : n ≤ 1048576) : W64 n = (n : Int) := by
  unfold W64
  simp only [IntKind.wrap_i64]
  omega
theorem cellsT_at : ∀ (ts : List (Int × ByteArray)) (j : Nat) t, ts[j]? = some t → (cellsT ts)[j * 2]? = some (.int .i64 t.1) ∧ (cellsT ts)[j * 2 + 1]? = some (.string t.2)
  | [], _, _, h => by simp at h
  | u :: ts, 0, t, h => by
    have : u = t := by simpa using h
    subst this
    exact ⟨rfl, rfl⟩
  | u :: ts, j + 1, t, h => by
    obtain ⟨h0, h1⟩ := cellsT_at ts j t (by simpa using h)
    refine ⟨?_, ?_⟩
    · rw [show (j + 1) * 2 = j * 2 + 2 by omega]; simpa [cellsT] using h0
    · rw [show (j + 1) * 2 + 1 = (j * 2 + 1) + 2 by omega]; simpa [cellsT] using h1
theorem row_ts {base : Nat} {w : World} {V : Value} {ts : List (Int × ByteArray)} (h : TR base w V ts) : ∃ A c, V = .slice A ts.length c ∧ TsAt w w.heap.size A ts.length ts := by
  cases ts with
  | nil =>
    obtain ⟨A, c, rfl⟩ := shape_own h
    exact ⟨A, c, rfl, rfl, fun j t ht => by simp at ht⟩
  | cons u us =>
    obtain ⟨g, c, rfl, _, hlt, hc⟩ := h.at (by simp)
    refine ⟨_, c, rfl, rfl, fun j t ht => ?_⟩
    obtain ⟨h0, h1⟩ := cellsT_at _ j t ht
    exact ⟨g, 0, rfl, hlt, by rw [Nat.zero_add]; exact hc _ _ h0, by rw [Nat.zero_add]; exact hc _ _ h1⟩
theorem all_right {ts : List (Int × ByteArray)} (h : ∀ t ∈ ts, rightB (t.1, t.2.data.toList) = true) : (bareT ts).all rightB = true := by
  rw [List.all_eq_true]
  intro t ht
  unfold bareT at ht
  obtain ⟨u, hu, rfl⟩ := List.mem_map.1 ht
  exact h u hu
set_option maxRecDepth 100000 in
set_option maxHeartbeats 8000000 in
theorem law (v : VT) (c0 c1 c2 c3 c4 : Value) (w : World) (hv : VAt w w.heap.size v c0 c1 c2 c3 c4) (hz : sizeV v ≤ 1048576) (hr : RngV v) (h5 : Laid5 w) (h3 : Laid3 w) :
    Calls Tryz.prog 3 #[.agg #[c0, c1, c2, c3, c4]] w fun e w' => e = .returned (.bool true) ∧ Below w.heap.size w w' := by
  have hsz := vsize_any _ v (Nat.le_refl _) c0 c1 c2 c3 c4
  rw [W64_small hz] at hsz
  have HV := Lib.hid hv
  obtain ⟨n, hn⟩ : ∃ n, sizeV v = n := ⟨_, rfl⟩
  rw [hn] at hsz
  have HN := Lib.hid hn
  have HR := Lib.hid hr
  have H5 := Lib.hid h5
  have H3 := Lib.hid h3
  obtain ⟨vk, vn, vs, vl, vm⟩ := v
  unfold VAt at hv
  obtain ⟨rfl, rfl, rfl, _, ⟨A3, c3', rfl, _, _⟩, A4, c4', rfl, _, _⟩ := hv
  have HB1 := Lib.hid (alloc_same w (.cells #[.int .i64 vk, .int .i64 vn, .string vs, .slice A3 vl.len c3', .slice A4 vm.len c4'] 25))
  have hsw : Hid ((w.alloc (.cells #[.int .i64 vk, .int .i64 vn, .string vs, .slice A3 vl.len c3', .slice A4 vm.len c4'] 25)).heap.size = w.heap.size + 1) := Lib.hid (by simp)
  have HF := Lib.hid (five_at_new w (.int .i64 vk) (.int .i64 vn) (.string vs) (.slice A3 vl.len c3') (.slice A4 vm.len c4') 25 rfl)
  have HS := Lib.hid (hsz _ w.heap.size HB1.out.size (VAt.below HB1.out _ _ _ _ _ _ HV.out))
  have HA := fun wx (hx : Below w.heap.size w wx) => Lib.hid (vawake_any wx (H5.out.below hx))
  clear hz hr h5 h3 hn hsz
  generalize VT.mk vk vn vs vl vm = v at *
  by_cases h1 : (n : Int) > 2000
  · go_enter Tryz.func3, Tryz.ntmps3
    go_wp2_with fail
    refine HS.out.mono ?_
    rintro e w2 ⟨rfl, hb2⟩
    have B2 := Lib.hid (two_below HB1.out hb2)
    clear hb2
    go_wp2_with fail
    refine (HA _ B2.out).out.mono ?_
    rintro e w3 ⟨rfl, hb3⟩
    have B3 := Lib.hid (two_below B2.out hb3)
    clear hb3
    go_wp2_with fail
    go_ret
    exact ⟨rfl, B3.out⟩
  · have hn9 : sizeV v ≤ 2000 := by have := HN.out; omega
    have HT := fun wx (hx : Below w.heap.size w wx) => Lib.hid (tokens_any v (by omega) HR.out _ _ _ _ _ wx w.heap.size hx.size (VAt.below hx _ _ _ _ _ _ HV.out) (H5.out.below hx))
    have hsum := vtok_sum v HR.out
    have hlen := vtok_len v
    have hright := fun h => vtok_right v h
    cases hp : plainB v with
    | false =>
      have htk : toksV v = [] := by unfold toksV; rw [hp]; simp
      rw [hp, htk] at HT
      clear hp htk hsum hlen hright hn9
      go_enter Tryz.func3, Tryz.ntmps3
      go_wp2_with fail
      refine HS.out.mono ?_
      rintro e w2 ⟨rfl, hb2⟩
      have B2 := Lib.hid (two_below HB1.out hb2)
      obtain ⟨y0, y1, y2, y3, y4⟩ := HF.out.below hb2 (by rw [hsw.out]; omega)
      clear hb2
      go_wp2_with fail
      refine (HT _ B2.out).out.mono ?_
      rintro e w3 ⟨V3, rfl, h3t, hb3⟩
      obtain ⟨A5, c5, rfl⟩ := shape_own h3t
      have B3 := Lib.hid (two_below B2.out hb3)
      clear hb3 h3t y0 y1 y2 y3 y4
      go_wp2_with fail
      refine (HA _ B3.out).out.mono ?_
      rintro e w4 ⟨rfl, hb4⟩
      have B4 := Lib.hid (two_below B3.out hb4)
      clear hb4
      go_wp2_with fail
      go_ret
      exact ⟨rfl, B4.out⟩
    | true =>
      have htk : toksV v = vtok v := by unfold toksV; rw [hp]; simp
      have hfit : fitV nameB v = true := by unfold plainB at hp; rw [Bool.and_eq_true] at hp; exact hp.1
      have hall := all_right (hright hfit)
      rw [hp, htk] at HT
      obtain ⟨ts, hts⟩ : ∃ ts, vtok v = ts := ⟨_, rfl⟩
      rw [hts] at HT hsum hlen hall
      have hsum6 : sumT ts ≤ 60000 := by omega
      have hxs : ∀ t ∈ ts, t.2.size ≤ 3000 := fun t ht => by have := hsum.2 t ht; omega
      have hln : ts.length ≤ 100000 := by omega
      have HLN := Lib.hid hln
      have HP := fun wx A c (h : TsAt wx wx.heap.size A ts.length ts) (h3 : Laid3 wx) => Lib.hid (print_gen A ts.length c ts wx h hsum6 hxs h3)
      rw [hall, printS_yes hall] at HP
      have HRS : Hid (readS (⟨(printL (bareT ts)).toArray⟩ : ByteArray).data.toList = if 8192 < (⟨(printL (bareT ts)).toArray⟩ : ByteArray).size then ([], 3) else (bareT ts, 0)) := Lib.hid (by
        rw [size_mk]
        exact print_readS hall)
      have hSs : (⟨(printL (bareT ts)).toArray⟩ : ByteArray).size ≤ 1000000 := by
        rw [size_mk]
        have := printL_len ts
        omega
      have HBL := Lib.hid (bareT_len ts)
      generalize (⟨(printL (bareT ts)).toArray⟩ : ByteArray) = S at *
      clear hp htk hsum hlen hright hn9 hfit hts hsum6 hxs hln hall
      go_enter Tryz.func3, Tryz.ntmps3
      go_wp2_with fail
      refine HS.out.mono ?_
      rintro e w2 ⟨rfl, hb2⟩
      have B2 := Lib.hid (two_below HB1.out hb2)
      obtain ⟨y0, y1, y2, y3, y4⟩ := HF.out.below hb2 (by rw [hsw.out]; omega)
      clear hb2
      go_wp2_with fail
      refine (HT _ B2.out).out.mono ?_
      rintro e w3 ⟨V3, rfl, h3t, hb3⟩
      obtain ⟨A5, c5, rfl, hTs⟩ := row_ts h3t
      have B3 := Lib.hid (two_below B2.out hb3)
      have T3 := Lib.hid hTs
      clear hb3 h3t y0 y1 y2 y3 y4 hTs HT HS
      go_wp2_with fail
      refine (HP _ _ _ T3.out (H3.out.below B3.out)).out.mono ?_
      rintro e w4 ⟨rfl, hb4⟩
      have B4 := Lib.hid (two_below B3.out hb4)
      have T4 := Lib.hid (T3.out.on hb4)
      clear hb4 HP T3
      by_cases hbig : 8192 < S.size
      · have hbig' : (8192 : Int) < (S.size : Int) := by omega
        clear HRS
        go_wp2_with fail
        refine (HA _ B4.out).out.mono ?_
        rintro e w5 ⟨rfl, hb5⟩
        have B5 := Lib.hid (two_below B4.out hb5)
        clear hb5
        go_wp2_with fail
        go_ret
        exact ⟨rfl, B5.out⟩
      · have hbig' : ¬ (8192 : Int) < (S.size : Int) := by omega
        have hrs := HRS.out
        rw [if_neg hbig] at hrs
        have HRD := Lib.hid (read_k (K3.start (H3.out.below B4.out)) S (by omega) _ _ hrs)
        rw [HBL.out] at HRD
        clear hrs HRS
        go_wp2_with fail
        refine HRD.out.mono ?_
        rintro e w5 ⟨A6, c6, rfl, hT6, _, hb5⟩
        have B5 := Lib.hid (two_below B4.out hb5)
        have HSame := Lib.hid (same_yes A5 A6 ts.length c5 c6 ts w5 (T4.out.on hb5) (packed hT6 rfl) HLN.out)
        clear hT6 hb5 HRD T4
        go_wp2_with fail
        refine HSame.out.mono ?_
        rintro e w6 ⟨rfl, hb6⟩
        have B6 := Lib.hid (two_below B5.out hb6)
        clear hb6 HSame
        go_wp2_with fail
        refine (HA _ B6.out).out.mono ?_
        rintro e w7 ⟨rfl, hb7⟩
        have B7 := Lib.hid (two_below B6.out hb7)
        clear hb7
        go_wp2_with fail
        go_ret
        exact ⟨rfl, B7.out⟩
end Go.Proofs.YtcdcfhplkimecaaGreatDoor.LVReads
/- The law ValueReads is proved: for every input, where the arguments are together of bulk at most 1048576 the law answers true, and its arguments read behind it as they did. Condition: the listed package variables (seine/letters.shapes, the library's strconv.ErrRange, its table of powers and their like) hold what the program's text lays in them (the card ties that). -/
namespace Go.Proofs.YtcdcfhplkimecaaGreatDoor.LVReads
open Go.ChangeShapes Go.WideShapes Go.ChangeAt Go.RowKit

set_option maxRecDepth 100000 in
theorem contract (H : Type) (enc : TypeId × Value → H) (W : World) (base : Nat) (args : Array Value) (ds gs : List (DataW H)) (before : List MemPlace)
    (hval : ∀ (j : Nat) t v, Tryz.f3.params[j]? = some t → args[j]? = some v → Value.okWide Tryz.prog W .any base t v)
    (hW : DataW.Whole enc Tryz.prog Tryz.f3.params.toList Rows.valueReadsSpec.vars false W args.toList ds gs before) (hL : laidMetH Tryz.prog Rows.valueReadsUptoRow.laid W)
    (hk : Rows.uptoBulkAll (ds ++ gs) ≤ 1048576) :
    Calls Tryz.prog 3 args W fun e W' => ∃ v, e = .returned v ∧ Rows.valueReadsSpec.post enc Tryz.prog Tryz.f3 false true false false W args v W' := by
  have hW' := hW
  obtain ⟨p, q, hA0, hV, rfl, hfz, hnd⟩ := hW
  have hA : DataW.TrodAll enc Tryz.prog W 0 (fun _ => true) true Tryz.f3.params.toList args.toList ds p := hA0
  rw [Tryz.params3] at hA hval
  obtain ⟨a0, vs0, d0, ds0, p0, q0, hargs, rfl, rfl, h0, e0⟩ := trodAll_cons hA
  obtain ⟨rfl, rfl, rfl⟩ := trodAll_nil e0
  obtain rfl : args = #[a0] := by cases args; simp_all
  obtain ⟨rfl, rfl⟩ := trodVars_none hV
  obtain ⟨t0, _, _, _, _, _, rfl, v0, r0, y0, s0⟩ := open_val (hval 0 25 a0 rfl rfl) h0
  have z0 := Nat.le_trans y0 (Nat.le_trans (bulk_part (by simp)) hk)
  clear hA0
  refine (law _ _ _ _ _ _ W v0 z0 r0 (laid5_of hL) (laid3_of hL)).mono fun e W' ⟨he, hb⟩ => ?_
  subst he
  exact ⟨_, rfl, law_post hW' rfl (by kernel_rfl) (by rw [Tryz.params3]; decide +kernel) rfl rfl rfl hb⟩

theorem laid_met (os : Os) : laidMet Tryz.prog Rows.valueReadsUptoRow.laid ((laidWorld os).forCall (fun _ _ => 0) ⟨#[], #[.agg #[.int .i64 0, .int .i64 0, .string ⟨#[]⟩, .slice none 0 0, .slice none 0 0]], []⟩).memory :=
  laidWorld_met os _
theorem reads (os : Os) {H : Type} (enc : TypeId × Value → H) : ∃ places, DataW.whole enc Tryz.prog ((laidWorld os).forCall (fun _ _ => 0) ⟨#[], #[.agg #[.int .i64 0, .int .i64 0, .string ⟨#[]⟩, .slice none 0 0, .slice none 0 0]], []⟩).memory Tryz.f3.params.toList Rows.valueReadsSpec.vars false #[Value.agg #[.int .i64 0, .int .i64 0, .string ⟨#[]⟩, .slice none 0 0, .slice none 0 0]].toList 8 = some ([.agg [.lit (.int .i64 0), .lit (.int .i64 0), .lit (.string []), .nil, .nil]], [], places) :=
  ⟨[], by kernel_rfl⟩

set_option maxRecDepth 100000 in
theorem lifted (os : Os) (started : os.Started) (H : Type) (enc : TypeId × Value → H) (F : Stop.Interp) :
    ReturnsInHanded {} Tryz.checked os 3 .any ((Rows.OpenSpec.upto Rows.valueReadsSpec).preRow enc Tryz.prog Tryz.f3 Rows.valueReadsUptoRow.domain false Rows.valueReadsUptoRow.laid) (((Rows.OpenSpec.upto Rows.valueReadsSpec).at F).post enc Tryz.prog Tryz.f3 false true false false) := by
  obtain ⟨places, hx⟩ := reads os enc
  refine returnsInHanded_of_row (C := Tryz.checked) (s := (Rows.OpenSpec.upto Rows.valueReadsSpec)) own started (by kernel_rfl) Tryz.func3
    (witness_row_at (enc := enc) (C := Tryz.checked) false (laidWorld os) #[.agg #[.int .i64 0, .int .i64 0, .string ⟨#[]⟩, .slice none 0 0, .slice none 0 0]] (World.laidAll_os _ _ _) (by kernel_rfl) (by kernel_rfl) (by kernel_rfl)
      (OpenSpec.preRow_of_cond 8 hx (by kernel_rfl) (fun k hk => by cases hk; kernel_rfl) (by kernel_rfl) (laid_met os))) ?_
  intro W base args ds gs before hval hW _ hcond hz hL _ _
  have hb : Rows.uptoBulkAll (ds ++ gs) ≤ 1048576 := of_decide_eq_true (hcond _ rfl)
  exact contract H enc W base args ds gs before hval hW hL hb

theorem said : Rows.ValueReadsUptoSaid :=
  OpenClaim.holds_of_cond 3 Tryz.f3 rfl rfl rfl rfl rfl rfl rfl ⟨rfl, rfl, rfl, rfl, rfl⟩ rfl rfl rfl rfl rfl (by kernel_rfl) Tryz.func3 (by kernel_rfl)
    (of_decide_eq_true (by kernel_rfl)) (by unfold Func.isWrapper; first | (rw [if_pos (by decide +kernel)]; kernel_rfl) | (rw [if_neg (by decide +kernel)]; exact ⟨rfl, rfl⟩))
    (fun os started H enc _ F => by rw [OpenClaim.pre_eq_preRow]; exact lifted os started H enc F)

theorem plain (f : FuncId) (fn : Func) (hf : Tryz.pinned.checked.prog.funcNamed "seine/seinelaw5.ValueReads" = some f) (hfn : Tryz.pinned.checked.prog.funcs[f]? = some fn) :
    true = Tryz.pinned.checked.prog.looks [] ∧ ∀ (j : Nat) t, fn.params[j]? = some t → Tryz.pinned.checked.prog.wantsStandIn t = false := by
  obtain rfl : f = 3 := Option.some.inj ((show Tryz.prog.funcNamed "seine/seinelaw5.ValueReads" = some 3 by kernel_rfl).symm.trans hf) |>.symm
  obtain rfl : fn = Tryz.f3 := (Option.some.inj (Tryz.func3.symm.trans hfn)).symm
  refine ⟨by kernel_rfl, fun j t ht => ?_⟩
  rw [Tryz.params3] at ht
  have hall : ∀ t ∈ [25], Tryz.prog.wantsStandIn t = false := by decide +kernel
  exact hall t (by simpa using Array.mem_of_getElem? ht)

theorem card : Rows.ValueReadsUptoCardSaid :=
  Claim7.holds_tied_plain_at .later [] _ _ _ _ said (fun _ h => by cases h) (by kernel_rfl) (fun _ h => by cases h) valueReadsUpto_row_tie rfl ⟨rfl, rfl⟩ (by kernel_rfl) rfl plain (by kernel_rfl)
end Go.Proofs.YtcdcfhplkimecaaGreatDoor.LVReads
