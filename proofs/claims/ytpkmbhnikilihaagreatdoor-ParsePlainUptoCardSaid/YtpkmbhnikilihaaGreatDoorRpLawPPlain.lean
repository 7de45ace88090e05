/- The walk of the law ParsePlain. -/
import Derived.Test.YtpkmbhnikilihaaGreatDoorQp17
namespace Go.Proofs.YtpkmbhnikilihaaGreatDoor.LPPlain
open Go.RowKit
theorem five_of {w : World} {b : Nat} {c0 c1 c2 c3 c4 : Value} {t : TypeId} (h : w.heap[b]? = some (.cells #[c0, c1, c2, c3, c4] t (0, 0))) : w.cell? ⟨b, 0, none⟩ = some c0 ∧ w.cell? ⟨b, 1, none⟩ = some c1 ∧ w.cell? ⟨b, 2, none⟩ = some c2 ∧ w.cell? ⟨b, 3, none⟩ = some c3 ∧ w.cell? ⟨b, 4, none⟩ = some c4 := by
 refine ⟨?_, ?_, ?_, ?_, ?_⟩ <;> (simp only [World.cell?, h]; rfl)
set_option maxRecDepth 100000 in
set_option maxHeartbeats 8000000 in
theorem law (v : VT) (c0 c1 c2 c3 c4 : Value) (w : World) (hv : VAt w w.heap.size v c0 c1 c2 c3 c4) (hz : sizeV v ≤ 1048576) (hr : RngV v) (h5 : Laid5 w) (h3 : Laid3 w) :
   Calls Tryz.prog 6 #[.agg #[c0, c1, c2, c3, c4]] w fun e w' => e = .returned (.bool true) ∧ Below w.heap.size w w' := by
 have hsz := vsize_any _ v (Nat.le_refl _) c0 c1 c2 c3 c4
 rw [LVReads.W64_small hz] at hsz
 have HV := Hd hv
 obtain ⟨n, hn⟩ : ∃ n, sizeV v = n := ⟨_, rfl⟩
 rw [hn] at hsz
 have HN := Hd hn
 have HR := Hd hr
 have H5 := Hd h5
 have H3 := Hd h3
 have HT := fun wx (hx : Below w.heap.size w wx) => Hd (tokens_any v (by omega) hr c0 c1 c2 c3 c4 wx w.heap.size hx.size (VAt.below hx _ _ _ _ _ _ hv) (h5.below hx))
 obtain ⟨vk, vn, vs, vl, vm⟩ := v
 unfold VAt at hv
 obtain ⟨rfl, rfl, rfl, _, ⟨A3, c3', rfl, _, _⟩, A4, c4', rfl, _, _⟩ := hv
 have HB1 := Hd (als w (.cells #[.int .i64 vk, .int .i64 vn, .string vs, .slice A3 vl.len c3', .slice A4 vm.len c4'] 35))
 have hsw : Hid ((w.alloc (.cells #[.int .i64 vk, .int .i64 vn, .string vs, .slice A3 vl.len c3', .slice A4 vm.len c4'] 35)).heap.size = w.heap.size + 1) := Hd (by simp)
 have HF := Hd (five_at_new w (.int .i64 vk) (.int .i64 vn) (.string vs) (.slice A3 vl.len c3') (.slice A4 vm.len c4') 35 rfl)
 have HS := fun wx (hx : Below w.heap.size w wx) => Hd (hsz wx w.heap.size hx.size (VAt.below hx _ _ _ _ _ _ HV.out))
 have HA := fun wx (hx : Below w.heap.size w wx) => Hd (awake_any wx (H3.out.below hx) (H5.out.below hx))
 clear hz hr h5 h3 hn hsz
 generalize VT.mk vk vn vs vl vm = v at *
 cases hp : plainB v with
 | false =>
   have htk : toksV v = [] := by unfold toksV; rw [hp]; simp
   rw [hp, htk] at HT
   clear hp htk
   go_enter Tryz.func6, Tryz.ntmps6
   go_wp2_with fail
   refine (HT _ HB1.out).out.mono ?_
   rintro e w3 ⟨V3, rfl, h3t, hb3⟩
   obtain ⟨A5, c5, rfl⟩ := shape_own h3t
   have B3 := Hd (tbl HB1.out hb3)
   clear hb3 h3t
   go_wp2_with fail
   refine (HA _ B3.out).out.mono ?_
   rintro e w4 ⟨rfl, hb4⟩
   have B4 := Hd (tbl B3.out hb4)
   clear hb4
   go_wp2_with fail
   go_ret
   exact ⟨rfl, B4.out⟩
 | true =>
   have htk : toksV v = vtok v := by unfold toksV; rw [hp]; simp
   have HP9 := Hd hp
   rw [hp, htk] at HT
   by_cases h1 : (n : Int) > 3000
   · obtain ⟨ts, hts⟩ : ∃ ts, vtok v = ts := ⟨_, rfl⟩
     rw [hts] at HT
     clear hp htk hts
     go_enter Tryz.func6, Tryz.ntmps6
     go_wp2_with fail
     refine (HT _ HB1.out).out.mono ?_
     rintro e w2 ⟨V3, rfl, h3t, hb2⟩
     obtain ⟨A5, c5, rfl⟩ := shape_own h3t
     have B2 := Hd (tbl HB1.out hb2)
     obtain ⟨y0, y1, y2, y3, y4⟩ := HF.out.below hb2 (by rw [hsw.out]; omega)
     clear hb2 h3t
     go_wp2_with fail
     refine (HS _ B2.out).out.mono ?_
     rintro e w3 ⟨rfl, hb3⟩
     have B3 := Hd (tbl B2.out hb3)
     clear hb3 y0 y1 y2 y3 y4
     go_wp2_with fail
     refine (HA _ B3.out).out.mono ?_
     rintro e w4 ⟨rfl, hb4⟩
     have B4 := Hd (tbl B3.out hb4)
     clear hb4
     go_wp2_with fail
     go_ret
     exact ⟨rfl, B4.out⟩
   · have hn9 : sizeV v ≤ 3000 := by have := HN.out; omega
     have HN9 := Hd hn9
     have hsum := vtok_sum v HR.out
     have hlen := vtok_len v
     have hfit : fitV nameB v = true := by unfold plainB at hp; rw [Bool.and_eq_true] at hp; exact hp.1
     have hall := LVReads.all_right (vtok_right v hfit)
     have hwf := fun l (h : readS l = (bareT (vtok v), 0)) => whole_free hp HR.out h
     have hwy := fun l (h : readS l = (bareT (vtok v), 0)) (h2 : allV v = []) => whole_yes hp HR.out h h2
     have hwn := fun l (h : readS l = (bareT (vtok v), 0)) (h2 : allV v ≠ []) => whole_no hp HR.out h h2
     obtain ⟨ts, hts⟩ : ∃ ts, vtok v = ts := ⟨_, rfl⟩
     rw [hts] at HT hsum hlen hall hwf hwy hwn
     have hsum6 : sumT ts ≤ 80000 := by omega
     have hxs : ∀ t ∈ ts, t.2.size ≤ 3100 := fun t ht => by have := hsum.2 t ht; omega
     have HP := fun wx A c (h : TsAt wx wx.heap.size A ts.length ts) (h3 : Laid3 wx) => Hd (print_gen A ts.length c ts wx h hsum6 hxs h3)
     rw [hall, printS_yes hall] at HP
     have HRS : Hid (readS (⟨(printL (bareT ts)).toArray⟩ : ByteArray).data.toList = if 8192 < (⟨(printL (bareT ts)).toArray⟩ : ByteArray).size then ([], 3) else (bareT ts, 0)) := Hd (by
       rw [size_mk]
       exact print_readS hall)
     have hSs : (⟨(printL (bareT ts)).toArray⟩ : ByteArray).size ≤ 2000000 := by
       rw [size_mk]
       have := printL_len ts
       omega
     have HWF := Hd hwf
     have HWY := Hd hwy
     have HWN := Hd hwn
     generalize (⟨(printL (bareT ts)).toArray⟩ : ByteArray) = S at *
     clear hp htk hsum hlen hfit hts hsum6 hxs hall hwf hwy hwn hn9
     go_enter Tryz.func6, Tryz.ntmps6
     go_wp2_with fail
     refine (HT _ HB1.out).out.mono ?_
     rintro e w2 ⟨V3, rfl, h3t, hb2⟩
     obtain ⟨A5, c5, rfl, hTs⟩ := LVReads.row_ts h3t
     have B2 := Hd (tbl HB1.out hb2)
     have F2 := Hd (HF.out.below hb2 (by rw [hsw.out]; omega))
     have l2 : w.heap.size < w2.heap.size := by have := hb2.size; have := hsw.out; omega
     have T2 := Hd hTs
     obtain ⟨y0, y1, y2, y3, y4⟩ := F2.out
     clear hb2 h3t hTs HT
     go_wp2_with fail
     refine (HS _ B2.out).out.mono ?_
     rintro e w3 ⟨rfl, hb3⟩
     have B3 := Hd (tbl B2.out hb3)
     have F3 := Hd (F2.out.below hb3 l2)
     have T3 := Hd (T2.out.on hb3)
     have l3 := Nat.lt_of_lt_of_le l2 hb3.size
     clear hb3 y0 y1 y2 y3 y4 HS T2
     go_wp2_with fail
     refine (HP _ _ _ T3.out (H3.out.below B3.out)).out.mono ?_
     rintro e w4 ⟨rfl, hb4⟩
     have B4 := Hd (tbl B3.out hb4)
     have F4 := Hd (F3.out.below hb4 l3)
     have l4 := Nat.lt_of_lt_of_le l3 hb4.size
     clear hb4 HP T3
     by_cases hbig : 8192 < S.size
     · have hbig' : (8192 : Int) < (S.size : Int) := by omega
       clear HRS
       go_wp2_with fail
       refine (HA _ B4.out).out.mono ?_
       rintro e w5 ⟨rfl, hb5⟩
       have B5 := Hd (tbl B4.out hb5)
       clear hb5
       go_wp2_with fail
       go_ret
       exact ⟨rfl, B5.out⟩
     · have hbig' : ¬ (8192 : Int) < (S.size : Int) := by omega
       have hrs := HRS.out
       rw [if_neg hbig] at hrs
       have hS9 : S.size ≤ 9000 := by omega
       have HPV := fun fx wx (hx : Below w.heap.size w wx) => Hd (pvalue_any S fx wx hS9 (H3.out.below hx) (H5.out.below hx))
       have R1 := Hd (HWF.out _ hrs)
       have HSM := fun (d0 d1 d2 d3 d4 : Value) wx (hx : Below w.heap.size w wx) (hd : VAt wx wx.heap.size v d0 d1 d2 d3 d4) => Hd (Tells.yes (sam_any v v d0 d1 d2 d3 d4 _ _ _ _ _ wx wx.heap.size (Nat.le_refl _) hd (VAt.more hx.size _ _ _ _ _ _ (VAt.below hx _ _ _ _ _ _ HV.out))) rfl)
       have HVR := fun wx (hx : Below w.heap.size w wx) => Hd (vars_any v (by have := HN9.out; omega) _ _ _ _ _ wx w.heap.size hx.size (VAt.below hx _ _ _ _ _ _ HV.out))
       by_cases hal : allV v = []
       · have R2 := Hd (HWY.out _ hrs hal)
         rw [vars_none hal] at HVR
         clear hrs HRS hbig HWF HWY HWN
         go_wp2_with fail
         refine (HPV false _ B4.out).out.mono ?_
         rintro e w5 ⟨uk, un, us, A6, n6, k6, A7, n7, k7, x, rfl, hres, hb5⟩
         rw [R1.out] at hres
         obtain ⟨rfl, d0, d1, d2, d3, d4, e9, hd⟩ := res_val hres
         injection e9 with q0 e9; injection e9 with q1 e9; injection e9 with q2 e9; injection e9 with q3 e9; injection e9 with q4 _
         subst q0 q1 q2 q3 q4
         have B5 := Hd (tbl B4.out hb5)
         have F5 := Hd (F4.out.below hb5 l4)
         have l5 := Nat.lt_of_lt_of_le l4 hb5.size
         have D5 := Hd hd
         have B5a := Hd (tbl B5.out (als w5 (.cells #[.int .i64 uk, .int .i64 un, .string us, .slice A6 n6 k6, .slice A7 n7 k7] 35)))
         have L5 := Hd (als w5 (.cells #[.int .i64 uk, .int .i64 un, .string us, .slice A6 n6 k6, .slice A7 n7 k7] 35))
         have Y5 := Hd (heap_alloc_last w5 (.cells #[.int .i64 uk, .int .i64 un, .string us, .slice A6 n6 k6, .slice A7 n7 k7] 35))
         have z5 : Hid ((w5.alloc (.cells #[.int .i64 uk, .int .i64 un, .string us, .slice A6 n6 k6, .slice A7 n7 k7] 35)).heap.size = w5.heap.size + 1) := Hd (by simp)
         clear hres hb5 hd
         go_wp2_with fail
         refine (HPV true _ B5a.out).out.mono ?_
         rintro e w6 ⟨uk', un', us', A6', n6', k6', A7', n7', k7', x, rfl, hres, hb6⟩
         rw [R2.out] at hres
         obtain ⟨rfl, d0, d1, d2, d3, d4, e9, hd⟩ := res_val hres
         injection e9 with q0 e9; injection e9 with q1 e9; injection e9 with q2 e9; injection e9 with q3 e9; injection e9 with q4 _
         subst q0 q1 q2 q3 q4
         have L6 := Hd (tbl L5.out hb6)
         have B6 := Hd (tbl B5a.out hb6)
         have Y6 := Hd ((hb6.block w5.heap.size (by rw [z5.out]; omega)).trans Y5.out)
         have l6 : w5.heap.size < w6.heap.size := by have := hb6.size; have := z5.out; omega
         have D6 := Hd hd
         have L6a := Hd (als w6 (.cells #[.int .i64 uk', .int .i64 un', .string us', .slice A6' n6' k6', .slice A7' n7' k7'] 35))
         have B6a := Hd (tbl B6.out L6a.out)
         have Y6a := Hd (heap_alloc_last w6 (.cells #[.int .i64 uk', .int .i64 un', .string us', .slice A6' n6' k6', .slice A7' n7' k7'] 35))
         have z6 : Hid ((w6.alloc (.cells #[.int .i64 uk', .int .i64 un', .string us', .slice A6' n6' k6', .slice A7' n7' k7'] 35)).heap.size = w6.heap.size + 1) := Hd (by simp)
         obtain ⟨y0, y1, y2, y3, y4⟩ := five_of ((L6a.out.block _ l6).trans Y6.out)
         obtain ⟨g0, g1, g2, g3, g4⟩ := (F5.out.below (L6.out) l5).below L6a.out (Nat.lt_of_lt_of_le l5 L6.out.size)
         have HSM1 := Hd (HSM _ _ _ _ _ _ B6a.out (VAt.more (tbl L6.out L6a.out).size _ _ _ _ _ _ (VAt.below (tbl L6.out L6a.out) _ _ _ _ _ _ D5.out)))
         clear hres hb6 hd
         go_wp2_with fail
         refine HSM1.out.out.mono ?_
         rintro e w7 ⟨rfl, hb7⟩
         have L7 := Hd (tbl L6a.out hb7)
         have B7 := Hd (tbl B6a.out hb7)
         have Y7 := Hd ((hb7.block w6.heap.size (by rw [z6.out]; omega)).trans Y6a.out)
         have F7 := Hd ((F5.out.below L6.out l5).below L7.out (Nat.lt_of_lt_of_le l5 L6.out.size))
         have l7 : w6.heap.size < w7.heap.size := by have := hb7.size; have := z6.out; omega
         obtain ⟨f0, f1, f2, f3, f4⟩ := F7.out
         clear hb7 y0 y1 y2 y3 y4 g0 g1 g2 g3 g4 HSM1
         go_wp2_with fail
         refine (HVR _ B7.out).out.mono ?_
         rintro e w8 ⟨V8, rfl, hv8, hb8⟩
         obtain ⟨A8, c8, rfl⟩ := shape_own hv8
         have L8 := Hd (tbl L7.out hb8)
         have B8 := Hd (tbl B7.out hb8)
         have F8 := Hd (F7.out.below hb8 (by have := L7.out.size; have := L6.out.size; omega))
         obtain ⟨y0, y1, y2, y3, y4⟩ := five_of ((hb8.block _ l7).trans Y7.out)
         obtain ⟨g0, g1, g2, g3, g4⟩ := F8.out
         have HSM2 := Hd (HSM _ _ _ _ _ _ B8.out (VAt.more L8.out.size _ _ _ _ _ _ (VAt.below L8.out _ _ _ _ _ _ D6.out)))
         clear hb8 hv8 f0 f1 f2 f3 f4
         go_wp2_with fail
         refine HSM2.out.out.mono ?_
         rintro e w9 ⟨rfl, hb9⟩
         have B9 := Hd (tbl B8.out hb9)
         clear hb9 y0 y1 y2 y3 y4 g0 g1 g2 g3 g4 HSM2
         go_wp2_with fail
         refine (HA _ B9.out).out.mono ?_
         rintro e w10 ⟨rfl, hb10⟩
         have B10 := Hd (tbl B9.out hb10)
         clear hb10
         go_wp2_with fail
         go_ret
         exact ⟨rfl, B10.out⟩
       · have R2 := Hd (HWN.out _ hrs hal)
         have hpos := vars_some hal
         obtain ⟨m, hm⟩ : ∃ m, (varsV v []).length = m := ⟨_, rfl⟩
         rw [hm] at HVR hpos
         clear hrs HRS hbig HWF HWY HWN hm
         go_wp2_with fail
         refine (HPV false _ B4.out).out.mono ?_
         rintro e w5 ⟨uk, un, us, A6, n6, k6, A7, n7, k7, x, rfl, hres, hb5⟩
         rw [R1.out] at hres
         obtain ⟨rfl, d0, d1, d2, d3, d4, e9, hd⟩ := res_val hres
         injection e9 with q0 e9; injection e9 with q1 e9; injection e9 with q2 e9; injection e9 with q3 e9; injection e9 with q4 _
         subst q0 q1 q2 q3 q4
         have B5 := Hd (tbl B4.out hb5)
         have F5 := Hd (F4.out.below hb5 l4)
         have l5 := Nat.lt_of_lt_of_le l4 hb5.size
         have D5 := Hd hd
         have B5a := Hd (tbl B5.out (als w5 (.cells #[.int .i64 uk, .int .i64 un, .string us, .slice A6 n6 k6, .slice A7 n7 k7] 35)))
         have L5 := Hd (als w5 (.cells #[.int .i64 uk, .int .i64 un, .string us, .slice A6 n6 k6, .slice A7 n7 k7] 35))
         have Y5 := Hd (heap_alloc_last w5 (.cells #[.int .i64 uk, .int .i64 un, .string us, .slice A6 n6 k6, .slice A7 n7 k7] 35))
         have z5 : Hid ((w5.alloc (.cells #[.int .i64 uk, .int .i64 un, .string us, .slice A6 n6 k6, .slice A7 n7 k7] 35)).heap.size = w5.heap.size + 1) := Hd (by simp)
         clear hres hb5 hd
         go_wp2_with fail
         refine (HPV true _ B5a.out).out.mono ?_
         rintro e w6 ⟨uk', un', us', A6', n6', k6', A7', n7', k7', x, rfl, hres, hb6⟩
         rw [R2.out] at hres
         obtain ⟨rfl, _, e9⟩ := hres
         have L6 := Hd (tbl L5.out hb6)
         have B6 := Hd (tbl B5a.out hb6)
         have Y6 := Hd ((hb6.block w5.heap.size (by rw [z5.out]; omega)).trans Y5.out)
         have l6 : w5.heap.size < w6.heap.size := by have := hb6.size; have := z5.out; omega
         have L6a := Hd (als w6 (.cells #[.int .i64 uk', .int .i64 un', .string us', .slice A6' n6' k6', .slice A7' n7' k7'] 35))
         have B6a := Hd (tbl B6.out L6a.out)
         have Y6a := Hd (heap_alloc_last w6 (.cells #[.int .i64 uk', .int .i64 un', .string us', .slice A6' n6' k6', .slice A7' n7' k7'] 35))
         have z6 : Hid ((w6.alloc (.cells #[.int .i64 uk', .int .i64 un', .string us', .slice A6' n6' k6', .slice A7' n7' k7'] 35)).heap.size = w6.heap.size + 1) := Hd (by simp)
         obtain ⟨y0, y1, y2, y3, y4⟩ := five_of ((L6a.out.block _ l6).trans Y6.out)
         obtain ⟨g0, g1, g2, g3, g4⟩ := (F5.out.below (L6.out) l5).below L6a.out (Nat.lt_of_lt_of_le l5 L6.out.size)
         have HSM1 := Hd (HSM _ _ _ _ _ _ B6a.out (VAt.more (tbl L6.out L6a.out).size _ _ _ _ _ _ (VAt.below (tbl L6.out L6a.out) _ _ _ _ _ _ D5.out)))
         clear e9 hb6
         go_wp2_with fail
         refine HSM1.out.out.mono ?_
         rintro e w7 ⟨rfl, hb7⟩
         have L7 := Hd (tbl L6a.out hb7)
         have B7 := Hd (tbl B6a.out hb7)
         have Y7 := Hd ((hb7.block w6.heap.size (by rw [z6.out]; omega)).trans Y6a.out)
         have F7 := Hd ((F5.out.below L6.out l5).below L7.out (Nat.lt_of_lt_of_le l5 L6.out.size))
         have l7 : w6.heap.size < w7.heap.size := by have := hb7.size; have := z6.out; omega
         obtain ⟨f0, f1, f2, f3, f4⟩ := F7.out
         clear hb7 y0 y1 y2 y3 y4 g0 g1 g2 g3 g4 HSM1
         go_wp2_with fail
         refine (HVR _ B7.out).out.mono ?_
         rintro e w8 ⟨V8, rfl, hv8, hb8⟩
         obtain ⟨A8, c8, rfl⟩ := shape_own hv8
         have B8 := Hd (tbl B7.out hb8)
         clear hb8 hv8 f0 f1 f2 f3 f4
         have t8 : (0 : Int) < (m : Int) := by omega
         go_wp2_with fail
         refine (HA _ B8.out).out.mono ?_
         rintro e w10 ⟨rfl, hb10⟩
         have B10 := Hd (tbl B8.out hb10)
         clear hb10
         go_wp2_with fail
         go_ret
         exact ⟨rfl, B10.out⟩
end Go.Proofs.YtpkmbhnikilihaaGreatDoor.LPPlain
